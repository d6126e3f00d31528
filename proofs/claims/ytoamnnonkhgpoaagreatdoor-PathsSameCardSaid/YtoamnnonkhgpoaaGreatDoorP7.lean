/-
  Is a path among some?
-/
import Derived.Test.YtoamnnonkhgpoaaGreatDoorP4
set_option linter.unusedSimpArgs false
set_option linter.unusedVariables false
namespace Go.Proofs.YtoamnnonkhgpoaaGreatDoor
open Go.RowKit

def vPt (l : List Pt) : List Value := l.flatMap Pt.cells
theorem Pt.len (e : Pt) : e.cells.length = 7 := rfl
theorem vPt_len (l : List Pt) : (vPt l).length = l.length * 7 := flat_len _ 7 l fun v _ => v.len
theorem vPt_at {l : List Pt} {k : Nat} {v : Pt} (h : l[k]? = some v) (j : Nat) (hj : j < 7) : (vPt l)[k * 7 + j]? = v.cells[j]? := flat_at Pt.cells 7 l k v j (fun v _ => v.len) h hj
theorem Reads.pt_ {w : World} {B : Nat} {A : Option Addr} {n k : Nat} {l : List Pt} (hr : Reads w B 7 A n (vPt l)) (hk : k < n) :
    ∃ ad v, A = some ad ∧ ad.block < B ∧ l[k]? = some v ∧ w.cell? (ad.add (k * 7)) = some (.int .u8 v.k) ∧ w.cell? ⟨(ad.add (k * 7)).block, (ad.add (k * 7)).off + 1, none⟩ = some (.int .i64 v.ix) ∧ w.cell? ⟨(ad.add (k * 7)).block, (ad.add (k * 7)).off + 2, none⟩ = some (.slice v.RA v.rn v.rc) ∧ w.cell? ⟨(ad.add (k * 7)).block, (ad.add (k * 7)).off + 3, none⟩ = some (.slice v.CA v.cn v.cc) ∧ w.cell? ⟨(ad.add (k * 7)).block, (ad.add (k * 7)).off + 4, none⟩ = some (.int .i64 v.ot) ∧ w.cell? ⟨(ad.add (k * 7)).block, (ad.add (k * 7)).off + 5, none⟩ = some (.slice v.AA v.an v.ac) ∧ w.cell? ⟨(ad.add (k * 7)).block, (ad.add (k * 7)).off + 6, none⟩ = some (.slice v.MA v.mn v.mc) := by
  have hl : l.length = n := by have := hr.1; rw [vPt_len] at this; omega
  obtain ⟨ad, hA, hb, hc⟩ := hr.2 (by omega)
  have hv : l[k]? = some (l[k]'(by omega)) := List.getElem?_eq_getElem (by omega)
  refine ⟨ad, l[k]'(by omega), hA, hb, hv, ?_, ?_, ?_, ?_, ?_, ?_, ?_⟩
  · have := hc (k * 7 + 0) _ (by rw [vPt_at hv 0 (by omega)]; rfl)
    simpa using this
  · rw [field_add _ _ _ (by omega)]
    exact hc (k * 7 + 1) _ (by rw [vPt_at hv 1 (by omega)]; rfl)
  · rw [field_add _ _ _ (by omega)]
    exact hc (k * 7 + 2) _ (by rw [vPt_at hv 2 (by omega)]; rfl)
  · rw [field_add _ _ _ (by omega)]
    exact hc (k * 7 + 3) _ (by rw [vPt_at hv 3 (by omega)]; rfl)
  · rw [field_add _ _ _ (by omega)]
    exact hc (k * 7 + 4) _ (by rw [vPt_at hv 4 (by omega)]; rfl)
  · rw [field_add _ _ _ (by omega)]
    exact hc (k * 7 + 5) _ (by rw [vPt_at hv 5 (by omega)]; rfl)
  · rw [field_add _ _ _ (by omega)]
    exact hc (k * 7 + 6) _ (by rw [vPt_at hv 6 (by omega)]; rfl)
set_option maxRecDepth 100000 in
set_option maxHeartbeats 8000000 in
theorem has1_any (x p : Pt) (g : Nat) (w : World) (hg : g < w.heap.size) (hc : ∀ W, Below w.heap.size w W → Blk W g 29 p.cells.toArray) (hx : PtIn w w.heap.size x) (hp : PtIn w w.heap.size p) :
    Calls Tryz.prog 18 #[x.agg, .pointer (some ⟨g, 0, none⟩)] w (RetM w (SP x p)) := by
  have HS := Lib.hid fun (W : World) (hb : Below w.heap.size w W) => same22_any x p W (hx.below hb) (hp.below hb)
  obtain ⟨k0, ix0, RA0, rn0, rc0, CA0, cn0, cc0, ot0, AA0, an0, ac0, MA0, mn0, mc0, rg0, cs0, al0, mo0⟩ := x
  obtain ⟨k1, ix1, RA1, rn1, rc1, CA1, cn1, cc1, ot1, AA1, an1, ac1, MA1, mn1, mc1, rg1, cs1, al1, mo1⟩ := p
  simp only [Pt.agg] at *
  have hb0 : Below w.heap.size w (w.alloc (.cells #[.int .u8 k0, .int .i64 ix0, .slice RA0 rn0 rc0, .slice CA0 cn0 cc0, .int .i64 ot0, .slice AA0 an0 ac0, .slice MA0 mn0 mc0] 29)) := ball (Below.refl _ _) _
  have hB := hc _ hb0

  have c0 : (w.alloc (.cells #[.int .u8 k0, .int .i64 ix0, .slice RA0 rn0 rc0, .slice CA0 cn0 cc0, .int .i64 ot0, .slice AA0 an0 ac0, .slice MA0 mn0 mc0] 29)).cell? ⟨g, 0, none⟩ = some (.int .u8 k1) := hB.cell 0
  have c1 : (w.alloc (.cells #[.int .u8 k0, .int .i64 ix0, .slice RA0 rn0 rc0, .slice CA0 cn0 cc0, .int .i64 ot0, .slice AA0 an0 ac0, .slice MA0 mn0 mc0] 29)).cell? ⟨g, 1, none⟩ = some (.int .i64 ix1) := hB.cell 1
  have c2 : (w.alloc (.cells #[.int .u8 k0, .int .i64 ix0, .slice RA0 rn0 rc0, .slice CA0 cn0 cc0, .int .i64 ot0, .slice AA0 an0 ac0, .slice MA0 mn0 mc0] 29)).cell? ⟨g, 2, none⟩ = some (.slice RA1 rn1 rc1) := hB.cell 2
  have c3 : (w.alloc (.cells #[.int .u8 k0, .int .i64 ix0, .slice RA0 rn0 rc0, .slice CA0 cn0 cc0, .int .i64 ot0, .slice AA0 an0 ac0, .slice MA0 mn0 mc0] 29)).cell? ⟨g, 3, none⟩ = some (.slice CA1 cn1 cc1) := hB.cell 3
  have c4 : (w.alloc (.cells #[.int .u8 k0, .int .i64 ix0, .slice RA0 rn0 rc0, .slice CA0 cn0 cc0, .int .i64 ot0, .slice AA0 an0 ac0, .slice MA0 mn0 mc0] 29)).cell? ⟨g, 4, none⟩ = some (.int .i64 ot1) := hB.cell 4
  have c5 : (w.alloc (.cells #[.int .u8 k0, .int .i64 ix0, .slice RA0 rn0 rc0, .slice CA0 cn0 cc0, .int .i64 ot0, .slice AA0 an0 ac0, .slice MA0 mn0 mc0] 29)).cell? ⟨g, 5, none⟩ = some (.slice AA1 an1 ac1) := hB.cell 5
  have c6 : (w.alloc (.cells #[.int .u8 k0, .int .i64 ix0, .slice RA0 rn0 rc0, .slice CA0 cn0 cc0, .int .i64 ot0, .slice AA0 an0 ac0, .slice MA0 mn0 mc0] 29)).cell? ⟨g, 6, none⟩ = some (.slice MA1 mn1 mc1) := hB.cell 6
  clear hB hc hx hp
  go_enter Tryz.func18, Tryz.ntmps18
  go_wp2_with fail
  refine (HS.out _ hb0).mono ?_
  rintro e w1 ⟨b, rfl, hi, hb1⟩
  have HI := Lib.hid hi
  clear hi
  go_wp2
  go_ret
  exact ⟨b, rfl, HI.out, bto0 hb0 hb1⟩

set_option maxRecDepth 100000 in
set_option maxHeartbeats 8000000 in
theorem idx22_any (A : Option Addr) (n c : Nat) (l : List Pt) (p : Pt) (g : Nat) (w : World) (hr : Reads w w.heap.size 7 A n (vPt l)) (hn : n ≤ 1000) (hl : ∀ x ∈ l, PtIn w w.heap.size x) (hg : g < w.heap.size) (hB : Blk w g 29 p.cells.toArray) (hp : PtIn w w.heap.size p) :
    Calls Tryz.prog 28 #[.slice A n c, .func (.func 18) #[] #[.pointer (some ⟨g, 0, none⟩)]] w fun e w' => ∃ r : Int, e = .returned (.int .i64 r) ∧ (0 ≤ r ↔ ∃ x ∈ l, SP x p) ∧ Below w.heap.size w w' := by
  have hln : l.length = n := by have := hr.1; rw [vPt_len] at this; omega
  have nI : (n : Int) ≤ 1000 := by omega
  have Hl := Lib.hid hln
  have HQ := Lib.hid fun (x : Pt) (W : World) (hx : x ∈ l) (hb : Below w.heap.size w W) => has1_any x p g W (Nat.lt_of_lt_of_le hg hb.size) (fun W2 hb2 => bltp hb2 (Nat.lt_of_lt_of_le hg hb.size) (bltp hb hg hB)) ((hl x hx).below hb) (hp.below hb)
  clear hln hn hl hg hB hp
  go_enter Tryz.func28, Tryz.ntmps28
  go_wp2_with fail
  go_loopw [8] (fun v wr => ∃ k : Nat, k ≤ n ∧ v = .int .i64 k ∧ Below w.heap.size w wr ∧ ∀ x ∈ l.take k, ¬ SP x p) (fun v _ => n - (intOf v).toNat)
  case atStart => exact ⟨0, Nat.zero_le _, rfl, Below.refl _ _, by simp⟩
  case round =>
    obtain ⟨k, hk, rfl, hb, hany⟩ := hrel
    have q0 : (0 : Int) ≤ (k : Int) := by omega
    have Hany := Lib.hid hany
    clear hany
    by_cases hlt : k < n
    · have q1 : (k : Int) < (n : Int) := by omega
      obtain ⟨ad, v, rfl, hab, hv, d0, d1, d2, d3, d4, d5, d6⟩ := (hr.below hb).pt_ hlt
      have HC := Lib.hid (HQ.out v wr (List.mem_of_getElem? hv) hb)
      have HV := Lib.hid hv
      clear hv HQ hr
      obtain ⟨sp, hsp⟩ : ∃ sp : Prop, sp = SP v p := ⟨_, rfl⟩
      rw [← hsp] at HC
      have HSPv := Lib.hid hsp
      clear hsp
      obtain ⟨v', hv'⟩ : ∃ v', v' = v := ⟨_, rfl⟩
      rw [← hv'] at HV HSPv
      have HVV := Lib.hid hv'
      clear hv'
      obtain ⟨k1, ix1, RA1, rn1, rc1, CA1, cn1, cc1, ot1, AA1, an1, ac1, MA1, mn1, mc1, rg1, cs1, al1, mo1⟩ := v
      simp only [Pt.agg] at HC d0 d1 d2 d3 d4 d5 d6
      go_wp2_with fail
      refine HC.out.mono ?_
      rintro e w1 ⟨b, rfl, hi, hb1⟩
      have HI := Lib.hid hi
      clear hi
      cases b
      · go_wp2
        go_roundw
        case rel =>
          refine ⟨k + 1, by omega, by go_num, bto0 hb hb1, ?_⟩
          intro x hx
          rw [List.take_add_one, HV.out] at hx
          rcases List.mem_append.1 hx with hx | hx
          · exact Hany.out x hx
          · simp at hx
            subst hx
            intro h
            have := HI.out.2 (Eq.mpr HSPv.out h)
            cases this
        case measure => simp [intOf]; omega
      · go_wp2
        go_ret
        exact ⟨k, rfl, ⟨fun _ => ⟨v', List.mem_of_getElem? HV.out, Eq.mp HSPv.out (HI.out.1 (by first | trivial | rfl))⟩, fun _ => q0⟩, bto0 hb hb1⟩
    · obtain rfl : n = k := by omega
      have hF : Hid (¬ ∃ x ∈ l, SP x p) := Lib.hid (by have := Hany.out; rw [List.take_of_length_le (by rw [Hl.out]; exact Nat.le_refl _)] at this; exact fun ⟨x, hx, h⟩ => this x hx h)
      go_wp2
      go_ret
      exact ⟨-1, rfl, ⟨fun h => by omega, fun h => absurd h hF.out⟩, hb⟩

set_option maxRecDepth 100000 in
set_option maxHeartbeats 8000000 in
theorem has22_any (A : Option Addr) (n c : Nat) (l : List Pt) (p : Pt) (w : World) (hr : Reads w w.heap.size 7 A n (vPt l)) (hn : n ≤ 1000) (hl : ∀ x ∈ l, PtIn w w.heap.size x) (hp : PtIn w w.heap.size p) :
    Calls Tryz.prog 9 #[.slice A n c, p.agg] w (RetM w (∃ x ∈ l, SP x p)) := by
  have hmf : ∀ (fn : Fn) (first cap : Array Value) (w : World), (Instr.makeFunc fn first cap).run Tryz.prog w = .ok (.func fn first cap) w := fun _ _ _ _ => rfl
  have hb0 : Below w.heap.size w (w.alloc (.cells p.cells.toArray 29)) := ball (Below.refl _ _) _
  have HX := Lib.hid (idx22_any A n c l p w.heap.size (w.alloc (.cells p.cells.toArray 29)) ((hr.below hb0).more hb0.size) hn (fun x hx => (hl x hx).below hb0) (by simp) (Blk.new _ _ _) (hp.below hb0))
  clear hr hl hp
  obtain ⟨sp, hsp⟩ : ∃ sp : Prop, sp = ∃ x ∈ l, SP x p := ⟨_, rfl⟩
  rw [← hsp] at HX ⊢
  clear hsp
  obtain ⟨k1, ix1, RA1, rn1, rc1, CA1, cn1, cc1, ot1, AA1, an1, ac1, MA1, mn1, mc1, rg1, cs1, al1, mo1⟩ := p
  simp only [Pt.agg] at *
  have HC : Hid (Calls Tryz.prog 17 #[.slice A n c, .func (.func 18) #[] #[.pointer (some ⟨w.heap.size, 0, none⟩)]] (w.alloc (.cells #[.int .u8 k1, .int .i64 ix1, .slice RA1 rn1 rc1, .slice CA1 cn1 cc1, .int .i64 ot1, .slice AA1 an1 ac1, .slice MA1 mn1 mc1] 29)) (RetM (w.alloc (.cells #[.int .u8 k1, .int .i64 ix1, .slice RA1 rn1 rc1, .slice CA1 cn1 cc1, .int .i64 ot1, .slice AA1 an1 ac1, .slice MA1 mn1 mc1] 29)) sp)) := by
    refine Lib.hid ?_
    go_enter Tryz.func17, Tryz.ntmps17
    go_wp2_with fail
    refine HX.out.mono ?_
    rintro e w1 ⟨r, rfl, hi, hb1⟩
    have HI := Lib.hid hi
    clear hi
    by_cases h : 0 ≤ r
    · go_wp2
      go_ret
      exact ⟨true, by first | rfl | simp [h], ⟨fun _ => HI.out.1 h, fun _ => rfl⟩, hb1⟩
    · go_wp2
      go_ret
      exact ⟨false, by first | rfl | simp [h], ⟨fun h => (by cases h), fun h2 => (by (have := HI.out.2 h2); omega)⟩, hb1⟩
  clear HX
  go_enter Tryz.func9, Tryz.ntmps9
  go_wp2_with fail
  refine HC.out.mono ?_
  rintro e w1 ⟨b, rfl, hi, hb1⟩
  have HI := Lib.hid hi
  clear hi
  go_wp2
  go_ret
  exact ⟨b, rfl, HI.out, bto0 hb0 hb1⟩
end Go.Proofs.YtoamnnonkhgpoaaGreatDoor


/-
  ShapeTotal: extreme, sum.
-/
import Derived.Test.YthpggfcindnlcaaGreatDoorQb
import Derived.Test.YthpggfcindnlcaaGreatDoorQp
import Derived.Test.YthpggfcindnlcaaGreatDoorCb
set_option linter.unusedSimpArgs false
set_option linter.unusedVariables false
namespace Go.Proofs.YthpggfcindnlcaaGreatDoor
open Go.RowKit

def minT : List UInt8 := [77, 73, 78]
set_option maxRecDepth 100000 in
set_option maxHeartbeats 4000000 in
theorem extreme_any {w : World} {A : Option Addr} {n c : Nat} {l : List Vl} (op : ByteArray) (hr : Reads w w.heap.size 3 A n (vV l)) (hn : n ≤ 10000) :
    Calls Tryz.prog 14 #[.string op, .slice A n c] w (RetB w (extV (!(op.toList == [77, 73, 78])) l).agg) := by
  have hl : l.length = n := by have := hr.1; rw [vV_len] at this; omega
  by_cases h0 : n = 0
  · subst h0
    obtain rfl : l = [] := by simpa using hl
    go_enter Tryz.func14, Tryz.ntmps14
    go_wp2_with fail
    exact bodyPost_ret (v := (extV (!(op.toList == [77, 73, 78])) []).agg) (by simp [results, Tryz.results14, go_sem, extV]) rfl ⟨rfl, ball (Below.refl _ _) _⟩
  have e0 : ((n : Int) == 0) = false := by rw [beq_eq_false_iff_ne]; omega
  have n1 : 1 ≤ n := by omega
  have b1 := ball (Below.refl w.heap.size w) (.cells #[.int .u8 0, .int .i64 0, .string ⟨#[]⟩] 26)
  have hb1 := Blk.new w 26 #[.int .u8 0, .int .i64 0, .string ⟨#[]⟩]
  have zs : (w.alloc (.cells #[.int .u8 0, .int .i64 0, .string ⟨#[]⟩] 26)).heap.size = w.heap.size + 1 := by simp
  cases hop : (op.toList == [77, 73, 78])
  rotate_left
  · obtain ⟨R, hR⟩ : ∃ R, extV false l = R := ⟨_, rfl⟩
    have MF := Lib.hid (minf_any (c := c) ((hr.below b1).more b1.size) n1 hn)
    rw [hR] at MF
    have hR' : extV (!true) l = R := hR
    rw [hR']
    obtain ⟨W1, hW1⟩ : ∃ W1, w.alloc (.cells #[.int .u8 0, .int .i64 0, .string ⟨#[]⟩] 26) = W1 := ⟨_, rfl⟩
    rw [hW1] at MF b1 hb1 zs
    have H1 := Lib.hid (And.intro b1 hb1)
    clear hr hl h0 b1 hb1 hR hR'
    go_enter Tryz.func14, Tryz.ntmps14
    go_wp2_with fail
    refine MF.out.mono ?_
    rintro e w2 ⟨rfl, hb2⟩
    have B2 := H1.out.2.below hb2 H1.out.2.lt
    have z0 := B2.cell 0
    have g0 := B2.frozen 0
    have z1 := B2.cell 1
    have g1 := B2.frozen 1
    have z2 := B2.cell 2
    have g2 := B2.frozen 2
    simp at z0 z1 z2
    have H2 := Lib.hid (And.intro B2 (bto0 H1.out.1 hb2))
    have hz2 := B2.lt
    clear B2 hb2 MF hW1 zs
    go_wp2
    obtain ⟨W5, hW5⟩ : ∃ W5, ((w2.setCell ⟨w.heap.size, 0, none⟩ (.int .u8 R.k)).setCell ⟨w.heap.size, 1, none⟩ (.int .i64 R.i)).setCell ⟨w.heap.size, 2, none⟩ (.string R.s) = W5 := ⟨_, rfl⟩
    have B5 : Blk W5 (w.heap.size) 26 #[.int .u8 R.k, .int .i64 R.i, .string R.s] := by
      have T := ((H2.out.1.set_ 0 (.int .u8 R.k)).set_ 1 (.int .i64 R.i)).set_ 2 (.string R.s)
      simp only [List.setIfInBounds_toArray, List.set_cons_zero, List.set_cons_succ] at T
      exact hW5 ▸ T
    have b5 : Below w.heap.size w W5 := hW5 ▸ ((H2.out.2.setCell (by simp) _).setCell (by simp) _).setCell (by simp) _
    rw [hW5]
    clear hW5
    have p0 : W5.cell? ⟨w.heap.size, 0, none⟩ = some (.int .u8 R.k) := B5.cell 0
    have p1 : W5.cell? ⟨w.heap.size, 1, none⟩ = some (.int .i64 R.i) := B5.cell 1
    have p2 : W5.cell? ⟨w.heap.size, 2, none⟩ = some (.string R.s) := B5.cell 2
    exact bodyPost_ret (v := R.agg) (by simp [results, Tryz.results14, go_sem, p0, p1, p2]) rfl ⟨rfl, b5⟩

  · obtain ⟨R, hR⟩ : ∃ R, extV true l = R := ⟨_, rfl⟩
    have MF := Lib.hid (maxf_any (c := c) ((hr.below b1).more b1.size) n1 hn)
    rw [hR] at MF
    have hR' : extV (!false) l = R := hR
    rw [hR']
    obtain ⟨W1, hW1⟩ : ∃ W1, w.alloc (.cells #[.int .u8 0, .int .i64 0, .string ⟨#[]⟩] 26) = W1 := ⟨_, rfl⟩
    rw [hW1] at MF b1 hb1 zs
    have H1 := Lib.hid (And.intro b1 hb1)
    clear hr hl h0 b1 hb1 hR hR'
    go_enter Tryz.func14, Tryz.ntmps14
    go_wp2_with fail
    refine MF.out.mono ?_
    rintro e w2 ⟨rfl, hb2⟩
    have B2 := H1.out.2.below hb2 H1.out.2.lt
    have z0 := B2.cell 0
    have g0 := B2.frozen 0
    have z1 := B2.cell 1
    have g1 := B2.frozen 1
    have z2 := B2.cell 2
    have g2 := B2.frozen 2
    simp at z0 z1 z2
    have H2 := Lib.hid (And.intro B2 (bto0 H1.out.1 hb2))
    have hz2 := B2.lt
    clear B2 hb2 MF hW1 zs
    go_wp2
    obtain ⟨W5, hW5⟩ : ∃ W5, ((w2.setCell ⟨w.heap.size, 0, none⟩ (.int .u8 R.k)).setCell ⟨w.heap.size, 1, none⟩ (.int .i64 R.i)).setCell ⟨w.heap.size, 2, none⟩ (.string R.s) = W5 := ⟨_, rfl⟩
    have B5 : Blk W5 (w.heap.size) 26 #[.int .u8 R.k, .int .i64 R.i, .string R.s] := by
      have T := ((H2.out.1.set_ 0 (.int .u8 R.k)).set_ 1 (.int .i64 R.i)).set_ 2 (.string R.s)
      simp only [List.setIfInBounds_toArray, List.set_cons_zero, List.set_cons_succ] at T
      exact hW5 ▸ T
    have b5 : Below w.heap.size w W5 := hW5 ▸ ((H2.out.2.setCell (by simp) _).setCell (by simp) _).setCell (by simp) _
    rw [hW5]
    clear hW5
    have p0 : W5.cell? ⟨w.heap.size, 0, none⟩ = some (.int .u8 R.k) := B5.cell 0
    have p1 : W5.cell? ⟨w.heap.size, 1, none⟩ = some (.int .i64 R.i) := B5.cell 1
    have p2 : W5.cell? ⟨w.heap.size, 2, none⟩ = some (.string R.s) := B5.cell 2
    exact bodyPost_ret (v := R.agg) (by simp [results, Tryz.results14, go_sem, p0, p1, p2]) rfl ⟨rfl, b5⟩
/-- What sum comes to. -/
def sumV (l : List Vl) : Vl × Bool :=
  if l = [] then (⟨0, 0, ⟨#[]⟩⟩, true) else if (l.all fun v => decide (v.k = 1)) = true then (if rngP (l.map Vl.i).sum then (⟨1, (l.map Vl.i).sum, ⟨#[]⟩⟩, true) else (⟨0, 0, ⟨#[]⟩⟩, false)) else (⟨0, 0, ⟨#[]⟩⟩, false)
theorem Tryz.infoI64s : (Tryz.prog.info? 2).map (fun i => (i.zero, i.size, i.bytes)) = some (some (.int .i64 0), 1, 8) := by kernel_rfl
set_option maxRecDepth 100000 in
set_option maxHeartbeats 4000000 in
theorem ssum_any {w : World} {A : Option Addr} {n c : Nat} {l : List Vl} (hr : Reads w w.heap.size 3 A n (vV l)) (hn : n ≤ 10000) (hok : ∀ v ∈ l, v.ok) :
    Calls Tryz.prog 13 #[.slice A n c] w (RetB w (.tuple #[(sumV l).1.agg, .bool (sumV l).2])) := by
  have hl : l.length = n := by have := hr.1; rw [vV_len] at this; omega
  by_cases h0 : n = 0
  · subst h0
    obtain rfl : l = [] := by simpa using hl
    go_enter Tryz.func13, Tryz.ntmps13
    go_wp2_with fail
    exact bodyPost_ret (v := .tuple #[(sumV []).1.agg, .bool (sumV []).2]) (by simp [results, Tryz.results13, go_sem, sumV]) rfl ⟨rfl, ball (Below.refl _ _) _⟩
  have e0 : ((n : Int) == 0) = false := by rw [beq_eq_false_iff_ne]; omega
  have nI : (n : Int) ≤ 10000 := by omega
  obtain ⟨i0, hi0, hz0, hs0, hy0⟩ := int_info8 Tryz.infoI64s
  have hne : l ≠ [] := fun h => by subst h; simp at hl; omega
  have HL := Lib.hid (And.intro hl (And.intro hok hne))
  obtain ⟨SV, hSV⟩ : ∃ SV, sumV l = SV := ⟨_, rfl⟩
  rw [hSV]
  have HSV := Lib.hid hSV
  clear hl h0 hok hne hSV
  go_enter Tryz.func13, Tryz.ntmps13
  go_wp2_with fail
  go_loopw [4, 6, 15] (fun u4 u6 u15 wr => ∃ (k : Nat), u15 = .int .i64 k ∧ k ≤ n ∧ ((l.take k).all fun v => decide (v.k = 1)) = true ∧ wr.ownsRow (w.heap.size + 1) 2 1 u4 k (vI64 ((l.take k).map Vl.i)) ∧ Blk wr w.heap.size 26 #[.int .u8 0, .int .i64 0, .string ⟨#[]⟩] ∧ Below w.heap.size w wr ∧ w.heap.size + 1 ≤ wr.heap.size) (fun _ _ u15 _ => n - (intOf u15).toNat)
  case atStart => exact ⟨0, rfl, by omega, rfl, ⟨rfl, .inl ⟨rfl, rfl⟩⟩, Blk.new _ _ _, ball (Below.refl _ _) _, by simp⟩
  case round =>
    obtain ⟨wo, rfl⟩ : ∃ wo : World, wo = wr := ⟨_, rfl⟩
    obtain ⟨k, rfl, hk, hall, hown, hbz, hb, hlo⟩ := hrel
    have k0 : (0 : Int) ≤ (k : Int) := by omega
    have hzz := hb.size
    by_cases hlt : k < n
    · have k1 : (k : Int) < (n : Int) := by omega
      obtain ⟨ad, v, rfl, had, hv, d0, d1, d2⟩ := (hr.below hb).val hlt
      by_cases hkk : v.k = 1
      · have e1 : (v.k != 1) = false := by rw [hkk]; rfl
        have AL : Hid (∀ o : Obj, (wo.alloc o).ownsRow (w.heap.size + 1) 2 1 u4 k (vI64 ((l.take k).map Vl.i))) := Lib.hid fun o => hown.alloc o
        have hal : ((l.take (k + 1)).all fun v => decide (v.k = 1)) = true := by rw [List.take_add_one, hv, List.all_append, hall]; simp [hkk]
        have htk : (l.take (k + 1)).map Vl.i = (l.take k).map Vl.i ++ [v.i] := by rw [List.take_add_one, hv]; simp
        have HQ := Lib.hid (And.intro hal (And.intro htk (And.intro hbz hb)))
        clear hkk hall hown hbz hb hv hal htk
        go_wp2_with (at_builtin; refine wpList_pushR (news := [.int .i64 v.i]) rfl (.tmp 23) (.tmp 26) 78 rfl (w.heap.size + 1) 2 i0 _ 1 8 Tryz.underlying78 hi0 hz0 hs0 hy0 rfl (by decide) u4 k (vI64 ((l.take k).map Vl.i)) (by first | rfl | (simp [Act.eval, Act.put]; done)) (AL.out _) rfl _ (by first | rfl | (simp [Act.eval, Act.put]; done)) (by first | rfl | simp) rfl (by intro u hu; rw [List.mem_singleton] at hu; subst hu; rfl) (by omega) (by omega) (by simp; omega) ?_; intro v5 w5 ho5 hg5 ob5)
        have oa := AL.out (.cells #[.int .u8 v.k, .int .i64 v.i, .string v.s] 26)
        have b5 := bgrow (ball (ball HQ.out.2.2.2 (.cells #[.int .u8 v.k, .int .i64 v.i, .string v.s] 26)) (.cells #[.int .i64 v.i] 2)) hg5 (oa.alloc _) (by omega) (by simp; omega)
        have bz5 := ((HQ.out.2.2.1.alloc (.cells #[.int .u8 v.k, .int .i64 v.i, .string v.s] 26)).alloc (.cells #[.int .i64 v.i] 2)).grown hg5 (fun e => by have := (World.ownsRow.lt (oa.alloc (.cells #[.int .i64 v.i] 2)) w.heap.size e.symm).1; omega)
        have hz5 := hg5.size
        simp at hz5
        refine ⟨⟨k + 1, rfl, by omega, HQ.out.1, ?_, bz5, b5, by omega⟩, by simp [intOf]; omega⟩
        rw [HQ.out.2.1]
        unfold vI64 at ho5 ⊢
        rw [List.map_append]
        exact ho5
      · have e1 : (v.k != 1) = true := by simpa using hkk
        have hs : SV = (⟨0, 0, ⟨#[]⟩⟩, false) := by
          rw [← HSV.out]
          unfold sumV
          rw [if_neg HL.out.2.2, if_neg]
          intro h
          exact hkk (by simpa using List.all_eq_true.1 h v (List.mem_of_getElem? hv))
        subst hs
        have z0 := hbz.cell 0
        have g0 := hbz.frozen 0
        have z1 := hbz.cell 1
        have g1 := hbz.frozen 1
        have z2 := hbz.cell 2
        have g2 := hbz.frozen 2
        simp at z0 z1 z2
        have HQ := Lib.hid (And.intro hbz hb)
        have hzl := hbz.lt
        clear hbz hb hall hown hv hkk HSV
        go_wp2
        obtain ⟨W5, hW5⟩ : ∃ W5, ((wo.setCell ⟨w.heap.size, 0, none⟩ (.int .u8 0)).setCell ⟨w.heap.size, 1, none⟩ (.int .i64 0)).setCell ⟨w.heap.size, 2, none⟩ (.string ⟨#[]⟩) = W5 := ⟨_, rfl⟩
        have B5 : Blk W5 w.heap.size 26 #[.int .u8 0, .int .i64 0, .string ⟨#[]⟩] := by
          have T := ((HQ.out.1.set_ 0 (.int .u8 0)).set_ 1 (.int .i64 0)).set_ 2 (.string ⟨#[]⟩)
          simp only [List.setIfInBounds_toArray, List.set_cons_zero, List.set_cons_succ] at T
          exact hW5 ▸ T
        have b5 : Below w.heap.size w W5 := hW5 ▸ ((HQ.out.2.setCell (by simp) _).setCell (by simp) _).setCell (by simp) _
        rw [hW5]
        clear hW5
        have q0 : (W5.alloc (.cells #[.int .u8 v.k, .int .i64 v.i, .string v.s] 26)).cell? ⟨w.heap.size, 0, none⟩ = some (.int .u8 0) := (B5.alloc _).cell 0
        have q1 : (W5.alloc (.cells #[.int .u8 v.k, .int .i64 v.i, .string v.s] 26)).cell? ⟨w.heap.size, 1, none⟩ = some (.int .i64 0) := (B5.alloc _).cell 1
        have q2 : (W5.alloc (.cells #[.int .u8 v.k, .int .i64 v.i, .string v.s] 26)).cell? ⟨w.heap.size, 2, none⟩ = some (.string ⟨#[]⟩) := (B5.alloc _).cell 2
        exact bodyPost_ret (v := .tuple #[.agg #[.int .u8 0, .int .i64 0, .string ⟨#[]⟩], .bool false]) (by simp [results, Tryz.results13, go_sem, q0, q1, q2]) rfl ⟨rfl, ball b5 _⟩
    · obtain rfl : n = k := by omega
      rw [List.take_of_length_le (by rw [HL.out.1]; exact Nat.le_refl _)] at hall hown
      obtain ⟨Ao, co, rfl, hco⟩ := own_form hown
      obtain ⟨S, hS⟩ : ∃ S, (l.map Vl.i).sum = S := ⟨_, rfl⟩
      have CS := Lib.hid (csum_any Ao n co (l.map Vl.i) wo wo.heap.size (Reads.of_own hown) (fun x hx => by
        obtain ⟨v, hv, rfl⟩ := List.mem_map.1 hx
        exact (HL.out.2.1 v hv).2.1) hn)
      rw [hS] at CS
      have hsv : SV = if rngP S then (⟨1, S, ⟨#[]⟩⟩, true) else (⟨0, 0, ⟨#[]⟩⟩, false) := by
        rw [← HSV.out]
        unfold sumV
        rw [if_neg HL.out.2.2, if_pos hall, hS]
      have z0 := hbz.cell 0
      have g0 := hbz.frozen 0
      have z1 := hbz.cell 1
      have g1 := hbz.frozen 1
      have z2 := hbz.cell 2
      have g2 := hbz.frozen 2
      simp at z0 z1 z2
      have HQ := Lib.hid (And.intro hbz hb)
      have hzl := hbz.lt
      clear hbz hb hall hown HSV hS
      by_cases hrg : rngP S
      · rw [numR_in hrg] at CS
        rw [if_pos hrg] at hsv
        subst hsv
        clear hrg
        go_wp2_with fail
        refine CS.out.mono ?_
        rintro e w3 ⟨rfl, rfl⟩
        clear CS
        go_wp2
        obtain ⟨W5, hW5⟩ : ∃ W5, ((wo.setCell ⟨w.heap.size, 0, none⟩ (.int .u8 1)).setCell ⟨w.heap.size, 1, none⟩ (.int .i64 S)).setCell ⟨w.heap.size, 2, none⟩ (.string ⟨#[]⟩) = W5 := ⟨_, rfl⟩
        have B5 : Blk W5 (w.heap.size) 26 #[.int .u8 1, .int .i64 S, .string ⟨#[]⟩] := by
          have T := ((HQ.out.1.set_ 0 (.int .u8 1)).set_ 1 (.int .i64 S)).set_ 2 (.string ⟨#[]⟩)
          simp only [List.setIfInBounds_toArray, List.set_cons_zero, List.set_cons_succ] at T
          exact hW5 ▸ T
        have b5 : Below w.heap.size w W5 := hW5 ▸ ((HQ.out.2.setCell (by simp) _).setCell (by simp) _).setCell (by simp) _
        rw [hW5]
        clear hW5
        have p0 : W5.cell? ⟨w.heap.size, 0, none⟩ = some (.int .u8 1) := B5.cell 0
        have p1 : W5.cell? ⟨w.heap.size, 1, none⟩ = some (.int .i64 S) := B5.cell 1
        have p2 : W5.cell? ⟨w.heap.size, 2, none⟩ = some (.string ⟨#[]⟩) := B5.cell 2
        exact bodyPost_ret (v := .tuple #[.agg #[.int .u8 1, .int .i64 S, .string ⟨#[]⟩], .bool true]) (by simp [results, Tryz.results13, go_sem, p0, p1, p2]) rfl ⟨rfl, b5⟩
      · rw [numR_out hrg] at CS
        rw [if_neg hrg] at hsv
        subst hsv
        clear hrg
        go_wp2_with fail
        refine CS.out.mono ?_
        rintro e w3 ⟨rfl, rfl⟩
        clear CS
        go_wp2
        obtain ⟨W5, hW5⟩ : ∃ W5, ((wo.setCell ⟨w.heap.size, 0, none⟩ (.int .u8 0)).setCell ⟨w.heap.size, 1, none⟩ (.int .i64 0)).setCell ⟨w.heap.size, 2, none⟩ (.string ⟨#[]⟩) = W5 := ⟨_, rfl⟩
        have B5 : Blk W5 (w.heap.size) 26 #[.int .u8 0, .int .i64 0, .string ⟨#[]⟩] := by
          have T := ((HQ.out.1.set_ 0 (.int .u8 0)).set_ 1 (.int .i64 0)).set_ 2 (.string ⟨#[]⟩)
          simp only [List.setIfInBounds_toArray, List.set_cons_zero, List.set_cons_succ] at T
          exact hW5 ▸ T
        have b5 : Below w.heap.size w W5 := hW5 ▸ ((HQ.out.2.setCell (by simp) _).setCell (by simp) _).setCell (by simp) _
        rw [hW5]
        clear hW5
        have p0 : W5.cell? ⟨w.heap.size, 0, none⟩ = some (.int .u8 0) := B5.cell 0
        have p1 : W5.cell? ⟨w.heap.size, 1, none⟩ = some (.int .i64 0) := B5.cell 1
        have p2 : W5.cell? ⟨w.heap.size, 2, none⟩ = some (.string ⟨#[]⟩) := B5.cell 2
        exact bodyPost_ret (v := .tuple #[.agg #[.int .u8 0, .int .i64 0, .string ⟨#[]⟩], .bool false]) (by simp [results, Tryz.results13, go_sem, p0, p1, p2]) rfl ⟨rfl, b5⟩
end Go.Proofs.YthpggfcindnlcaaGreatDoor

/-
  Several texts in one: Hu Hv IA.
-/
import Derived.Test.YtdimkeoncgjegaaMfau
import Derived.Test.YtdimkeoncgjegaaMfat
/-
  Heap, plain: what was filled is scanned and fetched, and fills as many pages as its sizes tell.
-/
namespace Go.Proofs.Ytdimkeoncgjegaa
section
set_option linter.unusedSimpArgs false
set_option linter.unusedVariables false
open Go.RowKit Go.Maps

/-- How many pages records of these sizes fill. -/
def pagesP : List Nat → Nat → Int → Nat
  | [], pg, _ => pg
  | n :: t, pg, room => if room < (n : Int) then pagesP t (pg + 1) (500 - ((n : Int) + 4)) else pagesP t pg (room - ((n : Int) + 4))
def itZ (rids : List (Nat × Nat)) (l : List (List UInt8)) : List It := List.zipWith (fun x r => ⟨x.1, x.2, r⟩) rids l
theorem lay_N {next : Nat} {rs : List (List UInt8)} (hx : next < 4294967296) (h : Fits rs) : hdN (layL next rs) = next := by
  have e1 : ((layL next rs).drop 4).take 4 = be 4 next := by
    have e2 : (layL next rs).drop 4 = be 4 next ++ (slB 512 rs ++ (zs (504 - 4 * rs.length - tot rs) ++ bk rs)) := by
      unfold layL hd8
      rw [List.append_assoc ([1, 0] ++ be 2 rs.length)]
      exact List.drop_left' (by simp [be_len])
    rw [e2]
    exact List.take_left' (be_len _ _)
  unfold hdN
  rw [e1, beVal_be]
  omega
theorem itK_rs {p : Nat} {rs rs' : List (List UInt8)} (h : ∀ i, i < rs.length → rs'.getD i [] = rs.getD i []) : itK p rs' rs.length = itK p rs rs.length := by
  unfold itK
  apply List.map_congr_left
  intro i hi
  rw [h i (List.mem_range.1 hi)]
theorem freeN_set : ∀ (T : List Bool) (i : Nat), T[i]? = some false → freeN (T.set i true) + 1 = freeN T
  | [], i, h => by cases h
  | b :: t, 0, h => by
    simp at h
    subst h
    simp [freeN]
  | b :: t, i + 1, h => by
    have h1 := freeN_set t i (by simpa using h)
    unfold freeN at h1 ⊢
    cases b <;> simp [List.filter_cons] at h1 ⊢ <;> omega
theorem set_same_at : ∀ (T : List Bool) (i : Nat), T[i]? = some true → T.set i true = T
  | [], i, h => by cases h
  | b :: t, 0, h => by simp at h; subst h; rfl
  | b :: t, i + 1, h => by simp at h ⊢; exact set_same_at t i h
theorem freeN_le (T : List Bool) : freeN T ≤ T.length := by unfold freeN; exact List.length_filter_le _ _
/-- A page of records, on the disk: what a scan takes from it. -/
theorem outH_lay {ps : List (List UInt8)} {p next f k : Nat} {rs : List (List UInt8)} {acc : List It} (hx : next < 4294967296) (hf : Fits rs) (h : ps[p]? = some (layL next rs)) :
    outH ps (f + 1) p acc k = if next = 0 then (acc ++ itK p rs rs.length, k + 1, 0) else outH ps f next (acc ++ itK p rs rs.length) (k + 1) := by
  have h1 := lay_page (next := next) hf
  have h2 := lay_N hx hf
  have h3 := lay_recs (next := next) hf
  have h4 := lay_C (next := next) hf
  by_cases hz : next = 0
  · rw [outH_end h h1 (by rw [h2]; exact hz), h3, h4, if_pos hz]
  · rw [outH_next h h1 (by rw [h2]; exact hz), h2, h3, h4, if_neg hz]
theorem fetch_lay {ps : List (List UInt8)} {p next i : Nat} {rs : List (List UInt8)} {r : List UInt8} (hf : Fits rs) (h : ps[p]? = some (layL next rs)) (hr : rs[i]? = some r) : fetchH ps p i = (r, 0) := by
  unfold fetchH
  rw [h]
  simp only [lay_page (next := next) hf, if_true, lay_C (next := next) hf, lt_of_at hr, lay_rec hf hr]
theorem fill_main : ∀ (l ps : List (List UInt8)) (T : List Bool) (p : Nat) (rs : List (List UInt8)) (rids : List (Nat × Nat)) (ps' : List (List UInt8)) (T' : List Bool) (rids' : List (Nat × Nat)),
    fillL l ps T p rs rids = (ps', T', some rids') → (∀ r ∈ l, 1 ≤ r.length ∧ r.length ≤ 500) → Fits rs → p < ps.length → T.length = ps.length → ps.length ≤ 10000 → T[p]? = some true → T[0]? = some true →
    ∃ (pgs : Nat) (rest : List (Nat × Nat)), rids' = rids ++ rest ∧ rest.length = l.length ∧ ps'.length = ps.length ∧ 1 ≤ pgs ∧ pgs ≤ 1 + freeN T ∧
      (∀ (q : Nat), q ≠ p → T[q]? = some true → ps'[q]? = ps[q]?) ∧
      (∀ (f : Nat) (acc : List It) (k : Nat), outH ps' (pgs + f) p acc k = (acc ++ (itK p rs rs.length ++ itZ rest l), k + pgs, 0)) ∧
      (∀ (i : Nat) (r : List UInt8), rs[i]? = some r → fetchH ps' p i = (r, 0)) ∧
      (∀ (i : Nat) (x : Nat × Nat) (r : List UInt8), rest[i]? = some x → l[i]? = some r → fetchH ps' x.1 x.2 = (r, 0)) ∧
      (∀ (i : Nat) (x : Nat × Nat), rest[i]? = some x → x.1 < ps.length ∧ x.2 < 126) ∧
      (∀ pg : Nat, pagesP (l.map List.length) pg (500 - (4 * (rs.length : Int) + (tot rs : Int))) + 1 = pg + pgs) := by
  intro l
  induction l with
  | nil =>
    intro ps T p rs rids ps' T' rids' h hl hf hp hT hn hTp hT0
    have h' := Prod.mk.inj h
    obtain ⟨rfl, h2⟩ := h'
    obtain ⟨rfl, h3⟩ := Prod.mk.inj h2
    obtain rfl := Option.some.inj h3
    have hat : (ps.set p (layL 0 rs))[p]? = some (layL 0 rs) := by rw [List.getElem?_set_self hp]
    refine ⟨1, [], by simp, rfl, by simp, by omega, by omega, fun q hq _ => by rw [List.getElem?_set_ne (fun e => hq e.symm)], fun f acc k => ?_, fun i r hr => fetch_lay hf hat hr, fun i x r hx => (by cases hx), fun i x hx => (by cases hx), fun pg => rfl⟩
    rw [Nat.add_comm 1 f, outH_lay (by omega) hf hat, if_pos rfl]
    simp [itZ]
  | cons r t ih =>
    intro ps T p rs rids ps' T' rids' h hl hf hp hT hn hTp hT0
    have hr := hl r (by simp)
    have hlt := fun x hx => hl x (List.mem_cons_of_mem r hx)
    have hrne : r ≠ [] := fun e => by rw [e] at hr; simp at hr
    by_cases hfit : r.length ≤ roomL rs
    · rw [fillL_fit hfit] at h
      have hroom : r.length + (8 + 4 * (rs.length + 1) + tot rs) ≤ 512 := by unfold roomL at hfit; omega
      have hf2 : Fits (rs ++ [r]) := hf.snoc hrne hroom
      obtain ⟨pgs, rest, e1, e2, e3, e4, e5, hA, hB, hC1, hC2, hR, hD⟩ := ih ps T p (rs ++ [r]) (rids ++ [(p, rs.length)]) ps' T' rids' h hlt hf2 hp hT hn hTp hT0
      have hm : rs.length < 126 := by omega
      refine ⟨pgs, (p, rs.length) :: rest, by rw [e1]; simp, by simp [e2], e3, e4, e5, hA, fun f acc k => ?_, fun i x hx => ?_, fun i x y hx hy => ?_, fun i x hx => ?_, fun pg => ?_⟩
      · rw [hB f acc k]
        have h1 : itK p (rs ++ [r]) (rs ++ [r]).length = itK p rs rs.length ++ [⟨p, rs.length, r⟩] := by
          rw [List.length_append, List.length_singleton, itK_succ, itK_rs (fun i hi => by simp [List.getD_eq_getElem?_getD, List.getElem?_append_left hi])]
          simp [List.getD_eq_getElem?_getD]
        rw [h1]
        simp [itZ]
      · exact hC1 i x (by rw [List.getElem?_append_left (lt_of_at hx)]; exact hx)
      · cases i with
        | zero =>
          simp at hx hy
          subst hx; subst hy
          exact hC1 rs.length r (by simp)
        | succ i => exact hC2 i x y (by simpa using hx) (by simpa using hy)
      · cases i with
        | zero => simp at hx; subst hx; exact ⟨hp, hm⟩
        | succ i => exact hR i x (by simpa using hx)
      · have h1 := hD pg
        rw [List.length_append, List.length_singleton, tot_snoc] at h1
        rw [List.map_cons, pagesP, if_neg (by unfold roomL at hfit; omega)]
        rw [← h1]
        congr 2
        omega
    · rcases hfi : freeI T with _ | i
      · rw [fillL_none hfit hfi] at h
        have := (Prod.mk.inj (Prod.mk.inj h).2).2
        cases this
      · rw [fillL_some hfit hfi] at h
        obtain ⟨i', g1, g2, g3⟩ | ⟨g1, _⟩ := freeI_cases T
        rotate_left
        · rw [g1] at hfi; cases hfi
        rw [hfi] at g1
        obtain rfl := Option.some.inj g1
        have hin : i < ps.length := by rw [← hT]; exact lt_of_at g2
        have hip : i ≠ p := fun e => by subst e; rw [g2] at hTp; cases hTp
        have hi0 : i ≠ 0 := fun e => by subst e; rw [g2] at hT0; cases hT0
        have hTs : (T.set i true).set p true = T.set i true := set_same_at _ _ (by rw [List.getElem?_set_ne hip]; exact hTp)
        rw [hTs] at h
        have hf2 : Fits [r] := by
          have h1 := Fits.nil.snoc (r := r) hrne (by simp [tot, bk]; omega)
          exact h1
        obtain ⟨pgs, rest, e1, e2, e3, e4, e5, hA, hB, hC1, hC2, hR, hD⟩ := ih (ps.set p (layL i rs)) (T.set i true) i [r] (rids ++ [(i, 0)]) ps' T' rids' h hlt hf2 (by simpa using hin) (by simpa using hT) (by simpa using hn)
          (by rw [List.getElem?_set_self (by rw [hT]; exact hin)]) (by rw [List.getElem?_set_ne hi0]; exact hT0)
        have hpp : ps'[p]? = some (layL i rs) := by
          rw [hA p (fun e => hip e.symm) (by rw [List.getElem?_set_ne hip]; exact hTp), List.getElem?_set_self hp]
        have hfn := freeN_set T i g2
        refine ⟨pgs + 1, (i, 0) :: rest, by rw [e1]; simp, by simp [e2], by simpa using e3, by omega, by omega, fun q hq hTq => ?_, fun f acc k => ?_, fun j x hx => fetch_lay hf hpp hx, fun j x y hx hy => ?_, fun j x hx => ?_, fun pg => ?_⟩
        · have hqi : q ≠ i := fun e => by subst e; rw [g2] at hTq; cases hTq
          rw [hA q hqi (by rw [List.getElem?_set_ne (fun e => hqi e.symm)]; exact hTq), List.getElem?_set_ne (fun e => hq e.symm)]
        · have h1 : pgs + 1 + f = (pgs + f) + 1 := by omega
          rw [h1, outH_lay (by omega) hf hpp, if_neg hi0, hB f _ (k + 1)]
          have h2 : itK i [r] [r].length = [⟨i, 0, r⟩] := by simp [itK]
          rw [h2]
          simp [itZ]
          omega
        · cases j with
          | zero =>
            simp at hx hy
            subst hx; subst hy
            exact hC1 0 r rfl
          | succ j => exact hC2 j x y (by simpa using hx) (by simpa using hy)
        · cases j with
          | zero => simp at hx; subst hx; exact ⟨hin, by omega⟩
          | succ j => have := hR j x (by simpa using hx); simpa using this
        · have h1 := hD (pg + 1)
          have e6 : (tot [r] : Int) = (r.length : Int) := by simp [tot, bk]
          rw [e6] at h1
          rw [List.map_cons, pagesP, if_pos (by unfold roomL at hfit; omega)]
          have e7 : (500 : Int) - (4 * (([r] : List (List UInt8)).length : Int) + (r.length : Int)) = 500 - ((r.length : Int) + 4) := by simp; omega
          rw [e7] at h1
          omega
end
end Go.Proofs.Ytdimkeoncgjegaa
/-
  Heap: the law's small; Pages.
-/
namespace Go.Proofs.Ytdimkeoncgjegaa
section
set_option linter.unusedSimpArgs false
set_option linter.unusedVariables false
open Go.RowKit Go.Maps

def RetSm (w : World) (m : Nat) (e : Ending) (w' : World) : Prop := ∃ b : Bool, e = .returned (.bool b) ∧ (b = true → m ≤ 9000) ∧ w = w'
set_option maxRecDepth 100000 in
theorem small_any {w : World} {A : Option Addr} {m c B : Nat} {rows : List Rw} (hr : RRs w B A m rows) (hm : m ≤ 8796093022208) :
    Calls Try.prog 6 #[.slice A m c] w (RetSm w m) := by
  have mI : (m : Int) ≤ 8796093022208 := by omega
  have HR := Lib.hid hr
  clear hr
  go_enter Try.func6, Try.ntmps6
  go_wp2
  go_loop [3, 8] (fun u3 u8 => ∃ (k s : Nat), u3 = .int .i64 s ∧ u8 = .int .i64 k ∧ k ≤ m ∧ k ≤ s ∧ s ≤ k * 9001) (fun _ u8 => m - (intOf u8).toNat)
  case atStart => exact ⟨0, 0, rfl, rfl, by omega, by omega, by omega⟩
  case round =>
    obtain ⟨k, s, rfl, rfl, hk, hks, hs⟩ := hrel
    have k0 : (0 : Int) ≤ (k : Int) := by omega
    have s0 : (0 : Int) ≤ (s : Int) := by omega
    have s1 : (s : Int) ≤ 79173633294704607 := by omega
    by_cases hlt : k < m
    · have k1 : (k : Int) < (m : Int) := by omega
      obtain ⟨ad, r, rfl, had, hrow, hcell, hrc, hrm, _⟩ := HR.out.row hlt
      obtain ⟨q, hq, hq2⟩ : ∃ q : Nat, min (r.l.length : Int) 9000 = (q : Int) ∧ q ≤ 9000 := ⟨min r.l.length 9000, by omega, by omega⟩
      have q1 : (q : Int) ≤ 9000 := by omega
      have q0 : (0 : Int) ≤ (q : Int) := by omega
      clear hrow hrc hrm
      go_wp2
      go_round
      case rel => exact ⟨k + 1, s + (q + 1), by go_num, by go_num, by omega, by omega, by omega⟩
      case measure => simp [intOf]; omega
    · obtain rfl : m = k := by omega
      go_wp2
      go_ret
      exact ⟨_, rfl, fun h => by simp at h; omega, rfl⟩
set_option maxRecDepth 100000 in
theorem hpages_any {w : World} {A : Option Addr} {m c B : Nat} {l : List Nat} (hr : Reads w B 1 A m (l.map fun (x : Nat) => Value.int .i64 (x : Int))) (hm : m ≤ 100000) (hl : ∀ x ∈ l, 1 ≤ x ∧ x ≤ 500) :
    Calls Try.prog 16 #[.slice A m c] w fun e w' => e = .returned (.int .i64 (pagesP l 1 500 : Nat)) ∧ w = w' := by
  have mI : (m : Int) ≤ 100000 := by omega
  have hlen : l.length = m := by have := hr.1; rw [List.length_map] at this; omega
  obtain ⟨R, hR⟩ : ∃ R, pagesP l 1 500 = R := ⟨_, rfl⟩
  have HR := Lib.hid (And.intro hr (And.intro hlen (And.intro hl hR)))
  rw [hR]
  clear hr hlen hl hR
  go_enter Try.func16, Try.ntmps16
  go_wp2
  go_loop [3, 4, 9] (fun u3 u4 u9 => ∃ (k pg : Nat) (room : Int), u3 = .int .i64 pg ∧ u4 = .int .i64 room ∧ u9 = .int .i64 k ∧ k ≤ m ∧ pg ≤ k + 1 ∧ -4 ≤ room ∧ room ≤ 500 ∧ pagesP (l.drop k) pg room = R) (fun _ _ u9 => m - (intOf u9).toNat)
  case atStart => exact ⟨0, 1, 500, rfl, rfl, rfl, by omega, by omega, by omega, by omega, by rw [List.drop_zero]; exact HR.out.2.2.2⟩
  case round =>
    obtain ⟨k, pg, room, rfl, rfl, rfl, hk, hpg, hr1, hr2, hres⟩ := hrel
    have k0 : (0 : Int) ≤ (k : Int) := by omega
    have p0 : (0 : Int) ≤ (pg : Int) := by omega
    have p1 : (pg : Int) ≤ 100001 := by omega
    by_cases hlt : k < m
    · have k1 : (k : Int) < (m : Int) := by omega
      obtain ⟨ad, u, rfl, had, hu, hcell⟩ := HR.out.1.at_ hlt
      rw [List.getElem?_map] at hu
      obtain ⟨x, hx, rfl⟩ := Option.map_eq_some_iff.1 hu
      have hxr := HR.out.2.2.1 x (List.mem_of_getElem? hx)
      have x1 : (1 : Int) ≤ (x : Int) := by omega
      have x2 : (x : Int) ≤ 500 := by omega
      have e1 : decide ((x : Int) < 1) = false := by simp; omega
      have e2 : decide ((500 : Int) < (x : Int)) = false := by simp; omega
      have hdrop : l.drop k = x :: l.drop (k + 1) := by rw [List.drop_eq_getElem?_toList_append, hx]; rfl
      rw [hdrop, pagesP] at hres
      have HS := Lib.hid hres
      clear hres hu hx hxr hdrop
      by_cases hc : room < (x : Int)
      · have e3 : decide (room < (x : Int)) = true := by simp; omega
        have hs := HS.out
        rw [if_pos hc] at hs
        have HS2 := Lib.hid hs
        clear hs
        go_wp2
        go_round
        case rel => exact ⟨k + 1, pg + 1, 500 - ((x : Int) + 4), by go_num, by go_num, by go_num, by omega, by omega, by omega, by omega, HS2.out⟩
        case measure => simp [intOf]; omega
      · have e3 : decide (room < (x : Int)) = false := by simp; omega
        have hs := HS.out
        rw [if_neg hc] at hs
        have HS2 := Lib.hid hs
        clear hs
        go_wp2
        go_round
        case rel => exact ⟨k + 1, pg, room - ((x : Int) + 4), by go_num, by go_num, by go_num, by omega, by omega, by omega, by omega, HS2.out⟩
        case measure => simp [intOf]; omega
    · obtain rfl : m = k := by omega
      rw [List.drop_eq_nil_of_le (by rw [HR.out.2.1]; omega)] at hres
      have hres2 : pg = R := hres
      clear hres
      go_wp2
      go_ret
      exact ⟨by first | rfl | rw [hres2], rfl⟩
end
end Go.Proofs.Ytdimkeoncgjegaa
/-
  Heap: the reference's H: write.
-/
namespace Go.Proofs.Ytdimkeoncgjegaa
section
set_option linter.unusedSimpArgs false
set_option linter.unusedVariables false
open Go.RowKit Go.Maps

/-- The reference's heap that is filled, as cells. -/
structure Hh where
  A : Option Addr
  n : Nat
  c : Nat
  B : Option Addr
  d : Nat
  first : Nat
  at_ : Nat
  next : Nat
  C : Option Addr
  k : Nat
  e : Nat
  D : Option Addr
  r : Nat
  f : Nat
  began : Bool
def Hh.arr (h : Hh) : Array Value := #[.slice h.A h.n h.c, .slice h.B h.n h.d, .int .u32 h.first, .int .u32 h.at_, .int .u32 h.next, .slice h.C h.k h.e, .slice h.D h.r h.f, .bool h.began]
structure HhIn (w : World) (h : Hh) (ps : List (List UInt8)) (T : List Bool) (rs : List (List UInt8)) : Prop where
  r1 : Reads w w.heap.size 1 h.A h.n (sL ps)
  r2 : Reads w w.heap.size 1 h.B h.n (tL T)
  c1 : h.n ≤ h.c
  c2 : h.n ≤ h.d
  r3 : Reads w w.heap.size 1 h.C h.k (sL rs)
  c3 : h.k ≤ h.e
theorem HhIn.below {w w' : World} {h : Hh} {ps : List (List UInt8)} {T : List Bool} {rs : List (List UInt8)} (hi : HhIn w h ps T rs) (hb : Below w.heap.size w w') : HhIn w' h ps T rs :=
  ⟨(hi.r1.below hb).more hb.size, (hi.r2.below hb).more hb.size, hi.c1, hi.c2, (hi.r3.below hb).more hb.size, hi.c3⟩
theorem hwrite_end {W : World} {R : Nat} {tm : Array Value} {Q : Ending → World → Prop} {h : Hh} (hR : Blk W R 43 h.arr)
    (h2 : tm[2]? = some (.pointer (some ⟨R, 0, none⟩))) (hq : Q (.returned (.agg h.arr)) W) :
    bodyPost Try.prog Try.f31 Q Exit.ret { tmps := tm, defers := [] } W := by
  have q0 : W.cell? ⟨R, 0, none⟩ = _ := hR.cell 0
  have q1 : W.cell? ⟨R, 1, none⟩ = _ := hR.cell 1
  have q2 : W.cell? ⟨R, 2, none⟩ = _ := hR.cell 2
  have q3 : W.cell? ⟨R, 3, none⟩ = _ := hR.cell 3
  have q4 : W.cell? ⟨R, 4, none⟩ = _ := hR.cell 4
  have q5 : W.cell? ⟨R, 5, none⟩ = _ := hR.cell 5
  have q6 : W.cell? ⟨R, 6, none⟩ = _ := hR.cell 6
  have q7 : W.cell? ⟨R, 7, none⟩ = _ := hR.cell 7
  unfold Hh.arr at q0 q1 q2 q3 q4 q5 q6 q7 hq
  simp at q0 q1 q2 q3 q4 q5 q6 q7
  exact bodyPost_ret (v := .agg #[.slice h.A h.n h.c, .slice h.B h.n h.d, .int .u32 h.first, .int .u32 h.at_, .int .u32 h.next, .slice h.C h.k h.e, .slice h.D h.r h.f, .bool h.began]) (by simp [results, Try.results31, go_sem, h2, q0, q1, q2, q3, q4, q5, q6, q7]) rfl hq
end
end Go.Proofs.Ytdimkeoncgjegaa

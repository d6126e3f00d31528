/-
  Inner pages as bytes: contracts of InnerSize, PutInner.
-/
import Derived.Test.YtgdipljaddodhaaYo
set_option linter.unusedSimpArgs false
set_option linter.unusedVariables false
namespace Go.Proofs.Ytgdipljaddodhaa
open Go.RowKit

/-- Pages' numbers as values. -/
def vN (l : List Nat) : List Value := l.map fun x : Nat => Value.int .u32 (x : Int)
theorem vN_len (l : List Nat) : (vN l).length = l.length := by simp [vN]
theorem vN_at {l : List Nat} {i x : Nat} (h : l[i]? = some x) : (vN l)[i]? = some (.int .u32 (x : Int)) := by simp [vN, h]
theorem Reads.num {w : World} {B n k : Nat} {A : Option Addr} {l : List Nat} (hr : Reads w B 1 A n (vN l)) (hk : k < n) : ∃ ad x, A = some ad ∧ ad.block < B ∧ l[k]? = some x ∧ w.cell? (ad.add k) = some (.int .u32 (x : Int)) := by
  obtain ⟨ad, u, e, hb, hu, hc⟩ := hr.at_ hk
  unfold vN at hu
  rw [List.getElem?_map] at hu
  obtain ⟨b, h1, rfl⟩ := Option.map_eq_some_iff.1 hu
  exact ⟨ad, b, e, hb, h1, hc⟩
theorem Reads.num_len {w : World} {B n : Nat} {A : Option Addr} {l : List Nat} (hr : Reads w B 1 A n (vN l)) : l.length = n := by have := hr.1; rw [vN_len] at this; omega
/-- What stands behind the first child: entries, each with its child. -/
def inP (p : En × Nat) : List UInt8 := enL p.1 ++ be 4 p.2
def inB (ps : List (En × Nat)) : List UInt8 := ps.flatMap inP
def innL (c0 : Nat) (ps : List (En × Nat)) (n : Nat) : List UInt8 := (((headL 3 n 0).take 8 ++ be 4 c0) ++ inB ps) ++ List.replicate (512 - (12 + sumE (ps.map Prod.fst) + 4 * ps.length)) 0
theorem inB_len : ∀ ps : List (En × Nat), (inB ps).length = sumE (ps.map Prod.fst) + 4 * ps.length
  | [] => rfl
  | p :: ps => by
    have ih := inB_len ps
    unfold inB at ih ⊢
    rw [List.flatMap_cons, List.length_append, ih]
    unfold inP
    rw [List.length_append, enL_len, be_len]
    unfold sumE
    simp only [List.map_cons, List.sum_cons, List.length_cons]
    omega
theorem inB_take {ps : List (En × Nat)} {k : Nat} {p : En × Nat} (h : ps[k]? = some p) : inB (ps.take (k + 1)) = inB (ps.take k) ++ inP p := by
  unfold inB; rw [List.take_add_one, h]; simp
theorem zip_at {l : List En} {cs : List Nat} {k : Nat} {v : En} {x : Nat} (h1 : l[k]? = some v) (h2 : cs[k]? = some x) : (l.zip cs)[k]? = some (v, x) := by
  rw [List.getElem?_zip_eq_some]; exact ⟨h1, h2⟩
theorem zip_fst {l : List En} {cs : List Nat} (h : l.length ≤ cs.length) : (l.zip cs).map Prod.fst = l := List.map_fst_zip h
theorem zip_snd {l : List En} {cs : List Nat} (h : cs.length ≤ l.length) : (l.zip cs).map Prod.snd = cs := List.map_snd_zip h
theorem sumZ_mono (ps : List (En × Nat)) (k : Nat) : (inB (ps.take k)).length ≤ (inB ps).length := by
  have h : inB ps = inB (ps.take k) ++ inB (ps.drop k) := by unfold inB; rw [← List.flatMap_append, List.take_append_drop]
  rw [h, List.length_append]; omega

set_option maxHeartbeats 1000000 in
theorem innerSize_any (A : Option Addr) (n c : Nat) (l : List En) (w : World) (hr : Reads w w.heap.size 3 A n (vE l)) (hsz : sumE l ≤ 72000) :
    Calls Try.prog 23 #[.slice A n c] w (RetB w (.int .i64 (12 + (sumE l : Int) + 4 * (n : Int)))) := by
  have hl : l.length = n := by have := hr.1; rw [vE_len] at this; omega
  have hn : n ≤ 9000 := by have := sumE_eq l; omega
  have hnI : (n : Int) ≤ 9000 := by omega
  have S := Lib.hid (leafSize_any A n c l w hr hsz)
  have hs0 : (sumE l : Int) ≤ 72000 := by omega
  have hs1 : (0 : Int) ≤ (sumE l : Int) := by omega
  clear hl hsz
  generalize sumE l = T at *
  go_enter Try.func23, Try.ntmps23
  go_wp2_with fail
  refine S.out.mono ?_
  rintro e w1 ⟨rfl, hb1⟩
  go_wp2
  go_ret
  exact ⟨ret_int (by omega), hb1⟩
set_option maxHeartbeats 2000000 in
/-- Refused: not one child more, no entries, entries that may not be. -/
theorem putInner_no (A0 : Option Addr) (m c0 : Nat) (A : Option Addr) (n c : Nat) (l : List En) (w : World) (hr : Reads w w.heap.size 3 A n (vE l)) (hn : n ≤ 1000000) (hm1 : m ≤ 1000000) (h : m ≠ n + 1 ∨ n = 0 ∨ mayEn l = false) :
    Calls Try.prog 21 #[.slice A0 m c0, .slice A n c] w (RetB w (.tuple #[.slice none 0 0, .int .i64 1])) := by
  have M := mayE_any A n c l w hr hn
  have hnI : (n : Int) ≤ 1000000 := by omega
  have hmI : (m : Int) ≤ 1000000 := by omega
  by_cases h1 : m = n + 1
  · have e1 : ((m : Int) != (n : Int) + 1) = false := by simp; omega
    have e2 : ((m : Int) == (n : Int) + 1) = true := by simp; omega
    by_cases h2 : n = 0
    · have f1 : ((n : Int) == 0) = true := by simp; omega
      have f2 : (n == 0) = true := by simp; omega
      clear M hr h h1 h2
      go_enter Try.func21, Try.ntmps21
      go_wp2
      go_ret2
      exact ⟨rfl, Below.refl _ _⟩
    · have hm : mayEn l = false := by
        rcases h with h | h | h
        · exact absurd h1 h
        · exact absurd h h2
        · exact h
      rw [hm] at M
      have HM := Lib.hid M
      have f1 : ((n : Int) == 0) = false := by simp; omega
      have f2 : (n == 0) = false := by simp; omega
      clear M hr h h1 h2 hm
      go_enter Try.func21, Try.ntmps21
      go_wp2_with fail
      refine HM.out.mono ?_
      rintro e w1 ⟨rfl, hb1⟩
      go_wp2
      go_ret2
      exact ⟨rfl, hb1⟩
  · have e1 : ((m : Int) != (n : Int) + 1) = true := by simp; omega
    have e2 : ((m : Int) == (n : Int) + 1) = false := by simp; omega
    clear M hr h h1
    go_enter Try.func21, Try.ntmps21
    go_wp2
    go_ret2
    exact ⟨rfl, Below.refl _ _⟩
set_option maxHeartbeats 2000000 in
theorem putInner_full (A0 : Option Addr) (m c0 : Nat) (A : Option Addr) (n c : Nat) (l : List En) (w : World) (hr : Reads w w.heap.size 3 A n (vE l)) (hs : sumE l ≤ 72000) (h1 : m = n + 1) (h2 : n ≠ 0) (hm : mayEn l = true) (hf : 500 < sumE l + 4 * n) :
    Calls Try.prog 21 #[.slice A0 m c0, .slice A n c] w (RetB w (.tuple #[.slice none 0 0, .int .i64 7])) := by
  have hl : l.length = n := by have := hr.1; rw [vE_len] at this; omega
  have hn : n ≤ 9000 := by have := sumE_eq l; omega
  have hnI : (n : Int) ≤ 9000 := by omega
  have M := mayE_any A n c l w hr (by omega)
  rw [hm] at M
  have HM := Lib.hid M
  have S := fun (W : World) (hb : Below w.heap.size w W) => innerSize_any A n c l W ((hr.below hb).more hb.size) hs
  have e1 : ((m : Int) != (n : Int) + 1) = false := by simp; omega
  have e2 : ((m : Int) == (n : Int) + 1) = true := by simp; omega
  have f1 : ((n : Int) == 0) = false := by simp; omega
  have f2 : (n == 0) = false := by simp; omega
  obtain ⟨Z, hZ⟩ : ∃ Z : Int, 12 + (sumE l : Int) + 4 * (n : Int) = Z := ⟨_, rfl⟩
  have hz : 512 < Z := by omega
  rw [hZ] at S
  have HS := Lib.hid S
  clear M hr hs h1 h2 hm hf S hZ hl
  go_enter Try.func21, Try.ntmps21
  go_wp2_with fail
  refine HM.out.mono ?_
  rintro e w1 ⟨rfl, hb1⟩
  go_wp2_with fail
  refine (HS.out _ (by (with_reducible repeat (first | exact Below.refl _ _ | exact hb1 | refine bto0 ?_ hb1 | refine bdr ?_ _ | refine Below.drew ?_ | refine ball ?_ _)))).mono ?_
  rintro e w2 ⟨rfl, hb2⟩
  go_wp2
  go_ret2
  exact ⟨rfl, by (with_reducible repeat (first | exact Below.refl _ _ | exact hb2 | exact hb1 | refine bto0 ?_ hb2 | refine bto0 ?_ hb1 | refine bdr ?_ _ | refine Below.drew ?_ | refine ball ?_ _))⟩

set_option maxHeartbeats 4000000 in
theorem putInner_ok (A0 : Option Addr) (c0 : Nat) (A : Option Addr) (n c : Nat) (l : List En) (ch0 : Nat) (cs : List Nat) (w : World) (hr : Reads w w.heap.size 3 A n (vE l)) (hr0 : Reads w w.heap.size 1 A0 (n + 1) (vN (ch0 :: cs))) (hok : ∀ e ∈ l, e.ok) (hch : ∀ x ∈ ch0 :: cs, x < 4294967296) (h2 : n ≠ 0) (hm : mayEn l = true) (hf : sumE l + 4 * n ≤ 500) :
    Calls Try.prog 21 #[.slice A0 (n + 1) c0, .slice A n c] w (RetLf w (innL ch0 (l.zip cs) n)) := by
  have hl : l.length = n := by have := hr.1; rw [vE_len] at this; omega
  have hcs : cs.length = n := by have := hr0.num_len; simpa using this
  have hnn : n ≤ 63 := by have := sumE_eq l; omega
  have hnI : (n : Int) ≤ 63 := by omega
  have hn0 : 0 < n := by omega
  have M := mayE_any A n c l w hr (by omega)
  rw [hm] at M
  have HM := Lib.hid M
  have S := fun (W : World) (hb : Below w.heap.size w W) => innerSize_any A n c l W ((hr.below hb).more hb.size) (by omega)
  have BG := Lib.hid fun W => begin_any 3 3 rfl n 0 (by omega) (by omega) W
  have e1 : (((n + 1 : Nat) : Int) != (n : Int) + 1) = false := by simp
  have e2 : (((n + 1 : Nat) : Int) == (n : Int) + 1) = true := by simp
  have f1 : ((n : Int) == 0) = false := by simp; omega
  have f2 : (n == 0) = false := by simp; omega
  obtain ⟨Z, hZ⟩ : ∃ Z : Int, 12 + (sumE l : Int) + 4 * (n : Int) = Z := ⟨_, rfl⟩
  have hz : Z ≤ 512 := by omega
  rw [hZ] at S
  have HS := Lib.hid S
  have hzl : (l.zip cs).length = n := by rw [List.length_zip]; omega
  have hbl : (inB (l.zip cs)).length = sumE l + 4 * n := by rw [inB_len, zip_fst (by omega), hzl]
  have h8 : ((headL 3 n 0).take 8).length = 8 := by rw [List.length_take, headL_len]; rfl
  obtain ⟨H8, hH8⟩ : ∃ H8, (headL 3 n 0).take 8 = H8 := ⟨_, rfl⟩
  rw [hH8] at BG h8
  obtain ⟨ad0, x0, hA0, hab0, hx0, hc0⟩ := hr0.num (k := 0) (by omega)
  have hx0' : ch0 = x0 := by simpa using hx0
  subst hx0'
  have hch0 : ch0 < 4294967296 := hch ch0 (by simp)
  have PN0 := Lib.hid fun (sv : Value) (W : World) (own : Own W w.heap.size sv H8) (hb : w.heap.size ≤ W.heap.size) => putNum4_any ch0 hch0 sv H8 W w.heap.size own hb (by omega)
  have hcN : Hid (∀ k, k < n → ∃ v x, l[k]? = some v ∧ cs[k]? = some x ∧ x < 4294967296) := Lib.hid fun k hk => by
    have a1 : l[k]? = some (l[k]'(by omega)) := List.getElem?_eq_getElem (by omega)
    have a2 : cs[k]? = some (cs[k]'(by omega)) := List.getElem?_eq_getElem (by omega)
    exact ⟨_, _, a1, a2, hch _ (List.mem_cons_of_mem _ (List.mem_of_getElem? a2))⟩
  have hfin : Hid (innL ch0 (l.zip cs) n = ((H8 ++ be 4 ch0) ++ inB (l.zip cs)) ++ List.replicate (512 - ((H8 ++ be 4 ch0) ++ inB (l.zip cs)).length) 0) := Lib.hid (by
    unfold innL
    rw [hH8, zip_fst (by omega), hzl]
    simp only [List.length_append, h8, be_len, hbl]
    congr 3
    omega)
  have hmo := Lib.hid (sumZ_mono (l.zip cs))
  have Hzl := Lib.hid hzl
  have Hbl := Lib.hid hbl
  have H8l := Lib.hid h8
  clear M S hZ hH8 hch hx0 hch0 hzl hbl h8 hm
  have hr0' := hr0
  subst hA0
  have hw0 := Below.refl w.heap.size w
  go_enter Try.func21, Try.ntmps21
  go_wp2_with fail
  refine HM.out.mono ?_
  rintro e w1 ⟨rfl, hb1⟩
  go_wp2_with fail
  refine (HS.out _ (by (with_reducible repeat (first | exact Below.refl _ _ | exact hb1 | refine bto0 ?_ hb1 | refine bdr ?_ _ | refine Below.drew ?_ | refine ball ?_ _)))).mono ?_
  rintro e w2 ⟨rfl, hb2⟩
  go_wp2_with fail
  refine (BG.out _).mono ?_
  rintro e w3 ⟨v3, rfl, own3, hb3⟩
  have hw2 : Below w.heap.size w w2 := by (with_reducible repeat (first | exact Below.refl _ _ | exact hb2 | exact hb1 | refine bto0 ?_ hb2 | refine bto0 ?_ hb1 | refine bdr ?_ _ | refine Below.drew ?_ | refine ball ?_ _))
  have own3' := own3.less hw2.size
  have hw3 : Below w.heap.size w w3 := by (with_reducible repeat (first | exact Below.refl _ _ | exact hb3 | exact hb2 | exact hb1 | refine bto0 ?_ hb3 | refine bto0 ?_ hb2 | refine bto0 ?_ hb1 | refine bdr ?_ _ | refine Below.drew ?_ | refine ball ?_ _))
  have cz : w3.cell? ad0 = some (.int .u32 (ch0 : Int)) := by
    have := hw3.cell (p := ad0) (by omega)
    rw [this]
    simpa [Addr.add] using hc0
  clear hb1 hb2 hb3 own3 hw2 hc0
  go_wp2_with fail
  refine (PN0.out _ _ own3' hw3.size).mono ?_
  rintro e w4 ⟨v4, rfl, own4, kp4⟩
  have hw4 := kp4.below _ _ (Nat.le_refl _) hw3
  clear own3' hw3 kp4 cz
  go_wp2_with fail
  go_loopw [6, 38] (fun bv iv wr => ∃ k : Nat, k ≤ n ∧ iv = .int .i64 k ∧ Own wr w.heap.size bv ((H8 ++ be 4 ch0) ++ inB ((l.zip cs).take k)) ∧ Below w.heap.size w wr) (fun _ iv _ => n - (intOf iv).toNat)
  case atStart => exact ⟨0, by omega, rfl, by simpa [inB] using own4, hw4⟩
  case round =>
    clear own4 hw4
    obtain ⟨k, hk, rfl, hown, hb⟩ := hrel
    have r0 : (0 : Int) ≤ (k : Int) := by omega
    have hbs := hb.size
    have hlk : ((H8 ++ be 4 ch0) ++ inB ((l.zip cs).take k)).length ≤ 512 := by
      have h1 := hmo.out k
      have h2 := Hbl.out
      simp only [List.length_append, H8l.out, be_len]
      omega
    by_cases hlt : k < n
    · have r1 : (k : Int) < (n : Int) := by omega
      obtain ⟨v, x, hv, hx, hxb⟩ := hcN.out k hlt
      have hp := zip_at hv hx
      obtain ⟨ad, v', rfl, hab, hv', d0, d1, d2⟩ := (hr.below hb).ent hlt
      rw [hv] at hv'
      injection hv' with hv'
      subst hv'
      obtain ⟨ad1, x1, he1, hab1, hx1, cx⟩ := (hr0'.below hb).num (k := k + 1) (by omega)
      injection he1 with he1
      subst he1
      rw [List.getElem?_cons_succ, hx] at hx1
      injection hx1 with hx1
      subst hx1
      have hvok := hok v (List.mem_of_getElem? hv)
      have hfl := Lib.hid (inB_take hp)
      have hvs : v.s.size ≤ 504 := by
        have h1 := sumE_take hv
        have h2 := sumE_mono l (k + 1)
        omega
      have hlk2 : (((H8 ++ be 4 ch0) ++ inB ((l.zip cs).take k)) ++ enL v).length ≤ 2000 := by
        have := enL_len v
        simp only [List.length_append] at hlk ⊢
        omega
      have own1 := hown.alloc (.cells #[.string v.s, .int .u32 v.p, .int .u16 v.q] 27)
      have hbs1 : w.heap.size ≤ (wr.alloc (.cells #[.string v.s, .int .u32 v.p, .int .u16 v.q] 27)).heap.size := by simp; omega
      have PE := Lib.hid (putEntry_any v hvok (by omega) u6 _ _ w.heap.size own1 hbs1 (by omega))
      have PN := Lib.hid fun (sv : Value) (W : World) (own : Own W w.heap.size sv _) (hb : w.heap.size ≤ W.heap.size) => putNum4_any x hxb sv (((H8 ++ be 4 ch0) ++ inB ((l.zip cs).take k)) ++ enL v) W w.heap.size own hb (by omega)
      have hen : Hid (inP (v, x) = enL v ++ be 4 x) := Lib.hid rfl
      have hb1' : Below w.heap.size w (wr.alloc (.cells #[.string v.s, .int .u32 v.p, .int .u16 v.q] 27)) := ball hb _
      clear hv hvok hvs own1 hp hx hxb hlk hlk2
      obtain ⟨Y, hY⟩ : ∃ Y, enL v = Y := ⟨_, rfl⟩
      rw [hY] at PE PN hen
      clear hY
      obtain ⟨s, p, q⟩ := v
      unfold En.agg at PE
      simp only at d0 d1 d2 PE hb1'
      have hwr1 : IntKind.i64.wrap ((k : Int) + 1) = (k : Int) + 1 := IntWalk.i64_in _ (by omega)
      go_wp2_with fail
      refine PE.out.mono ?_
      rintro e w4 ⟨v4, rfl, own4, kp4⟩
      have hb4 := kp4.below _ _ (Nat.le_refl _) hb1'
      have cx4 : w4.cell? (ad0.add (k + 1)) = some (.int .u32 (x : Int)) := by
        have hbb := kp4.below _ _ (Nat.le_refl _) hb1'
        rw [hb4.cell (by rw [block_of_add]; omega)]
        rw [← cx, hb.cell (by rw [block_of_add]; omega)]
      have cx5 : w4.cell? ⟨ad0.block, ad0.off + (k + 1), none⟩ = some (.int .u32 (x : Int)) := by
        rw [← cx4]; congr 1
      clear cx
      go_wp2_with fail
      refine (PN.out _ _ own4 hb4.size).mono ?_
      rintro e w5 ⟨v5, rfl, own5, kp5⟩
      go_wp2
      go_roundw
      case rel => exact ⟨k + 1, by omega, by go_num, by rw [hfl.out, hen.out]; simpa only [List.append_assoc] using own5, kp5.below _ _ (Nat.le_refl _) hb4⟩
      case measure => simp [intOf]; omega
    · obtain rfl : k = n := by omega
      have hT : (l.zip cs).take k = l.zip cs := List.take_of_length_le (by rw [Hzl.out]; exact Nat.le_refl _)
      rw [hT] at hown hlk
      have FI := Lib.hid (fill_any u6 _ _ w.heap.size hown hbs hlk)
      clear hT
      go_wp2_with fail
      refine FI.out.mono ?_
      rintro e w4 ⟨v4, rfl, own4, kp4⟩
      go_wp2
      go_ret2
      exact ⟨_, rfl, by rw [hfin.out]; exact own4, kp4.below _ _ (Nat.le_refl _) hb⟩
end Go.Proofs.Ytgdipljaddodhaa

/-
  Pages of a tree: what is read makes up the page that it is read from (plain).
-/
import Derived.Test.YtgdipljaddodhaaZk
set_option linter.unusedSimpArgs false
set_option linter.unusedVariables false
namespace Go.Proofs.Ytgdipljaddodhaa
open Go.RowKit

theorem tk_ge {r : List UInt8} {k : Nat} (h : k ≤ r.length) : tk r k = r.take k := by unfold tk; rw [if_neg (by omega)]
theorem dr_ge {r : List UInt8} {k : Nat} (h : k ≤ r.length) : dr r k = r.drop k := by unfold dr; rw [if_neg (by omega)]
theorem dr_lt {r : List UInt8} {k : Nat} (h : r.length < k) : dr r k = [] := by unfold dr; rw [if_pos h]
theorem dr_le (r : List UInt8) (k : Nat) : (dr r k).length ≤ r.length := by
  unfold dr; split
  · simp
  · rw [List.length_drop]; omega
/-- How long an entry's key is said to be. -/
def keyN (r : List UInt8) : Nat := beVal (tk r 2)
theorem rdE_size (r : List UInt8) : (rdE r).s.size = keyN r := by
  show (str (rdKey r)).size = _
  rw [str_size]
  unfold rdKey
  rw [tk_len]
  rfl
theorem keyN_lt (r : List UInt8) : keyN r < 65536 := by
  have := beVal_lt_of (l := tk r 2) (n := 2) (by rw [tk_len]; exact Nat.le_refl _)
  unfold keyN; omega
theorem rdS_iff (r : List UInt8) : rdS r = false ↔ 8 + keyN r ≤ r.length := by
  unfold rdS rd1
  have hk : beVal (tk r 2) = keyN r := rfl
  rw [hk]
  constructor
  · intro h
    simp only [Bool.or_eq_false_iff, decide_eq_false_iff_not, Nat.not_lt] at h
    obtain ⟨⟨⟨h1, h2⟩, h3⟩, h4⟩ := h
    rw [dr_ge h1] at h2 h3 h4
    rw [dr_ge h2] at h3 h4
    rw [dr_ge h3] at h4
    simp only [List.length_drop] at h2 h3 h4
    omega
  · intro h
    have h1 : 2 ≤ r.length := by omega
    have h2 : keyN r ≤ (r.drop 2).length := by rw [List.length_drop]; omega
    have h3 : 4 ≤ ((r.drop 2).drop (keyN r)).length := by simp only [List.length_drop]; omega
    have h4 : 2 ≤ (((r.drop 2).drop (keyN r)).drop 4).length := by simp only [List.length_drop]; omega
    rw [dr_ge h1, dr_ge h2, dr_ge h3]
    simp only [Bool.or_eq_false_iff, decide_eq_false_iff_not, Nat.not_lt]
    exact ⟨⟨⟨h1, h2⟩, h3⟩, h4⟩
theorem rd_form {r : List UInt8} (h : rdS r = false) :
    rdE r = ⟨str ((r.drop 2).take (keyN r)), (beVal ((r.drop (2 + keyN r)).take 4) : Int), (beVal ((r.drop (2 + keyN r + 4)).take 2) : Int)⟩ ∧ rdR r = r.drop (8 + keyN r) ∧ keyN r = beVal (r.take 2) := by
  have hh := (rdS_iff r).1 h
  have h1 : 2 ≤ r.length := by omega
  have h2 : keyN r ≤ (r.drop 2).length := by rw [List.length_drop]; omega
  have e2 : (r.drop 2).drop (keyN r) = r.drop (2 + keyN r) := by rw [List.drop_drop]
  have h3 : 4 ≤ (r.drop (2 + keyN r)).length := by simp only [List.length_drop]; omega
  have e3 : (r.drop (2 + keyN r)).drop 4 = r.drop (2 + keyN r + 4) := by rw [List.drop_drop]
  have h4 : 2 ≤ (r.drop (2 + keyN r + 4)).length := by simp only [List.length_drop]; omega
  have hk : beVal (tk r 2) = keyN r := rfl
  have d1 : rd1 r = r.drop (2 + keyN r) := by unfold rd1; rw [hk, dr_ge h1, dr_ge h2, e2]
  refine ⟨?_, ?_, ?_⟩
  · unfold rdE rdKey
    rw [d1, hk, dr_ge h1, tk_ge h2, tk_ge h3, dr_ge h3, e3, tk_ge h4]
  · unfold rdR
    rw [d1, dr_ge h3, e3, dr_ge h4, List.drop_drop]
    congr 1; omega
  · unfold keyN; rw [tk_ge h1]
theorem be_of {l : List UInt8} {n : Nat} (h : l.length = n) : be n (beVal l) = l := by rw [← h]; exact be_beVal l
theorem rd_inv {r : List UInt8} (h : rdS r = false) : enL (rdE r) ++ rdR r = r := by
  have hh := (rdS_iff r).1 h
  obtain ⟨e1, e2, e3⟩ := rd_form h
  rw [e1, e2]
  unfold enL
  have s1 : (str ((r.drop 2).take (keyN r))).size = beVal (r.take 2) := by rw [str_size, List.length_take, List.length_drop, ← e3]; omega
  show be 2 (str ((r.drop 2).take (keyN r))).size ++ (str ((r.drop 2).take (keyN r))).data.toList ++ be 4 ((beVal ((r.drop (2 + keyN r)).take 4) : Int)).toNat ++ be 2 ((beVal ((r.drop (2 + keyN r + 4)).take 2) : Int)).toNat ++ _ = r
  rw [s1, str_data, Int.toNat_natCast, Int.toNat_natCast, be_of (by rw [List.length_take]; omega), be_of (by rw [List.length_take, List.length_drop]; omega), be_of (by rw [List.length_take, List.length_drop]; omega)]
  have f1 : r.drop (2 + keyN r + 4) = (r.drop (2 + keyN r + 4)).take 2 ++ r.drop (8 + keyN r) := by
    have := (List.take_append_drop 2 (r.drop (2 + keyN r + 4))).symm
    rw [List.drop_drop, show 2 + keyN r + 4 + 2 = 8 + keyN r from by omega] at this
    exact this
  have f2 : r.drop (2 + keyN r) = (r.drop (2 + keyN r)).take 4 ++ r.drop (2 + keyN r + 4) := by
    have := (List.take_append_drop 4 (r.drop (2 + keyN r))).symm
    rwa [List.drop_drop] at this
  have f3 : r.drop 2 = (r.drop 2).take (keyN r) ++ r.drop (2 + keyN r) := by
    have := (List.take_append_drop (keyN r) (r.drop 2)).symm
    rwa [List.drop_drop] at this
  have f4 : r = r.take 2 ++ r.drop 2 := (List.take_append_drop 2 r).symm
  simp only [List.append_assoc]
  rw [← f1, ← f2, ← f3, ← f4]
theorem rdMany_inv : ∀ (n : Nat) (r : List UInt8), rdSh n r = false → (rdMany n r).flatMap enL ++ rdRest n r = r
  | 0, r, _ => rfl
  | n + 1, r, h => by
    rw [rdSh, Bool.or_eq_false_iff] at h
    rw [rdMany, rdRest, List.flatMap_cons, List.append_assoc, rdMany_inv n _ h.2, rd_inv h.1]
theorem ri_inv {r : List UInt8} (h : riS r = false) : inP (rdE r, riC r) ++ riR r = r := by
  unfold riS at h
  rw [Bool.or_eq_false_iff, decide_eq_false_iff_not] at h
  have h4 : 4 ≤ (rdR r).length := by omega
  unfold inP riC riR
  show (enL (rdE r) ++ be 4 (beVal (tk (rdR r) 4))) ++ _ = r
  rw [tk_ge h4, dr_ge h4, be_of (by rw [List.length_take]; omega), List.append_assoc, List.take_append_drop, rd_inv h.1]
theorem riMany_inv : ∀ (n : Nat) (r : List UInt8), riSh n r = false → inB (riMany n r) ++ riRest n r = r
  | 0, r, _ => rfl
  | n + 1, r, h => by
    rw [riSh, Bool.or_eq_false_iff] at h
    have ih := riMany_inv n _ h.2
    unfold inB at ih ⊢
    rw [riMany, riRest, List.flatMap_cons, List.append_assoc, ih, ri_inv h.1]
theorem allZ_eq : ∀ {l : List UInt8}, allZ l = true → l = List.replicate l.length 0
  | [], _ => rfl
  | x :: l, h => by
    unfold allZ at h
    rw [List.all_cons, Bool.and_eq_true] at h
    rw [List.length_cons, List.replicate_succ, ← allZ_eq (l := l) h.2]
    have : x = 0 := by simpa using h.1
    rw [this]
theorem u8_of_nat (x : UInt8) : UInt8.ofNat x.toNat = x := by simp
theorem head_inv {L : List UInt8} (h : hdOk L = true) : L = (headL (L.getD 0 0) (hdC L) (hdN L)).take 8 ++ L.drop 8 := by
  unfold hdOk at h
  rw [Bool.and_eq_true] at h
  have hl : L.length = 512 := by simpa using h.1
  have h1 : L[1]? = some 0 := by simpa using h.2
  rw [head8]
  unfold hdC hdN
  rw [be_of (by rw [List.length_take, List.length_drop]; omega), be_of (by rw [List.length_take, List.length_drop]; omega)]
  match L, hl, h1 with
  | x :: y :: r, hl, h1 =>
    simp only [List.getElem?_cons_succ, List.getElem?_cons_zero, Option.some.injEq] at h1
    subst h1
    show x :: 0 :: r = [x, 0] ++ r.take 2 ++ (r.drop 2).take 4 ++ r.drop 6
    have f1 : r = r.take 2 ++ r.drop 2 := (List.take_append_drop 2 r).symm
    have f2 : r.drop 2 = (r.drop 2).take 4 ++ r.drop 6 := by
      have := (List.take_append_drop 4 (r.drop 2)).symm
      rwa [List.drop_drop] at this
    simp only [List.append_assoc, ← f2, ← f1]
    rfl
theorem hdK_get {L : List UInt8} {k : UInt8} (h : hdK L = k.toNat) : L.getD 0 0 = k := UInt8.toNat_inj.1 h
theorem leaf_inv {L : List UInt8} (h : hdOk L = true) (hk : hdK L = 2) (hs : rdSh (hdC L) (L.drop 8) = false) (hz : allZ (rdRest (hdC L) (L.drop 8)) = true) :
    leafL (hdN L) (rdMany (hdC L) (L.drop 8)) = L ∧ sumE (rdMany (hdC L) (L.drop 8)) ≤ 504 := by
  have hl : L.length = 512 := by unfold hdOk at h; rw [Bool.and_eq_true] at h; simpa using h.1
  have hi := rdMany_inv _ _ hs
  have hr := allZ_eq hz
  have hlen : sumE (rdMany (hdC L) (L.drop 8)) + (rdRest (hdC L) (L.drop 8)).length = 504 := by
    have := congrArg List.length hi
    rw [List.length_append, sumE_len, List.length_drop, hl] at this
    omega
  have hrl : (rdRest (hdC L) (L.drop 8)).length = 512 - (8 + sumE (rdMany (hdC L) (L.drop 8))) := by omega
  rw [hrl] at hr
  refine ⟨?_, by omega⟩
  unfold leafL
  rw [rdMany_len, ← hr, List.append_assoc, hi]
  have := head_inv h
  rw [hdK_get (k := 2) hk] at this
  exact this.symm
theorem inner_inv {L : List UInt8} (h : hdOk L = true) (hk : hdK L = 3) (hn : hdN L = 0) (hs : riSh (hdC L) (dr (L.drop 8) 4) = false) (hz : allZ (riRest (hdC L) (dr (L.drop 8) 4)) = true) :
    innL (beVal (tk (L.drop 8) 4)) (riMany (hdC L) (dr (L.drop 8) 4)) (hdC L) = L ∧ sumE ((riMany (hdC L) (dr (L.drop 8) 4)).map Prod.fst) + 4 * hdC L ≤ 500 := by
  have hl : L.length = 512 := by unfold hdOk at h; rw [Bool.and_eq_true] at h; simpa using h.1
  have h4 : 4 ≤ (L.drop 8).length := by rw [List.length_drop]; omega
  rw [dr_ge h4] at hs hz ⊢
  rw [tk_ge h4]
  have hi := riMany_inv _ _ hs
  have hr := allZ_eq hz
  have hlen : sumE ((riMany (hdC L) ((L.drop 8).drop 4)).map Prod.fst) + 4 * hdC L + (riRest (hdC L) ((L.drop 8).drop 4)).length = 500 := by
    have := congrArg List.length hi
    rw [List.length_append, inB_len, riMany_len, List.length_drop, List.length_drop, hl] at this
    omega
  have hrl : (riRest (hdC L) ((L.drop 8).drop 4)).length = 512 - (12 + sumE ((riMany (hdC L) ((L.drop 8).drop 4)).map Prod.fst) + 4 * (riMany (hdC L) ((L.drop 8).drop 4)).length) := by rw [riMany_len]; omega
  rw [hrl] at hr
  refine ⟨?_, by omega⟩
  unfold innL
  rw [← hr, List.append_assoc, List.append_assoc, hi, be_of (by rw [List.length_take]; omega), List.take_append_drop]
  have := head_inv h
  rw [hdK_get (k := 3) hk, hn] at this
  exact this.symm
/-- What is read may stand in an entry. -/
theorem rdE_ok (r : List UInt8) : (rdE r).ok := by
  refine ⟨?_, ?_, ?_⟩
  · rw [rdE_size]; have := keyN_lt r; unfold maxLen; omega
  · show (0 : Int) ≤ (beVal (tk (rd1 r) 4) : Int) ∧ (beVal (tk (rd1 r) 4) : Int) ≤ 4294967295
    have := beVal_lt_of (l := tk (rd1 r) 4) (n := 4) (by rw [tk_len]; exact Nat.le_refl _)
    omega
  · show (0 : Int) ≤ (beVal (tk (dr (rd1 r) 4) 2) : Int) ∧ (beVal (tk (dr (rd1 r) 4) 2) : Int) ≤ 65535
    have := beVal_lt_of (l := tk (dr (rd1 r) 4) 2) (n := 2) (by rw [tk_len]; exact Nat.le_refl _)
    omega
theorem rdMany_ok : ∀ (n : Nat) (r : List UInt8), ∀ e ∈ rdMany n r, e.ok
  | 0, _ => by simp [rdMany]
  | n + 1, r => by
    intro e he
    rw [rdMany] at he
    rcases List.mem_cons.1 he with rfl | he
    · exact rdE_ok r
    · exact rdMany_ok n _ e he
theorem riMany_ok : ∀ (n : Nat) (r : List UInt8), ∀ p ∈ riMany n r, p.1.ok ∧ p.2 < 4294967296
  | 0, _ => by simp [riMany]
  | n + 1, r => by
    intro e he
    rw [riMany] at he
    rcases List.mem_cons.1 he with rfl | he
    · refine ⟨rdE_ok r, ?_⟩
      have := beVal_lt_of (l := tk (rdR r) 4) (n := 4) (by rw [tk_len]; exact Nat.le_refl _)
      exact this
    · exact riMany_ok n _ e he
theorem rdR_le (r : List UInt8) : (rdR r).length ≤ r.length := by
  unfold rdR rd1
  exact Nat.le_trans (dr_le _ _) (Nat.le_trans (dr_le _ _) (Nat.le_trans (dr_le _ _) (dr_le _ _)))
theorem rdRest_le : ∀ (n : Nat) (r : List UInt8), (rdRest n r).length ≤ r.length
  | 0, _ => Nat.le_refl _
  | n + 1, r => Nat.le_trans (rdRest_le n _) (rdR_le r)
theorem riRest_le : ∀ (n : Nat) (r : List UInt8), (riRest n r).length ≤ r.length
  | 0, _ => Nat.le_refl _
  | n + 1, r => Nat.le_trans (riRest_le n _) (Nat.le_trans (dr_le _ _) (rdR_le r))
theorem allZ_drop {l : List UInt8} {k : Nat} {x : UInt8} (h : l[k]? = some x) : allZ (l.drop k) = ((x == 0) && allZ (l.drop (k + 1))) := by
  have hk := lt_of_at h
  rw [List.drop_eq_getElem_cons hk]
  have : l[k] = x := by simpa [List.getElem?_eq_getElem hk] using h
  rw [this]; rfl
end Go.Proofs.Ytgdipljaddodhaa

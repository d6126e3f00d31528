/-
  Slots of a heap page: a page as its records (pure facts on lists).
-/
import Derived.Test.YtcpbkaeilmabaaaSc
namespace Go.Proofs.Ytcpbkaeilmabaaa
open Go.RowKit

/-- The i-th record of a page. -/
def recK (l : List UInt8) (i : Nat) : List UInt8 := (l.drop (two l (8 + 4 * i))).take (two l (8 + 4 * i + 2))
theorem endK_some {l : List UInt8} {m e : Nat} (h : endK l m = some e) {k : Nat} (hk : k < m) : ∃ f, endK l k = some f ∧ f ≤ 512 ∧ two l (8 + 4 * k + 2) ≠ 0 ∧ two l (8 + 4 * k) + two l (8 + 4 * k + 2) = f ∧ endK l (k + 1) = some (two l (8 + 4 * k)) := by
  rcases h0 : endK l (k + 1) with _ | x
  · rw [endK_none l (k + 1) h0 m hk] at h; cases h
  · rw [endK] at h0
    rcases h1 : endK l k with _ | f
    · rw [h1] at h0; cases h0
    · rw [h1, Option.bind_some] at h0
      split at h0
      · rename_i hc
        injection h0 with h0
        exact ⟨f, rfl, endK_le l k f h1, hc.1, hc.2, by rw [h0]⟩
      · cases h0
theorem recK_len {l : List UInt8} {m e : Nat} (hl : l.length = 512) (h : endK l m = some e) {k : Nat} (hk : k < m) : (recK l k).length = two l (8 + 4 * k + 2) := by
  obtain ⟨f, _, h2, _, h3, _⟩ := endK_some h hk
  unfold recK
  rw [List.length_take, List.length_drop]; omega
/-- The records, the last one first. -/
def bk (rs : List (List UInt8)) : List UInt8 := rs.reverse.flatten
theorem bk_snoc (rs : List (List UInt8)) (r : List UInt8) : bk (rs ++ [r]) = r ++ bk rs := by simp [bk]
theorem bk_app (a b : List (List UInt8)) : bk (a ++ b) = bk b ++ bk a := by simp [bk]
theorem bk_cons (r : List UInt8) (rs : List (List UInt8)) : bk (r :: rs) = bk rs ++ r := by simp [bk]
/-- The slots of records that end at e. -/
def slB : Nat → List (List UInt8) → List UInt8
  | _, [] => []
  | e, r :: rs => be 2 (e - r.length) ++ (be 2 r.length ++ slB (e - r.length) rs)
theorem slB_len : ∀ (rs : List (List UInt8)) (e : Nat), (slB e rs).length = 4 * rs.length
  | [], _ => rfl
  | r :: rs, e => by rw [slB, List.length_append, List.length_append, be_len, be_len, slB_len rs, List.length_cons]; omega
theorem slB_snoc : ∀ (rs : List (List UInt8)) (e : Nat) (r : List UInt8), slB e (rs ++ [r]) = slB e rs ++ (be 2 (e - (bk rs).length - r.length) ++ be 2 r.length)
  | [], e, r => by simp [slB, bk]
  | x :: rs, e, r => by
    rw [List.cons_append, slB, slB_snoc rs (e - x.length) r, slB, bk_cons, List.length_append]
    rw [show e - x.length - (bk rs).length - r.length = e - ((bk rs).length + x.length) - r.length from by omega]
    simp only [List.append_assoc]
def hd8 (m next : Nat) : List UInt8 := [1, 0] ++ be 2 m ++ be 4 next
theorem hd8_len (m next : Nat) : (hd8 m next).length = 8 := by simp [hd8, be_len]
theorem hd8_of (m next : Nat) : (headL 1 m next).take 8 = hd8 m next := by
  unfold headL headP
  rw [List.take_append_of_le_length (by simp [be_len]), show (be 4 next).take 4 = be 4 next from List.take_of_length_le (by rw [be_len]; omega)]
  exact List.take_of_length_le (by simp [be_len])
def zs (n : Nat) : List UInt8 := List.replicate n 0
theorem zs_len (n : Nat) : (zs n).length = n := List.length_replicate
theorem zs_add (a b : Nat) : zs (a + b) = zs a ++ zs b := by simp [zs, List.replicate_append_replicate]
def tot (rs : List (List UInt8)) : Nat := (bk rs).length
theorem tot_snoc (rs : List (List UInt8)) (r : List UInt8) : tot (rs ++ [r]) = tot rs + r.length := by unfold tot; rw [bk_snoc, List.length_append]; omega
theorem tot_cons (rs : List (List UInt8)) (r : List UInt8) : tot (r :: rs) = tot rs + r.length := by unfold tot; rw [bk_cons, List.length_append]
theorem tot_app (a b : List (List UInt8)) : tot (a ++ b) = tot a + tot b := by unfold tot; rw [bk_app, List.length_append]; omega
/-- A page with these records. -/
def layL (next : Nat) (rs : List (List UInt8)) : List UInt8 := hd8 rs.length next ++ (slB 512 rs ++ (zs (504 - 4 * rs.length - tot rs) ++ bk rs))
/-- Records that have room. -/
def Fits (rs : List (List UInt8)) : Prop := 8 + 4 * rs.length + tot rs ≤ 512 ∧ ∀ r ∈ rs, r ≠ []
theorem Fits.nil : Fits [] := ⟨by simp [tot, bk], by simp⟩
theorem Fits.snoc {rs : List (List UInt8)} (h : Fits rs) {r : List UInt8} (hr : r ≠ []) (hm : r.length + (8 + 4 * (rs.length + 1) + tot rs) ≤ 512) : Fits (rs ++ [r]) := by
  refine ⟨?_, ?_⟩
  · rw [tot_snoc, List.length_append]; simp; omega
  · intro x hx
    rcases List.mem_append.1 hx with hx | hx
    · exact h.2 x hx
    · rw [List.mem_singleton] at hx; subst hx; exact hr
theorem layL_len {next : Nat} {rs : List (List UInt8)} (h : Fits rs) : (layL next rs).length = 512 := by
  have := h.1
  unfold layL
  simp only [List.length_append, hd8_len, slB_len, zs_len]
  unfold tot at *
  omega
theorem lay_hd {next : Nat} {rs : List (List UInt8)} (h : Fits rs) : hdOk (layL next rs) = true ∧ hdK (layL next rs) = 1 := by
  refine ⟨?_, rfl⟩
  unfold hdOk
  rw [layL_len h]
  rfl
theorem beVal_be2 (m : Nat) (h : m < 65536) : 256 * (UInt8.ofNat (m / 256)).toNat + (UInt8.ofNat m).toNat = m := by simp; omega
theorem be2_eq (m : Nat) : be 2 m = [UInt8.ofNat (m / 256), UInt8.ofNat m] := by simp [be]
theorem lay_C {next : Nat} {rs : List (List UInt8)} (h : Fits rs) : hdC (layL next rs) = rs.length := by
  have hm : rs.length < 65536 := by have := h.1; omega
  rw [hdC_eq (l := layL next rs) (x := UInt8.ofNat (rs.length / 256)) (y := UInt8.ofNat rs.length) (by unfold layL hd8; rw [be2_eq]; rfl) (by unfold layL hd8; rw [be2_eq]; rfl)]
  exact beVal_be2 _ hm
theorem slB_at : ∀ (rs : List (List UInt8)) (e i : Nat) (r : List UInt8), rs[i]? = some r → (slB e rs).drop (4 * i) = be 2 (e - tot (rs.take i) - r.length) ++ (be 2 r.length ++ slB (e - tot (rs.take i) - r.length) (rs.drop (i + 1)))
  | [], e, i, r, h => by simp at h
  | x :: rs, e, 0, r, h => by
    simp only [List.getElem?_cons_zero, Option.some.injEq] at h
    subst h
    simp [slB, tot, bk]
  | x :: rs, e, i + 1, r, h => by
    simp only [List.getElem?_cons_succ] at h
    rw [slB, ← List.append_assoc, show 4 * (i + 1) = 4 + 4 * i from by omega, ← List.drop_drop, List.drop_left' (by rw [List.length_append, be_len, be_len]), slB_at rs _ i r h, List.take_succ_cons, tot_cons, List.drop_succ_cons]
    rw [show e - x.length - tot (rs.take i) - r.length = e - (tot (rs.take i) + x.length) - r.length from by omega]
theorem two_of {l : List UInt8} {i m : Nat} {t : List UInt8} (h : l.drop i = be 2 m ++ t) (hm : m < 65536) : two l i = m := by
  unfold two
  have h0 : l.getD i 0 = UInt8.ofNat (m / 256) := by
    have : l[i]? = (l.drop i)[0]? := by rw [List.getElem?_drop]; rfl
    rw [List.getD_eq_getElem?_getD, this, h, be2_eq]; rfl
  have h1 : l.getD (i + 1) 0 = UInt8.ofNat m := by
    have : l[i + 1]? = (l.drop i)[1]? := by rw [List.getElem?_drop]
    rw [List.getD_eq_getElem?_getD, this, h, be2_eq]; rfl
  rw [h0, h1]
  exact beVal_be2 m hm
theorem lay_drop8 (next : Nat) (rs : List (List UInt8)) : (layL next rs).drop 8 = slB 512 rs ++ (zs (504 - 4 * rs.length - tot rs) ++ bk rs) := List.drop_left' (hd8_len _ _)
theorem tot_take_succ {rs : List (List UInt8)} {i : Nat} {r : List UInt8} (h : rs[i]? = some r) : tot (rs.take (i + 1)) = tot (rs.take i) + r.length := by
  rw [List.take_add_one, h]; exact tot_snoc _ _
theorem tot_take_le (rs : List (List UInt8)) (i : Nat) : tot (rs.take i) ≤ tot rs := by
  have h := tot_app (rs.take i) (rs.drop i)
  rw [List.take_append_drop] at h
  omega
theorem lay_two {next : Nat} {rs : List (List UInt8)} (h : Fits rs) {i : Nat} {r : List UInt8} (hr : rs[i]? = some r) :
    two (layL next rs) (8 + 4 * i) = 512 - tot (rs.take (i + 1)) ∧ two (layL next rs) (8 + 4 * i + 2) = r.length := by
  have hi := lt_of_at hr
  have ht := tot_take_le rs (i + 1)
  have hs := tot_take_succ hr
  have h1 := h.1
  have hd : (layL next rs).drop (8 + 4 * i) = be 2 (512 - tot (rs.take i) - r.length) ++ (be 2 r.length ++ (slB (512 - tot (rs.take i) - r.length) (rs.drop (i + 1)) ++ (zs (504 - 4 * rs.length - tot rs) ++ bk rs))) := by
    rw [← List.drop_drop, lay_drop8, List.drop_append_of_le_length (by rw [slB_len]; omega), slB_at rs 512 i r hr]
    simp only [List.append_assoc]
  refine ⟨?_, ?_⟩
  · rw [two_of hd (by omega)]; omega
  · refine two_of (t := slB (512 - tot (rs.take i) - r.length) (rs.drop (i + 1)) ++ (zs (504 - 4 * rs.length - tot rs) ++ bk rs)) ?_ (by omega)
    rw [← List.drop_drop, hd]
    exact List.drop_left' (be_len _ _)
theorem lay_end {next : Nat} {rs : List (List UInt8)} (h : Fits rs) : ∀ i, i ≤ rs.length → endK (layL next rs) i = some (512 - tot (rs.take i))
  | 0, _ => rfl
  | i + 1, hi => by
    have hr : rs[i]? = some (rs[i]'(by omega)) := List.getElem?_eq_getElem (by omega)
    obtain ⟨t1, t2⟩ := lay_two (next := next) h hr
    have hs := tot_take_succ hr
    have ht := tot_take_le rs (i + 1)
    have h1 := h.1
    have hne : (rs[i]'(by omega)).length ≠ 0 := fun e => h.2 _ (List.getElem_mem (by omega)) (List.eq_nil_of_length_eq_zero e)
    rw [endK, lay_end h i (by omega), Option.bind_some, t1, t2, if_pos ⟨hne, by omega⟩]
theorem allZ_zs (n : Nat) : allZ (zs n) = true := by
  unfold allZ zs
  simp
theorem lay_page {next : Nat} {rs : List (List UInt8)} (h : Fits rs) : isPage (layL next rs) = true := by
  have h1 := h.1
  obtain ⟨a, b⟩ := lay_hd (next := next) h
  have c := lay_C (next := next) h
  have e := lay_end (next := next) h rs.length (Nat.le_refl _)
  rw [List.take_length] at e
  unfold isPage pageEnd
  rw [a, b, c, e]
  simp only
  have hz : ((layL next rs).drop (8 + 4 * rs.length)).take (512 - tot rs - (8 + 4 * rs.length)) = zs (504 - 4 * rs.length - tot rs) := by
    rw [← List.drop_drop, lay_drop8, List.drop_left' (slB_len _ _), List.take_append_of_le_length (by rw [zs_len]; omega)]
    exact List.take_of_length_le (by rw [zs_len]; omega)
  rw [hz, allZ_zs]
  simp; omega
theorem lay_rec {next : Nat} {rs : List (List UInt8)} (h : Fits rs) {i : Nat} {r : List UInt8} (hr : rs[i]? = some r) : recK (layL next rs) i = r := by
  have hi := lt_of_at hr
  have h1 := h.1
  obtain ⟨t1, t2⟩ := lay_two (next := next) h hr
  have hs := tot_take_succ hr
  unfold recK
  rw [t1, t2]
  have e1 : rs = rs.take i ++ (r :: rs.drop (i + 1)) := by
    have := List.take_append_drop i rs
    rw [List.drop_eq_getElem_cons hi] at this
    rw [List.getElem?_eq_getElem hi] at hr
    injection hr with hr
    rw [hr] at this
    exact this.symm
  have e2 : bk rs = bk (rs.drop (i + 1)) ++ (r ++ bk (rs.take i)) := by
    have : bk rs = bk (rs.take i ++ (r :: rs.drop (i + 1))) := by rw [← e1]
    rw [this, bk_app, bk_cons, List.append_assoc]
  have e3 : tot rs = tot (rs.take (i + 1)) + tot (rs.drop (i + 1)) := by
    have := tot_app (rs.take (i + 1)) (rs.drop (i + 1))
    rwa [List.take_append_drop] at this
  have e4 : layL next rs = (hd8 rs.length next ++ (slB 512 rs ++ (zs (504 - 4 * rs.length - tot rs) ++ bk (rs.drop (i + 1))))) ++ (r ++ bk (rs.take i)) := by
    unfold layL
    rw [e2]
    simp only [List.append_assoc]
  rw [e4, List.drop_left' (by simp only [List.length_append, hd8_len, slB_len, zs_len]; unfold tot at *; omega)]
  exact List.take_left' rfl
theorem bk_nil : bk [] = [] := rfl
theorem lay_new (next : Nat) : headL 1 0 next = layL next [] := by
  unfold headL headP layL hd8
  rw [show (be 4 next).take 4 = be 4 next from List.take_of_length_le (by rw [be_len]; omega), show tot [] = 0 from rfl, bk_nil, List.append_nil]
  show _ ++ List.replicate (508 - 4) 0 = _ ++ ([] ++ zs (504 - 4 * 0 - 0))
  rw [List.nil_append, List.length_nil, zs]
theorem lay_link (next other : Nat) (rs : List (List UInt8)) : (headL 1 rs.length other).take 8 ++ (layL next rs).drop 8 = layL other rs := by
  rw [hd8_of, lay_drop8]; rfl
/-- What Add makes of a page: the record's bytes, its slot, the count. -/
def addL (l r : List UInt8) (m e : Nat) : List UInt8 :=
  (((((splice l (e - r.length) r).set (8 + 4 * m) (UInt8.ofNat ((e - r.length) / 256))).set (8 + 4 * m + 1) (UInt8.ofNat (e - r.length))).set (8 + 4 * m + 2) (UInt8.ofNat (r.length / 256))).set (8 + 4 * m + 3) (UInt8.ofNat r.length) |>.set 2 (UInt8.ofNat ((m + 1) / 256))).set 3 (UInt8.ofNat (m + 1))
theorem addL_len (l r : List UInt8) (m e : Nat) (h : e ≤ l.length) (hr : r.length ≤ e) : (addL l r m e).length = l.length := by
  unfold addL splice
  simp only [List.length_set, List.length_append, List.length_take, List.length_drop]
  omega
theorem lay_add (next : Nat) {rs : List (List UInt8)} (r : List UInt8) (hm : r.length + (8 + 4 * (rs.length + 1) + tot rs) ≤ 512) : addL (layL next rs) r rs.length (512 - tot rs) = layL next (rs ++ [r]) := by
  have e0 : layL next rs = (hd8 rs.length next ++ (slB 512 rs ++ (zs 4 ++ zs (500 - 4 * rs.length - tot rs - r.length)))) ++ (zs r.length ++ bk rs) := by
    unfold layL
    rw [show 504 - 4 * rs.length - tot rs = 4 + (500 - 4 * rs.length - tot rs - r.length) + r.length from by omega, zs_add, zs_add]
    simp only [List.append_assoc]
  have hlen : (hd8 rs.length next ++ (slB 512 rs ++ (zs 4 ++ zs (500 - 4 * rs.length - tot rs - r.length)))).length = 512 - tot rs - r.length := by
    simp only [List.length_append, hd8_len, slB_len, zs_len]; omega
  have e1 : splice (layL next rs) (512 - tot rs - r.length) r = hd8 rs.length next ++ (slB 512 rs ++ (zs 4 ++ (zs (500 - 4 * rs.length - tot rs - r.length) ++ (r ++ bk rs)))) := by
    unfold splice
    rw [e0, List.take_left' hlen, ← List.append_assoc (hd8 rs.length next ++ _) (zs r.length) (bk rs), List.drop_left' (by rw [List.length_append, hlen, zs_len])]
    simp only [List.append_assoc]
  unfold addL
  rw [e1]
  have hb : ∀ (x : List UInt8) (k : Nat) (b : UInt8), (hd8 rs.length next ++ (slB 512 rs ++ x)).set (8 + 4 * rs.length + k) b = hd8 rs.length next ++ (slB 512 rs ++ x.set k b) := by
    intro x k b
    rw [List.set_append_right _ _ (by rw [hd8_len]; omega), hd8_len, List.set_append_right _ _ (by rw [slB_len]; omega), slB_len]
    congr 3
    omega
  have b0 := hb (zs 4 ++ (zs (500 - 4 * rs.length - tot rs - r.length) ++ (r ++ bk rs))) 0
  rw [Nat.add_zero] at b0
  rw [b0, hb, hb, hb]
  have hz : ((((zs 4 ++ (zs (500 - 4 * rs.length - tot rs - r.length) ++ (r ++ bk rs))).set 0 (UInt8.ofNat ((512 - tot rs - r.length) / 256))).set 1 (UInt8.ofNat (512 - tot rs - r.length))).set 2 (UInt8.ofNat (r.length / 256))).set 3 (UInt8.ofNat r.length) = be 2 (512 - tot rs - r.length) ++ (be 2 r.length ++ (zs (500 - 4 * rs.length - tot rs - r.length) ++ (r ++ bk rs))) := by
    rw [be2_eq, be2_eq]; rfl
  rw [hz]
  have hh : ∀ x : List UInt8, ((hd8 rs.length next ++ x).set 2 (UInt8.ofNat ((rs.length + 1) / 256))).set 3 (UInt8.ofNat (rs.length + 1)) = hd8 (rs.length + 1) next ++ x := by
    intro x
    unfold hd8
    rw [be2_eq, be2_eq]; rfl
  rw [hh]
  unfold layL
  rw [List.length_append, List.length_singleton, tot_snoc, bk_snoc, slB_snoc, show 504 - 4 * (rs.length + 1) - (tot rs + r.length) = 500 - 4 * rs.length - tot rs - r.length from by omega]
  simp only [List.append_assoc]
  rfl
end Go.Proofs.Ytcpbkaeilmabaaa

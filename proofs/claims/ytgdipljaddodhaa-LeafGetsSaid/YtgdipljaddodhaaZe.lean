/-
  Entries of a tree as bytes: what was put is read again (plain).
-/
import Derived.Test.YtgdipljaddodhaaYv
import Derived.Test.YtgdipljaddodhaaZn
set_option linter.unusedSimpArgs false
namespace Go.Proofs.Ytgdipljaddodhaa
open Go.RowKit

theorem tk_app (a r : List UInt8) {k : Nat} (h : a.length = k) : tk (a ++ r) k = a := by
  unfold tk
  rw [if_neg (by simp only [List.length_append]; omega), ← h, List.take_left]
theorem dr_app (a r : List UInt8) {k : Nat} (h : a.length = k) : dr (a ++ r) k = r := by
  unfold dr
  rw [if_neg (by simp only [List.length_append]; omega), ← h, List.drop_left]
theorem rd_app (e : En) (r : List UInt8) (hs : e.s.size < 65536) (hp : 0 ≤ e.p ∧ e.p ≤ 4294967295) (hq : 0 ≤ e.q ∧ e.q ≤ 65535) :
    rdE (enL e ++ r) = e ∧ rdR (enL e ++ r) = r ∧ rdS (enL e ++ r) = false := by
  obtain ⟨s, p, q⟩ := e
  simp only at hs hp hq
  have e0 : enL ⟨s, p, q⟩ ++ r = be 2 s.size ++ (s.data.toList ++ (be 4 p.toNat ++ (be 2 q.toNat ++ r))) := by
    unfold enL; simp only [List.append_assoc]
  rw [e0]
  have hl : s.data.toList.length = s.size := rfl
  have t1 : tk (be 2 s.size ++ (s.data.toList ++ (be 4 p.toNat ++ (be 2 q.toNat ++ r)))) 2 = be 2 s.size := tk_app _ _ (be_len 2 _)
  have t2 : dr (be 2 s.size ++ (s.data.toList ++ (be 4 p.toNat ++ (be 2 q.toNat ++ r)))) 2 = s.data.toList ++ (be 4 p.toNat ++ (be 2 q.toNat ++ r)) := dr_app _ _ (be_len 2 _)
  have v1 : beVal (be 2 s.size) = s.size := by rw [beVal_be]; exact Nat.mod_eq_of_lt (by omega)
  have v2 : beVal (be 4 p.toNat) = p.toNat := by rw [beVal_be]; exact Nat.mod_eq_of_lt (by omega)
  have v3 : beVal (be 2 q.toNat) = q.toNat := by rw [beVal_be]; exact Nat.mod_eq_of_lt (by omega)
  have k1 : rdKey (be 2 s.size ++ (s.data.toList ++ (be 4 p.toNat ++ (be 2 q.toNat ++ r)))) = s.data.toList := by unfold rdKey; rw [t1, t2, v1]; exact tk_app _ _ hl
  have k2 : rd1 (be 2 s.size ++ (s.data.toList ++ (be 4 p.toNat ++ (be 2 q.toNat ++ r)))) = be 4 p.toNat ++ (be 2 q.toNat ++ r) := by unfold rd1; rw [t1, t2, v1]; exact dr_app _ _ hl
  have t3 : tk (be 4 p.toNat ++ (be 2 q.toNat ++ r)) 4 = be 4 p.toNat := tk_app _ _ (be_len 4 _)
  have t4 : dr (be 4 p.toNat ++ (be 2 q.toNat ++ r)) 4 = be 2 q.toNat ++ r := dr_app _ _ (be_len 4 _)
  have t5 : tk (be 2 q.toNat ++ r) 2 = be 2 q.toNat := tk_app _ _ (be_len 2 _)
  have t6 : dr (be 2 q.toNat ++ r) 2 = r := dr_app _ _ (be_len 2 _)
  refine ⟨?_, ?_, ?_⟩
  · unfold rdE
    rw [k1, k2, t3, t4, t5, v2, v3, str_of]
    have h1 : ((p.toNat : Nat) : Int) = p := by omega
    have h2 : ((q.toNat : Nat) : Int) = q := by omega
    rw [h1, h2]
  · unfold rdR; rw [k2, t4, t6]
  · unfold rdS
    rw [t1, t2, v1, k2, t4]
    simp only [List.length_append, be_len, hl, Bool.or_eq_false_iff, decide_eq_false_iff_not]
    refine ⟨⟨⟨?_, ?_⟩, ?_⟩, ?_⟩ <;> omega
def okE (e : En) : Prop := e.s.size < 65536 ∧ (0 ≤ e.p ∧ e.p ≤ 4294967295) ∧ (0 ≤ e.q ∧ e.q ≤ 65535)
theorem rdMany_app : ∀ (l : List En) (r : List UInt8), (∀ e ∈ l, okE e) → rdMany l.length (l.flatMap enL ++ r) = l ∧ rdRest l.length (l.flatMap enL ++ r) = r ∧ rdSh l.length (l.flatMap enL ++ r) = false
  | [], r, _ => ⟨rfl, rfl, rfl⟩
  | e :: l, r, h => by
    obtain ⟨h1, h2, h3⟩ := h e (by simp)
    obtain ⟨a, b, c⟩ := rd_app e (l.flatMap enL ++ r) h1 h2 h3
    obtain ⟨x, y, z⟩ := rdMany_app l r (fun u hu => h u (by simp [hu]))
    have e0 : (e :: l).flatMap enL ++ r = enL e ++ (l.flatMap enL ++ r) := by rw [List.flatMap_cons, List.append_assoc]
    rw [e0, List.length_cons]
    refine ⟨?_, ?_, ?_⟩
    · rw [rdMany, a, b, x]
    · rw [rdRest, b, y]
    · rw [rdSh, c, b, z]; rfl
theorem allZ_rep (n : Nat) : allZ (List.replicate n 0) = true := by
  unfold allZ
  rw [List.all_eq_true]
  intro x hx
  simp [List.eq_of_mem_replicate hx]
theorem head8 (k : UInt8) (c n : Nat) : (headL k c n).take 8 = [k, 0] ++ be 2 c ++ be 4 n := by
  rw [← head0_eq]
  unfold head0
  rw [List.take_left' (by simp only [List.length_append, List.length_cons, List.length_nil, be_len])]
/-- A page of a head and what stands behind it. -/
theorem hd_page (k : UInt8) (c n : Nat) (X : List UInt8) (hc : c < 65536) (hn : n < 4294967296) (hX : X.length = 504) :
    hdOk ((headL k c n).take 8 ++ X) = true ∧ hdK ((headL k c n).take 8 ++ X) = k.toNat ∧ hdC ((headL k c n).take 8 ++ X) = c ∧ hdN ((headL k c n).take 8 ++ X) = n ∧ ((headL k c n).take 8 ++ X).drop 8 = X := by
  rw [head8]
  have hb2 : (be 2 c).length = 2 := be_len 2 c
  have hb4 : (be 4 n).length = 4 := be_len 4 n
  have v2 : beVal (be 2 c) = c := by rw [beVal_be]; exact Nat.mod_eq_of_lt (by omega)
  have v4 : beVal (be 4 n) = n := by rw [beVal_be]; exact Nat.mod_eq_of_lt (by omega)
  have e1 : ([k, 0] ++ be 2 c ++ be 4 n) ++ X = [k, 0] ++ (be 2 c ++ (be 4 n ++ X)) := by simp only [List.append_assoc]
  refine ⟨?_, ?_, ?_, ?_, ?_⟩
  · unfold hdOk
    rw [e1]
    have : ([k, 0] ++ (be 2 c ++ (be 4 n ++ X))).length = 512 := by simp only [List.length_append, List.length_cons, List.length_nil, be_len, hX]
    rw [this]
    rfl
  · rw [e1]; rfl
  · rw [e1]
    unfold hdC
    have : ([k, 0] ++ (be 2 c ++ (be 4 n ++ X))).drop 2 = be 2 c ++ (be 4 n ++ X) := rfl
    rw [this, List.take_left' hb2, v2]
  · unfold hdN
    have e2 : ([k, 0] ++ be 2 c ++ be 4 n) ++ X = ([k, 0] ++ be 2 c) ++ (be 4 n ++ X) := by simp only [List.append_assoc]
    rw [e2, List.drop_left' (by simp only [List.length_append, List.length_cons, List.length_nil, be_len]), List.take_left' hb4, v4]
  · rw [List.drop_left' (by simp only [List.length_append, List.length_cons, List.length_nil, be_len])]
theorem mayEn_sizes {l : List En} (h : mayEn l = true) : ∀ e ∈ l, e.s.size ≤ 200 := by
  unfold mayEn at h
  rw [Bool.and_eq_true] at h
  have := List.all_eq_true.1 h.1
  intro e he
  simpa using this e he
theorem leafL_page (next : Nat) (l : List En) (hnx : next < 4294967296) (hok : ∀ e ∈ l, e.ok) (hm : mayEn l = true) (hf : sumE l ≤ 504) :
    hdOk (leafL next l) = true ∧ hdK (leafL next l) = 2 ∧ hdC (leafL next l) = l.length ∧ hdN (leafL next l) = next ∧ (leafL next l).length = 512 ∧
    rdMany l.length ((leafL next l).drop 8) = l ∧ rdRest l.length ((leafL next l).drop 8) = List.replicate (512 - (8 + sumE l)) 0 ∧ rdSh l.length ((leafL next l).drop 8) = false := by
  have hs := mayEn_sizes hm
  have hoks : ∀ e ∈ l, okE e := fun e he => ⟨by have := hs e he; omega, (hok e he).2.1, (hok e he).2.2⟩
  have hll : l.length ≤ 63 := by have := sumE_eq l; omega
  have e0 : leafL next l = (headL 2 l.length next).take 8 ++ (l.flatMap enL ++ List.replicate (512 - (8 + sumE l)) 0) := by unfold leafL; rw [List.append_assoc]
  have hX : (l.flatMap enL ++ List.replicate (512 - (8 + sumE l)) 0).length = 504 := by rw [List.length_append, sumE_len, List.length_replicate]; omega
  obtain ⟨a, b, c, d, e⟩ := hd_page 2 l.length next _ (by omega) hnx hX
  obtain ⟨x, y, z⟩ := rdMany_app l (List.replicate (512 - (8 + sumE l)) 0) hoks
  rw [e0]
  refine ⟨a, b, c, d, ?_, ?_, ?_, ?_⟩
  · rw [List.length_append, hX, List.length_take, headL_len]; rfl
  · rw [e]; exact x
  · rw [e]; exact y
  · rw [e]; exact z
end Go.Proofs.Ytgdipljaddodhaa

/-
  Bytes as values: what a value's bytes are read as (plain).
-/
import Derived.Test.YtcpbkaeilmabaabRe
import Derived.Test.YtcpbkaeilmabaabSl
namespace Go.Proofs.Ytcpbkaeilmabaab
open Go.RowKit

def beVal (l : List UInt8) : Nat := l.foldl (fun u x => 256 * u + x.toNat) 0
theorem snoc_ind {α : Type} {P : List α → Prop} (h0 : P []) (h1 : ∀ r x, P r → P (r ++ [x])) (l : List α) : P l := by
  have key : ∀ (m : List α), P m.reverse := by
    intro m
    induction m with
    | nil => exact h0
    | cons x r ih => rw [List.reverse_cons]; exact h1 _ _ ih
  have := key l.reverse
  rwa [List.reverse_reverse] at this
theorem beVal_snoc (l : List UInt8) (x : UInt8) : beVal (l ++ [x]) = 256 * beVal l + x.toNat := by simp [beVal, List.foldl_append]
theorem beVal_be : ∀ n u, beVal (be n u) = u % 256 ^ n
  | 0, u => by simp [be, beVal, Nat.mod_one]
  | n + 1, u => by
    rw [be, beVal_snoc, beVal_be n (u / 256), Nat.pow_succ, Nat.mul_comm (256 ^ n) 256, Nat.mod_mul]
    simp
    omega
theorem beVal_lt : ∀ l : List UInt8, beVal l < 256 ^ l.length := by
  intro l
  refine snoc_ind (P := fun l => beVal l < 256 ^ l.length) (by simp [beVal]) (fun r x ih => ?_) l
  · rw [beVal_snoc, List.length_append, List.length_singleton, Nat.pow_succ]
    have := x.toNat_lt
    omega
theorem be_beVal (l : List UInt8) : be l.length (beVal l) = l := by
  refine snoc_ind (P := fun l => be l.length (beVal l) = l) rfl (fun r x ih => ?_) l
  · rw [List.length_append, List.length_singleton, be, beVal_snoc]
    have h1 : (256 * beVal r + x.toNat) / 256 = beVal r := by have := x.toNat_lt; omega
    rw [h1, ih]
    congr 2
    apply UInt8.toNat_inj.1
    have := x.toNat_lt
    simp
inductive Dec
  | bad (e : Int)
  | ok (v : Vl) (r : List UInt8)
def decB : List UInt8 → Dec
  | [] => .bad 3
  | x :: s => if 1 < x.toNat then .bad 2 else .ok ⟨2, x.toNat, ⟨#[]⟩⟩ s
def decT : List UInt8 → Dec
  | [] => .bad 3
  | x :: s => if 48 < x.toNat then .bad 4 else if s.length < x.toNat then .bad 3 else .ok ⟨3, 0, str (s.take x.toNat)⟩ (s.drop x.toNat)
def decI (r : List UInt8) : Dec := if r.length < 8 then .bad 3 else .ok ⟨1, IntKind.i64.wrap (beVal (r.take 8)), ⟨#[]⟩⟩ (r.drop 8)
def decV : List UInt8 → Dec
  | [] => .bad 3
  | k :: r => if k.toNat = 0 then .ok ⟨0, 0, ⟨#[]⟩⟩ r else if k.toNat = 1 then decI r else if k.toNat = 2 then decB r else if k.toNat = 3 then decT r else .bad 6
theorem dec1 (r : List UInt8) : decV (1 :: r) = decI r := rfl
theorem dec2 (r : List UInt8) : decV (2 :: r) = decB r := rfl
theorem dec3 (r : List UInt8) : decV (3 :: r) = decT r := rfl
theorem decT_cons (x : UInt8) (s : List UInt8) : decT (x :: s) = if 48 < x.toNat then .bad 4 else if s.length < x.toNat then .bad 3 else .ok ⟨3, 0, str (s.take x.toNat)⟩ (s.drop x.toNat) := rfl
theorem wrap_mod (i : Int) (h0 : -9223372036854775808 ≤ i) (h1 : i ≤ 9223372036854775807) : IntKind.i64.wrap (i % 18446744073709551616) = i := by
  rw [IntKind.wrap_i64]; omega
theorem dec_enc (v : Vl) (hv : v.ok) (hm : mayV v = true) (r : List UInt8) : decV (encV v ++ r) = .ok v r := by
  obtain ⟨k, i, s⟩ := v
  obtain ⟨_, ⟨i0, i1⟩, _⟩ := hv
  simp only at i0 i1
  unfold mayV at hm
  simp only at hm
  unfold encV
  simp only
  by_cases h0 : k = 0
  · subst h0
    simp at hm
    obtain ⟨rfl, hs⟩ := hm
    rw [ByteArray.toList_eq] at hs
    have hs' : s = ⟨#[]⟩ := by rw [← str_of s, hs]; rfl
    subst hs'
    rfl
  · rw [if_neg h0] at hm
    by_cases h1 : k = 1
    · subst h1
      simp at hm
      rw [ByteArray.toList_eq] at hm
      have hs' : s = ⟨#[]⟩ := by rw [← str_of s, hm]; rfl
      subst hs'
      rw [if_pos rfl, List.cons_append]
      show decV (1 :: _) = _
      rw [dec1]
      unfold decI
      rw [if_neg (by simp [be_len])]
      have e1 : (be 8 (i % 18446744073709551616).toNat ++ r).take 8 = be 8 (i % 18446744073709551616).toNat := List.take_left' (be_len _ _)
      have e2 : (be 8 (i % 18446744073709551616).toNat ++ r).drop 8 = r := List.drop_left' (be_len _ _)
      rw [e1, e2, beVal_be, Nat.mod_eq_of_lt (by omega)]
      have e3 : (((i % 18446744073709551616).toNat : Nat) : Int) = i % 18446744073709551616 := by omega
      rw [e3, wrap_mod i i0 i1]
    · rw [if_neg h1] at hm
      rw [if_neg h1]
      by_cases h2 : k = 2
      · subst h2
        simp at hm
        obtain ⟨hs, hi⟩ := hm
        rw [ByteArray.toList_eq] at hs
        have hs' : s = ⟨#[]⟩ := by rw [← str_of s, hs]; rfl
        subst hs'
        rcases hi with rfl | rfl <;> rfl
      · rw [if_neg h2] at hm
        rw [if_neg h2]
        by_cases h3 : k = 3
        · subst h3
          simp at hm
          obtain ⟨rfl, hz⟩ := hm
          rw [if_pos rfl]
          have e0 : (UInt8.ofNat s.size).toNat = s.size := by simp; omega
          have hl : s.data.toList.length = s.size := rfl
          show decV (3 :: UInt8.ofNat s.size :: (s.data.toList ++ r)) = _
          rw [dec3, decT_cons]
          rw [e0, if_neg (by omega), if_neg (by simp only [List.length_append]; omega), List.take_left' hl, List.drop_left' hl, str_of]
        · rw [if_neg h3] at hm; cases hm
end Go.Proofs.Ytcpbkaeilmabaab

/-
  Terms: contract of Uses.
-/
import Derived.Test.YtbmfojeklhbocaaTb
set_option linter.unusedSimpArgs false
set_option linter.unusedVariables false
namespace Go.Proofs.Ytbmfojeklhbocaa
open Go.RowKit

/-- Terms that are gone through: so deep, with so many arguments each. -/
def shT : Nat → Tm → Prop
  | 0, _ => False
  | f + 1, .mk _ _ n _ args => n ≤ 17 ∧ ∀ a ∈ args, shT f a
theorem shT_of : ∀ (f : Nat) (d : Int) (t : Tm), grT f d t = false → shT f t
  | 0, _, _, h => by cases h
  | f + 1, d, .mk h A n c args, hg => by
    unfold grT at hg
    split at hg
    · cases hg
    · rename_i hc
      refine ⟨by omega, fun a ha => shT_of f (d + 1 + n) a ?_⟩
      rw [List.any_eq_false] at hg
      simpa using hg a ha
/-- Of which tables fields stand in a term: a set of bits. -/
def usT : Nat → Tm → Nat
  | 0, _ => 0
  | f + 1, .mk h _ _ _ args => if h.k = 2 then (if h.tb < 0 ∨ 31 < h.tb then 0 else 2 ^ h.tb.toNat) else args.foldl (fun s a => s ||| usT f a) 0
theorem usT_succ (f : Nat) (h : TmH) (A : Option Addr) (n c : Nat) (args : List Tm) : usT (f + 1) (.mk h A n c args) = if h.k = 2 then (if h.tb < 0 ∨ 31 < h.tb then 0 else 2 ^ h.tb.toNat) else args.foldl (fun s a => s ||| usT f a) 0 := rfl
theorem or_fold_lt (f : Nat) (hf : ∀ a, usT f a < 2 ^ 32) : ∀ (l : List Tm) (s : Nat), s < 2 ^ 32 → l.foldl (fun s a => s ||| usT f a) s < 2 ^ 32
  | [], _, h => h
  | a :: l, s, h => or_fold_lt f hf l _ (Nat.or_lt_two_pow h (hf a))
theorem usT_lt : ∀ (f : Nat) (t : Tm), usT f t < 2 ^ 32
  | 0, _ => by simp [usT]
  | f + 1, .mk h A n c args => by
    unfold usT
    split
    · split
      · omega
      · exact Nat.pow_lt_pow_right (by omega) (by omega)
    · exact or_fold_lt f (usT_lt f) args 0 (by omega)
theorem or_u32n (a b : Nat) (ha : a < 4294967296) (hb : b < 4294967296) : bits .or .u32 (a : Int) (b : Int) = ((a ||| b : Nat) : Int) := by
  show IntKind.u32.wrap ((BitVec.ofInt 32 (a : Int) ||| BitVec.ofInt 32 (b : Int)).toNat : Int) = _
  have e1 : (BitVec.ofInt 32 (a : Int)).toNat = a := by rw [BitVec.toNat_ofInt]; omega
  have e2 : (BitVec.ofInt 32 (b : Int)).toNat = b := by rw [BitVec.toNat_ofInt]; omega
  rw [BitVec.toNat_or, e1, e2]
  have h : a ||| b < 2 ^ 32 := Nat.or_lt_two_pow ha hb
  rw [IntKind.wrap_u32]
  omega
theorem fold_take {l : List Tm} {k f : Nat} {v : Tm} (h : l[k]? = some v) : (l.take (k + 1)).foldl (fun s a => s ||| usT f a) 0 = ((l.take k).foldl (fun s a => s ||| usT f a) 0) ||| usT f v := by
  rw [List.take_add_one, h]; simp
theorem pow_u32 (k : Nat) (h : k ≤ 31) : (2 : Int) ^ k % 4294967296 = ((2 ^ k : Nat) : Int) := by
  have h1 : (2 : Nat) ^ k < 2 ^ 32 := Nat.pow_lt_pow_right (by omega) (by omega)
  have e : (2 : Int) ^ k = ((2 ^ k : Nat) : Int) := by rw [Int.natCast_pow]; rfl
  rw [e]
  obtain ⟨m, hm⟩ : ∃ m, (2 : Nat) ^ k = m := ⟨_, rfl⟩
  rw [hm] at h1 ⊢
  have h2 : m < 4294967296 := h1
  omega

set_option maxRecDepth 100000 in
set_option maxHeartbeats 4000000 in
theorem uses_any : ∀ (f : Nat) (t : Tm) (w : World), TmIn w w.heap.size t → shT f t → Calls Try.prog 31 #[t.agg] w (RetB w (.int .u32 (usT f t : Nat))) := by
  intro f
  induction f with
  | zero => intro t w _ h; exact absurd h id
  | succ f ih =>
    intro t w hin hsh
    have hnc := hin.nc
    have hok := hin.hok
    have hl := hin.len
    have hrd := hin.reads
    have hargs := hin.args
    obtain ⟨⟨k0, op0, no0, ⟨vk0, vi0, vs0⟩, of0, nm0, tb0, cl0⟩, A0, n0, c0, l0⟩ := t
    simp only [Tm.h, Tm.A, Tm.n, Tm.c, Tm.args] at hnc hok hl hrd hargs
    obtain ⟨⟨hk0, hk1⟩, _, _, _, _, ⟨ht0, ht1⟩, _⟩ := hok
    simp only at hk0 hk1 ht0 ht1
    obtain ⟨hn17, hsa⟩ := hsh
    have hX := box_at w (Tm.mk ⟨k0, op0, no0, ⟨vk0, vi0, vs0⟩, of0, nm0, tb0, cl0⟩ A0 n0 c0 l0) 56
    have hX' : AtT (w.alloc (.cells #[.int .u8 k0, .string op0, .bool no0, .int .u8 vk0, .int .i64 vi0, .string vs0, .string of0, .string nm0, .int .i64 tb0, .int .i64 cl0, .slice A0 n0 c0] 56)) ⟨w.heap.size, 0, none⟩ (Tm.mk ⟨k0, op0, no0, ⟨vk0, vi0, vs0⟩, of0, nm0, tb0, cl0⟩ A0 n0 c0 l0) := hX
    have hb0 : Below w.heap.size w (w.alloc (.cells #[.int .u8 k0, .string op0, .bool no0, .int .u8 vk0, .int .i64 vi0, .string vs0, .string of0, .string nm0, .int .i64 tb0, .int .i64 cl0, .slice A0 n0 c0] 56)) := ball (Below.refl _ _) _
    simp only [Tm.agg, TmH.agg, Tm.h, Tm.A, Tm.n, Tm.c]
    by_cases hk : k0 = 2
    · have e1 : (k0 == 2) = true := by simpa using hk
      by_cases ht : tb0 < 0 ∨ 31 < tb0
      · have hU : Hid (usT (f + 1) (Tm.mk ⟨k0, op0, no0, ⟨vk0, vi0, vs0⟩, of0, nm0, tb0, cl0⟩ A0 n0 c0 l0) = 0) := Lib.hid (by rw [usT_succ, if_pos hk, if_pos ht])
        clear hin hX hX' ih hrd hargs hsa hk
        rcases (show tb0 < 0 ∨ (0 ≤ tb0 ∧ 31 < tb0) by omega) with h | ⟨h, h2⟩
        all_goals
          go_enter Try.func31, Try.ntmps31
          go_wp2_with fail
          go_ret
          exact ⟨by rw [hU.out]; rfl, hb0⟩
      · obtain ⟨T, hT⟩ : ∃ T : Nat, tb0 = (T : Int) := ⟨tb0.toNat, by omega⟩
        subst hT
        have hT31 : T ≤ 31 := by omega
        have hU : Hid (usT (f + 1) (Tm.mk ⟨k0, op0, no0, ⟨vk0, vi0, vs0⟩, of0, nm0, (T : Int), cl0⟩ A0 n0 c0 l0) = 2 ^ T) := Lib.hid (by rw [usT_succ, if_pos hk, if_neg ht, Int.toNat_natCast])
        have hp := pow_u32 T hT31
        have HP := Lib.hid hp
        have h0 : (0 : Int) ≤ (T : Int) := by omega
        have h1 : (T : Int) ≤ 31 := by omega
        clear hin hX hX' ih hrd hargs hsa hk ht hp
        go_enter Try.func31, Try.ntmps31
        go_wp2_with fail
        go_ret
        exact ⟨by rw [hU.out, ← HP.out]; rfl, hb0⟩
    · have e1 : (k0 == 2) = false := by simpa using hk
      have hU : Hid (usT (f + 1) (Tm.mk ⟨k0, op0, no0, ⟨vk0, vi0, vs0⟩, of0, nm0, tb0, cl0⟩ A0 n0 c0 l0) = l0.foldl (fun s a => s ||| usT f a) 0) := Lib.hid (by rw [usT_succ, if_neg hk])
      have Hl := Lib.hid hl
      have hnI : (n0 : Int) ≤ 17 := by omega
      have Hih := Lib.hid fun (a : Tm) (W : World) (ha : a ∈ l0) (hb : Below w.heap.size w W) => ih a W (((hargs a ha).under hb).more hb.size) (hsa a ha)
      clear hin hX hX' ih hargs hsa hk hl
      go_enter Try.func31, Try.ntmps31
      go_wp2_with fail
      obtain ⟨W0, hW0⟩ : ∃ W0, w.alloc (.cells #[.int .u8 k0, .string op0, .bool no0, .int .u8 vk0, .int .i64 vi0, .string vs0, .string of0, .string nm0, .int .i64 tb0, .int .i64 cl0, .slice A0 n0 c0] 56) = W0 := ⟨_, rfl⟩
      rw [hW0] at hb0 ⊢
      clear hW0
      go_loopw [3, 23] (fun s i wr => ∃ k : Nat, k ≤ n0 ∧ i = .int .i64 k ∧ s = .int .u32 ((l0.take k).foldl (fun s a => s ||| usT f a) 0 : Nat) ∧ Below W0.heap.size W0 wr) (fun _ i _ => n0 - (intOf i).toNat)
      case atStart => exact ⟨0, Nat.zero_le _, rfl, rfl, Below.refl _ _⟩
      case round =>
        obtain ⟨k, hk, rfl, rfl, hb⟩ := hrel
        have q0 : (0 : Int) ≤ (k : Int) := by omega
        have hbw := bto0 hb0 hb
        by_cases hlt : k < n0
        · have q1 : (k : Int) < (n0 : Int) := by omega
          obtain ⟨ad, v, rfl, hab, hv, hat⟩ := (hrd.below hbw).tm hlt
          have HC := Lib.hid fun W hbW => Hih.out v W (List.mem_of_getElem? hv) hbW
          have hstep := fold_take (f := f) hv
          have hlt1 : (l0.take k).foldl (fun s a => s ||| usT f a) 0 < 2 ^ 32 := or_fold_lt f (usT_lt f) _ 0 (by omega)
          have hlt2 := usT_lt f v
          obtain ⟨S, hS⟩ : ∃ S, (l0.take k).foldl (fun s a => s ||| usT f a) 0 = S := ⟨_, rfl⟩
          obtain ⟨U, hUU⟩ : ∃ U, usT f v = U := ⟨_, rfl⟩
          rw [hS] at hstep hlt1 ⊢
          rw [hUU] at hstep HC hlt2
          have hor := or_u32n S U hlt1 hlt2
          have Hor := Lib.hid hor
          have Hstep := Lib.hid hstep
          clear hv hstep hS hUU hor hlt1 hlt2
          obtain ⟨⟨k1, op1, no1, ⟨vk1, vi1, vs1⟩, of1, nm1, tb1, cl1⟩, A1, n1, c1, l1⟩ := v
          obtain ⟨y0, y1, y2, y3, y4, y5, y6, y7, y8, y9, y10⟩ := hat
          simp only [Tm.agg, TmH.agg, Tm.h, Tm.A, Tm.n, Tm.c] at HC y0 y1 y2 y3 y4 y5 y6 y7 y8 y9 y10
          go_wp2_with fail
          refine (HC.out _ (ball hbw _)).mono ?_
          rintro e w1 ⟨rfl, hb1⟩
          go_wp2
          go_roundw
          case rel => exact ⟨k + 1, by omega, by go_num, val_int (by rw [Hstep.out, ← Hor.out]), bto0 (ball hb _) hb1⟩
          case measure => simp [intOf]; omega
        · obtain rfl : k = n0 := by omega
          have hF : Hid (l0.take k = l0) := Lib.hid (List.take_of_length_le (by rw [Hl.out]; exact Nat.le_refl _))
          go_wp2
          go_ret
          exact ⟨by rw [hU.out, hF.out]; rfl, hbw⟩
end Go.Proofs.Ytbmfojeklhbocaa

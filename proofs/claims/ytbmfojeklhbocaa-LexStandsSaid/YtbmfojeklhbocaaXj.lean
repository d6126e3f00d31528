/-
  Tokens of queries: the chapter's example; many tokens (plain).
-/
import Derived.Test.YtbmfojeklhbocaaXi
set_option linter.unusedSimpArgs false
set_option linter.unusedVariables false
namespace Go.Proofs.Ytbmfojeklhbocaa
open Go.RowKit

theorem Reads.tk {w : World} {B : Nat} {A : Option Addr} {n k : Nat} {l : List Tk} (hr : Reads w B 3 A n (vTk l)) (hk : k < n) :
    ∃ ad x, A = some ad ∧ ad.block < B ∧ l[k]? = some x ∧ w.cell? (ad.add (k * 3)) = some (.int .u8 (x.1 : Int)) ∧ w.cell? ⟨(ad.add (k * 3)).block, (ad.add (k * 3)).off + 1, none⟩ = some (.string (str x.2.1)) ∧ w.cell? ⟨(ad.add (k * 3)).block, (ad.add (k * 3)).off + 2, none⟩ = some (.int .i64 (x.2.2 : Int)) := by
  have hl : l.length = n := by have := hr.1; rw [vTk_len] at this; omega
  obtain ⟨ad, hA, hb, hc⟩ := hr.2 (by omega)
  have hv : l[k]? = some (l[k]'(by omega)) := List.getElem?_eq_getElem (by omega)
  generalize l[k]'(by omega) = v at hv
  have hcell : ∀ j u, j < 3 → (tkC v)[j]? = some u → w.cell? (ad.add (k * 3 + j)) = some u := fun j u hj hu => hc (k * 3 + j) u (by rw [vTk_at hv j hj]; exact hu)
  refine ⟨ad, v, hA, hb, hv, ?_, ?_, ?_⟩
  · have := hcell 0 _ (by omega) rfl
    rw [Nat.add_zero] at this
    exact this
  all_goals rw [field_add _ _ _ (by omega)]
  · exact hcell 1 _ (by omega) rfl
  · exact hcell 2 _ (by omega) rfl
theorem fix_toks : toksQ [97, 62, 61, 49] = .ok [(2, [97], 0), (5, [62, 61], 1), (3, [49], 3), (0, [], 4)] := by kernel_rfl
set_option maxRecDepth 100000 in
set_option maxHeartbeats 4000000 in
theorem fixed15_any (w : World) : Calls Try.prog 10 #[] w (RetB w (.bool true)) := by
  have P1 : Hid (Calls Try.prog 11 #[.string ⟨#[97, 62, 61, 49]⟩] w (RetTks w (.ok [(2, [97], 0), (5, [62, 61], 1), (3, [49], 3), (0, [], 4)]))) := Lib.hid (by
    have h := tokens_any ⟨#[97, 62, 61, 49]⟩ (by decide) w
    rw [show (⟨#[97, 62, 61, 49]⟩ : ByteArray).data.toList = [97, 62, 61, 49] from rfl, fix_toks] at h
    exact h)
  go_enter Try.func10, Try.ntmps10
  go_wp2_with fail
  refine P1.out.mono ?_
  rintro e w1 ⟨A, c, rfl, hc, hown, hb⟩
  have hr := Reads.of_own hown
  simp only [List.length_cons, List.length_nil, Nat.reduceAdd] at hr hc ⊢
  obtain ⟨ad, x0, rfl, hab, hx0, d0, _, _⟩ := hr.tk (k := 0) (by omega)
  obtain ⟨ad1, x1, hA1, _, hx1, _, d1, _⟩ := hr.tk (k := 1) (by omega)
  obtain ⟨ad2, x2, hA2, _, hx2, d2, _, _⟩ := hr.tk (k := 2) (by omega)
  obtain ⟨ad3, x3, hA3, _, hx3, _, _, d3⟩ := hr.tk (k := 3) (by omega)
  injection hA1 with hA1
  injection hA2 with hA2
  injection hA3 with hA3
  subst hA1 hA2 hA3
  simp at hx0 hx1 hx2 hx3
  subst hx0 hx1 hx2 hx3
  have e0 : ad.add (0 * 3) = ad := by simp [Addr.add]
  have e1 : ad.add (1 * 3) = ⟨ad.block, ad.off + 3, none⟩ := by simp [Addr.add]
  have e2 : ad.add (2 * 3) = ⟨ad.block, ad.off + 6, none⟩ := by simp [Addr.add]
  have e3 : ad.add (3 * 3) = ⟨ad.block, ad.off + 9, none⟩ := by simp [Addr.add]
  rw [e0] at d0
  rw [e1] at d1
  rw [e2] at d2
  rw [e3] at d3
  simp only [Nat.add_assoc, Nat.reduceAdd] at d1 d3
  have es : str [62, 61] = ⟨#[62, 61]⟩ := rfl
  simp only [es] at d1
  have i0 : w1.cell? ad = some (.int .u8 2) := d0
  have i2 : w1.cell? ⟨ad.block, ad.off + 6, none⟩ = some (.int .u8 3) := d2
  have i3 : w1.cell? ⟨ad.block, ad.off + 11, none⟩ = some (.int .i64 4) := d3
  clear d0 d2 d3 hr hown hc e0 e1 e2 e3 es P1
  go_wp2
  go_ret
  exact ⟨rfl, hb⟩
/-- So many parentheses, each with a blank. -/
def par : Nat → List UInt8
  | 0 => []
  | k + 1 => 40 :: 32 :: par k
theorem par_len : ∀ k, (par k).length = 2 * k
  | 0 => rfl
  | k + 1 => by simp [par, par_len k]; omega
theorem par_snoc : ∀ k, par k ++ [40, 32] = par (k + 1)
  | 0 => rfl
  | k + 1 => by
    show 40 :: 32 :: (par k ++ [40, 32]) = 40 :: 32 :: par (k + 1)
    rw [par_snoc k]
def sp (m : Nat) : List UInt8 := List.replicate m 32
theorem skip_sp : ∀ (j : Nat) (l : List UInt8), skipN (sp j ++ l) = j + skipN l
  | 0, l => by simp [sp]
  | j + 1, l => by
    show skipN (32 :: (sp j ++ l)) = _
    rw [skipN, if_pos (by decide), skip_sp j l]
    omega
theorem skip_par (k : Nat) (l : List UInt8) : skipN (par (k + 1) ++ l) = 0 := by
  show skipN (40 :: _) = 0
  rw [skipN, if_neg (by decide)]
theorem tok_par (k : Nat) (l : List UInt8) : tokN (par (k + 1) ++ l) = ⟨5, [40], 1, 0⟩ := by
  show tokN (40 :: 32 :: (par k ++ l)) = _
  have h1 : runN (40 :: 32 :: (par k ++ l)) = 0 := by rw [runN, if_neg (by decide)]
  have h2 : sgnN (40 :: 32 :: (par k ++ l)) = 1 := by
    unfold sgnN
    rw [if_neg (by simp)]
    rfl
  unfold tokN
  rw [h1, h2]
  simp
theorem toks_par (m : Nat) : ∀ (k f j p cnt : Nat), cnt ≤ 1000 → k ≤ f → (1000 < cnt + k → toksN (f + 1) (sp j ++ (par k ++ sp m)) p cnt = .bad 15) ∧ (cnt + k ≤ 1000 → ∃ l, toksN (f + 1) (sp j ++ (par k ++ sp m)) p cnt = .ok l ∧ l.length = k + 1)
  | 0, f, j, p, cnt, hc, hf => by
    refine ⟨fun h => by omega, fun _ => ⟨[(0, [], p + (j + m))], ?_, rfl⟩⟩
    have hs : skipN (sp j ++ (par 0 ++ sp m)) = j + m := by
      rw [skip_sp]
      show j + skipN (sp m) = _
      have := skip_sp m []
      rw [List.append_nil] at this
      rw [this]; rfl
    have hd : (sp j ++ (par 0 ++ sp m)).drop (skipN (sp j ++ (par 0 ++ sp m))) = [] := by
      rw [hs]
      exact List.drop_eq_nil_of_le (by simp [par, sp])
    rw [toksN_end hd, hs]
  | k + 1, f, j, p, cnt, hc, hf => by
    have hs : skipN (sp j ++ (par (k + 1) ++ sp m)) = j := by rw [skip_sp, skip_par]; rfl
    have hd : (sp j ++ (par (k + 1) ++ sp m)).drop (skipN (sp j ++ (par (k + 1) ++ sp m))) = par (k + 1) ++ sp m := by
      rw [hs]
      exact List.drop_left' (by simp [sp])
    have hne : (sp j ++ (par (k + 1) ++ sp m)).drop (skipN (sp j ++ (par (k + 1) ++ sp m))) ≠ [] := by
      rw [hd]; simp [par]
    have hst := toksN_step (f := f) (p := p) (cnt := cnt) hne
    rw [hd, tok_par] at hst
    simp only [ne_eq, not_true_eq_false, if_false] at hst
    by_cases h1000 : cnt = 1000
    · rw [if_pos h1000] at hst
      exact ⟨fun _ => hst, fun h => by omega⟩
    · rw [if_neg h1000] at hst
      have hdr : (par (k + 1) ++ sp m).drop 1 = sp 1 ++ (par k ++ sp m) := rfl
      rw [hdr] at hst
      obtain ⟨f', rfl⟩ : ∃ f', f = f' + 1 := ⟨f - 1, by omega⟩
      obtain ⟨ih1, ih2⟩ := toks_par m k f' 1 (p + skipN (sp j ++ (par (k + 1) ++ sp m)) + 1) (cnt + 1) (by omega) (by omega)
      refine ⟨fun h => ?_, fun h => ?_⟩
      · rw [hst, ih1 (by omega)]; rfl
      · obtain ⟨l, hl, hll⟩ := ih2 (by omega)
        rw [hst, hl]
        exact ⟨_, rfl, by simp [hll]⟩
end Go.Proofs.Ytbmfojeklhbocaa

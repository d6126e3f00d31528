/-
  Keys: what is written is read again; keys stand as rows do (plain).
-/
import Derived.Test.YtohaplmbgipbcaaDoorKa
import Derived.Test.YtohaplmbgipbcaaDoorKr
set_option linter.unusedSimpArgs false
namespace Go.Proofs.YtohaplmbgipbcaaDoor
open Go.RowKit

theorem txt_ne {c : UInt8} (hc : c ≠ 0) {X : List UInt8} (hX : X ≠ []) (o : List UInt8) : txt o (c :: X) = txt (o ++ [c]) X := by
  cases X with
  | nil => exact absurd rfl hX
  | cons d q => rw [txt, if_neg hc]
theorem txt_z255 (o q : List UInt8) : txt o (0 :: 255 :: q) = txt (o ++ [0]) q := by rw [txt, if_pos rfl, if_pos rfl]
theorem txt_z1 (o q : List UInt8) : txt o (0 :: 1 :: q) = if 48 < o.length then .bad 4 else .ok o q := by
  rw [txt, if_pos rfl, if_neg (by decide), if_pos rfl]
theorem txt_esc : ∀ (t o r : List UInt8), txt o (escL t ++ 0 :: 1 :: r) = if 48 < (o ++ t).length then .bad 4 else .ok (o ++ t) r
  | [], o, r => by simpa [escL] using txt_z1 o r
  | c :: t, o, r => by
    rw [escL_cons]
    by_cases hc : c = 0
    · subst hc
      rw [if_pos rfl, List.cons_append, List.cons_append, txt_z255, txt_esc t (o ++ [0]) r]
      simp
    · rw [if_neg hc, List.cons_append, txt_ne hc (by simp), txt_esc t (o ++ [c]) r]
      simp
theorem txt_back : ∀ (n : Nat) (o l t r : List UInt8), l.length ≤ n → txt o l = .ok t r → ∃ u, t = o ++ u ∧ escL u ++ 0 :: 1 :: r = l
  | n, o, [], t, r, _, h => by simp [txt] at h
  | n, o, [c], t, r, _, h => by simp [txt] at h
  | n, o, c :: d :: q, t, r, hn, h => by
    cases n with
    | zero => simp at hn
    | succ n =>
      simp only [List.length_cons] at hn
      by_cases hc : c = 0
      · subst hc
        by_cases h1 : d = 255
        · subst h1
          rw [txt_z255] at h
          obtain ⟨u, hu, hq⟩ := txt_back n _ q t r (by omega) h
          refine ⟨0 :: u, by rw [hu]; simp, ?_⟩
          rw [escL_cons, if_pos rfl, ← hq]; rfl
        · by_cases h2 : d = 1
          · subst h2
            rw [txt_z1] at h
            split at h
            · cases h
            · injection h with h3 h4
              subst h3; subst h4
              exact ⟨[], by simp, rfl⟩
          · rw [txt, if_pos rfl, if_neg h1, if_neg h2] at h; cases h
      · rw [txt_ne hc (by simp)] at h
        obtain ⟨u, hu, hq⟩ := txt_back n _ (d :: q) t r (by simp; omega) h
        refine ⟨c :: u, by rw [hu]; simp, ?_⟩
        rw [escL_cons, if_neg hc, List.cons_append, hq]
theorem bx {s : ByteArray} {l : List UInt8} (h : s.data.toList = l) : s = ⟨l.toArray⟩ := by subst h; rfl
theorem emp {s : ByteArray} (h : (s.toList == []) = true) : s = ⟨#[]⟩ := by
  rw [ByteArray.toList_eq] at h
  exact bx (by simpa using h)
theorem may_cases {v : Vl} (h : mayV v = true) : v = ⟨0, 0, ⟨#[]⟩⟩ ∨ (∃ i, v = ⟨1, i, ⟨#[]⟩⟩) ∨ v = ⟨2, 0, ⟨#[]⟩⟩ ∨ v = ⟨2, 1, ⟨#[]⟩⟩ ∨ (∃ s : ByteArray, v = ⟨3, 0, s⟩ ∧ s.size ≤ 48) := by
  obtain ⟨k, i, s⟩ := v
  unfold mayV at h
  simp only at h
  by_cases h0 : k = 0
  · subst h0
    rw [if_pos rfl, Bool.and_eq_true] at h
    obtain ⟨h1, h2⟩ := h
    exact .inl (by rw [emp h2]; simp at h1; subst h1; rfl)
  · rw [if_neg h0] at h
    by_cases h1 : k = 1
    · subst h1
      rw [if_pos rfl] at h
      exact .inr (.inl ⟨i, by rw [emp h]⟩)
    · rw [if_neg h1] at h
      by_cases h2 : k = 2
      · subst h2
        rw [if_pos rfl, Bool.and_eq_true] at h
        obtain ⟨h3, h4⟩ := h
        rw [emp h3]
        simp at h4
        rcases h4 with rfl | rfl
        · exact .inr (.inr (.inl rfl))
        · exact .inr (.inr (.inr (.inl rfl)))
      · rw [if_neg h2] at h
        by_cases h3 : k = 3
        · subst h3
          rw [if_pos rfl, Bool.and_eq_true] at h
          obtain ⟨h4, h5⟩ := h
          simp at h4 h5
          subst h4
          exact .inr (.inr (.inr (.inr ⟨s, rfl, h5⟩)))
        · rw [if_neg h3] at h; cases h
theorem kd_key {v : Vl} (h0 : -9223372036854775808 ≤ v.i) (h1 : v.i ≤ 9223372036854775807) (hm : mayV v = true) (r : List UInt8) : kdV (keyV v ++ r) = .ok v r := by
  rcases may_cases hm with rfl | ⟨i, rfl⟩ | rfl | rfl | ⟨s, rfl, hs⟩
  · rfl
  · show kdI (keyI i ++ r) = _
    unfold kdI keyI
    simp only at h0 h1
    rw [if_neg (by simp [be_len]), List.take_left' (be_len _ _), List.drop_left' (be_len _ _), beVal_be]
    have e : ((i + 9223372036854775808).toNat % 256 ^ 8 : Nat) = (i + 9223372036854775808).toNat := Nat.mod_eq_of_lt (by omega)
    rw [e]
    congr 1
    congr 1
    omega
  · rfl
  · rfl
  · show kdT ((escL s.data.toList ++ [0, 1]) ++ r) = _
    unfold kdT
    have e : (escL s.data.toList ++ [0, 1]) ++ r = escL s.data.toList ++ 0 :: 1 :: r := by simp
    have hl : s.data.toList.length = s.size := rfl
    rw [e, txt_esc, if_neg (by simp only [List.nil_append]; omega)]
    rfl
theorem kdR_key : ∀ (l : List Vl), (∀ v ∈ l, v.ok) → allMay l = true → kdR (keyR l) = (l, 0)
  | [], _, _ => rfl
  | v :: l, hok, h => by
    have hv : mayV v = true := by unfold allMay at h; simp at h; exact h.1
    have hl : allMay l = true := by unfold allMay at h ⊢; simp at h; simpa using h.2
    have ih := kdR_key l (fun u hu => hok u (by simp [hu])) hl
    obtain ⟨_, ⟨h0, h1⟩, _⟩ := hok v (by simp)
    have e : keyR (v :: l) = keyV v ++ keyR l := rfl
    rw [e, kdR_ok (kd_key h0 h1 hv (keyR l)), ih]
    rfl
theorem kd_back {l r : List UInt8} {v : Vl} (h : kdV l = .ok v r) : mayV v = true ∧ keyV v ++ r = l ∧ v.ok := by
  cases l with
  | nil => simp [kdV] at h
  | cons k s =>
    have hk : ∀ n : UInt8, k.toNat = n.toNat → k = n := fun n e => UInt8.toNat_inj.1 e
    rw [kdV] at h
    split at h
    · rename_i h1
      injection h with hv hr
      subst hv; subst hr
      rw [hk 1 h1]
      exact ⟨by kernel_rfl, rfl, by simp, by simp, by simp [ByteArray.size, maxLen]⟩
    · split at h
      · rename_i h1
        rw [hk 2 h1]
        unfold kdI at h
        split at h
        · cases h
        · rename_i h8
          injection h with hv hr
          subst hv; subst hr
          have hl8 : (s.take 8).length = 8 := by rw [List.length_take]; omega
          have hb := beVal_lt (s.take 8)
          rw [hl8] at hb
          refine ⟨by kernel_rfl, ?_, by simp, by simp only; omega, by simp [ByteArray.size, maxLen]⟩
          show 2 :: (keyI ((beVal (s.take 8) : Int) - 9223372036854775808) ++ s.drop 8) = 2 :: s
          unfold keyI
          have e : ((beVal (s.take 8) : Int) - 9223372036854775808 + 9223372036854775808).toNat = beVal (s.take 8) := by omega
          rw [e]
          have e2 : be 8 (beVal (s.take 8)) = s.take 8 := by have := be_beVal (s.take 8); rwa [hl8] at this
          rw [e2, List.take_append_drop]
      · split at h
        · rename_i h1
          rw [hk 3 h1]
          cases s with
          | nil => cases h
          | cons x t =>
            rw [kdB] at h
            split at h
            · cases h
            · rename_i hx
              injection h with hv hr
              subst hv; subst hr
              have hx' : x = 0 ∨ x = 1 := by
                have : x.toNat = 0 ∨ x.toNat = 1 := by omega
                rcases this with e | e
                · exact .inl (UInt8.toNat_inj.1 e)
                · exact .inr (UInt8.toNat_inj.1 e)
              rcases hx' with rfl | rfl
              · exact ⟨by kernel_rfl, rfl, by simp, by simp, by simp [ByteArray.size, maxLen]⟩
              · exact ⟨by kernel_rfl, rfl, by simp, by simp, by simp [ByteArray.size, maxLen]⟩
        · split at h
          · rename_i h1
            rw [hk 4 h1]
            unfold kdT at h
            cases ht : txt [] s with
            | bad e => rw [ht] at h; cases h
            | ok t q =>
              rw [ht] at h
              injection h with hv hr
              subst hv; subst hr
              obtain ⟨u, hu, hq⟩ := txt_back _ _ _ _ _ (Nat.le_refl _) ht
              have hl := (txt_len _ _ _ _ _ (Nat.le_refl _) ht).2
              have hsz : (⟨t.toArray⟩ : ByteArray).size ≤ 48 := by show t.toArray.size ≤ 48; simpa using hl
              refine ⟨by unfold mayV; simp [hsz], ?_, by simp, by simp, by simp only; unfold maxLen; omega⟩
              show 4 :: ((escL (⟨t.toArray⟩ : ByteArray).data.toList ++ [0, 1]) ++ q) = 4 :: s
              have e : (⟨t.toArray⟩ : ByteArray).data.toList = u := by rw [hu]; simp
              rw [e, ← hq]; simp
          · cases h
theorem kd_bad_ne {k : UInt8} {s : List UInt8} {e : Int} (hk : kdV (k :: s) = .bad e) : e ≠ 0 := by
  intro h; subst h
  rw [kdV] at hk
  have hT : ∀ (m : Nat) (o q : List UInt8), q.length ≤ m → txt o q ≠ .bad 0 := by
    intro m
    induction m with
    | zero => intro o q hq; have : q = [] := List.eq_nil_of_length_eq_zero (by omega); subst this; simp [txt]
    | succ m ih =>
      intro o q hq
      match q with
      | [] => simp [txt]
      | [c] => simp [txt]
      | c :: d :: q =>
        simp only [List.length_cons] at hq
        rw [txt]
        split
        · split
          · exact ih _ q (by omega)
          · split
            · split <;> simp
            · simp
        · exact ih _ (d :: q) (by simp; omega)
  split at hk
  · cases hk
  · split at hk
    · unfold kdI at hk; split at hk <;> simp at hk
    · split at hk
      · cases s with
        | nil => simp [kdB] at hk
        | cons x t => rw [kdB] at hk; split at hk <;> simp at hk
      · split at hk
        · unfold kdT at hk
          cases ht : txt [] s with
          | bad e => rw [ht] at hk; injection hk with hk; subst hk; exact hT _ _ _ (Nat.le_refl _) ht
          | ok t q => rw [ht] at hk; cases hk
        · simp at hk
theorem kdR_back : ∀ (n : Nat) (l : List UInt8), l.length ≤ n → (∀ v ∈ (kdR l).1, v.ok) ∧ ((kdR l).2 = 0 → allMay (kdR l).1 = true ∧ keyR (kdR l).1 = l)
  | n, [], _ => by rw [kdR_nil]; exact ⟨by simp, fun _ => ⟨rfl, rfl⟩⟩
  | 0, _ :: _, h => by simp at h
  | n + 1, k :: s, hn => by
    cases hk : kdV (k :: s) with
    | bad e =>
      have he := kd_bad_ne hk
      rw [kdR_bad (by simp) hk]
      exact ⟨by simp, fun h => absurd h he⟩
    | ok v r =>
      obtain ⟨hm, hkey, hvok⟩ := kd_back hk
      have hlen := kdV_len hk
      obtain ⟨ih1, ih2⟩ := kdR_back n r (by omega)
      rw [kdR_ok hk]
      by_cases h0 : (kdR r).2 = 0
      · rw [if_pos h0]
        obtain ⟨h1, h2⟩ := ih2 h0
        refine ⟨?_, fun _ => ⟨?_, ?_⟩⟩
        · intro u hu
          rcases List.mem_cons.1 hu with rfl | hu
          · exact hvok
          · exact ih1 u hu
        · unfold allMay at h1 ⊢; simp [hm]; simpa using h1
        · show keyV v ++ keyR (kdR r).1 = _
          rw [h2, hkey]
      · rw [if_neg h0]
        exact ⟨by simp, fun h => absurd h h0⟩
end Go.Proofs.YtohaplmbgipbcaaDoor

/-
  The text behind others (plain); the laws KeycodeBehind, KeycodeLeast: their walks.
-/
import Derived.Test.YtohaplmbgipbcaaDoorKe
import Derived.Test.YtohaplmbgipbcaaDoorKr
set_option linter.unusedSimpArgs false
namespace Go.Proofs.YtohaplmbgipbcaaDoor
open Go.RowKit

theorem nbf_cons (c : UInt8) (l : List UInt8) : ∀ k, nbf (c :: l) (k + 1) = if nbf l k = 0 then (if c = 255 then 0 else 1) else nbf l k + 1
  | 0 => by simp [nbf]
  | k + 1 => by
    rw [nbf, nbf_cons c l k]
    conv => rhs; rw [nbf]
    rw [List.getElem?_cons_succ]
    by_cases h : l[k]? = some 255
    · rw [if_pos h, if_pos h]
    · rw [if_neg h, if_neg h]; simp
theorem nb_cons (c : UInt8) (l : List UInt8) : nb (c :: l) = if nb l = 0 then (if c = 255 then 0 else 1) else nb l + 1 := by
  unfold nb; rw [List.length_cons, nbf_cons]
theorem bl_nil (b : List UInt8) : bl b [] = false := by cases b <;> rfl
theorem bl_cons (x y : UInt8) (a b : List UInt8) : bl (x :: a) (y :: b) = if x = y then bl a b else decide (x < y) := rfl
theorem bl_self : ∀ a : List UInt8, bl a a = false
  | [] => rfl
  | x :: a => by rw [bl_cons, if_pos rfl]; exact bl_self a
/-- Bytes 255 alone. -/
theorem all255 : ∀ (l t : List UInt8), nb l = 0 → bl t l = false → l.isPrefixOf t = true
  | [], t, _, _ => by simp
  | c :: l, t, h, ht => by
    rw [nb_cons] at h
    by_cases h0 : nb l = 0
    · rw [if_pos h0] at h
      by_cases hc : c = 255
      · subst hc
        cases t with
        | nil => exact absurd ht (by simp [bl])
        | cons d t =>
          rw [bl_cons] at ht
          by_cases hd : d = 255
          · rw [if_pos hd] at ht
            subst hd
            simpa using all255 l t h0 ht
          · rw [if_neg hd] at ht
            have h1 : ¬ d < 255 := by simpa using ht
            have h2 := d.toNat_lt
            exact absurd (UInt8.lt_iff_toNat_lt.2 (by have : d.toNat ≠ 255 := fun e => hd (UInt8.toNat_inj.1 e); show d.toNat < 255; omega)) h1
      · rw [if_neg hc] at h; omega
    · rw [if_neg h0] at h; omega
theorem pre_not_lt : ∀ (l t : List UInt8), l.isPrefixOf t = true → bl t l = false
  | [], t, _ => bl_nil t
  | c :: l, [], h => by simp at h
  | c :: l, d :: t, h => by
    rw [List.isPrefixOf_cons_cons, Bool.and_eq_true, beq_iff_eq] at h
    rw [bl_cons, if_pos h.1.symm]
    exact pre_not_lt l t h.2
theorem bhL_cons1 (c : UInt8) (l : List UInt8) (h0 : nb l = 0) (hc : c ≠ 255) : bhL (c :: l) = [c + 1] := by
  unfold bhL
  rw [nb_cons, if_pos h0, if_neg hc]
  rfl
theorem bhL_cons2 (c : UInt8) (l : List UInt8) (h0 : nb l ≠ 0) : bhL (c :: l) = c :: bhL l := by
  unfold bhL
  rw [nb_cons, if_neg h0]
  obtain ⟨n, hn⟩ : ∃ n, nb l = n + 1 := ⟨nb l - 1, by omega⟩
  rw [hn]
  simp
theorem bh_law : ∀ (l t : List UInt8), nb l ≠ 0 → ((!bl t l) && bl t (bhL l)) = l.isPrefixOf t
  | [], t, h => absurd rfl h
  | c :: l, t, h => by
    by_cases h0 : nb l = 0
    · have hc : c ≠ 255 := by
        intro e
        rw [nb_cons, if_pos h0, if_pos e] at h
        exact h rfl
      rw [bhL_cons1 c l h0 hc]
      have hinc := u8_inc c hc
      cases t with
      | nil => simp [bl]
      | cons d t =>
        rw [bl_cons, bl_cons, bl_nil, List.isPrefixOf_cons_cons]
        by_cases hd : d = c
        · subst hd
          have h1 : ¬ d = d + 1 := by intro e; rw [← e] at hinc; omega
          have h2 : d < d + 1 := by rw [UInt8.lt_iff_toNat_lt]; omega
          rw [if_pos rfl, if_neg h1]
          simp only [h2, decide_true, Bool.and_true, beq_self_eq_true, Bool.true_and]
          cases hb : bl t l with
          | false => rw [all255 l t h0 hb]; rfl
          | true =>
            cases hp : l.isPrefixOf t with
            | false => rfl
            | true => rw [pre_not_lt l t hp] at hb; cases hb
        · rw [if_neg hd]
          have hn : (c == d) = false := by simpa using fun e => hd e.symm
          rw [hn, Bool.false_and]
          by_cases h3 : d = c + 1
          · rw [if_pos h3]; simp
          · rw [if_neg h3]
            by_cases h4 : d < c
            · simp [h4]
            · have h5 : ¬ d < c + 1 := by
                rw [UInt8.lt_iff_toNat_lt] at h4 ⊢
                have : d.toNat ≠ c.toNat := fun e => hd (UInt8.toNat_inj.1 e)
                omega
              simp [h5]
    · rw [bhL_cons2 c l h0]
      cases t with
      | nil => simp [bl]
      | cons d t =>
        rw [bl_cons, bl_cons, List.isPrefixOf_cons_cons]
        by_cases hd : d = c
        · subst hd
          rw [if_pos rfl, if_pos rfl]
          simp only [beq_self_eq_true, Bool.true_and]
          exact bh_law l t h0
        · rw [if_neg hd, if_neg hd]
          have hn : (c == d) = false := by simpa using fun e => hd e.symm
          rw [hn]
          by_cases h4 : d < c <;> simp [h4]
theorem bh_none (l t : List UInt8) (h : nb l = 0) : (l.isPrefixOf t || bl t l) = true := by
  cases hb : bl t l with
  | false => rw [all255 l t h hb]; rfl
  | true => simp

theorem less_bl : ∀ a b : List UInt8, Op.bytesLess a b = bl a b
  | [], [] => rfl
  | [], _ :: _ => rfl
  | _ :: _, [] => rfl
  | x :: a, y :: b => by
    have ih := less_bl a b
    rw [bl_cons]
    unfold Op.bytesLess
    rw [ih]
    by_cases h : x = y
    · subst h; simp [UInt8.lt_irrefl]
    · rw [if_neg h]; simp [h]
theorem lessB (s t : ByteArray) : Op.bytesLess s.toList t.toList = bl s.data.toList t.data.toList := by rw [less_bl, ByteArray.toList_eq, ByteArray.toList_eq]

set_option maxHeartbeats 2000000 in
theorem lbehind_any (s t : ByteArray) (w : World) (hm : MaxC w) : Calls Tryd.prog 6 #[.string s, .string t] w (RetB w (.bool true)) := by
  have HF := Lib.hid fun (W : World) (hb : Below w.heap.size w W) => fixed5_any W (hm.below0 hb)
  clear hm
  by_cases hl : 3000 < s.size ∨ 3000 < t.size
  · have hcs : decide ((3000 : Int) < (s.size : Int)) = true ∨ (decide ((3000 : Int) < (s.size : Int)) = false ∧ decide ((3000 : Int) < (t.size : Int)) = true) := by
      by_cases h : 3000 < s.size
      · exact .inl (by simp; omega)
      · exact .inr ⟨by simp; omega, by simp; omega⟩
    clear hl
    rcases hcs with h1 | ⟨h1, h2⟩
    all_goals
      go_enter Tryd.func6, Tryd.ntmps6
      go_wp2_with fail
      refine (HF.out _ (Below.refl _ _)).mono ?_
      rintro e w3 ⟨rfl, hb3⟩
      go_wp2
      go_ret
      exact ⟨rfl, hb3⟩
  · have l1 : decide ((3000 : Int) < (s.size : Int)) = false := by simp; omega
    have l2 : decide ((3000 : Int) < (t.size : Int)) = false := by simp; omega
    have B1 := fun W => behind_any s W (by omega)
    have B2 := fun W => rbehind_any s W (by omega)
    have G := fun W => begins_any s t W (by omega) (by omega)
    unfold RetBh at B1 B2
    obtain ⟨x, hx⟩ : ∃ x, Op.bytesLess t.toList s.toList = x := ⟨_, rfl⟩
    obtain ⟨b, hb⟩ : ∃ b, begB s t = b := ⟨_, rfl⟩
    rw [hb] at G
    clear hl
    by_cases h0 : nb s.data.toList = 0
    · rw [if_pos h0] at B1 B2
      have hd : decide (nb s.data.toList ≠ 0) = false := by simpa using h0
      rw [hd] at B1 B2
      have hlaw : (b || x) = true := by rw [← hb, ← hx, lessB]; exact bh_none _ _ h0
      have H1 := Lib.hid B1; clear B1
      have H2 := Lib.hid B2; clear B2
      have HG := Lib.hid G; clear G
      clear h0 hd hb
      cases b
      · obtain rfl : x = true := by simpa using hlaw
        clear hlaw
        go_enter Tryd.func6, Tryd.ntmps6
        go_wp2_with fail
        refine (H1.out _).mono ?_
        rintro e w1 ⟨rfl, hb1⟩
        go_wp2_with fail
        refine (H2.out _).mono ?_
        rintro e w2 ⟨rfl, hb2⟩
        go_wp2_with fail
        refine (HG.out _).mono ?_
        rintro e w' ⟨rfl, rfl⟩
        go_wp2_with fail
        refine (HF.out _ (by (with_reducible repeat (first | exact Below.refl _ _ | exact hb2 | exact hb1 | refine bto0 ?_ hb2 | refine bto0 ?_ hb1 | refine bdr ?_ _ | refine Below.drew ?_ | refine ball ?_ _)))).mono ?_
        rintro e w3 ⟨rfl, hb3⟩
        go_wp2
        go_ret
        exact ⟨ret_bool (by simp), by (with_reducible repeat (first | exact Below.refl _ _ | exact hb3 | exact hb2 | exact hb1 | refine bto0 ?_ hb3 | refine bto0 ?_ hb2 | refine bto0 ?_ hb1 | refine bdr ?_ _ | refine Below.drew ?_ | refine ball ?_ _))⟩
      · clear hlaw
        go_enter Tryd.func6, Tryd.ntmps6
        go_wp2_with fail
        refine (H1.out _).mono ?_
        rintro e w1 ⟨rfl, hb1⟩
        go_wp2_with fail
        refine (H2.out _).mono ?_
        rintro e w2 ⟨rfl, hb2⟩
        go_wp2_with fail
        refine (HG.out _).mono ?_
        rintro e w' ⟨rfl, rfl⟩
        go_wp2_with fail
        refine (HF.out _ (by (with_reducible repeat (first | exact Below.refl _ _ | exact hb2 | exact hb1 | refine bto0 ?_ hb2 | refine bto0 ?_ hb1 | refine bdr ?_ _ | refine Below.drew ?_ | refine ball ?_ _)))).mono ?_
        rintro e w3 ⟨rfl, hb3⟩
        go_wp2
        go_ret
        exact ⟨ret_bool (by simp), by (with_reducible repeat (first | exact Below.refl _ _ | exact hb3 | exact hb2 | exact hb1 | refine bto0 ?_ hb3 | refine bto0 ?_ hb2 | refine bto0 ?_ hb1 | refine bdr ?_ _ | refine Below.drew ?_ | refine ball ?_ _))⟩
    · rw [if_neg h0] at B1 B2
      have hd : decide (nb s.data.toList ≠ 0) = true := by simpa using h0
      rw [hd] at B1 B2
      obtain ⟨u, hu⟩ : ∃ u, str (bhL s.data.toList) = u := ⟨_, rfl⟩
      have hul : u.data.toList = bhL s.data.toList := by rw [← hu]; simp [str]
      rw [hu] at B1 B2
      obtain ⟨y, hy⟩ : ∃ y, Op.bytesLess t.toList u.toList = y := ⟨_, rfl⟩
      have hlaw : (!x && y) = b := by rw [← hb, ← hx, ← hy, lessB, lessB, hul]; exact bh_law _ _ h0
      have H1 := Lib.hid B1; clear B1
      have H2 := Lib.hid B2; clear B2
      subst hlaw
      have HG := Lib.hid G; clear G
      clear h0 hd hb hu hul
      cases x <;> cases y
      all_goals
        simp only [Bool.not_true, Bool.not_false, Bool.and_true, Bool.and_false, Bool.true_and, Bool.false_and] at HG
        go_enter Tryd.func6, Tryd.ntmps6
        go_wp2_with fail
        refine (H1.out _).mono ?_
        rintro e w1 ⟨rfl, hb1⟩
        go_wp2_with fail
        refine (H2.out _).mono ?_
        rintro e w2 ⟨rfl, hb2⟩
        go_wp2_with fail
        refine (HG.out _).mono ?_
        rintro e w' ⟨rfl, rfl⟩
        go_wp2_with fail
        refine (HF.out _ (by (with_reducible repeat (first | exact Below.refl _ _ | exact hb2 | exact hb1 | refine bto0 ?_ hb2 | refine bto0 ?_ hb1 | refine bdr ?_ _ | refine Below.drew ?_ | refine ball ?_ _)))).mono ?_
        rintro e w3 ⟨rfl, hb3⟩
        go_wp2
        go_ret
        exact ⟨ret_bool (by simp), by (with_reducible repeat (first | exact Below.refl _ _ | exact hb3 | exact hb2 | exact hb1 | refine bto0 ?_ hb3 | refine bto0 ?_ hb2 | refine bto0 ?_ hb1 | refine bdr ?_ _ | refine Below.drew ?_ | refine ball ?_ _))⟩
end Go.Proofs.YtohaplmbgipbcaaDoor

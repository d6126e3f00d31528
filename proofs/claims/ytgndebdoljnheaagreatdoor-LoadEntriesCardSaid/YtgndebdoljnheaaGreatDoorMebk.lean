/-
  Several texts in one: Kf Kg Ku.
-/
import Derived.Test.YtgndebdoljnheaaGreatDoorMebh
import Derived.Test.YtgndebdoljnheaaGreatDoorMeaq
import Derived.Test.YtgndebdoljnheaaGreatDoorMebf
/-
  The text behind others (plain); the laws KeycodeBehind, KeycodeLeast: their walks.
-/
namespace Go.Proofs.YtgndebdoljnheaaGreatDoor
section
set_option linter.unusedSimpArgs false
set_option linter.unusedVariables false
open Go.RowKit

theorem nbf_cons (c : UInt8) (l : List UInt8) : ∀ k, nbf (c :: l) (k + 1) = if nbf l k = 0 then (if c = 255 then 0 else 1) else nbf l k + 1
  | 0 => by simp [nbf]
  | k + 1 => by
    rw [nbf, nbf_cons c l k]
    conv => rhs; rw [nbf]
    rw [List.getElem?_cons_succ]
    by_cases h : l[k]? = some 255
    · rw [if_pos h, if_pos h]
    · rw [if_neg h, if_neg h]; simp
theorem nb_cons (c : UInt8) (l : List UInt8) : nb (c :: l) = if nb l = 0 then (if c = 255 then 0 else 1) else nb l + 1 := by
  unfold nb; rw [List.length_cons, nbf_cons]
theorem bl_nil (b : List UInt8) : bl b [] = false := by cases b <;> rfl
theorem bl_cons (x y : UInt8) (a b : List UInt8) : bl (x :: a) (y :: b) = if x = y then bl a b else decide (x < y) := rfl
theorem bl_self : ∀ a : List UInt8, bl a a = false
  | [] => rfl
  | x :: a => by rw [bl_cons, if_pos rfl]; exact bl_self a
/-- Bytes 255 alone. -/
theorem all255 : ∀ (l t : List UInt8), nb l = 0 → bl t l = false → l.isPrefixOf t = true
  | [], t, _, _ => by simp
  | c :: l, t, h, ht => by
    rw [nb_cons] at h
    by_cases h0 : nb l = 0
    · rw [if_pos h0] at h
      by_cases hc : c = 255
      · subst hc
        cases t with
        | nil => exact absurd ht (by simp [bl])
        | cons d t =>
          rw [bl_cons] at ht
          by_cases hd : d = 255
          · rw [if_pos hd] at ht
            subst hd
            simpa using all255 l t h0 ht
          · rw [if_neg hd] at ht
            have h1 : ¬ d < 255 := by simpa using ht
            have h2 := d.toNat_lt
            exact absurd (UInt8.lt_iff_toNat_lt.2 (by have : d.toNat ≠ 255 := fun e => hd (UInt8.toNat_inj.1 e); show d.toNat < 255; omega)) h1
      · rw [if_neg hc] at h; omega
    · rw [if_neg h0] at h; omega
theorem pre_not_lt : ∀ (l t : List UInt8), l.isPrefixOf t = true → bl t l = false
  | [], t, _ => bl_nil t
  | c :: l, [], h => by simp at h
  | c :: l, d :: t, h => by
    rw [List.isPrefixOf_cons_cons, Bool.and_eq_true, beq_iff_eq] at h
    rw [bl_cons, if_pos h.1.symm]
    exact pre_not_lt l t h.2
theorem bhL_cons1 (c : UInt8) (l : List UInt8) (h0 : nb l = 0) (hc : c ≠ 255) : bhL (c :: l) = [c + 1] := by
  unfold bhL
  rw [nb_cons, if_pos h0, if_neg hc]
  rfl
theorem bhL_cons2 (c : UInt8) (l : List UInt8) (h0 : nb l ≠ 0) : bhL (c :: l) = c :: bhL l := by
  unfold bhL
  rw [nb_cons, if_neg h0]
  obtain ⟨n, hn⟩ : ∃ n, nb l = n + 1 := ⟨nb l - 1, by omega⟩
  rw [hn]
  simp
theorem bh_law : ∀ (l t : List UInt8), nb l ≠ 0 → ((!bl t l) && bl t (bhL l)) = l.isPrefixOf t
  | [], t, h => absurd rfl h
  | c :: l, t, h => by
    by_cases h0 : nb l = 0
    · have hc : c ≠ 255 := by
        intro e
        rw [nb_cons, if_pos h0, if_pos e] at h
        exact h rfl
      rw [bhL_cons1 c l h0 hc]
      have hinc := u8_inc c hc
      cases t with
      | nil => simp [bl]
      | cons d t =>
        rw [bl_cons, bl_cons, bl_nil, List.isPrefixOf_cons_cons]
        by_cases hd : d = c
        · subst hd
          have h1 : ¬ d = d + 1 := by intro e; rw [← e] at hinc; omega
          have h2 : d < d + 1 := by rw [UInt8.lt_iff_toNat_lt]; omega
          rw [if_pos rfl, if_neg h1]
          simp only [h2, decide_true, Bool.and_true, beq_self_eq_true, Bool.true_and]
          cases hb : bl t l with
          | false => rw [all255 l t h0 hb]; rfl
          | true =>
            cases hp : l.isPrefixOf t with
            | false => rfl
            | true => rw [pre_not_lt l t hp] at hb; cases hb
        · rw [if_neg hd]
          have hn : (c == d) = false := by simpa using fun e => hd e.symm
          rw [hn, Bool.false_and]
          by_cases h3 : d = c + 1
          · rw [if_pos h3]; simp
          · rw [if_neg h3]
            by_cases h4 : d < c
            · simp [h4]
            · have h5 : ¬ d < c + 1 := by
                rw [UInt8.lt_iff_toNat_lt] at h4 ⊢
                have : d.toNat ≠ c.toNat := fun e => hd (UInt8.toNat_inj.1 e)
                omega
              simp [h5]
    · rw [bhL_cons2 c l h0]
      cases t with
      | nil => simp [bl]
      | cons d t =>
        rw [bl_cons, bl_cons, List.isPrefixOf_cons_cons]
        by_cases hd : d = c
        · subst hd
          rw [if_pos rfl, if_pos rfl]
          simp only [beq_self_eq_true, Bool.true_and]
          exact bh_law l t h0
        · rw [if_neg hd, if_neg hd]
          have hn : (c == d) = false := by simpa using fun e => hd e.symm
          rw [hn]
          by_cases h4 : d < c <;> simp [h4]
theorem bh_none (l t : List UInt8) (h : nb l = 0) : (l.isPrefixOf t || bl t l) = true := by
  cases hb : bl t l with
  | false => rw [all255 l t h hb]; rfl
  | true => simp

theorem less_bl : ∀ a b : List UInt8, Op.bytesLess a b = bl a b
  | [], [] => rfl
  | [], _ :: _ => rfl
  | _ :: _, [] => rfl
  | x :: a, y :: b => by
    have ih := less_bl a b
    rw [bl_cons]
    unfold Op.bytesLess
    rw [ih]
    by_cases h : x = y
    · subst h; simp [UInt8.lt_irrefl]
    · rw [if_neg h]; simp [h]
theorem lessB (s t : ByteArray) : Op.bytesLess s.toList t.toList = bl s.data.toList t.data.toList := by rw [less_bl, ByteArray.toList_eq, ByteArray.toList_eq]
end
end Go.Proofs.YtgndebdoljnheaaGreatDoor
/-
  The law KeycodeLeast: its walk.
-/
namespace Go.Proofs.YtgndebdoljnheaaGreatDoor
section
set_option linter.unusedSimpArgs false
set_option linter.unusedVariables false
open Go.RowKit

theorem may_k {v : Vl} (h : mayV v = true) : v.k = 0 ∨ v.k = 1 ∨ v.k = 2 ∨ v.k = 3 := by
  unfold mayV at h
  split at h
  · omega
  · split at h
    · omega
    · split at h
      · omega
      · split at h
        · omega
        · cases h
theorem key_head {v : Vl} (h : mayV v = true) : ∃ r, keyV v = UInt8.ofNat (1 + v.k).toNat :: r := by
  have hk := may_k h
  unfold keyV
  rcases hk with hk | hk | hk | hk
  · rw [if_neg (by omega), if_neg (by omega), if_neg (by omega), hk]; exact ⟨[], rfl⟩
  · rw [if_pos hk, hk]; exact ⟨_, rfl⟩
  · rw [if_neg (by omega), if_pos hk, hk]; exact ⟨_, rfl⟩
  · rw [if_neg (by omega), if_neg (by omega), if_pos hk, hk]; exact ⟨_, rfl⟩
theorem least_beg {v : Vl} {l : List Vl} (h : allMay (v :: l) = true) : begB ⟨#[UInt8.ofNat (1 + v.k).toNat]⟩ (str (kS (v :: l))) = true := by
  have hv : mayV v = true := by unfold allMay at h; simp at h; exact h.1
  obtain ⟨r, hr⟩ := key_head hv
  unfold begB kS keyR
  rw [h]
  simp only [if_true, List.flatMap_cons, hr]
  simp [str]
end
end Go.Proofs.YtgndebdoljnheaaGreatDoor
/-
  Keys as bytes: contract of the reference's Put.
-/
namespace Go.Proofs.YtgndebdoljnheaaGreatDoor
section
set_option linter.unusedSimpArgs false
set_option linter.unusedVariables false
open Go.RowKit

theorem reads_blkK {w : World} {g n : Nat} {t : TypeId} {l : List UInt8} (h : Blk w g t (bV l)) (hn : l.length = n) : Reads w (g + 1) 1 (some ⟨g, 0, none⟩) n (bL l) := by
  refine ⟨by rw [bL_len]; omega, fun _ => ⟨_, rfl, Nat.lt_succ_self _, fun j u hu => ?_⟩⟩
  rw [add_head, h.cell, bV, List.getElem?_toArray]
  exact hu
theorem esc_next (s : ByteArray) (j : Nat) (h : j < s.size) : escL (s.data.toList.take (j + 1)) = escL (s.data.toList.take j) ++ (if s[j] = 0 then [0, 255] else [s[j]]) := by
  rw [List.take_add_one, at_get s j h, escL_app]
  rfl

set_option maxRecDepth 100000 in
set_option maxHeartbeats 4000000 in
theorem rkput_any2 (A : Option Addr) (n c : Nat) (l : List Vl) (w : World) (hr : Reads w w.heap.size 3 A n (vV l)) (hok : ∀ v ∈ l, v.ok) (g1 : l.length ≤ 5000) (g2 : ∀ v ∈ l, v.s.size ≤ 5000) (g3 : (keyR l).length ≤ 900000) :
    Calls Tryz.prog 12 #[.slice A n c] w (RetPut w l) := by
  have hl : l.length = n := by have := hr.1; rw [vV_len] at this; omega
  have hn : n ≤ 5000 := by omega
  have hnI : (n : Int) ≤ 5000 := by omega
  have Hl := Lib.hid hl; clear hl
  have hO := Own.empty w (g := w.heap.size) rfl
  have hb0 : Below w.heap.size w (w.alloc (.cells #[] 5)) := ball (Below.refl _ _) _
  go_enter Tryz.func12, Tryz.ntmps12
  go_wp2
  go_loopw [4, 11] (fun bv iv wr => ∃ k : Nat, k ≤ n ∧ iv = .int .i64 k ∧ allMay (l.take k) = true ∧ Own wr w.heap.size bv (keyR (l.take k)) ∧ Below w.heap.size w wr) (fun _ iv _ => n - (intOf iv).toNat)
  case atStart => exact ⟨0, by omega, rfl, rfl, hO, hb0⟩
  case round =>
    obtain ⟨k, hk, rfl, ha, hown, hb⟩ := hrel
    have Ha := Lib.hid ha; clear ha
    have q0 : (0 : Int) ≤ (k : Int) := by omega
    by_cases hlt : k < n
    · have q1 : (k : Int) < (n : Int) := by omega
      obtain ⟨ad, v, rfl, hab, hv, d0, d1, d2⟩ := (hr.below hb).val hlt
      have hvok := hok v (List.mem_of_getElem? hv)
      have hvsz := g2 v (List.mem_of_getElem? hv)
      have hft := key_take_len l k
      have hkl : (keyR (l.take k)).length ≤ 900000 := by omega
      have M := fun W => rmay_any v hvok W
      have Hv := Lib.hid hv; clear hv hft
      have hbs := hb.size
      by_cases hmv : mayV v = true
      · rw [hmv] at M
        have HM := Lib.hid hmv
        have hk4 := may_k hmv
        clear hmv
        have MM := Lib.hid M; clear M
        obtain ⟨vk, vi, vs⟩ := v
        obtain ⟨⟨hk0, hk1⟩, ⟨hi0, hi1⟩, hs⟩ := hvok
        unfold Vl.agg at MM
        simp only at d0 d1 d2 MM hk0 hk1 hi0 hi1 hs hvsz hk4
        have HT := Lib.hid (key_take Hv.out)
        have HA := Lib.hid (all_take Hv.out Ha.out HM.out)
        clear Hv Ha HM
        obtain ⟨Lk, hLk⟩ : ∃ Lk, keyR (l.take k) = Lk := ⟨_, rfl⟩
        rw [hLk] at hown hkl HT
        clear hLk
        rcases hk4 with rfl | rfl | rfl | rfl
        · have hkv : keyV ⟨0, vi, vs⟩ = [1] := rfl
          rw [hkv] at HT
          clear hkv
          go_wp2_with fail
          refine (MM.out _).mono ?_
          rintro e w1 ⟨rfl, hb1⟩
          have X1 := (Blk.new wr 35 #[.int .u8 0, .int .i64 vi, .string vs]).below hb1 (by simp)
          have c0 := X1.cell 0
          have hbw : Below w.heap.size w w1 := bto0 (ball hb _) hb1
          have own1 := (hown.alloc (.cells #[.int .u8 0, .int .i64 vi, .string vs] 35)).below hb1
          have hbs1 := hbw.size
          go_wp2_with (at_builtin; refine wpList_pushB rfl _ _ rfl w.heap.size u4 Lk 1 _ rfl own1 _ rfl rfl rfl (by omega) hbs1 ?_; intro v2 w2 own2 kp2; have X2 := kp2.blk _ _ _ (by decide) X1; have c0' := X2.cell 0)
          go_roundw
          case rel => exact ⟨k + 1, by omega, by go_num, HA.out, by rw [HT.out]; exact own2, kp2.below _ _ (Nat.le_refl _) hbw⟩
          case measure => simp [intOf]; omega
        · obtain ⟨U, hU⟩ : ∃ U : Nat, (vi + 9223372036854775808).toNat = U := ⟨_, rfl⟩
          have hkv : keyV ⟨1, vi, vs⟩ = 2 :: be 8 U := by rw [← hU]; rfl
          rw [hkv] at HT
          have NU := Lib.hid fun W => rnum5_any vi U (by omega) (by omega) W
          clear hkv hU
          go_wp2_with fail
          refine (MM.out _).mono ?_
          rintro e w1 ⟨rfl, hb1⟩
          have X1 := (Blk.new wr 35 #[.int .u8 1, .int .i64 vi, .string vs]).below hb1 (by simp)
          have c0 := X1.cell 0
          have c1 := X1.cell 1
          have hbw : Below w.heap.size w w1 := bto0 (ball hb _) hb1
          have own1 := (hown.alloc (.cells #[.int .u8 1, .int .i64 vi, .string vs] 35)).below hb1
          have hbs1 := hbw.size
          go_wp2_with (first
            | (at_builtin; refine wpList_pushB rfl _ _ rfl w.heap.size u4 Lk 2 _ rfl own1 _ rfl rfl rfl (by omega) hbs1 ?_; intro v2 w2 own2 kp2; have X2 := kp2.blk _ _ _ (by decide) X1; have c0' := X2.cell 0; have c1' := X2.cell 1; have hbs2 := Nat.le_trans hbs1 kp2.size)
            | (go_at_call 28; (with_reducible refine (NU.out _).mono ?_); rintro e w3 ⟨rfl, hB3, hb3⟩; have own3 := own2.below hb3; have X3 := X2.below hb3 X2.lt; have c0'' := X3.cell 0; have hbs3 := Nat.le_trans hbs2 hb3.size)
            | (at_builtin; refine wpList_appR rfl _ _ rfl w.heap.size v2 _ (be 8 U) _ _ _ (w2.heap.size + 1) rfl own3 rfl (by exact reads_blkK hB3 (be_len 8 U)) (by simp [be_len]; omega) hbs3 ?_; intro v4 w4 own4 kp4; have X4 := kp4.blk _ _ _ (by decide) X3; have c0''' := X4.cell 0))
          go_roundw
          case rel => exact ⟨k + 1, by omega, by go_num, HA.out, by rw [HT.out]; simpa using own4, kp4.below _ _ (Nat.le_refl _) ((kp2.below _ _ (Nat.le_refl _) hbw).trans (hb3.mono hbs2))⟩
          case measure => simp [intOf]; omega
        · have U2 : Hid (vi % 256 = ((UInt8.ofNat (vi % 256).toNat).toNat : Int)) := by show vi % 256 = _; simp; omega
          have hkv : keyV ⟨2, vi, vs⟩ = [3, UInt8.ofNat (vi % 256).toNat] := rfl
          rw [hkv] at HT
          clear hkv
          go_wp2_with fail
          refine (MM.out _).mono ?_
          rintro e w1 ⟨rfl, hb1⟩
          have X1 := (Blk.new wr 35 #[.int .u8 2, .int .i64 vi, .string vs]).below hb1 (by simp)
          have c0 := X1.cell 0
          have c1 := X1.cell 1
          have hbw : Below w.heap.size w w1 := bto0 (ball hb _) hb1
          have own1 := (hown.alloc (.cells #[.int .u8 2, .int .i64 vi, .string vs] 35)).below hb1
          have hbs1 := hbw.size
          go_wp2_with (first
            | (at_builtin; refine wpList_pushB rfl _ _ rfl w.heap.size u4 Lk 3 _ rfl own1 _ rfl rfl rfl (by omega) hbs1 ?_; intro v2 w2 own2 kp2; have X2 := kp2.blk _ _ _ (by decide) X1; have c0' := X2.cell 0; have c1' := X2.cell 1; have hbs2 := Nat.le_trans hbs1 kp2.size)
            | (at_builtin; refine wpList_pushB rfl _ _ rfl w.heap.size v2 _ (UInt8.ofNat (vi % 256).toNat) _ rfl own2 _ rfl rfl U2.out (by simp; omega) hbs2 ?_; intro v3 w3 own3 kp3; have X3 := kp3.blk _ _ _ (by decide) X2; have c0'' := X3.cell 0))
          go_roundw
          case rel => exact ⟨k + 1, by omega, by go_num, HA.out, by rw [HT.out]; simpa using own3, kp3.below _ _ (Nat.le_refl _) (kp2.below _ _ (Nat.le_refl _) hbw)⟩
          case measure => simp [intOf]; omega
        · have hkv : keyV ⟨3, vi, vs⟩ = 4 :: (escL vs.data.toList ++ [0, 1]) := rfl
          rw [hkv] at HT
          clear hkv
          have hsI : (vs.size : Int) ≤ 5000 := by omega
          go_wp2_with fail
          refine (MM.out _).mono ?_
          rintro e w1 ⟨rfl, hb1⟩
          have X1 := (Blk.new wr 35 #[.int .u8 3, .int .i64 vi, .string vs]).below hb1 (by simp)
          have c0 := X1.cell 0
          have hbw : Below w.heap.size w w1 := bto0 (ball hb _) hb1
          have own1 := (hown.alloc (.cells #[.int .u8 3, .int .i64 vi, .string vs] 35)).below hb1
          have hbs1 := hbw.size
          go_wp2_with (at_builtin; refine wpList_pushB rfl _ _ rfl w.heap.size u4 Lk 4 _ rfl own1 _ rfl rfl rfl (by omega) hbs1 ?_; intro v2 w2 own2 kp2; have X2 := kp2.blk _ _ _ (by decide) X1; have c0' := X2.cell 0; have hb2 := kp2.below _ _ (Nat.le_refl _) hbw)
          clear c0 c0' hbs1 own1 hbw
          go_loopw [4, 7] (fun bv iv wi => ∃ j : Nat, j ≤ vs.size ∧ iv = .int .i64 j ∧ Own wi w.heap.size bv (Lk ++ 4 :: escL (vs.data.toList.take j)) ∧ Blk wi wr.heap.size 35 #[.int .u8 3, .int .i64 vi, .string vs] ∧ Below w.heap.size w wi) (fun _ iv _ => vs.size - (intOf iv).toNat)
          case atStart => exact ⟨0, by omega, rfl, by simpa [escL] using own2, X2, hb2⟩
          case round =>
            obtain ⟨j, hj, rfl, hown2, hX, hbj⟩ := hrel
            have r0 : (0 : Int) ≤ (j : Int) := by omega
            have c2 := hX.cell 2
            have hbsj := hbj.size
            have hel : (escL (vs.data.toList.take j)).length ≤ 2 * j := by have := escL_len (vs.data.toList.take j); have h2 : (vs.data.toList.take j).length ≤ j := List.length_take_le _ _; omega
            have hll : (Lk ++ 4 :: escL (vs.data.toList.take j)).length ≤ 920000 := by simp; omega
            by_cases hjl : j < vs.size
            · have r1 : (j : Int) < (vs.size : Int) := by omega
              have hnx := Lib.hid (esc_next vs j hjl)
              obtain ⟨Lj, hLj⟩ : ∃ Lj, escL (vs.data.toList.take j) = Lj := ⟨_, rfl⟩
              rw [hLj] at hown2 hll hnx
              clear hLj hel
              by_cases hc : vs[j] = 0
              · have hcb : ((vs[j].toNat : Int) == 0) = true := by rw [hc]; rfl
                have HN : Hid (escL (vs.data.toList.take (j + 1)) = Lj ++ [vs[j], 255]) := Lib.hid (by rw [hnx.out, if_pos hc, hc])
                clear hnx hc
                go_wp2_with (first
                  | (at_builtin; refine wpList_pushB rfl _ _ rfl w.heap.size u4 _ vs[j] _ rfl hown2 _ rfl rfl rfl (by omega) hbsj ?_; intro v3 w3 own3 kp3; have X3 := kp3.blk _ _ _ (by decide) hX; have c2' := X3.cell 2; have hbs3 := Nat.le_trans hbsj kp3.size)
                  | (at_builtin; refine wpList_pushB rfl _ _ rfl w.heap.size v3 _ 255 _ rfl own3 _ rfl rfl rfl (by simp at hll ⊢; omega) hbs3 ?_; intro v4 w4 own4 kp4; have X4 := kp4.blk _ _ _ (by decide) X3; have c2'' := X4.cell 2))
                go_roundw
                case rel => exact ⟨j + 1, by omega, by go_num, by rw [HN.out]; simpa using own4, X4, kp4.below _ _ (Nat.le_refl _) (kp3.below _ _ (Nat.le_refl _) hbj)⟩
                case measure => simp [intOf]; omega
              · have hcb : ((vs[j].toNat : Int) == 0) = false := beq_eq_false_iff_ne.2 fun e => hc (UInt8.toNat_inj.1 (by show vs[j].toNat = 0; omega))
                have HN : Hid (escL (vs.data.toList.take (j + 1)) = Lj ++ [vs[j]]) := Lib.hid (by rw [hnx.out, if_neg hc])
                clear hnx hc
                go_wp2_with (at_builtin; refine wpList_pushB rfl _ _ rfl w.heap.size u4 _ vs[j] _ rfl hown2 _ rfl rfl rfl (by omega) hbsj ?_; intro v3 w3 own3 kp3; have X3 := kp3.blk _ _ _ (by decide) hX; have c2' := X3.cell 2)
                go_roundw
                case rel => exact ⟨j + 1, by omega, by go_num, by rw [HN.out]; simpa using own3, X3, kp3.below _ _ (Nat.le_refl _) hbj⟩
                case measure => simp [intOf]; omega
            · obtain rfl : j = vs.size := by omega
              have hT : vs.data.toList.take vs.size = vs.data.toList := List.take_of_length_le (by show vs.size ≤ vs.size; exact Nat.le_refl _)
              rw [hT] at hown2 hll
              have own6 := hown2.alloc (.cells #[.int .u8 0, .int .u8 1] 5)
              clear hT hel
              go_wp2_with (at_builtin; refine wpList_appR rfl _ _ rfl w.heap.size u4 _ [0, 1] _ _ _ _ rfl own6 rfl (two_reads _ 0 1 rfl rfl rfl) (by simp at hll ⊢; omega) (by simp; omega) ?_; intro v3 w3 own3 kp3)
              go_roundw
              case rel => exact ⟨k + 1, by omega, by go_num, HA.out, by rw [HT.out]; simpa using own3, kp3.below _ _ (Nat.le_refl _) (ball hbj _)⟩
              case measure => simp [intOf]; omega
      · have hm' : mayV v = false := by simpa using hmv
        rw [hm'] at M
        have MM := Lib.hid M; clear M
        have hf := all_no Hv.out hm'
        have HF := Lib.hid hf; clear hf hmv hm'
        obtain ⟨vk, vi, vs⟩ := v
        unfold Vl.agg at MM
        simp only at d0 d1 d2 MM
        go_wp2_with fail
        refine (MM.out _).mono ?_
        rintro e w1 ⟨rfl, hb1⟩
        go_wp2
        go_ret2
        exact ⟨by unfold kE kS; rw [HF.out]; rfl, bto0 (ball hb _) hb1⟩
    · obtain rfl : k = n := by omega
      have hT : l.take k = l := List.take_of_length_le (by rw [Hl.out]; exact Nat.le_refl _)
      have hall : allMay l = true := by have := Ha.out; rwa [hT] at this
      have HA := Lib.hid hall; clear hall Ha
      rw [hT] at hown
      clear hT
      obtain ⟨A5, c5, rfl, hc5⟩ := hown.form
      have hcv := hown.conv
      have hfin : Hid (str (keyR l) = str (kS l) ∧ kE l = 0) := Lib.hid (by unfold kE kS; rw [HA.out]; exact ⟨rfl, rfl⟩)
      clear hown
      go_wp2
      go_ret2
      exact ⟨by rw [← hfin.out.1, hfin.out.2]; rfl, hb⟩
theorem rkput_any (A : Option Addr) (n c : Nat) (l : List Vl) (w : World) (hr : Reads w w.heap.size 3 A n (vV l)) (hok : ∀ v ∈ l, v.ok) (hg : grV 0 l = false) :
    Calls Tryz.prog 12 #[.slice A n c] w (RetPut w l) :=
  rkput_any2 A n c l w hr hok (grV_bd hg).1 (grV_bd hg).2.1 (by have := (grV_bd hg).2.2; omega)
end
end Go.Proofs.YtgndebdoljnheaaGreatDoor

/-
  Tokens of queries: contract of text.
-/
import Derived.Test.YtbmfojeklhbocaaXd
set_option linter.unusedSimpArgs false
set_option linter.unusedVariables false
namespace Go.Proofs.Ytbmfojeklhbocaa
open Go.RowKit

theorem Own.convX {w : World} {base : Nat} {A : Option Addr} {n c : Nat} {l : List UInt8} (h : Own w base (.slice A n c) l) :
    (convert 22 9 (.slice A n c)).run Try.prog w = .ok (.string (str l)) w :=
  conv_reads h.reads.1 _ 5 _ Try.underlying22 Try.underlying5 Try.underlying9 c
theorem q39 {c : UInt8} (h : c ≠ 39) : ((c.toNat : Int) == 39) = false ∧ ((c.toNat : Int) != 39) = true := by
  have : (c.toNat : Int) ≠ 39 := fun e => h (UInt8.toNat_inj.1 (by show c.toNat = 39; omega))
  exact ⟨by simpa using this, by simpa using this⟩
theorem txtN_step {acc : List UInt8} {i : Nat} {c : UInt8} {l : List UInt8} (h : c ≠ 39) : txtN acc i (c :: l) = txtN (acc ++ [c]) (i + 1) l := by
  conv => lhs; unfold txtN
  rw [if_neg h]
theorem txtN_qq {acc : List UInt8} {i : Nat} {l : List UInt8} : txtN acc i (39 :: 39 :: l) = txtN (acc ++ [39]) (i + 2) l := by
  conv => lhs; unfold txtN
  simp
theorem txtN_end {acc : List UInt8} {i : Nat} {l : List UInt8} (h : l = [] ∨ ∃ d r, l = d :: r ∧ d ≠ 39) : txtN acc i (39 :: l) = if 48 < acc.length then .bad 4 else .ok acc (i + 1) := by
  rcases h with rfl | ⟨d, r, rfl, hd⟩
  · conv => lhs; unfold txtN
    simp
  · conv => lhs; unfold txtN
    simp [hd]
/-- The block of a token that comes back, written. -/
theorem tok_fin {w wr : World} {g : Nat} (hb : Blk wr g 29 #[.int .u8 0, .string ⟨#[]⟩, .int .i64 0]) (hbel : Below w.heap.size w wr) (hg : w.heap.size ≤ g) (a b c : Value) :
    (((wr.setCell ⟨g, 0, none⟩ a).setCell ⟨g, 1, none⟩ b).setCell ⟨g, 2, none⟩ c).cell? ⟨g, 0, none⟩ = some a ∧ (((wr.setCell ⟨g, 0, none⟩ a).setCell ⟨g, 1, none⟩ b).setCell ⟨g, 2, none⟩ c).cell? ⟨g, 1, none⟩ = some b ∧ (((wr.setCell ⟨g, 0, none⟩ a).setCell ⟨g, 1, none⟩ b).setCell ⟨g, 2, none⟩ c).cell? ⟨g, 2, none⟩ = some c ∧ Below w.heap.size w (((wr.setCell ⟨g, 0, none⟩ a).setCell ⟨g, 1, none⟩ b).setCell ⟨g, 2, none⟩ c) := by
  have h := ((hb.set_ 0 a).set_ 1 b).set_ 2 c
  exact ⟨h.cell 0, h.cell 1, h.cell 2, ((hbel.setCell hg a).setCell hg b).setCell hg c⟩
set_option maxRecDepth 100000 in
set_option maxHeartbeats 8000000 in
theorem text_any (s : ByteArray) (h0 : 0 < s.size) (hs : s.size ≤ 1000000) (w : World) : Calls Try.prog 39 #[.string s] w (RetTxt w (txtN [] 1 (s.data.toList.drop 1))) := by
  have hsI : (s.size : Int) ≤ 1000000 := by omega
  have hT := Blk.new w 29 #[.int .u8 0, .string ⟨#[]⟩, .int .i64 0]
  have hO := Own.nil (w.alloc (.cells #[.int .u8 0, .string ⟨#[]⟩, .int .i64 0] 29)) w.heap.size
  have hb0 : Below w.heap.size w (w.alloc (.cells #[.int .u8 0, .string ⟨#[]⟩, .int .i64 0] 29)) := ball (Below.refl _ _) _
  have H0 := Lib.hid (And.intro hT (And.intro hO hb0))
  clear hT hO hb0
  go_enter Try.func39, Try.ntmps39
  go_wp2
  go_loopw [5, 6] (fun bv av wr => ∃ (i : Nat) (o : List UInt8), 1 ≤ i ∧ i ≤ s.size ∧ o.length ≤ i ∧ av = .int .i64 (i : Int) ∧ Own wr w.heap.size bv o ∧ Blk wr w.heap.size 29 #[.int .u8 0, .string ⟨#[]⟩, .int .i64 0] ∧ Below w.heap.size w wr ∧ txtN [] 1 (s.data.toList.drop 1) = txtN o i (s.data.toList.drop i)) (fun _ av _ => s.size - (intOf av).toNat)
  case atStart => exact ⟨1, [], by omega, by omega, by simp, rfl, H0.out.2.1, H0.out.1, H0.out.2.2, rfl⟩
  case round =>
    clear H0
    obtain ⟨i, o, hi1, hi, ho, rfl, hown, hT, hb, he⟩ := hrel
    have HE := Lib.hid he
    have hbs := hb.size
    have HS := Lib.hid (And.intro hT hb)
    have hFIN : ∀ a b c : Value, _ := fun a b c => tok_fin hT hb (Nat.le_refl _) a b c
    have FIN := Lib.hid hFIN
    have c0 : wr.cell? ⟨w.heap.size, 0, none⟩ = some (.int .u8 0) := hT.cell 0
    have c1 : wr.cell? ⟨w.heap.size, 1, none⟩ = some (.string ⟨#[]⟩) := hT.cell 1
    have c2 : wr.cell? ⟨w.heap.size, 2, none⟩ = some (.int .i64 0) := hT.cell 2
    have f0 := hT.frozen 0
    have f1 := hT.frozen 1
    have f2 := hT.frozen 2
    have hTl := hT.lt
    have q0 : (0 : Int) ≤ (i : Int) := by omega
    clear he hFIN hT hb
    by_cases hlt : i < s.size
    · have q1 : (i : Int) < (s.size : Int) := by omega
      have HD := Lib.hid (drop_atL s i hlt)
      by_cases hc : s[i] = 39
      · have hcb : ((s[i].toNat : Int) == 39) = true := by rw [hc]; rfl
        have hend : (i + 1 = s.size ∨ ∃ h : i + 1 < s.size, s[i + 1] ≠ 39) → txtN [] 1 (s.data.toList.drop 1) = if 48 < o.length then .bad 4 else .ok o (i + 1) := by
          intro h
          rw [HE.out, HD.out, hc]
          refine txtN_end ?_
          rcases h with h | ⟨h, h2⟩
          · exact .inl (List.drop_eq_nil_of_le (by rw [szL]; omega))
          · exact .inr ⟨_, _, drop_atL s (i + 1) h, h2⟩
        have HEND := Lib.hid hend
        clear hend
        by_cases h1 : i + 1 < s.size
        · have q2 : (i : Int) + 1 < (s.size : Int) := by omega
          have e1 : ((i : Int) + 1 == (s.size : Int)) = false := beq_eq_false_iff_ne.2 (by omega)
          by_cases hd : s[i + 1] = 39
          · have hdb : ((s[i + 1].toNat : Int) != 39) = false := by rw [hd]; rfl
            have hst : Hid (txtN [] 1 (s.data.toList.drop 1) = txtN (o ++ [s[i + 1]]) (i + 2) (s.data.toList.drop (i + 2))) := Lib.hid (by rw [HE.out, HD.out, drop_atL s (i + 1) h1, hc, hd, txtN_qq])
            clear hc hd c0 c1 c2 f0 f1 f2 FIN
            go_wp2_with (at_builtin; refine wpList_pushB rfl _ _ rfl w.heap.size u5 o s[i + 1] _ rfl hown _ rfl rfl rfl (by omega) hbs ?_; intro v2 w2 own2 kp2)
            go_roundw
            case rel => exact ⟨i + 2, o ++ [s[i + 1]], by omega, by omega, by simp; omega, by go_num, own2, kp2.blk _ _ _ (by decide) HS.out.1, kp2.below _ _ (Nat.le_refl _) HS.out.2, hst.out⟩
            case measure => simp [intOf]; omega
          · have hdb := (q39 hd).2
            have hEE := HEND.out (.inr ⟨h1, hd⟩)
            clear hc hd
            by_cases h48 : 48 < o.length
            · have g48 : (48 : Int) < (o.length : Int) := by omega
              rw [if_pos h48] at hEE
              have HF := Lib.hid hEE
              obtain ⟨A5, c5, rfl, hc5⟩ := hown.form
              clear hEE hown
              go_wp2
              obtain ⟨r0, r1, r2, r3⟩ := FIN.out (.int .u8 0) (.string ⟨#[]⟩) (.int .i64 0)
              exact bodyPost_ret (v := .tuple #[.agg #[.int .u8 0, .string ⟨#[]⟩, .int .i64 0], .int .i64 0, .int .i64 4]) (by simp [results, Try.results39, go_sem, r0, r1, r2]) rfl (by rw [HF.out]; exact ⟨rfl, r3⟩)
            · have g48 : (o.length : Int) ≤ 48 := by omega
              rw [if_neg h48] at hEE
              have HF := Lib.hid hEE
              obtain ⟨A5, c5, rfl, hc5⟩ := hown.form
              have hcv := hown.convX
              obtain ⟨P, hP⟩ : ∃ P, str o = P := ⟨_, rfl⟩
              rw [hP] at hcv
              have HP := Lib.hid hP
              clear hEE hown hP
              go_wp2
              obtain ⟨r0, r1, r2, r3⟩ := FIN.out (.int .u8 4) (.string P) (.int .i64 0)
              exact bodyPost_ret (v := .tuple #[.agg #[.int .u8 4, .string P, .int .i64 0], .int .i64 ((i : Int) + 1), .int .i64 0]) (by simp [results, Try.results39, go_sem, r0, r1, r2]) rfl (by rw [HF.out]; exact ⟨by rw [HP.out]; rfl, r3⟩)
        · have e1 : ((i : Int) + 1 == (s.size : Int)) = true := by rw [beq_iff_eq]; omega
          have hEE := HEND.out (.inl (by omega))
          clear hc
          by_cases h48 : 48 < o.length
          · have g48 : (48 : Int) < (o.length : Int) := by omega
            rw [if_pos h48] at hEE
            have HF := Lib.hid hEE
            obtain ⟨A5, c5, rfl, hc5⟩ := hown.form
            clear hEE hown
            go_wp2
            obtain ⟨r0, r1, r2, r3⟩ := FIN.out (.int .u8 0) (.string ⟨#[]⟩) (.int .i64 0)
            exact bodyPost_ret (v := .tuple #[.agg #[.int .u8 0, .string ⟨#[]⟩, .int .i64 0], .int .i64 0, .int .i64 4]) (by simp [results, Try.results39, go_sem, r0, r1, r2]) rfl (by rw [HF.out]; exact ⟨rfl, r3⟩)
          · have g48 : (o.length : Int) ≤ 48 := by omega
            rw [if_neg h48] at hEE
            have HF := Lib.hid hEE
            obtain ⟨A5, c5, rfl, hc5⟩ := hown.form
            have hcv := hown.convX
            obtain ⟨P, hP⟩ : ∃ P, str o = P := ⟨_, rfl⟩
            rw [hP] at hcv
            have HP := Lib.hid hP
            clear hEE hown hP
            go_wp2
            obtain ⟨r0, r1, r2, r3⟩ := FIN.out (.int .u8 4) (.string P) (.int .i64 0)
            exact bodyPost_ret (v := .tuple #[.agg #[.int .u8 4, .string P, .int .i64 0], .int .i64 ((i : Int) + 1), .int .i64 0]) (by simp [results, Try.results39, go_sem, r0, r1, r2]) rfl (by rw [HF.out]; exact ⟨by rw [HP.out]; rfl, r3⟩)
      · have hcb := (q39 hc).1
        have hst : Hid (txtN [] 1 (s.data.toList.drop 1) = txtN (o ++ [s[i]]) (i + 1) (s.data.toList.drop (i + 1))) := Lib.hid (by rw [HE.out, HD.out, txtN_step hc])
        clear hc c0 c1 c2 f0 f1 f2 FIN
        go_wp2_with (at_builtin; refine wpList_pushB rfl _ _ rfl w.heap.size u5 o s[i] _ rfl hown _ rfl rfl rfl (by omega) hbs ?_; intro v2 w2 own2 kp2)
        go_roundw
        case rel => exact ⟨i + 1, o ++ [s[i]], by omega, by omega, by simp; omega, by go_num, own2, kp2.blk _ _ _ (by decide) HS.out.1, kp2.below _ _ (Nat.le_refl _) HS.out.2, hst.out⟩
        case measure => simp [intOf]; omega
    · have HF : Hid (txtN [] 1 (s.data.toList.drop 1) = .bad 11) := Lib.hid (by rw [HE.out, List.drop_eq_nil_of_le (by rw [szL]; omega), txtN])
      go_wp2
      obtain ⟨r0, r1, r2, r3⟩ := FIN.out (.int .u8 0) (.string ⟨#[]⟩) (.int .i64 0)
      exact bodyPost_ret (v := .tuple #[.agg #[.int .u8 0, .string ⟨#[]⟩, .int .i64 0], .int .i64 0, .int .i64 11]) (by simp [results, Try.results39, go_sem, r0, r1, r2]) rfl (by rw [HF.out]; exact ⟨rfl, r3⟩)
end Go.Proofs.Ytbmfojeklhbocaa

/-
  LexMany: the walk.
-/
import Derived.Test.YtbmfojeklhbocaaXj
import Derived.Deep.DeepCutAuto
set_option linter.unusedSimpArgs false
set_option linter.unusedVariables false
namespace Go.Proofs.Ytbmfojeklhbocaa
open Go.RowKit

theorem str_app (a b : List UInt8) : str a ++ str b = str (a ++ b) := by
  apply ByteArray.ext
  simp [str, ByteArray.data_append]
def RetLen (w : World) : TksR → Ending → World → Prop
  | .bad k, e, w' => e = .returned (.tuple #[.slice none 0 0, .int .i64 (k : Int)]) ∧ Below w.heap.size w w'
  | .ok l, e, w' => ∃ A c, e = .returned (.tuple #[.slice A l.length c, .int .i64 0]) ∧ Below w.heap.size w w'
set_option maxRecDepth 100000 in
set_option maxHeartbeats 8000000 in
theorem lexMany_any (n : Int) (h0 : 0 ≤ n) (h1 : n ≤ 65535) (long : Bool) (w : World) : Calls Try.prog 5 #[.int .u16 n, .bool long] w (RetB w (.bool true)) := by
  have FX := Lib.hid fun W => fixed15_any W
  have tk1 : n.tmod 1100 = n % 1100 := Int.tmod_eq_emod_of_nonneg h0
  have tk2 : n.tmod 200 = n % 200 := Int.tmod_eq_emod_of_nonneg h0
  obtain ⟨k, hk⟩ : ∃ k : Nat, n % 1100 = (k : Int) := ⟨(n % 1100).toNat, by omega⟩
  obtain ⟨g, hg⟩ : ∃ g : Nat, n % 200 = (g : Int) := ⟨(n % 200).toNat, by omega⟩
  have hk2 : k < 1100 := by omega
  have hg2 : g < 200 := by omega
  have kI : (k : Int) < 1100 := by omega
  have gI : (g : Int) < 200 := by omega
  rw [hk] at tk1
  rw [hg] at tk2
  clear hk hg
  go_enter Try.func5, Try.ntmps5
  go_wp2
  go_loop [6, 13] (fun sv iv => ∃ i : Nat, i ≤ k ∧ iv = .int .i64 i ∧ sv = .string (str (par i))) (fun _ iv => k - (intOf iv).toNat)
  case atStart => exact ⟨0, by omega, rfl, rfl⟩
  case round =>
    obtain ⟨i, hi, rfl, rfl⟩ := hrel
    have q0 : (0 : Int) ≤ (i : Int) := by omega
    have hsz : (str (par i)).size = 2 * i := by rw [str_size, par_len]
    have happ : str (par i) ++ ⟨#[40, 32]⟩ = str (par (i + 1)) := by
      rw [← par_snoc, ← str_app]; rfl
    obtain ⟨S, hS⟩ : ∃ S, str (par i) = S := ⟨_, rfl⟩
    have HS := Lib.hid hS
    rw [hS] at hsz happ ⊢
    have Happ := Lib.hid happ
    clear hS happ
    by_cases hlt : i < k
    · have q1 : (i : Int) < (k : Int) := by omega
      have hno : ¬ 9223372036854775807 < S.size + 2 := by omega
      have hno2 : ¬ 9223372036854775807 < S.size + (⟨#[40, 32]⟩ : ByteArray).size := by
        show ¬ 9223372036854775807 < S.size + 2
        omega
      go_wp2
      go_round
      case rel => exact ⟨i + 1, by omega, by go_num, by rw [Happ.out]⟩
      case measure => simp [intOf]; omega
    · obtain rfl : i = k := by omega
      go_upto_if 18 with fail
      go_cut [6] (fun s6 wx => ∃ m : Nat, s6 = .string (str (par i ++ sp m)) ∧ 2 * i + m ≤ 4200 ∧ wx = w)
      case first =>
        cases long with
        | false =>
          go_wp2_with fail
          go_meet
          case rel => exact ⟨0, by simp [sp, HS.out], by omega, rfl⟩
        | true =>
          go_wp2_with fail
          go_loop [6] (fun sv => ∃ m : Nat, 2 * i + m ≤ 4000 + g ∧ sv = .string (str (par i ++ sp m))) (fun sv => match sv with | .string s => 4200 - s.size | _ => 0)
          case atStart => exact ⟨0, by omega, by simp [sp, HS.out]⟩
          case round =>
            obtain ⟨m, hm, rfl⟩ := hrel
            have hszm : (str (par i ++ sp m)).size = 2 * i + m := by rw [str_size, List.length_append, par_len]; simp [sp]
            have happm : str (par i ++ sp m) ++ ⟨#[32]⟩ = str (par i ++ sp (m + 1)) := by
              have e : (⟨#[32]⟩ : ByteArray) = str [32] := rfl
              rw [e, str_app, List.append_assoc]
              congr 2
              simp [sp, List.replicate_succ']
            have hszm1 : (str (par i ++ sp (m + 1))).size = 2 * i + (m + 1) := by rw [str_size, List.length_append, par_len]; simp [sp]
            obtain ⟨T, hT⟩ : ∃ T, str (par i ++ sp m) = T := ⟨_, rfl⟩
            have HT := Lib.hid hT
            rw [hT] at hszm happm ⊢
            have Happm := Lib.hid (And.intro happm hszm1)
            clear hT happm hszm1
            by_cases hlt2 : 2 * i + m < 4000 + g
            · have q1 : (T.size : Int) < 4000 + (g : Int) := by omega
              have hno : ¬ 9223372036854775807 < T.size + 1 := by omega
              go_wp2
              go_round
              case rel => exact ⟨m + 1, by omega, by rw [Happm.out.1]⟩
              case measure =>
                simp only [Array.getD]
                rw [Happm.out.1]
                have := Happm.out.2
                simp
                omega
            · have q1 : ¬ (T.size : Int) < 4000 + (g : Int) := by omega
              go_wp2_with fail
              go_meet
              case rel => exact ⟨m, by rw [HT.out], by omega, rfl⟩
      case rest =>
        obtain ⟨m, rfl, hm, hwc⟩ := hcut
        subst hwc
        have hsz2 : (str (par i ++ sp m)).size = 2 * i + m := by rw [str_size, List.length_append, par_len]; simp [sp]
        have TK := Lib.hid fun W => tokens_any (str (par i ++ sp m)) (by omega) W
        rw [str_data] at TK
        have hlen : (par i ++ sp m).length = 2 * i + m := by rw [List.length_append, par_len]; simp [sp]
        have hp := toks_par m i (par i ++ sp m).length 0 0 0 (by omega) (by omega)
        have hq : toksQ (par i ++ sp m) = if 4096 < 2 * i + m then .bad 4 else toksN ((par i ++ sp m).length + 1) (par i ++ sp m) 0 0 := by
          unfold toksQ
          rw [hlen]
        have hsp0 : sp 0 ++ (par i ++ sp m) = par i ++ sp m := by simp [sp]
        rw [hsp0] at hp
        obtain ⟨T, hT⟩ : ∃ T, str (par i ++ sp m) = T := ⟨_, rfl⟩
        rw [hT] at hsz2 TK ⊢
        have TI : (T.size : Int) = 2 * (i : Int) + (m : Int) := by omega
        clear hT hsp0 HS Happ hsz
        by_cases h4 : 4096 < 2 * i + m
        · rw [if_pos h4] at hq
          rw [hq] at TK
          have g4 : (4096 : Int) < (T.size : Int) := by omega
          clear hq hp TI hlen
          go_wp2_with fail
          refine (TK.out _).mono ?_
          rintro e w1 ⟨rfl, hb1⟩
          go_wp2_with fail
          refine (FX.out _).mono ?_
          rintro e w2 ⟨rfl, hb2⟩
          go_wp2
          go_ret
          exact ⟨rfl, bto0 hb1 hb2⟩
        · rw [if_neg h4] at hq
          have g4 : (T.size : Int) ≤ 4096 := by omega
          by_cases hk1 : 1000 < i
          · rw [hp.1 (by omega)] at hq
            rw [hq] at TK
            have g5 : (1000 : Int) < (i : Int) := by omega
            clear hq hp TI hlen
            go_wp2_with fail
            refine (TK.out _).mono ?_
            rintro e w1 ⟨rfl, hb1⟩
            go_wp2_with fail
            refine (FX.out _).mono ?_
            rintro e w2 ⟨rfl, hb2⟩
            go_wp2
            go_ret
            exact ⟨rfl, bto0 hb1 hb2⟩
          · obtain ⟨l, hl, hll⟩ := hp.2 (by omega)
            rw [hl] at hq
            rw [hq] at TK
            have g5 : (i : Int) ≤ 1000 := by omega
            have e5 : ((i : Int) + 1 == (i : Int) + 1) = true := by simp
            clear hq hp TI hl hlen
            go_wp2_with fail
            refine (TK.out _).mono ?_
            rintro e w1 ⟨A, c, rfl, hc, hown, hb1⟩
            rw [hll] at hc ⊢
            clear hown
            go_wp2_with fail
            refine (FX.out _).mono ?_
            rintro e w2 ⟨rfl, hb2⟩
            go_wp2
            go_ret
            exact ⟨rfl, bto0 hb1 hb2⟩
end Go.Proofs.Ytbmfojeklhbocaa

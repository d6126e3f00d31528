/-
  SplitOnce: the walk.
-/
import Derived.Test.YtbmfojeklhbocaaTt
import Derived.Deep.RegionHeld3
import Derived.Deep.DeepCutAuto
set_option linter.unusedSimpArgs false
set_option linter.unusedVariables false
namespace Go.Proofs.Ytbmfojeklhbocaa
open Go.RowKit

theorem made_zero (K : Nat) : madeCells (Value.int .i64 0).cells K = (vI (List.replicate K 0)).toArray := by
  apply Array.ext
  · simp [vI, size_madeCells]
  · intro i h1 h2
    simp [vI, madeCells, Value.cells, Nat.mod_one]

set_option maxRecDepth 100000 in
set_option maxHeartbeats 16000000 in
theorem splitOnce_any (A : Option Addr) (n c : Nat) (l : List Tm) (A2 : Option Addr) (n2 c2 : Nat) (l2 : List Int) (w : World) (hr : Reads w w.heap.size 11 A n (vT l)) (hin : ∀ t ∈ l, TmIn w w.heap.size t) (hn : n ≤ maxLen) (hr2 : Reads w w.heap.size 1 A2 n2 (vU8 l2)) (hw2 : ∀ x ∈ l2, 0 ≤ x ∧ x ≤ 255) (hn2 : n2 ≤ maxLen) :
    Calls Try.prog 9 #[.slice A n c, .slice A2 n2 c2] w (RetB w (.bool true)) := by
  have hl : l.length = n := by have := hr.1; rw [vT_len] at this; omega
  have G := Lib.hid (greatL_any A n c l w hr hin hn)
  have FX := Lib.hid fun W => fixed19_any W
  unfold maxLen at hn2
  have n2I : (n2 : Int) ≤ 9223372036854775807 := by omega
  cases hgr : grTL l with
  | true =>
    rw [hgr] at G
    clear hr hin hgr hr2 hw2
    go_enter Try.func9, Try.ntmps9
    go_wp2_with fail
    refine G.out.mono ?_
    rintro e w1 ⟨rfl, hb1⟩
    go_wp2_with fail
    refine (FX.out _).mono ?_
    rintro e w2 ⟨rfl, hb2⟩
    go_wp2
    go_ret
    exact ⟨rfl, bto0 hb1 hb2⟩
  | false =>
    rw [hgr] at G
    by_cases h100 : 100 < n2
    · have g : (100 : Int) < (n2 : Int) := by omega
      clear hr hin hgr hr2 hw2
      go_enter Try.func9, Try.ntmps9
      go_wp2_with fail
      refine G.out.mono ?_
      rintro e w1 ⟨rfl, hb1⟩
      go_wp2_with fail
      refine (FX.out _).mono ?_
      rintro e w2 ⟨rfl, hb2⟩
      go_wp2
      go_ret
      exact ⟨rfl, bto0 hb1 hb2⟩
    · have g : (n2 : Int) ≤ 100 := by omega
      unfold grTL at hgr
      rw [Bool.or_eq_false_iff] at hgr
      have hn40 : n ≤ 40 := by have := hgr.1; simp at this; omega
      have hg : ∀ t ∈ l, grT 21 20 t = false := by
        intro t ht
        have := hgr.2
        rw [List.any_eq_false] at this
        simpa using this t ht
      have RD := Lib.hid fun (had now : Nat) (hh : had < 4294967296) (hn2 : now < 4294967296) (W : World) (hb : Below w.heap.size w W) => ready_any 21 A n c l had now hh hn2 W ((hr.below hb).more hb.size) (fun t ht => ((hin t ht).under hb).more hb.size) (fun t ht => shT_of 21 20 t (hg t ht)) (by omega)
      obtain ⟨i0, hi0, hz0, hs0, hy0⟩ := int_info8 Try.infoI
      have mk : ∀ W : World, (Instr.makeSlice 39 (.int .i64 (n : Int)) (.int .i64 (n : Int))).run Try.prog W = .ok (.slice (some ⟨W.heap.size, 0, none⟩) n n) (W.alloc (.cells (vI (tms 21 0 l)).toArray 3)) := by
        intro W
        have h := run_make (P := Try.prog) W 39 3 i0 (.int .i64 0) Try.underlying39 hi0 hz0 .i64 .i64 (n : Int) (n : Int) (by omega) (by omega) (by rw [hy0]; omega) (by omega)
        rw [hs0, Int.toNat_natCast, Nat.mul_one, made_zero] at h
        rw [tms_zero, hl]
        exact h
      have HW2 := Lib.hid hw2
      have nI : (n : Int) ≤ 40 := by omega
      have Hl := Lib.hid hl
      clear hr hin hgr hg hi0 hz0 hs0 hy0 hw2 hl
      go_enter Try.func9, Try.ntmps9
      go_wp2_with fail
      refine G.out.mono ?_
      rintro e w1 ⟨rfl, hb1⟩
      have hT1 := Blk.new w1 3 (vI (tms 21 0 l)).toArray
      have hz1 := hb1.size
      have hb1' := ball hb1 (.cells (vI (tms 21 0 l)).toArray 3)
      have H1 := Lib.hid (And.intro hT1 hb1')
      clear hT1 hb1 hb1'
      go_wp2_with fail
      go_loopw [6, 28] (fun hd i wr => ∃ k had : Nat, k ≤ 32 ∧ i = .int .i64 k ∧ had < 4294967296 ∧ hd = .int .u32 had ∧ Blk wr w1.heap.size 3 (vI (tms 21 had l)).toArray ∧ Below w.heap.size w wr) (fun _ i _ => 32 - (intOf i).toNat)
      case atStart => exact ⟨0, 0, by omega, rfl, by omega, rfl, H1.out.1, H1.out.2⟩
      case round =>
        clear H1 mk
        obtain ⟨k, had, hk, rfl, hhad, rfl, hT, hb⟩ := hrel
        have q0 : (0 : Int) ≤ (k : Int) := by omega
        have HTB := Lib.hid (And.intro hT hb)
        by_cases hlt : k < 32
        · have q1 : (k : Int) < 32 := by omega
          clear hT hb
          go_upto_if 36 with fail
          go_cut [8] (fun s8 wx => ∃ kk : Nat, kk < 32 ∧ s8 = .int .u32 kk ∧ wx = wr)
          case first =>
            by_cases hk2 : k < n2
            · have q2 : (k : Int) < (n2 : Int) := by omega
              obtain ⟨ad2, u, rfl, hab2, hu, du⟩ := (hr2.below HTB.out.2).at_ hk2
              obtain ⟨x, hx, rfl⟩ := vU8_at hu
              have hx1 := HW2.out x (List.mem_of_getElem? hx)
              have x0 := hx1.1
              have x255 := hx1.2
              have tk : x.tmod 32 = x % 32 := Int.tmod_eq_emod_of_nonneg x0
              clear hu hx hx1
              go_wp2_with fail
              go_meet
              case rel => exact ⟨(x % 32).toNat, by omega, val_int (by omega), rfl⟩
            · go_wp2_with fail
              go_meet
              case rel => exact ⟨k, hlt, rfl, rfl⟩
          case rest =>
            obtain ⟨kk, hkk, rfl, hwc⟩ := hcut
            subst hwc
            have hpw := pow_u32 kk (by omega)
            have hp1 : (2 : Nat) ^ kk < 2 ^ 32 := Nat.pow_lt_pow_right (by omega) (by omega)
            have hp2 : 1 ≤ (2 : Nat) ^ kk := Nat.one_le_two_pow
            have hbits : ∀ i, had.testBit i = true → (had ||| 2 ^ kk).testBit i = true := or_sub had (2 ^ kk)
            obtain ⟨P, hP⟩ : ∃ P : Nat, 2 ^ kk = P := ⟨_, rfl⟩
            rw [hP] at hpw hp1 hp2 hbits
            have hor := or_u32n had P hhad (by omega)
            have hN32 : had ||| P < 4294967296 := Nat.or_lt_two_pow (n := 32) hhad (by omega)
            have hN0 : had ||| P ≠ 0 := by
              have := Nat.right_le_or (n := had) (m := P)
              omega
            obtain ⟨N, hN⟩ : ∃ N, had ||| P = N := ⟨_, rfl⟩
            rw [hN] at hor hN32 hN0 hbits
            have HH := Lib.hid (And.intro hhad (And.intro hN32 (And.intro hN0 hbits)))
            have kkI : (kk : Int) < 32 := by omega
            clear hP hN hp1 hp2 hN32 hN0 hhad hbits
            by_cases hNh : N = had
            · subst hNh
              go_wp2
              go_roundw
              case rel => exact ⟨k + 1, N, by omega, by go_num, HH.out.1, rfl, HTB.out.1, HTB.out.2⟩
              case measure => simp [intOf]; omega
            · have e1 : ((N : Int) == (had : Int)) = false := by simp; omega
              go_wp2_with fail
              have hb := HTB.out.2
              refine (RD.out had N HH.out.1 HH.out.2.1 _ hb).mono ?_
              rintro e w3 ⟨A3, c3, rfl, hc3, own3, hb3⟩
              have hT3 := HTB.out.1.below hb3 HTB.out.1.lt
              have hb03 := bto0 hb hb3
              have hst := tms_step 21 had N l HH.out.1 HH.out.2.1 HH.out.2.2.2 (HH.out.2.2.1)
              rw [Hl.out] at hst
              have hix := idx_lt (fun t => rdyB (usT 21 t) had N) l n
              have hIl := idxK_len (fun t => rdyB (usT 21 t) had N) l n
              obtain ⟨I, hI⟩ : ∃ I, idxK (fun t => rdyB (usT 21 t) had N) l n = I := ⟨_, rfl⟩
              rw [hI] at own3 hc3 hst hix hIl ⊢
              have hTl : (tms 21 had l).length = n := by unfold tms; rw [List.length_map, Hl.out]
              have hTle := tms_le 21 had l
              obtain ⟨T, hTT⟩ : ∃ T, tms 21 had l = T := ⟨_, rfl⟩
              rw [hTT] at hT3 hst hTl hTle
              obtain ⟨WB, hWB⟩ : ∃ WB : World, wc = WB := ⟨_, rfl⟩
              have hgB : w1.heap.size < WB.heap.size := by rw [← hWB]; exact HTB.out.1.lt
              rw [hWB] at own3
              have HM := Lib.hid (And.intro hT3 (And.intro own3 hb03))
              have HI := Lib.hid (And.intro hix (And.intro hst hTl))
              have HTL := Lib.hid hTle
              have iIl : (I.length : Int) ≤ 40 := by omega
              clear hT3 own3 hb03 hix hst hTl hTle hTT hI hb hb3 HTB hWB
              go_wp2_with fail
              obtain ⟨wo, hwo⟩ : ∃ wo : World, w3 = wo := ⟨_, rfl⟩
              rw [hwo] at HM ⊢
              clear hwo
              go_loopw [55] (fun iv wr2 => ∃ j : Nat, j ≤ I.length ∧ iv = .int .i64 j ∧ Blk wr2 w1.heap.size 3 (vI (incs (I.take j) T)).toArray ∧ wr2.ownsRow WB.heap.size 3 1 (.slice A3 I.length c3) I.length (vI I) ∧ Below w.heap.size w wr2) (fun iv _ => I.length - (intOf iv).toNat)
              case atStart => exact ⟨0, by omega, rfl, HM.out.1, HM.out.2.1, HM.out.2.2⟩
              case round =>
                obtain ⟨j, hj, rfl, hTj, hoj, hbj⟩ := hrel
                have j0 : (0 : Int) ≤ (j : Int) := by omega
                by_cases hjt : j < I.length
                · have j1 : (j : Int) < (I.length : Int) := by omega
                  obtain ⟨ad3, x, rfl, hab3, hx, cx⟩ := (Reads.of_own hoj).nat hjt
                  have hxn := HI.out.1 x (List.mem_of_getElem? hx)
                  have hxl : x < (incs (I.take j) T).length := by rw [incs_len]; have := HI.out.2.2; omega
                  obtain ⟨t, ht⟩ : ∃ t, (incs (I.take j) T)[x]? = some t := ⟨_, List.getElem?_eq_getElem hxl⟩
                  have htb : t ≤ 1 + (I.take j).length := incs_bd _ 1 T HTL.out t (List.mem_of_getElem? ht)
                  have htb2 : t ≤ 100 := by rw [List.length_take] at htb; omega
                  have tI : (t : Int) ≤ 100 := by omega
                  have t0 : (0 : Int) ≤ (t : Int) := by omega
                  have xI : (x : Int) < (n : Int) := by omega
                  have x0 : (0 : Int) ≤ (x : Int) := by omega
                  have ct : wr.cell? ⟨w1.heap.size, x, none⟩ = some (.int .i64 (t : Int)) := (hTj.cell x).trans (vI_at ht)
                  have ft := hTj.frozen x
                  have lt1 := hTj.lt
                  have hnext := incs_take (T := T) hx
                  rw [ht, Option.getD_some] at hnext
                  have HN := Lib.hid (And.intro hTj (And.intro hoj (And.intro hbj hnext)))
                  clear hTj hoj hbj hnext hx ht htb
                  go_wp2
                  go_roundw
                  case rel =>
                    refine ⟨j + 1, by omega, by go_num, ?_, own_setfar HN.out.2.1 hgB _ _, HN.out.2.2.1.setCell hz1 _⟩
                    have hS := HN.out.1.set_ x (.int .i64 ((t + 1 : Nat) : Int))
                    rw [vI_set, ← HN.out.2.2.2] at hS
                    exact hS
                  case measure => simp [intOf]; omega
                · obtain rfl : j = I.length := by omega
                  rw [List.take_of_length_le (Nat.le_refl _), HI.out.2.1] at hTj
                  have HF := Lib.hid (And.intro hTj hbj)
                  clear hTj hoj hbj
                  go_wp2
                  go_roundw
                  case rel => exact ⟨k + 1, N, by omega, by go_num, HH.out.2.1, rfl, HF.out.1, HF.out.2⟩
                  case measure => simp [intOf]; omega
        · obtain rfl : k = 32 := by omega
          clear hT hb
          have HH := Lib.hid hhad
          have e1 : ((had : Int) != 4294967295) = (had != 4294967295) := by
            by_cases h : had = 4294967295
            · subst h; rfl
            · have a1 : ((had : Int) != 4294967295) = true := by simp; omega
              have a2 : (had != 4294967295) = true := by simpa using h
              rw [a1, a2]
          have e2 : Hid ((had != 4294967295) = false → had = 4294967295) := Lib.hid (by simp)
          obtain ⟨d, hd⟩ : ∃ d, (had != 4294967295) = d := ⟨_, rfl⟩
          rw [hd] at e1 e2
          clear hhad hd
          go_upto_if 70 with fail
          go_cut [] (fun wx => Blk wx w1.heap.size 3 (vI (tms 21 4294967295 l)).toArray ∧ Below w.heap.size w wx)
          case first =>
            cases d with
            | false =>
              obtain rfl := e2.out rfl
              go_wp2_with fail
              go_meet
              case rel => exact ⟨HTB.out.1, HTB.out.2⟩
            | true =>
              go_wp2_with fail
              have hb := HTB.out.2
              refine (RD.out had 4294967295 HH.out (by omega) _ hb).mono ?_
              rintro e w3 ⟨A3, c3, rfl, hc3, own3, hb3⟩
              have hT3 := HTB.out.1.below hb3 HTB.out.1.lt
              have hb03 := bto0 hb hb3
              have hst := tms_step 21 had 4294967295 l HH.out (by omega) (full_sub had HH.out) (by omega)
              rw [Hl.out] at hst
              have hix := idx_lt (fun t => rdyB (usT 21 t) had 4294967295) l n
              have hIl := idxK_len (fun t => rdyB (usT 21 t) had 4294967295) l n
              obtain ⟨I, hI⟩ : ∃ I, idxK (fun t => rdyB (usT 21 t) had 4294967295) l n = I := ⟨_, rfl⟩
              rw [hI] at own3 hc3 hst hix hIl ⊢
              have hTl : (tms 21 had l).length = n := by unfold tms; rw [List.length_map, Hl.out]
              have hTle := tms_le 21 had l
              obtain ⟨T, hTT⟩ : ∃ T, tms 21 had l = T := ⟨_, rfl⟩
              rw [hTT] at hT3 hst hTl hTle
              obtain ⟨WB, hWB⟩ : ∃ WB : World, wr = WB := ⟨_, rfl⟩
              have hgB : w1.heap.size < WB.heap.size := by rw [← hWB]; exact HTB.out.1.lt
              rw [hWB] at own3
              have HM := Lib.hid (And.intro hT3 (And.intro own3 hb03))
              have HI := Lib.hid (And.intro hix (And.intro hst hTl))
              have HTL := Lib.hid hTle
              have iIl : (I.length : Int) ≤ 40 := by omega
              clear hT3 own3 hb03 hix hst hTl hTle hTT hI hb hb3 HTB hWB
              go_wp2_with fail
              obtain ⟨wo, hwo⟩ : ∃ wo : World, w3 = wo := ⟨_, rfl⟩
              rw [hwo] at HM ⊢
              clear hwo
              go_loopw [76] (fun iv wr2 => ∃ j : Nat, j ≤ I.length ∧ iv = .int .i64 j ∧ Blk wr2 w1.heap.size 3 (vI (incs (I.take j) T)).toArray ∧ wr2.ownsRow WB.heap.size 3 1 (.slice A3 I.length c3) I.length (vI I) ∧ Below w.heap.size w wr2) (fun iv _ => I.length - (intOf iv).toNat)
              case atStart => exact ⟨0, by omega, rfl, HM.out.1, HM.out.2.1, HM.out.2.2⟩
              case round =>
                obtain ⟨j, hj, rfl, hTj, hoj, hbj⟩ := hrel
                have j0 : (0 : Int) ≤ (j : Int) := by omega
                by_cases hjt : j < I.length
                · have j1 : (j : Int) < (I.length : Int) := by omega
                  obtain ⟨ad3, x, rfl, hab3, hx, cx⟩ := (Reads.of_own hoj).nat hjt
                  have hxn := HI.out.1 x (List.mem_of_getElem? hx)
                  have hxl : x < (incs (I.take j) T).length := by rw [incs_len]; have := HI.out.2.2; omega
                  obtain ⟨t, ht⟩ : ∃ t, (incs (I.take j) T)[x]? = some t := ⟨_, List.getElem?_eq_getElem hxl⟩
                  have htb : t ≤ 1 + (I.take j).length := incs_bd _ 1 T HTL.out t (List.mem_of_getElem? ht)
                  have htb2 : t ≤ 100 := by rw [List.length_take] at htb; omega
                  have tI : (t : Int) ≤ 100 := by omega
                  have t0 : (0 : Int) ≤ (t : Int) := by omega
                  have xI : (x : Int) < (n : Int) := by omega
                  have x0 : (0 : Int) ≤ (x : Int) := by omega
                  have ct : wr.cell? ⟨w1.heap.size, x, none⟩ = some (.int .i64 (t : Int)) := (hTj.cell x).trans (vI_at ht)
                  have ft := hTj.frozen x
                  have lt1 := hTj.lt
                  have hnext := incs_take (T := T) hx
                  rw [ht, Option.getD_some] at hnext
                  have HN := Lib.hid (And.intro hTj (And.intro hoj (And.intro hbj hnext)))
                  clear hTj hoj hbj hnext hx ht htb
                  go_wp2
                  go_roundw
                  case rel =>
                    refine ⟨j + 1, by omega, by go_num, ?_, own_setfar HN.out.2.1 hgB _ _, HN.out.2.2.1.setCell hz1 _⟩
                    have hS := HN.out.1.set_ x (.int .i64 ((t + 1 : Nat) : Int))
                    rw [vI_set, ← HN.out.2.2.2] at hS
                    exact hS
                  case measure => simp [intOf]; omega
                · obtain rfl : j = I.length := by omega
                  rw [List.take_of_length_le (Nat.le_refl _), HI.out.2.1] at hTj
                  have HF := Lib.hid (And.intro hTj hbj)
                  clear hTj hoj hbj
                  go_wp2_with fail
                  go_meet
                  case rel => exact ⟨HF.out.1, HF.out.2⟩
          case rest =>
            have hT5 := hcut.1
            rw [tms_full, Hl.out] at hT5
            have H5 := Lib.hid (And.intro hT5 hcut.2)
            clear hT5 hcut e1 e2 HH HTB
            go_wp2_with fail
            obtain ⟨W5, hW5⟩ : ∃ W5 : World, wc = W5 := ⟨_, rfl⟩
            rw [hW5] at H5 ⊢
            clear hW5
            go_loopw [89] (fun iv wr2 => ∃ j : Nat, j ≤ n ∧ iv = .int .i64 j ∧ wr2 = W5) (fun iv _ => n - (intOf iv).toNat)
            case atStart => exact ⟨0, by omega, rfl, rfl⟩
            case round =>
              obtain ⟨j, hj, rfl, rfl⟩ := hrel
              have j0 : (0 : Int) ≤ (j : Int) := by omega
              by_cases hjt : j < n
              · have j1 : (j : Int) < (n : Int) := by omega
                have ct : wr.cell? ⟨w1.heap.size, j, none⟩ = some (.int .i64 1) := (H5.out.1.cell j).trans (by simp [vI, hjt])
                go_wp2
                go_roundw
                case rel => exact ⟨j + 1, by omega, by go_num, by trivial⟩
                case measure => simp [intOf]; omega
              · obtain rfl : j = n := by omega
                go_wp2_with fail
                refine (FX.out _).mono ?_
                rintro e w9 ⟨rfl, hb9⟩
                go_wp2
                go_ret
                exact ⟨rfl, bto0 H5.out.2 hb9⟩
end Go.Proofs.Ytbmfojeklhbocaa

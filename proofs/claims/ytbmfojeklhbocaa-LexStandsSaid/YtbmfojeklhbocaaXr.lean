/-
  LexStands: the walk.
-/
import Derived.Test.YtbmfojeklhbocaaXq
import Derived.Test.YtbmfojeklhbocaaXp
import Derived.Deep.DeepCutAuto
set_option linter.unusedSimpArgs false
set_option linter.unusedVariables false
namespace Go.Proofs.Ytbmfojeklhbocaa
open Go.RowKit

theorem ext_mid (s : ByteArray) (a b : Nat) : s.extract a b = str ((s.data.toList.drop a).take (b - a)) := by
  have h : (s.extract a b).data.toList = (s.data.toList.drop a).take (b - a) := Lib.extract_data s a b
  rw [← h, str_of]
theorem ktL_end (l : List Tk) (i : List Tk) (p : Nat) (h : l = i ++ [(0, [], p)]) (M : Nat) (hM : l.length = M + 1) : ktL l = (ktL l).take M ++ [(0, [])] := by
  have hi : i.length = M := by rw [h] at hM; simp at hM; exact hM
  rw [h]
  unfold ktL
  rw [List.map_append, List.take_append_of_le_length (by simp; omega), List.take_of_length_le (by simp; omega)]
  rfl
theorem ktL_take {l : List Tk} {k : Nat} {x : Tk} (h : l[k]? = some x) : (ktL l).take (k + 1) = (ktL l).take k ++ [(x.1, x.2.1)] := by
  have : (ktL l)[k]? = some (x.1, x.2.1) := by unfold ktL; rw [List.getElem?_map, h]; rfl
  rw [List.take_add_one, this]; rfl
theorem ktL_get {l : List Tk} {k : Nat} {x : Tk} (h : l[k]? = some x) : (ktL l)[k]? = some (x.1, x.2.1) := by unfold ktL; rw [List.getElem?_map, h]; rfl
theorem itS_snoc (its : List It) (x : It) : itS (its ++ [x]) = itS its ++ (x.raw ++ 32 :: x.ext) := by simp [itS]
theorem ws4 (c : UInt8) (h : wsB c = true) : c = 32 ∨ c = 9 ∨ c = 10 ∨ c = 13 := by
  unfold wsB at h
  simp only [Bool.or_eq_true, beq_iff_eq] at h
  rcases h with ((h | h) | h) | h
  · exact .inl h
  · exact .inr (.inl h)
  · exact .inr (.inr (.inl h))
  · exact .inr (.inr (.inr h))
theorem ws_not (c : UInt8) (h : wsB c = false) : ((c.toNat : Int) == 32) = false ∧ ((c.toNat : Int) == 9) = false ∧ ((c.toNat : Int) == 10) = false ∧ ((c.toNat : Int) == 13) = false := by
  have k : ∀ d : UInt8, wsB d = true → ((c.toNat : Int) == (d.toNat : Int)) = false := by
    intro d hd
    have : c ≠ d := fun e => by rw [e, hd] at h; cases h
    have h2 : c.toNat ≠ d.toNat := fun e => this (UInt8.toNat_inj.1 e)
    simp
    omega
  exact ⟨k 32 (by decide), k 9 (by decide), k 10 (by decide), k 13 (by decide)⟩
/-- What blanks are put behind a token. -/
def exts : List (List UInt8) := [[], [9], [10, 32, 32], [13]]
set_option maxRecDepth 100000 in
set_option maxHeartbeats 16000000 in
theorem lexStands_any (q : ByteArray) (hq : q.size ≤ maxLen) (A2 : Option Addr) (n2 c2 : Nat) (l2 : List Int) (w : World) (hr2 : Reads w w.heap.size 1 A2 n2 (vU8 l2)) (hw2 : ∀ x ∈ l2, 0 ≤ x ∧ x ≤ 255) (hn2 : n2 ≤ maxLen) : Calls Try.prog 3 #[.string q, .slice A2 n2 c2] w (RetB w (.bool true)) := by
  have FX := Lib.hid fun W => fixed15_any W
  unfold maxLen at hq hn2
  have qI : (q.size : Int) ≤ 9223372036854775807 := by omega
  have n2I : (n2 : Int) ≤ 9223372036854775807 := by omega
  by_cases hq3 : 3000 < q.size
  · have g1 : (3000 : Int) < (q.size : Int) := by omega
    clear hr2 hw2
    go_enter Try.func3, Try.ntmps3
    go_wp2_with fail
    refine (FX.out _).mono ?_
    rintro e w2 ⟨rfl, hb2⟩
    go_wp2
    go_ret
    exact ⟨rfl, hb2⟩
  · have g1 : (q.size : Int) ≤ 3000 := by omega
    by_cases hn9 : 900 < n2
    · have g2 : (900 : Int) < (n2 : Int) := by omega
      clear hr2 hw2
      go_enter Try.func3, Try.ntmps3
      go_wp2_with fail
      refine (FX.out _).mono ?_
      rintro e w2 ⟨rfl, hb2⟩
      go_wp2
      go_ret
      exact ⟨rfl, hb2⟩
    · have g2 : (n2 : Int) ≤ 900 := by omega
      clear qI n2I
      have T1 := Lib.hid fun W => tokens_any q (by omega) W
      cases hl : toksQ q.data.toList with
      | bad k =>
        have hk : k ≠ 0 := toksQ_bad _ _ hl
        have ek : ((k : Int) != 0) = true := by simp; omega
        rw [hl] at T1
        clear hl hk hr2 hw2
        go_enter Try.func3, Try.ntmps3
        go_wp2_with fail
        refine (T1.out _).mono ?_
        rintro e w1 ⟨rfl, hb1⟩
        go_wp2_with fail
        refine (FX.out _).mono ?_
        rintro e w3 ⟨rfl, hb3⟩
        go_wp2
        go_ret
        exact ⟨rfl, bto0 hb1 hb3⟩
      | ok l =>
        have hl1 := toksQ_pos _ _ hl (by rw [szL]; omega)
        have hll := toksQ_len _ _ hl
        have heT : toksQ q.data.toList = toksT q.data.toList 0 0 := by unfold toksQ; rw [if_neg (by rw [szL]; omega)]; rfl
        have hlT : toksT q.data.toList 0 0 = .ok l := by rw [← heT]; exact hl
        obtain ⟨ini, hini, _⟩ := toks_join _ _ (Nat.le_refl _) _ _ _ hlT
        obtain ⟨M, hM⟩ : ∃ M, l.length = M + 1 := ⟨l.length - 1, by omega⟩
        have hkt := ktL_end l ini _ hini M hM
        have HL := Lib.hid (And.intro hlT (And.intro hkt (And.intro hM hw2)))
        rw [hl] at T1
        have hM1 : M ≤ 1000 := by omega
        have eM : (((M : Int) + 1) == 0) = false := by simp; omega
        have MI : (M : Int) ≤ 1000 := by omega
        clear hl hlT heT hini hkt hl1 hll hw2
        go_enter Try.func3, Try.ntmps3
        go_wp2_with fail
        refine (T1.out _).mono ?_
        rintro e w1 ⟨A1, c1, rfl, hc1, own1, hb1⟩
        rw [hM] at hc1 own1 ⊢
        clear hM T1
        have hrd := Reads.of_own own1
        have H1 := Lib.hid (And.intro hrd hb1)
        clear own1 hrd hb1
        go_wp2_with fail
        obtain ⟨W1, hW1⟩ : ∃ W1 : World, w1 = W1 := ⟨_, rfl⟩
        rw [hW1] at H1 ⊢
        clear hW1
        go_loopw [7, 46] (fun sv iv wr => ∃ (i : Nat) (its : List It), i ≤ M ∧ iv = .int .i64 i ∧ sv = .string (str (itS its)) ∧ its.length = i ∧ (∀ x ∈ its, x.good) ∧ its.map (fun x => (x.k, x.t)) = (ktL l).take i ∧ (itS its).length ≤ i * 3010 ∧ Below W1.heap.size W1 wr) (fun _ iv _ => M - (intOf iv).toNat)
        case atStart => exact ⟨0, [], by omega, rfl, rfl, rfl, by simp, by simp, by simp [itS], Below.refl _ _⟩
        case round =>
          obtain ⟨i, its, hi, rfl, rfl, hlen, hgood, hmap, hsz, hb⟩ := hrel
          have q0 : (0 : Int) ≤ (i : Int) := by omega
          have hbw := bto0 H1.out.2 hb
          have hszS : (str (itS its)).size ≤ 3010000 := by
            rw [str_size]
            have : i * 3010 ≤ 1000 * 3010 := Nat.mul_le_mul_right _ (by omega)
            omega
          have HI := Lib.hid (And.intro hlen (And.intro hgood (And.intro hmap (And.intro hsz (And.intro hb hbw)))))
          clear hlen hgood hmap hsz
          by_cases hlt : i < M
          · have q1 : (i : Int) < (M : Int) := by omega
            have q2 : (0 : Int) ≤ (i : Int) + 1 := by omega
            have q3 : i + 1 < M + 1 := by omega
            have q4 : IntKind.i64.wrap ((i : Int) + 1) = (i : Int) + 1 := by rw [IntKind.wrap_i64]; omega
            have q5 : (i : Int) + 1 < (M : Int) + 1 := by omega
            obtain ⟨ad1, x, rfl, hab1, hx, d0, d1, d2⟩ := (H1.out.1.below hb).tk (k := i) (by omega)
            obtain ⟨ad1', y, hA', _, hy, _, _, f2⟩ := (H1.out.1.below hb).tk (k := i + 1) (by omega)
            injection hA' with hA'
            subst hA'
            obtain ⟨n, T⟩ := toks_where _ _ (Nat.le_refl _) _ _ _ HL.out.1 i x y hx hy
            obtain ⟨t1, t2, t3, t4, t5, t6, t7, t8, t9⟩ := T
            rw [Nat.sub_zero] at t2 t3 t4 t5 t8 t9
            rw [Nat.zero_add, szL] at t7
            have hpos := tokN_n _ t2
            rw [t5, List.length_drop, szL] at hpos
            obtain ⟨L', hL'⟩ : ∃ L', q.data.toList.drop x.2.2 = L' := ⟨_, rfl⟩
            have hL'len : L'.length = q.size - x.2.2 := by rw [← hL', List.length_drop, szL]
            rw [hL'] at t2 t3 t4 t5 t8 t9
            obtain ⟨W, hW⟩ : ∃ W, (L'.drop n).take (y.2.2 - x.2.2 - n) = W := ⟨_, rfl⟩
            have hWl : W.length = y.2.2 - x.2.2 - n := by rw [← hW, List.length_take, List.length_drop]; omega
            have hpart : q.extract x.2.2 y.2.2 = str (L'.take n ++ W.take W.length) := by
              rw [ext_mid, hL', List.take_length, ← hW]
              congr 1
              have e : y.2.2 - x.2.2 = n + (y.2.2 - x.2.2 - n) := by omega
              conv => lhs; rw [e]
              rw [List.take_add]
            rw [hW] at t8
            have hraw := tok_raw L' t2
            have hlast := tok_last L' t2
            rw [t5] at hraw hlast
            rw [t3, t4] at hraw
            have hrl : (L'.take n).length = n := by rw [List.length_take]; omega
            have hnextc := fun y' hy' => tok_next L' y' t2 (.inr hy')
            rw [t5] at hnextc
            have htk : tokN L' = ⟨x.1, x.2.1, n, 0⟩ := by
              cases hh : tokN L' with
              | mk a b c d => rw [hh] at t2 t3 t4 t5; simp only at t2 t3 t4 t5; subst t2 t3 t4 t5; rfl
            rw [htk] at hnextc
            have hgoodx : ∀ ext : List UInt8, (∀ c ∈ ext, wsB c = true) → (It.mk (L'.take n) ext x.1 x.2.1).good := fun ext hext => ⟨by
              obtain ⟨c, hc, hcw⟩ := t9
              refine ⟨c, ?_, hcw⟩
              cases L' with
              | nil => simp at hc
              | cons d r =>
                obtain ⟨n', rfl⟩ : ∃ n', n = n' + 1 := ⟨n - 1, by omega⟩
                simpa using hc, fun y' hy' => by rw [hnextc y' hy', hrl], hext⟩
            have hlastraw : ∀ c, (L'.take n)[n - 1]? = some c → wsB c = false := fun c hc => hlast c (by
              rw [List.getElem?_take, if_pos (by omega)] at hc
              exact hc)
            obtain ⟨R, hR⟩ : ∃ R, L'.take n = R := ⟨_, rfl⟩
            rw [hR] at hpart hraw hrl hgoodx hlastraw
            have HG := Lib.hid (And.intro hgoodx (And.intro hlastraw (And.intro t8 (And.intro hx (And.intro hraw (And.intro hrl (And.intro hWl hpart)))))))
            have hat2 : (x.2.2 : Int) ≤ (y.2.2 : Int) := by omega
            have hat3 : (y.2.2 : Int) ≤ (q.size : Int) := by omega
            have hat0 : (0 : Int) ≤ (x.2.2 : Int) := by omega
            have hn3 : n ≤ 3000 := by omega
            obtain ⟨xk, xt, xa⟩ := x
            obtain ⟨yk, yt, ya⟩ := y
            simp only at d0 d1 d2 f2 hat2 hat3 hat0
            have f2' : ∀ o : Obj, (wr.alloc o).cell? ⟨(ad1.add ((i + 1) * 3)).block, (ad1.add ((i + 1) * 3)).off + 2, none⟩ = some (.int .i64 (ya : Int)) := fun o => Lib.cell?_alloc_some _ f2
            have hab : ad1.block < wr.heap.size := by have := hb.size; omega
            have hn1' : 1 ≤ n := by omega
            clear hraw hlast hlastraw hgoodx hnextc htk t1 t2 t3 t4 t5 t6 t7 t8 t9 hpart hrl hWl hL' hL'len hW hR hx hy hpos
            obtain ⟨TX, hTX⟩ : ∃ TX, str xt = TX := ⟨_, rfl⟩
            have HTX := Lib.hid hTX
            rw [hTX] at d1
            clear hTX
            have hn1 : 1 ≤ n := hn1'
            obtain ⟨S, hS⟩ : ∃ S, str (itS its) = S := ⟨_, rfl⟩
            have HS := Lib.hid hS
            rw [hS] at hszS ⊢
            clear hS
            go_wp2
            go_quiet (fail)
            go_wp2
            go_loop [10] (fun pv => ∃ j : Nat, j ≤ W.length ∧ pv = .string (str (R ++ W.take j))) (fun pv => match pv with | .string s => s.size | _ => 0)
            case atStart => exact ⟨W.length, Nat.le_refl _, by rw [HG.out.2.2.2.2.2.2.2]⟩
            case round =>
              obtain ⟨j, hj, rfl⟩ := hrel
              have hTs : (str (R ++ W.take j)).size = n + j := by
                rw [str_size, List.length_append, HG.out.2.2.2.2.2.1, List.length_take]; omega
              obtain ⟨z, hz⟩ : ∃ z, n + j = z + 1 := ⟨n + j - 1, by omega⟩
              have hzlt : z < (str (R ++ W.take j)).size := by omega
              have hTz := str_at (R ++ W.take j) z hzlt
              obtain ⟨c, hc⟩ : ∃ c, (str (R ++ W.take j))[z]'hzlt = c := ⟨_, rfl⟩
              rw [hc] at hTz
              have hcT : ∀ h : z < (str (R ++ W.take j)).size, (str (R ++ W.take j))[z]'h = c := fun _ => hc
              clear hc
              have hj3 : j ≤ 3000 := by have := HG.out.2.2.2.2.2.2.1; omega
              by_cases hj0 : 0 < j
              · have hws : wsB c = true := by
                  rw [List.getElem?_append_right (by rw [HG.out.2.2.2.2.2.1]; omega)] at hTz
                  have h1 := List.mem_of_getElem? hTz
                  exact HG.out.2.2.1 _ (List.mem_of_mem_take h1)
                have hcut : (str (R ++ W.take j)).extract 0 z = str (R ++ W.take (j - 1)) := by
                  rw [ext_str, str_data]
                  congr 1
                  have hR := HG.out.2.2.2.2.2.1
                  rw [List.take_append, List.take_of_length_le (by omega), List.take_take]
                  congr 2
                  omega
                have hTs1 : (str (R ++ W.take (j - 1))).size = n + (j - 1) := by
                  rw [str_size, List.length_append, HG.out.2.2.2.2.2.1, List.length_take]; omega
                obtain ⟨T, hT⟩ : ∃ T, str (R ++ W.take j) = T := ⟨_, rfl⟩
                have hTI : (T.size : Int) = (z : Int) + 1 := by rw [← hT]; omega
                have hTN : T.size = z + 1 := by rw [← hT]; omega
                simp only [hT] at hzlt hcut hcT ⊢
                clear hzlt
                have hzlt : z < T.size := by omega
                have hc : T[z]'hzlt = c := hcT hzlt
                clear hcT
                have HCU := Lib.hid (And.intro hcut hTs1)
                have g0 : (0 : Int) < (z : Int) + 1 := by omega
                have g3 : (z : Int) + 1 ≤ 100000 := by omega
                clear hTz hTs hT hcut hTs1
                have hc4 := ws4 _ hws
                clear hws
                have HZ := Lib.hid hz
                clear hz
                rcases hc4 with rfl | rfl | rfl | rfl
                all_goals
                  go_wp2
                  go_round
                  case rel => exact ⟨j - 1, by omega, by rw [HCU.out.1]⟩
                  case measure =>
                    simp only [Array.getD]
                    rw [HCU.out.1]
                    have := HCU.out.2
                    have := HZ.out
                    simp
                    omega
              · obtain rfl : j = 0 := by omega
                have hnw : wsB c = false := by
                  rw [List.take_zero, List.append_nil] at hTz
                  refine HG.out.2.1 _ ?_
                  rw [show n - 1 = z by omega]
                  simpa using hTz
                obtain ⟨T, hT⟩ : ∃ T, str (R ++ W.take 0) = T := ⟨_, rfl⟩
                have hT0 : T = str R := by rw [← hT]; simp
                have HT0 := Lib.hid hT0
                have hTI : (T.size : Int) = (z : Int) + 1 := by rw [← hT]; omega
                have hTN : T.size = z + 1 := by rw [← hT]; omega
                simp only [hT] at hzlt hcT ⊢
                clear hzlt
                have hzlt : z < T.size := by omega
                have hc : T[z]'hzlt = c := hcT hzlt
                clear hcT
                have g0 : (0 : Int) < (z : Int) + 1 := by omega
                have g3 : (z : Int) + 1 ≤ 100000 := by omega
                clear hTz hTs hT hT0
                obtain ⟨w1_, w2_, w3_, w4_⟩ := ws_not _ hnw
                clear hnw
                have hTX : xk ≠ 4 → TX = T := fun h => by rw [← HTX.out, HG.out.2.2.2.2.1 h, ← HT0.out]
                by_cases hk4 : xk = 4
                · have e4 : ((xk : Int) != 4) = false := by simp; omega
                  have hcat0 : S ++ (T ++ ⟨#[32]⟩) = str (itS (its ++ [It.mk R [] xk xt])) := by
                    rw [HT0.out, ← HS.out, show (⟨#[32]⟩ : ByteArray) = str [32] from rfl, str_app, str_app, itS_snoc]
                  have z0 : ¬ 9223372036854775807 < T.size + 1 := by omega
                  have z1 : ¬ 9223372036854775807 < S.size + (T.size + 1) := by omega
                  have hszT1 : (T ++ ⟨#[32]⟩).size = T.size + 1 := by rw [← szL, app_data, List.length_append, szL]; rfl
                  have z2 : ¬ 9223372036854775807 < S.size + (T ++ ⟨#[32]⟩).size := by rw [hszT1]; omega
                  have hszST : (S ++ (T ++ ⟨#[32]⟩)).size = S.size + (T.size + 1) := by rw [← szL, app_data, List.length_append, szL, szL, hszT1]
                  have HC0 := Lib.hid hcat0
                  clear hcat0 hszT1
                  by_cases hi2 : i < n2
                  · have p1 : (i : Int) < (n2 : Int) := by omega
                    obtain ⟨ad2, u, rfl, hab2, hu, du⟩ := (hr2.below HI.out.2.2.2.2.2).at_ hi2
                    obtain ⟨v, hv, rfl⟩ := vU8_at hu
                    have hv1 := HL.out.2.2.2 v (List.mem_of_getElem? hv)
                    have v0 := hv1.1
                    have v255 := hv1.2
                    have du' : ∀ o : Obj, (wr.alloc o).cell? (ad2.add i) = some (.int .u8 v) := fun o => Lib.cell?_alloc_some _ du
                    have du2 : ∀ o o2 : Obj, ((wr.alloc o).alloc o2).cell? (ad2.add i) = some (.int .u8 v) := fun o o2 => Lib.cell?_alloc_some _ (Lib.cell?_alloc_some _ du)
                    have tk : v.tmod 4 = v % 4 := Int.tmod_eq_emod_of_nonneg v0
                    have habz : ad2.block < wr.heap.size := by have := HI.out.2.2.2.2.2.size; omega
                    clear hu hv hv1
                    go_upto_region 17 with fail
                    obtain ⟨S2, hS2⟩ : ∃ S2, S ++ (T ++ ⟨#[32]⟩) = S2 := ⟨_, rfl⟩
                    rw [hS2] at HC0 hszST ⊢
                    have hS2b : S2.size ≤ 3100000 := by omega
                    clear hS2 hszST z0 z1 z2
                    have du3 : ∀ (o : Obj) (k : Nat) (o2 : Obj), (((wr.alloc o).drewN k).alloc o2).cell? (ad2.add i) = some (.int .u8 v) := fun o k o2 => Lib.cell?_alloc_some _ (du' o)
                    clear du' du2
                    try clear hc; try clear hzlt; try clear hTI; try clear hTN; try clear hz; try clear w1_; try clear w2_; try clear w3_; try clear w4_; try clear d0; try clear d1; try clear d2; try clear f2; try clear f2'; try clear e4; try clear hk4; try clear hTX; try clear g0; try clear g3; try clear hszS; try clear q2; try clear q3; try clear q4; try clear q5; try clear hj; try clear hj3; try clear hj0; try clear HTX; try clear HT0; try clear FX
                    rcases (show v % 4 = 0 ∨ v % 4 = 1 ∨ v % 4 = 2 ∨ v % 4 = 3 by omega) with hm | hm | hm | hm
                    all_goals (rw [hm] at tk; clear hm)
                    · have z3 : ¬ 9223372036854775807 < S2.size + 0 := by omega
                      have hcat : S2 ++ ⟨#[]⟩ = str (itS (its ++ [It.mk R [] xk xt])) := by rw [HC0.out, show (⟨#[]⟩ : ByteArray) = str [] from rfl, str_app, List.append_nil]
                      have HCC := Lib.hid hcat
                      clear hcat
                      go_wp2
                      go_roundw
                      case rel =>
                        refine ⟨i + 1, its ++ [It.mk R [] xk xt], by omega, by go_num, by rw [HCC.out], by rw [List.length_append, HI.out.1]; rfl, ?_, ?_, ?_, ?_⟩
                        · intro z hz
                          rcases List.mem_append.1 hz with hz | hz
                          · exact HI.out.2.1 z hz
                          · rw [List.mem_singleton] at hz
                            subst hz
                            exact HG.out.1 _ (by decide)
                        · rw [List.map_append, HI.out.2.2.1, ktL_take HG.out.2.2.2.1]; rfl
                        · rw [itS_snoc, List.length_append]
                          have e1 := HI.out.2.2.2.1
                          have e2 := HG.out.2.2.2.2.2.1
                          simp only [List.length_append, List.length_cons, List.length_nil]
                          omega
                        · exact bto0 HI.out.2.2.2.2.1 (by with_reducible repeat (first | exact Below.refl _ _ | refine bdr ?_ _ | refine Below.drew ?_ | refine ball ?_ _))
                      case measure => simp [intOf]; omega
                    · have z3 : ¬ 9223372036854775807 < S2.size + 1 := by omega
                      have hcat : S2 ++ ⟨#[9]⟩ = str (itS (its ++ [It.mk R [9] xk xt])) := by rw [HC0.out, show (⟨#[9]⟩ : ByteArray) = str [9] from rfl, str_app, itS_snoc, itS_snoc, List.append_assoc, List.append_assoc]; rfl
                      have HCC := Lib.hid hcat
                      clear hcat
                      go_wp2
                      go_roundw
                      case rel =>
                        refine ⟨i + 1, its ++ [It.mk R [9] xk xt], by omega, by go_num, by rw [HCC.out], by rw [List.length_append, HI.out.1]; rfl, ?_, ?_, ?_, ?_⟩
                        · intro z hz
                          rcases List.mem_append.1 hz with hz | hz
                          · exact HI.out.2.1 z hz
                          · rw [List.mem_singleton] at hz
                            subst hz
                            exact HG.out.1 _ (by decide)
                        · rw [List.map_append, HI.out.2.2.1, ktL_take HG.out.2.2.2.1]; rfl
                        · rw [itS_snoc, List.length_append]
                          have e1 := HI.out.2.2.2.1
                          have e2 := HG.out.2.2.2.2.2.1
                          simp only [List.length_append, List.length_cons, List.length_nil]
                          omega
                        · exact bto0 HI.out.2.2.2.2.1 (by with_reducible repeat (first | exact Below.refl _ _ | refine bdr ?_ _ | refine Below.drew ?_ | refine ball ?_ _))
                      case measure => simp [intOf]; omega
                    · have z3 : ¬ 9223372036854775807 < S2.size + 3 := by omega
                      have hcat : S2 ++ ⟨#[10, 32, 32]⟩ = str (itS (its ++ [It.mk R [10, 32, 32] xk xt])) := by rw [HC0.out, show (⟨#[10, 32, 32]⟩ : ByteArray) = str [10, 32, 32] from rfl, str_app, itS_snoc, itS_snoc, List.append_assoc, List.append_assoc]; rfl
                      have HCC := Lib.hid hcat
                      clear hcat
                      go_wp2
                      go_roundw
                      case rel =>
                        refine ⟨i + 1, its ++ [It.mk R [10, 32, 32] xk xt], by omega, by go_num, by rw [HCC.out], by rw [List.length_append, HI.out.1]; rfl, ?_, ?_, ?_, ?_⟩
                        · intro z hz
                          rcases List.mem_append.1 hz with hz | hz
                          · exact HI.out.2.1 z hz
                          · rw [List.mem_singleton] at hz
                            subst hz
                            exact HG.out.1 _ (by decide)
                        · rw [List.map_append, HI.out.2.2.1, ktL_take HG.out.2.2.2.1]; rfl
                        · rw [itS_snoc, List.length_append]
                          have e1 := HI.out.2.2.2.1
                          have e2 := HG.out.2.2.2.2.2.1
                          simp only [List.length_append, List.length_cons, List.length_nil]
                          omega
                        · exact bto0 HI.out.2.2.2.2.1 (by with_reducible repeat (first | exact Below.refl _ _ | refine bdr ?_ _ | refine Below.drew ?_ | refine ball ?_ _))
                      case measure => simp [intOf]; omega
                    · have z3 : ¬ 9223372036854775807 < S2.size + 1 := by omega
                      have hcat : S2 ++ ⟨#[13]⟩ = str (itS (its ++ [It.mk R [13] xk xt])) := by rw [HC0.out, show (⟨#[13]⟩ : ByteArray) = str [13] from rfl, str_app, itS_snoc, itS_snoc, List.append_assoc, List.append_assoc]; rfl
                      have HCC := Lib.hid hcat
                      clear hcat
                      go_wp2
                      go_roundw
                      case rel =>
                        refine ⟨i + 1, its ++ [It.mk R [13] xk xt], by omega, by go_num, by rw [HCC.out], by rw [List.length_append, HI.out.1]; rfl, ?_, ?_, ?_, ?_⟩
                        · intro z hz
                          rcases List.mem_append.1 hz with hz | hz
                          · exact HI.out.2.1 z hz
                          · rw [List.mem_singleton] at hz
                            subst hz
                            exact HG.out.1 _ (by decide)
                        · rw [List.map_append, HI.out.2.2.1, ktL_take HG.out.2.2.2.1]; rfl
                        · rw [itS_snoc, List.length_append]
                          have e1 := HI.out.2.2.2.1
                          have e2 := HG.out.2.2.2.2.2.1
                          simp only [List.length_append, List.length_cons, List.length_nil]
                          omega
                        · exact bto0 HI.out.2.2.2.2.1 (by with_reducible repeat (first | exact Below.refl _ _ | refine bdr ?_ _ | refine Below.drew ?_ | refine ball ?_ _))
                      case measure => simp [intOf]; omega
                  · have p1 : ¬ (i : Int) < (n2 : Int) := by omega
                    have HCC := HC0
                    go_wp2
                    go_roundw
                    case rel =>
                      refine ⟨i + 1, its ++ [It.mk R [] xk xt], by omega, by go_num, by rw [HCC.out], by rw [List.length_append, HI.out.1]; rfl, ?_, ?_, ?_, ?_⟩
                      · intro z hz
                        rcases List.mem_append.1 hz with hz | hz
                        · exact HI.out.2.1 z hz
                        · rw [List.mem_singleton] at hz
                          subst hz
                          exact HG.out.1 _ (by decide)
                      · rw [List.map_append, HI.out.2.2.1, ktL_take HG.out.2.2.2.1]; rfl
                      · rw [itS_snoc, List.length_append]
                        have e1 := HI.out.2.2.2.1
                        have e2 := HG.out.2.2.2.2.2.1
                        simp only [List.length_append, List.length_cons, List.length_nil]
                        omega
                      · exact bto0 HI.out.2.2.2.2.1 (by with_reducible repeat (first | exact Below.refl _ _ | refine bdr ?_ _ | refine Below.drew ?_ | refine ball ?_ _))
                    case measure => simp [intOf]; omega
                · have e4 : ((xk : Int) != 4) = true := by simp; omega
                  have h5 : T = TX := (hTX hk4).symm
                  subst h5
                  have hcat0 : S ++ (T ++ ⟨#[32]⟩) = str (itS (its ++ [It.mk R [] xk xt])) := by
                    rw [HT0.out, ← HS.out, show (⟨#[32]⟩ : ByteArray) = str [32] from rfl, str_app, str_app, itS_snoc]
                  have z0 : ¬ 9223372036854775807 < T.size + 1 := by omega
                  have z1 : ¬ 9223372036854775807 < S.size + (T.size + 1) := by omega
                  have hszT1 : (T ++ ⟨#[32]⟩).size = T.size + 1 := by rw [← szL, app_data, List.length_append, szL]; rfl
                  have z2 : ¬ 9223372036854775807 < S.size + (T ++ ⟨#[32]⟩).size := by rw [hszT1]; omega
                  have hszST : (S ++ (T ++ ⟨#[32]⟩)).size = S.size + (T.size + 1) := by rw [← szL, app_data, List.length_append, szL, szL, hszT1]
                  have HC0 := Lib.hid hcat0
                  clear hcat0 hszT1
                  by_cases hi2 : i < n2
                  · have p1 : (i : Int) < (n2 : Int) := by omega
                    obtain ⟨ad2, u, rfl, hab2, hu, du⟩ := (hr2.below HI.out.2.2.2.2.2).at_ hi2
                    obtain ⟨v, hv, rfl⟩ := vU8_at hu
                    have hv1 := HL.out.2.2.2 v (List.mem_of_getElem? hv)
                    have v0 := hv1.1
                    have v255 := hv1.2
                    have du' : ∀ o : Obj, (wr.alloc o).cell? (ad2.add i) = some (.int .u8 v) := fun o => Lib.cell?_alloc_some _ du
                    have du2 : ∀ o o2 : Obj, ((wr.alloc o).alloc o2).cell? (ad2.add i) = some (.int .u8 v) := fun o o2 => Lib.cell?_alloc_some _ (Lib.cell?_alloc_some _ du)
                    have tk : v.tmod 4 = v % 4 := Int.tmod_eq_emod_of_nonneg v0
                    have habz : ad2.block < wr.heap.size := by have := HI.out.2.2.2.2.2.size; omega
                    clear hu hv hv1
                    go_upto_region 17 with fail
                    obtain ⟨S2, hS2⟩ : ∃ S2, S ++ (T ++ ⟨#[32]⟩) = S2 := ⟨_, rfl⟩
                    rw [hS2] at HC0 hszST ⊢
                    have hS2b : S2.size ≤ 3100000 := by omega
                    clear hS2 hszST z0 z1 z2
                    have du3 : ∀ (o : Obj) (k : Nat) (o2 : Obj), (((wr.alloc o).drewN k).alloc o2).cell? (ad2.add i) = some (.int .u8 v) := fun o k o2 => Lib.cell?_alloc_some _ (du' o)
                    clear du' du2
                    try clear hc; try clear hzlt; try clear hTI; try clear hTN; try clear hz; try clear w1_; try clear w2_; try clear w3_; try clear w4_; try clear d0; try clear d1; try clear d2; try clear f2; try clear f2'; try clear e4; try clear hk4; try clear hTX; try clear g0; try clear g3; try clear hszS; try clear q2; try clear q3; try clear q4; try clear q5; try clear hj; try clear hj3; try clear hj0; try clear HTX; try clear HT0; try clear FX
                    rcases (show v % 4 = 0 ∨ v % 4 = 1 ∨ v % 4 = 2 ∨ v % 4 = 3 by omega) with hm | hm | hm | hm
                    all_goals (rw [hm] at tk; clear hm)
                    · have z3 : ¬ 9223372036854775807 < S2.size + 0 := by omega
                      have hcat : S2 ++ ⟨#[]⟩ = str (itS (its ++ [It.mk R [] xk xt])) := by rw [HC0.out, show (⟨#[]⟩ : ByteArray) = str [] from rfl, str_app, List.append_nil]
                      have HCC := Lib.hid hcat
                      clear hcat
                      go_wp2
                      go_roundw
                      case rel =>
                        refine ⟨i + 1, its ++ [It.mk R [] xk xt], by omega, by go_num, by rw [HCC.out], by rw [List.length_append, HI.out.1]; rfl, ?_, ?_, ?_, ?_⟩
                        · intro z hz
                          rcases List.mem_append.1 hz with hz | hz
                          · exact HI.out.2.1 z hz
                          · rw [List.mem_singleton] at hz
                            subst hz
                            exact HG.out.1 _ (by decide)
                        · rw [List.map_append, HI.out.2.2.1, ktL_take HG.out.2.2.2.1]; rfl
                        · rw [itS_snoc, List.length_append]
                          have e1 := HI.out.2.2.2.1
                          have e2 := HG.out.2.2.2.2.2.1
                          simp only [List.length_append, List.length_cons, List.length_nil]
                          omega
                        · exact bto0 HI.out.2.2.2.2.1 (by with_reducible repeat (first | exact Below.refl _ _ | refine bdr ?_ _ | refine Below.drew ?_ | refine ball ?_ _))
                      case measure => simp [intOf]; omega
                    · have z3 : ¬ 9223372036854775807 < S2.size + 1 := by omega
                      have hcat : S2 ++ ⟨#[9]⟩ = str (itS (its ++ [It.mk R [9] xk xt])) := by rw [HC0.out, show (⟨#[9]⟩ : ByteArray) = str [9] from rfl, str_app, itS_snoc, itS_snoc, List.append_assoc, List.append_assoc]; rfl
                      have HCC := Lib.hid hcat
                      clear hcat
                      go_wp2
                      go_roundw
                      case rel =>
                        refine ⟨i + 1, its ++ [It.mk R [9] xk xt], by omega, by go_num, by rw [HCC.out], by rw [List.length_append, HI.out.1]; rfl, ?_, ?_, ?_, ?_⟩
                        · intro z hz
                          rcases List.mem_append.1 hz with hz | hz
                          · exact HI.out.2.1 z hz
                          · rw [List.mem_singleton] at hz
                            subst hz
                            exact HG.out.1 _ (by decide)
                        · rw [List.map_append, HI.out.2.2.1, ktL_take HG.out.2.2.2.1]; rfl
                        · rw [itS_snoc, List.length_append]
                          have e1 := HI.out.2.2.2.1
                          have e2 := HG.out.2.2.2.2.2.1
                          simp only [List.length_append, List.length_cons, List.length_nil]
                          omega
                        · exact bto0 HI.out.2.2.2.2.1 (by with_reducible repeat (first | exact Below.refl _ _ | refine bdr ?_ _ | refine Below.drew ?_ | refine ball ?_ _))
                      case measure => simp [intOf]; omega
                    · have z3 : ¬ 9223372036854775807 < S2.size + 3 := by omega
                      have hcat : S2 ++ ⟨#[10, 32, 32]⟩ = str (itS (its ++ [It.mk R [10, 32, 32] xk xt])) := by rw [HC0.out, show (⟨#[10, 32, 32]⟩ : ByteArray) = str [10, 32, 32] from rfl, str_app, itS_snoc, itS_snoc, List.append_assoc, List.append_assoc]; rfl
                      have HCC := Lib.hid hcat
                      clear hcat
                      go_wp2
                      go_roundw
                      case rel =>
                        refine ⟨i + 1, its ++ [It.mk R [10, 32, 32] xk xt], by omega, by go_num, by rw [HCC.out], by rw [List.length_append, HI.out.1]; rfl, ?_, ?_, ?_, ?_⟩
                        · intro z hz
                          rcases List.mem_append.1 hz with hz | hz
                          · exact HI.out.2.1 z hz
                          · rw [List.mem_singleton] at hz
                            subst hz
                            exact HG.out.1 _ (by decide)
                        · rw [List.map_append, HI.out.2.2.1, ktL_take HG.out.2.2.2.1]; rfl
                        · rw [itS_snoc, List.length_append]
                          have e1 := HI.out.2.2.2.1
                          have e2 := HG.out.2.2.2.2.2.1
                          simp only [List.length_append, List.length_cons, List.length_nil]
                          omega
                        · exact bto0 HI.out.2.2.2.2.1 (by with_reducible repeat (first | exact Below.refl _ _ | refine bdr ?_ _ | refine Below.drew ?_ | refine ball ?_ _))
                      case measure => simp [intOf]; omega
                    · have z3 : ¬ 9223372036854775807 < S2.size + 1 := by omega
                      have hcat : S2 ++ ⟨#[13]⟩ = str (itS (its ++ [It.mk R [13] xk xt])) := by rw [HC0.out, show (⟨#[13]⟩ : ByteArray) = str [13] from rfl, str_app, itS_snoc, itS_snoc, List.append_assoc, List.append_assoc]; rfl
                      have HCC := Lib.hid hcat
                      clear hcat
                      go_wp2
                      go_roundw
                      case rel =>
                        refine ⟨i + 1, its ++ [It.mk R [13] xk xt], by omega, by go_num, by rw [HCC.out], by rw [List.length_append, HI.out.1]; rfl, ?_, ?_, ?_, ?_⟩
                        · intro z hz
                          rcases List.mem_append.1 hz with hz | hz
                          · exact HI.out.2.1 z hz
                          · rw [List.mem_singleton] at hz
                            subst hz
                            exact HG.out.1 _ (by decide)
                        · rw [List.map_append, HI.out.2.2.1, ktL_take HG.out.2.2.2.1]; rfl
                        · rw [itS_snoc, List.length_append]
                          have e1 := HI.out.2.2.2.1
                          have e2 := HG.out.2.2.2.2.2.1
                          simp only [List.length_append, List.length_cons, List.length_nil]
                          omega
                        · exact bto0 HI.out.2.2.2.2.1 (by with_reducible repeat (first | exact Below.refl _ _ | refine bdr ?_ _ | refine Below.drew ?_ | refine ball ?_ _))
                      case measure => simp [intOf]; omega
                  · have p1 : ¬ (i : Int) < (n2 : Int) := by omega
                    have HCC := HC0
                    go_wp2
                    go_roundw
                    case rel =>
                      refine ⟨i + 1, its ++ [It.mk R [] xk xt], by omega, by go_num, by rw [HCC.out], by rw [List.length_append, HI.out.1]; rfl, ?_, ?_, ?_, ?_⟩
                      · intro z hz
                        rcases List.mem_append.1 hz with hz | hz
                        · exact HI.out.2.1 z hz
                        · rw [List.mem_singleton] at hz
                          subst hz
                          exact HG.out.1 _ (by decide)
                      · rw [List.map_append, HI.out.2.2.1, ktL_take HG.out.2.2.2.1]; rfl
                      · rw [itS_snoc, List.length_append]
                        have e1 := HI.out.2.2.2.1
                        have e2 := HG.out.2.2.2.2.2.1
                        simp only [List.length_append, List.length_cons, List.length_nil]
                        omega
                      · exact bto0 HI.out.2.2.2.2.1 (by with_reducible repeat (first | exact Below.refl _ _ | refine bdr ?_ _ | refine Below.drew ?_ | refine ball ?_ _))
                    case measure => simp [intOf]; omega
          · obtain rfl : i = M := by omega
            obtain ⟨r, hr, hkr⟩ := toks_items its 0 0 HI.out.2.1 (by rw [HI.out.1]; omega)
            rw [HI.out.2.2.1, ← HL.out.2.1] at hkr
            have hrl : r.length = i + 1 := by
              have := congrArg List.length hkr
              rw [ktL, ktL, List.length_map, List.length_map, HL.out.2.2.1] at this
              exact this
            have hbw0 := HI.out.2.2.2.2.2
            obtain ⟨S, hS⟩ : ∃ S, str (itS its) = S := ⟨_, rfl⟩
            have hSd : S.data.toList = itS its := by rw [← hS, str_data]
            rw [hS] at hszS ⊢
            clear hS hq hn2 hr2 HI
            by_cases hS4 : 4096 < S.size
            · have g3 : (4096 : Int) < (S.size : Int) := by omega
              clear hr hkr hSd hrl
              go_wp2_with fail
              refine (FX.out _).mono ?_
              rintro e w9 ⟨rfl, hb9⟩
              go_wp2
              go_ret
              exact ⟨rfl, bto0 hbw0 hb9⟩
            · have g3 : (S.size : Int) ≤ 4096 := by omega
              have T3 := Lib.hid fun W => tokens_any S (by omega) W
              have hT3 : toksQ S.data.toList = .ok r := by
                unfold toksQ
                rw [if_neg (by rw [szL]; exact hS4), hSd]
                exact hr
              rw [hT3] at T3
              clear hr hT3 hSd
              go_wp2_with fail
              refine (T3.out _).mono ?_
              rintro e w3 ⟨A3, c3, rfl, hc3, own3, hb3⟩
              rw [hrl] at hc3 own3 ⊢
              have H3 := Lib.hid (And.intro (H1.out.1.below (bto0 hb hb3)) (And.intro (Reads.of_own own3) (And.intro (bto0 hbw0 hb3) hkr)))
              have hsz3 : W1.heap.size ≤ w3.heap.size := (bto0 hb hb3).size
              clear own3 hb3 hkr hrl T3 hb hbw0
              go_wp2_with fail
              go_loopw [149] (fun iv wx => ∃ k : Nat, k ≤ i + 1 ∧ iv = .int .i64 k ∧ Below w3.heap.size w3 wx) (fun iv _ => i + 1 - (intOf iv).toNat)
              case atStart => exact ⟨0, by omega, rfl, Below.refl _ _⟩
              case round =>
                obtain ⟨k, hk, rfl, hb4⟩ := hrel
                have k0 : (0 : Int) ≤ (k : Int) := by omega
                have hbw4 := bto0 H3.out.2.2.1 hb4
                by_cases hlt3 : k < i + 1
                · have k1 : (k : Int) < (i : Int) + 1 := by omega
                  obtain ⟨ad3, x, rfl, hab3, hx, d0, d1, d2⟩ := (H3.out.2.1.below hb4).tk hlt3
                  obtain ⟨ad1, y, rfl, hab1, hy, f0, f1, f2⟩ := ((H3.out.1.more hsz3).below hb4).tk hlt3
                  have hxy := ktL_get hx
                  rw [H3.out.2.2.2, ktL_get hy] at hxy
                  injection hxy with hxy
                  injection hxy with hx1 hx2
                  rw [hx1] at f0
                  rw [hx2] at f1
                  obtain ⟨P, hP⟩ : ∃ P, str x.2.1 = P := ⟨_, rfl⟩
                  rw [hP] at d1 f1
                  clear hx hy hP hx1 hx2 d2 f2 hk hlt3
                  go_wp2
                  go_quiet (fail)
                  go_wp2
                  go_roundw
                  case rel => exact ⟨k + 1, by omega, by go_num, by first | exact hb4 | exact bdr hb4 _⟩
                  case measure => simp [intOf]; omega
                · obtain rfl : k = i + 1 := by omega
                  go_wp2_with fail
                  refine (FX.out _).mono ?_
                  rintro e w9 ⟨rfl, hb9⟩
                  go_wp2
                  go_ret
                  exact ⟨rfl, bto0 hbw4 hb9⟩
end Go.Proofs.Ytbmfojeklhbocaa

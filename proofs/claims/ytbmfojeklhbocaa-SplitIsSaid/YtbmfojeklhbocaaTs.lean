/-
  SplitIs: the walk.
-/
import Derived.Test.YtbmfojeklhbocaaTq
import Derived.Deep.RegionHeld3
set_option linter.unusedSimpArgs false
set_option linter.unusedVariables false
namespace Go.Proofs.Ytbmfojeklhbocaa
open Go.RowKit

theorem sum_set {l : List Nat} {k a b : Nat} (h : l[k]? = some a) : (l.set k b).sum + a = l.sum + b := by
  induction l generalizing k with
  | nil => simp at h
  | cons x l ih =>
    cases k with
    | zero => simp at h; subst h; simp [List.set]; omega
    | succ k =>
      simp only [List.getElem?_cons_succ] at h
      have := ih h
      simp only [List.set_cons_succ, List.sum_cons]
      omega
theorem sum_prt (c : Tm → Nat) (K : Nat) (l : List Tm) (hc : ∀ t, c t < 2 + K) : ∀ k, k ≤ l.length → ((prt c K l k).map List.length).sum = k
  | 0, _ => by
    rw [prt_zero, List.map_replicate]
    simp
  | k + 1, hk => by
    have hv : l[k]? = some (l[k]'(by omega)) := List.getElem?_eq_getElem (by omega)
    have ih := sum_prt c K l hc k (by omega)
    rw [prt_succ hv, List.map_set]
    have h := prt_at c K l k (c (l[k]'(by omega))) (hc _)
    have h2 : ((prt c K l k).map List.length)[c (l[k]'(by omega))]? = some (idxK (fun t => c t == c (l[k]'(by omega))) l k).length := by rw [List.getElem?_map, h]; rfl
    have h3 := sum_set (b := (idxK (fun t => c t == c (l[k]'(by omega))) l k ++ [k]).length) h2
    rw [List.length_append] at h3
    rw [List.length_append]
    simp only [List.length_cons, List.length_nil] at h3 ⊢
    omega
theorem or_pow (j : Nat) : (2 ^ j - 1) ||| 2 ^ j = 2 ^ (j + 1) - 1 := by
  have h := Nat.two_pow_add_eq_or_of_lt (i := j) (b := 2 ^ j - 1) (by have := Nat.one_le_two_pow (n := j); omega) 1
  rw [Nat.mul_one] at h
  rw [Nat.or_comm, ← h, Nat.pow_succ]
  have := Nat.one_le_two_pow (n := j)
  omega
def lens (rl : List (Value × List Nat)) (j : Nat) : Nat := ((rl.take j).map fun r => r.2.length).sum
theorem lens_succ {rl : List (Value × List Nat)} {j : Nat} {v : Value} {i : List Nat} (h : rl[j]? = some (v, i)) : lens rl (j + 1) = lens rl j + i.length := by
  unfold lens
  rw [List.take_add_one, h]
  simp
theorem lens_all (rl : List (Value × List Nat)) : lens rl rl.length = ((rl.map Prod.snd).map List.length).sum := by
  unfold lens
  rw [List.take_of_length_le (Nat.le_refl _), List.map_map]
  rfl

set_option maxRecDepth 100000 in
set_option maxHeartbeats 8000000 in
theorem splitIs_any (A : Option Addr) (n c : Nat) (l : List Tm) (T : Int) (hT1 : -9223372036854775808 ≤ T) (hT2 : T ≤ 9223372036854775807) (w : World) (hr : Reads w w.heap.size 11 A n (vT l)) (hin : ∀ t ∈ l, TmIn w w.heap.size t) (hn : n ≤ maxLen) :
    Calls Try.prog 7 #[.slice A n c, .int .i64 T] w (RetB w (.bool true)) := by
  have hl : l.length = n := by have := hr.1; rw [vT_len] at this; omega
  have G := Lib.hid (greatL_any A n c l w hr hin hn)
  have FX := Lib.hid fun W => fixed19_any W
  cases hgr : grTL l with
  | true =>
    rw [hgr] at G
    clear hr hin hgr
    go_enter Try.func7, Try.ntmps7
    go_wp2_with fail
    refine G.out.mono ?_
    rintro e w1 ⟨rfl, hb1⟩
    go_wp2_with fail
    refine (FX.out _).mono ?_
    rintro e w2 ⟨rfl, hb2⟩
    go_wp2
    go_ret
    exact ⟨rfl, bto0 hb1 hb2⟩
  | false =>
    rw [hgr] at G
    unfold grTL at hgr
    rw [Bool.or_eq_false_iff] at hgr
    have hn40 : n ≤ 40 := by have := hgr.1; simp at this; omega
    have hg : ∀ t ∈ l, grT 21 20 t = false := by
      intro t ht
      have := hgr.2
      rw [List.any_eq_false] at this
      simpa using this t ht
    have R1 := Lib.hid fun (W : World) (hb : Below w.heap.size w W) => split_any 21 A n c l T W ((hr.below hb).more hb.size) (fun t ht => ((hin t ht).under hb).more hb.size) (fun t ht => shT_of 21 20 t (hg t ht)) (by omega)
    have R2 := Lib.hid fun (W : World) (hb : Below w.heap.size w W) => rsplit_any 21 20 A n c l T (by omega) W ((hr.below hb).more hb.size) (fun t ht => ((hin t ht).under hb).more hb.size) (fun t ht => hg t ht) (by omega)
    have AL := Lib.hid fun W => all_any T W
    have hK := bnd_le T
    have hlt := clT_lt 21 (bnd T)
    have hend : (T ≤ ((bnd T : Nat) : Int)) ∨ bnd T = 31 := by unfold bnd; omega
    have hbelow : ∀ j : Nat, j < bnd T → (j : Int) < T := by unfold bnd; omega
    obtain ⟨K, hKK⟩ : ∃ K, bnd T = K := ⟨_, rfl⟩
    rw [hKK] at R1 R2 AL hK hlt hend hbelow
    have hsum := sum_prt (clT 21 K) K l hlt n (by omega)
    have hjl := jsK_len (clT 21 K) l n
    have hpl : ∀ i ∈ prt (clT 21 K) K l n, i.length ≤ 1000 := by
      intro i hi
      unfold prt at hi
      obtain ⟨m, _, rfl⟩ := List.mem_map.1 hi
      have := idxK_len (fun t => clT 21 K t == m) l n
      omega
    obtain ⟨ps, hps⟩ : ∃ ps, prt (clT 21 K) K l n = ps := ⟨_, rfl⟩
    obtain ⟨js, hjs⟩ : ∃ js, jsK (clT 21 K) l n = js := ⟨_, rfl⟩
    rw [hps] at R1 R2 hsum hpl
    rw [hjs] at R1 R2 hjl
    have Hpl := Lib.hid hpl
    have Hbl := Lib.hid hbelow
    have nI : (n : Int) ≤ 40 := by omega
    have KI : (K : Int) ≤ 31 := by omega
    clear hr hin hgr hg hps hjs hKK hlt hpl hl hbelow
    go_enter Try.func7, Try.ntmps7
    go_wp2_with fail
    refine G.out.mono ?_
    rintro e w1 ⟨rfl, hb1⟩
    go_wp2_with fail
    refine (R1.out _ hb1).mono ?_
    intro e w2 hret
    obtain ⟨gL, AN, cN, iN, AM, cM, iM, rl, AJ, cJ, rfl, hp, hsn, hb2⟩ := hret.reads
    have hb02 := bto0 hb1 hb2
    have hrlK := hp.len
    have X2 := Blk.new w2 43 #[.slice AN iN.length cN, .slice (some ⟨gL, 0, none⟩) K K, .slice AM iM.length cM, .slice AJ js.length cJ]
    have hiN : iN.length ≤ 1000 := Hpl.out iN (by rw [← hsn]; simp)
    have hiM : iM.length ≤ 1000 := Hpl.out iM (by rw [← hsn]; simp)
    have hil : ∀ r ∈ rl, r.2.length ≤ 1000 := by
      intro r hr
      exact Hpl.out r.2 (by rw [← hsn]; simp only [List.mem_cons]; exact .inr (.inr (List.mem_map.2 ⟨r, hr, rfl⟩)))
    have hsumL : iN.length + iM.length + lens rl K = n := by
      rw [← hsn] at hsum
      simp only [List.map_cons, List.sum_cons] at hsum
      rw [← hrlK, lens_all]
      omega
    have hW3 : Below w.heap.size w (w2.alloc (.cells #[.slice AN iN.length cN, .slice (some ⟨gL, 0, none⟩) K K, .slice AM iM.length cM, .slice AJ js.length cJ] 43)) := ball hb02 _
    have P3 := hp.below (ball (Below.refl _ _) (.cells #[.slice AN iN.length cN, .slice (some ⟨gL, 0, none⟩) K K, .slice AM iM.length cM, .slice AJ js.length cJ] 43))
    have H3 := Lib.hid (And.intro hW3 (And.intro X2 (And.intro P3 hsn)))
    have HIL := Lib.hid hil
    have HSL := Lib.hid hsumL
    clear hret hp hsn hb1 hb2 hb02 X2 hW3 P3 hil hsumL hsum Hpl
    simp only [pvV]
    go_wp2_with fail
    obtain ⟨W3, hW3⟩ : ∃ W3, w2.alloc (.cells #[.slice AN iN.length cN, .slice (some ⟨gL, 0, none⟩) K K, .slice AM iM.length cM, .slice AJ js.length cJ] 43) = W3 := ⟨_, rfl⟩
    rw [hW3] at H3 ⊢
    clear hW3
    go_loopw [6, 27] (fun s i wr => ∃ j : Nat, j ≤ K ∧ i = .int .i64 j ∧ s = .int .i64 ((iN.length + iM.length + lens rl j : Nat) : Int) ∧ wr = W3) (fun _ i _ => K - (intOf i).toNat)
    case atStart => exact ⟨0, by omega, rfl, val_int (by simp [lens]), rfl⟩
    case round =>
      obtain ⟨j, hj, rfl, rfl, rfl⟩ := hrel
      have q0 : (0 : Int) ≤ (j : Int) := by omega
      by_cases hlt : j < K
      · have q1 : (j : Int) < (K : Int) := by omega
        obtain ⟨v, i, hri⟩ := rl_at H3.out.2.2.1.len hlt
        obtain ⟨A', cA, rfl, hA⟩ := H3.out.2.2.1.rR j v i hri
        have d1 : wr.cell? ⟨gL, j, none⟩ = some (.slice A' i.length cA) := (H3.out.2.2.1.bL.cell j).trans (by simp [hri])
        have hls := lens_succ hri
        have hil := HIL.out _ (List.mem_of_getElem? hri)
        simp only at hil
        have hbig : iN.length + iM.length + lens rl j ≤ 100000 := by
          have h1 : ∀ m, m ≤ K → lens rl m ≤ m * 1000 := by
            intro m
            induction m with
            | zero => intro _; simp [lens]
            | succ m ih =>
              intro hm
              obtain ⟨v', i', hri'⟩ := rl_at H3.out.2.2.1.len (show m < K by omega)
              have h2 := lens_succ hri'
              have h3 := HIL.out _ (List.mem_of_getElem? hri')
              simp only at h3
              have h4 := ih (by omega)
              omega
          have := h1 j hj
          omega
        obtain ⟨Q, hQ⟩ : ∃ Q, iN.length + iM.length + lens rl j = Q := ⟨_, rfl⟩
        have hQ2 : Hid (iN.length + iM.length + lens rl (j + 1) = Q + i.length) := Lib.hid (by omega)
        rw [hQ] at hbig ⊢
        have qI : (Q : Int) ≤ 100000 := by omega
        have iI : (i.length : Int) ≤ 1000 := by omega
        clear hri hA hls hQ
        go_wp2
        go_roundw
        case rel => exact ⟨j + 1, by omega, by go_num, val_int (by rw [hQ2.out]; omega), by trivial⟩
        case measure => simp [intOf]; omega
      · obtain rfl : j = K := by omega
        rw [HSL.out]
        go_wp2_with fail
        obtain ⟨W4, hW4⟩ : ∃ W4 : World, wr = W4 := ⟨_, rfl⟩
        rw [hW4] at H3 ⊢
        clear hW4
        go_loopw [9, 10] (fun s i wr => ∃ m : Nat, m ≤ j ∧ i = .int .i64 m ∧ s = .int .u32 ((2 ^ m - 1 : Nat) : Int) ∧ wr = W4) (fun _ i _ => j - (intOf i).toNat)
        case atStart => exact ⟨0, by omega, rfl, rfl, rfl⟩
        case round =>
          obtain ⟨m, hm, rfl, rfl, rfl⟩ := hrel
          have r0 : (0 : Int) ≤ (m : Int) := by omega
          by_cases hmt : m < j
          · have r1 : (m : Int) < T := Hbl.out m hmt
            have r2 : (m : Int) < 31 := by omega
            have hpw := pow_u32 m (by omega)
            have hp1 : (2 : Nat) ^ m < 2 ^ 31 := Nat.pow_lt_pow_right (by omega) (by omega)
            have hor := or_u32n (2 ^ m - 1) (2 ^ m) (by omega) (by omega)
            rw [or_pow] at hor
            have HPW := Lib.hid (And.intro hpw hor)
            clear hpw hp1 hor
            go_wp2
            go_roundw
            case rel =>
              exact ⟨m + 1, by omega, by go_num, val_int (by first | exact HPW.out.2 | (rw [← HPW.out.2, HPW.out.1])), by trivial⟩
            case measure => simp [intOf]; omega
          · obtain rfl : m = j := by omega
            have HS : Hid (∀ W : World, Below wr.heap.size wr W → W.cell? ⟨w2.heap.size, 0, none⟩ = some (.slice AN iN.length cN) ∧ W.cell? ⟨w2.heap.size, 1, none⟩ = some (.slice (some ⟨gL, 0, none⟩) m m) ∧ W.cell? ⟨w2.heap.size, 2, none⟩ = some (.slice AM iM.length cM) ∧ W.cell? ⟨w2.heap.size, 3, none⟩ = some (.slice AJ js.length cJ) ∧ Below wr.heap.size wr W) := Lib.hid fun W hW => by
              have E := H3.out.2.1.below hW H3.out.2.1.lt
              exact ⟨E.cell 0, E.cell 1, E.cell 2, E.cell 3, hW⟩
            have SA : Hid (∀ (W : World) (gL2 : Nat) (AN2 : Option Addr) (cN2 : Nat) (iN2 : List Nat) (AM2 : Option Addr) (cM2 : Nat) (iM2 : List Nat) (rl2 : List (Value × List Nat)) (AJ2 : Option Addr) (cJ2 : Nat), PRs W m gL2 AN2 iN2 AM2 iM2 rl2 AJ2 js → iN2 :: iM2 :: rl2.map Prod.snd = ps → Below wr.heap.size wr W → Calls Try.prog 19 #[pvV m gL AN iN.length cN AM iM.length cM AJ js.length cJ, pvV m gL2 AN2 iN2.length cN2 AM2 iM2.length cM2 AJ2 js.length cJ2] W (RetB W (.bool true))) := Lib.hid fun W gL2 AN2 cN2 iN2 AM2 cM2 iM2 rl2 AJ2 cJ2 h2 hs2 hb => by
              have e := H3.out.2.2.2.trans hs2.symm
              simp only [List.cons.injEq] at e
              obtain ⟨rfl, rfl, e3⟩ := e
              exact psame_any m gL gL2 AN AM AJ AN2 AM2 AJ2 cN cM cJ cN2 cM2 cJ2 iN iM rl rl2 js W (H3.out.2.2.1.below hb) h2 e3 hK hiN hiM (by omega) HIL.out
            obtain ⟨s0, s1, s2, s3, _⟩ := HS.out wr (Below.refl _ _)
            have HB := Lib.hid H3.out.1
            have MM : Hid ((2 ^ m - 1 : Nat) < 4294967296) := Lib.hid (by have : (2 : Nat) ^ m ≤ 2 ^ 31 := Nat.pow_le_pow_right (by omega) (by omega); omega)
            obtain ⟨M, hM⟩ : ∃ M : Nat, 2 ^ m - 1 = M := ⟨_, rfl⟩
            rw [hM] at AL MM ⊢
            clear hM H3 hlt hmt
            have he : (¬ (m : Int) < T ∧ (m : Int) ≤ 31) ∨ ((m : Int) < T ∧ ¬ (m : Int) < 31) := by omega
            clear hend
            rcases he with ⟨f1, f2⟩ | ⟨f1, f2⟩
            all_goals
              go_wp2
              go_region_held3 (fun W => W.cell? ⟨w2.heap.size, 0, none⟩ = some (.slice AN iN.length cN) ∧ W.cell? ⟨w2.heap.size, 1, none⟩ = some (.slice (some ⟨gL, 0, none⟩) m m) ∧ W.cell? ⟨w2.heap.size, 2, none⟩ = some (.slice AM iM.length cM) ∧ W.cell? ⟨w2.heap.size, 3, none⟩ = some (.slice AJ js.length cJ) ∧ Below wr.heap.size wr W)
                (first | exact HS.out _ (by (with_reducible repeat (first | exact Below.refl _ _ | exact hb7 | exact hb6 | exact hb5 | refine bto0 ?_ hb7 | refine bto0 ?_ hb6 | refine bto0 ?_ hb5 | refine bdr ?_ _ | refine Below.drew ?_ | refine ball ?_ _))) | assumption)
                (first
                  | (go_at_call 17; (with_reducible refine (FX.out _).mono ?_); rintro e w5 ⟨rfl, hb5⟩)
                  | (go_at_call 20; (with_reducible refine (R2.out _ (bto0 HB.out (by (with_reducible repeat (first | exact Below.refl _ _ | exact hb5 | refine bto0 ?_ hb5 | refine bdr ?_ _ | refine Below.drew ?_ | refine ball ?_ _))))).mono ?_); intro e w6 hret; obtain ⟨gL2, AN2, cN2, iN2, AM2, cM2, iM2, rl2, AJ2, cJ2, rfl, hp2, hsn2, hb6⟩ := hret.reads; (try simp only [pvV]))
                  | (go_at_call 19; (with_reducible refine (SA.out _ _ _ _ _ _ _ _ _ _ _ hp2 hsn2 (by (with_reducible repeat (first | exact Below.refl _ _ | exact hb6 | exact hb5 | refine bto0 ?_ hb6 | refine bto0 ?_ hb5 | refine bdr ?_ _ | refine Below.drew ?_ | refine ball ?_ _)))).mono ?_); rintro e w7 ⟨rfl, hb7⟩)
                  | (go_at_call 21; (with_reducible refine (AL.out _).mono ?_); rintro e w8 ⟨rfl, hw8⟩; subst hw8))
              go_wp2
              go_ret
              exact ⟨rfl, bto0 HB.out (by (with_reducible repeat (first | exact Below.refl _ _ | exact hb7 | exact hb6 | exact hb5 | refine bto0 ?_ hb7 | refine bto0 ?_ hb6 | refine bto0 ?_ hb5 | refine bdr ?_ _ | refine Below.drew ?_ | refine ball ?_ _)))⟩
end Go.Proofs.Ytbmfojeklhbocaa

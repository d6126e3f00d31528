/-
  Split: contract of Split.
-/
import Derived.Test.YtbmfojeklhbocaaTl
set_option linter.unusedSimpArgs false
set_option linter.unusedVariables false
namespace Go.Proofs.Ytbmfojeklhbocaa
open Go.RowKit

theorem rl_at {rl : List (Value × List Nat)} {K j : Nat} (hl : rl.length = K) (hj : j < K) : ∃ v i, rl[j]? = some (v, i) := ⟨(rl[j]'(by omega)).1, (rl[j]'(by omega)).2, List.getElem?_eq_getElem (by omega)⟩
theorem snd_set0 {a b : Value} {i i' i2 : List Nat} {rl : List (Value × List Nat)} {ps : List (List Nat)} (h : ((a, i) :: (b, i2) :: rl).map Prod.snd = ps) (a' : Value) : ((a', i') :: (b, i2) :: rl).map Prod.snd = ps.set 0 i' := by subst h; rfl
theorem snd_set1 {a b : Value} {i i' i2 : List Nat} {rl : List (Value × List Nat)} {ps : List (List Nat)} (h : ((a, i) :: (b, i2) :: rl).map Prod.snd = ps) (b' : Value) : ((a, i) :: (b', i') :: rl).map Prod.snd = ps.set 1 i' := by subst h; rfl
theorem snd_set2 {a b : Value} {i i' i2 : List Nat} {rl : List (Value × List Nat)} {ps : List (List Nat)} (h : ((a, i) :: (b, i2) :: rl).map Prod.snd = ps) (j : Nat) (v' : Value) : ((a, i) :: (b, i2) :: rl.set j (v', i')).map Prod.snd = ps.set (2 + j) i' := by
  subst h
  rw [Nat.add_comm 2 j]
  simp [List.map_set]
theorem snd_at {rs : List (Value × List Nat)} {ps : List (List Nat)} (h : rs.map Prod.snd = ps) {m : Nat} {v : Value} {i : List Nat} (hm : rs[m]? = some (v, i)) : ps[m]? = some i := by
  subst h; rw [List.getElem?_map, hm]; rfl

set_option maxRecDepth 100000 in
set_option maxHeartbeats 16000000 in
theorem split_any (f : Nat) (A : Option Addr) (n c : Nat) (l : List Tm) (T : Int) (w : World) (hr : Reads w w.heap.size 11 A n (vT l)) (hin : ∀ t ∈ l, TmIn w w.heap.size t) (hsh : ∀ t ∈ l, shT f t) (hn : n ≤ 1000) :
    Calls Try.prog 18 #[.slice A n c, .int .i64 T] w (RetParts w (bnd T) (prt (clT f (bnd T)) (bnd T) l n) (jsK (clT f (bnd T)) l n)) := by
  have hl : l.length = n := by have := hr.1; rw [vT_len] at this; omega
  have Hl := Lib.hid hl; clear hl
  have hnI : (n : Int) ≤ 1000 := by omega
  have AL := Lib.hid fun W => all_any T W
  have BD := Lib.hid fun W => bounded_any T W
  have hK := bnd_le T
  obtain ⟨K, hKK⟩ : ∃ K, bnd T = K := ⟨_, rfl⟩
  rw [hKK] at AL BD hK ⊢
  clear hKK
  have hM : 2 ^ K ≤ 2 ^ 31 := Nat.pow_le_pow_right (by omega) hK
  have hMM : ∀ v, clT f K v = clN (usT f v &&& (2 ^ K - 1)) := fun v => rfl
  obtain ⟨M, hMe⟩ : ∃ M, 2 ^ K - 1 = M := ⟨_, rfl⟩
  rw [hMe] at AL hMM
  have hM32 : M < 4294967296 := by omega
  have hclt := clT_lt f K
  obtain ⟨cl, hcl⟩ : ∃ cl, clT f K = cl := ⟨_, rfl⟩
  rw [hcl] at hMM hclt ⊢
  clear hcl hM hMe
  have Hc := Lib.hid (And.intro hMM hclt)
  clear hMM hclt
  obtain ⟨i0, hi0, hz0, hs0, hy0⟩ := int_info8 Try.infoI
  obtain ⟨i1, hi1, hz1, hs1, hy1⟩ := int_info8 Try.infoR
  obtain ⟨i2, hi2, hz2, hs2, hy2⟩ := int_info8 Try.infoJn
  have mk : ∀ W : World, (Instr.makeSlice 40 (.int .i64 (K : Int)) (.int .i64 (K : Int))).run Try.prog W = .ok (.slice (some ⟨W.heap.size, 0, none⟩) K K) (W.alloc (.cells (zL K) 39)) := by
    intro W
    have h := run_make (P := Try.prog) W 40 39 i1 (.slice none 0 0) Try.underlying40 hi1 hz1 .i64 .i64 (K : Int) (K : Int) (by omega) (by omega) (by rw [hy1]; omega) (by omega)
    rw [hs1, Int.toNat_natCast, Nat.mul_one, made_nil] at h
    exact h
  have US := Lib.hid fun (t : Tm) (W : World) (ht : t ∈ l) (hb : Below w.heap.size w W) => uses_any f t W (((hin t ht).under hb).more hb.size) (hsh t ht)
  have JN := Lib.hid fun (t : Tm) (W : World) (ht : t ∈ l) (hb : Below w.heap.size w W) => join_any t W (((hin t ht).under hb).more hb.size)
  have ON := Lib.hid fun (s : Nat) (W : World) (hs : s < 4294967296) => only_any s hs W
  have ST := Lib.hid (PSt.start w K cl l)
  clear hin hsh hi1 hz1 hs1 hy1
  have hKI : (K : Int) ≤ 31 := by omega
  have hK0 : (0 : Int) ≤ (K : Int) := by omega
  go_enter Try.func18, Try.ntmps18
  go_wp2_with fail
  refine (AL.out _).mono ?_
  rintro e w1 ⟨rfl, hw1⟩
  subst hw1
  go_wp2_with fail
  refine (BD.out _).mono ?_
  rintro e w1 ⟨rfl, hw1⟩
  subst hw1
  go_wp2_with fail
  go_loopw [22] (fun i wr => ∃ (k : Nat) (vN vM vj : Value) (iN iM : List Nat) (rl : List (Value × List Nat)), k ≤ n ∧ i = .int .i64 k ∧ PSt w K w.heap.size (w.heap.size + 1) (w.heap.size + 1 + 1) wr vN vM vj iN iM rl (jsK cl l k) ∧ ((vN, iN) :: (vM, iM) :: rl).map Prod.snd = prt cl K l k) (fun i _ => n - (intOf i).toNat)
  case atStart => exact ⟨0, _, _, _, _, _, _, Nat.zero_le _, rfl, ST.out.1, ST.out.2⟩
  case round =>
    clear ST
    obtain ⟨k, vN, vM, vj, iN, iM, rl, hk, rfl, hst, hsnd⟩ := hrel
    have q0 : (0 : Int) ≤ (k : Int) := by omega
    by_cases hlt : k < n
    · have q1 : (k : Int) < (n : Int) := by omega
      obtain ⟨ad, v, rfl, hab, hv, hat⟩ := (hr.below hst.bel).tm hlt
      have hmem := List.mem_of_getElem? hv
      have HC := Lib.hid fun W hbW => US.out v W hmem hbW
      have HJ := Lib.hid fun W hbW => JN.out v W hmem hbW
      have hp := prt_succ (c := cl) (K := K) hv
      have hjs := jsK_succ (c := cl) hv
      have hjl := jsK_len cl l k
      obtain ⟨js, hjse⟩ : ∃ js, jsK cl l k = js := ⟨_, rfl⟩
      rw [hjse] at hst hjs hjl
      have hcv := Hc.out.1 v
      have hcl := Hc.out.2 v
      unfold jsB at hjs
      have hsl := usT_lt f v
      obtain ⟨S, hS⟩ : ∃ S, usT f v = S := ⟨_, rfl⟩
      rw [hS] at HC hcv hsl
      have hand := and_u32n S M hsl hM32
      have hX32 : S &&& M < 4294967296 := Nat.lt_of_le_of_lt Nat.and_le_left hsl
      obtain ⟨X, hXe⟩ : ∃ X, S &&& M = X := ⟨_, rfl⟩
      rw [hXe] at hand hcv hX32
      have ON' := Lib.hid fun W => ON.out X W hX32
      obtain ⟨jt, hjt⟩ : ∃ jt, jnT v = jt := ⟨_, rfl⟩
      rw [hjt] at HJ hjs
      have hsz := hst.bel.size
      have Hp := Lib.hid hp
      have Hjs := Lib.hid hjs
      have Hcv := Lib.hid hcv
      have Hsnd := Lib.hid hsnd
      have hiN : iN.length ≤ k := by
        have h := snd_at hsnd (m := 0) rfl
        rw [prt_at _ _ _ _ _ (by omega)] at h
        injection h with h
        rw [← h]
        exact idxK_len _ _ _
      have hiM : iM.length ≤ k := by
        have h := snd_at hsnd (m := 1) rfl
        rw [prt_at _ _ _ _ _ (by omega)] at h
        injection h with h
        rw [← h]
        exact idxK_len _ _ _
      have hidx : ∀ m (i : List Nat), (prt cl K l k)[m]? = some i → m < 2 + K → i = idxK (fun t => cl t == m) l k := by
        intro m i h hm
        rw [prt_at _ _ _ _ _ hm] at h
        injection h with h
        exact h.symm
      have Hidx := Lib.hid hidx
      have hgne : wr.heap.size ≠ w.heap.size + 1 + 1 := by have := hst.bP.lt; omega
      have hst1 := hst.alloc (.cells (Tm.arr v) 56)
      have hX1 := Blk.new wr 56 (Tm.arr v)
      have H1 := Lib.hid (And.intro hst1 hX1)
      clear hp hjs hcv hsnd hst hst1 hX1 hv hmem hS hXe hjt hjse hsl hidx
      obtain ⟨⟨k1, op1, no1, ⟨vk1, vi1, vs1⟩, of1, nm1, tb1, cl1⟩, A1, n1, c1, l1⟩ := v
      obtain ⟨y0, y1, y2, y3, y4, y5, y6, y7, y8, y9, y10⟩ := hat
      simp only [Tm.agg, TmH.agg, Tm.h, Tm.A, Tm.n, Tm.c] at HC HJ y0 y1 y2 y3 y4 y5 y6 y7 y8 y9 y10
      unfold Tm.arr Tm.cells at H1
      go_wp2_with fail
      refine (HC.out _ H1.out.1.bel).mono ?_
      rintro e w1 ⟨rfl, hb1⟩
      have hst2 := H1.out.1.below hb1
      have hX2 := H1.out.2.below hb1 (by simp)
      have hzw := hb1.size
      have HS2 := Lib.hid (And.intro hst2 hX2)
      clear H1 HC y0 y1 y2 y3 y4 y5 y6 y7 y8 y9 y10 hst2 hX2 hb1
      go_wp2_with fail
      refine (ON'.out _).mono ?_
      rintro e w2 ⟨rfl, hw2⟩
      subst hw2
      by_cases hX0 : X = 0
      · subst hX0
        have e0 : onlyN 0 = none := by decide
        rw [e0]
        unfold onlyV
        have hcv0 : cl (Tm.mk ⟨k1, op1, no1, ⟨vk1, vi1, vs1⟩, of1, nm1, tb1, cl1⟩ A1 n1 c1 l1) = 0 := by rw [Hcv.out]; rfl
        have hp0 := Hp.out
        have hj0 := Hjs.out
        rw [hcv0] at hp0 hj0
        simp at hj0
        have c0 : w1.cell? ⟨w.heap.size + 1 + 1, 0, none⟩ = some vN := HS2.out.1.bP.cell 0
        have j0 : w1.frozen? ⟨w.heap.size + 1 + 1, 0, none⟩ = false := HS2.out.1.bP.frozen 0
        have hlt0 := HS2.out.1.bP.lt
        go_wp2_with (at_builtin; refine wpList_pushR (news := [.int .i64 (k : Int)]) rfl _ _ 39 rfl w.heap.size 3 i0 _ 1 8 Try.underlying39 hi0 hz0 hs0 hy0 rfl (by decide) vN iN.length _ rfl (HS2.out.1.rws.own 0 _ rfl) rfl _ rfl rfl rfl (by intro u hu; rw [List.mem_singleton] at hu; subst hu; rfl) (by omega) (by omega) HS2.out.1.bel.size ?_; intro v4 w4 hown4 hg4 hB4; obtain ⟨A4, cc4, rfl, hcc4⟩ := own_form hown4; have G4 := HS2.out.1.grow (HS2.out.1.rws.own 0 _ rfl) hg4; have c4 : w4.cell? ⟨w.heap.size + 1 + 1, 0, none⟩ = some vN := G4.bP.cell 0; have j4 : w4.frozen? ⟨w.heap.size + 1 + 1, 0, none⟩ = false := G4.bP.frozen 0; have l4 := G4.bP.lt; have H4 := Lib.hid (And.intro hown4 (And.intro hg4 hB4)); clear G4 hown4 hg4 hB4)
        go_roundw
        case rel =>
          refine ⟨k + 1, .slice A4 (iN.length + 1) cc4, vM, vj, iN ++ [k], iM, rl, by omega, by go_num, ?_, ?_⟩
          · rw [hj0]
            exact HS2.out.1.pushN H4.out.2.1 H4.out.1 H4.out.2.2
          · rw [hp0, ← Hidx.out 0 iN (snd_at Hsnd.out rfl) (by omega)]
            exact snd_set0 Hsnd.out _
        case measure => simp [intOf]; omega
      · have eX : ((X : Int) == 0) = false := by rw [ez_int]; simpa using hX0
        have hcv1 := Hcv.out
        unfold clN at hcv1
        rw [if_neg hX0] at hcv1
        clear hX0
        cases hq : onlyN X with
        | some j =>
          rw [hq] at hcv1
          unfold onlyV
          simp only at hcv1 ⊢
          have hjK : j < K := by omega
          have hjI : (j : Int) < (K : Int) := by omega
          have hj00 : (0 : Int) ≤ (j : Int) := by omega
          obtain ⟨vr, ir, hrl⟩ := rl_at HS2.out.1.len hjK
          have hrj : (rl.map Prod.fst).toArray[j]? = some vr := by simp [hrl]
          have hir : ir.length ≤ k := by
            have h := snd_at Hsnd.out (m := j + 2) hrl
            rw [prt_at _ _ _ _ _ (by omega)] at h
            injection h with h
            rw [← h]
            exact idxK_len _ _ _
          have hp0 := Hp.out
          have hj0 := Hjs.out
          rw [hcv1] at hp0 hj0
          rw [if_neg (by omega)] at hj0
          simp only [Option.toList_none, List.append_nil] at hj0
          have Hpj := Lib.hid (And.intro hp0 (And.intro hj0 (And.intro hrl hrj)))
          have c1 : w1.cell? ⟨w.heap.size + 1 + 1, 1, none⟩ = some (.slice (some ⟨w.heap.size + 1, 0, none⟩) K K) := HS2.out.1.bP.cell 1
          have cr : w1.cell? ⟨w.heap.size + 1, j, none⟩ = some vr := (HS2.out.1.bL.cell j).trans hrj
          have C1 := Lib.hid (And.intro c1 cr)
          clear hp0 hj0 hrl hrj c1 cr hq hcv1
          go_wp2_with fail
          have c1 := C1.out.1
          have cr := C1.out.2
          have lL := HS2.out.1.bL.lt
          have lP := HS2.out.1.bP.lt
          go_region_law (refine step_pushR (news := [.int .i64 (k : Int)]) rfl (.tmp 74) (.tmp 76) 39 rfl w.heap.size 3 i0 _ 1 8 Try.underlying39 hi0 hz0 hs0 hy0 rfl (by decide) vr ir.length _ (by simp [Act.eval, Act.put]) (HS2.out.1.drew.rws.own (j + 2) _ Hpj.out.2.2.1) rfl _ (by simp [Act.eval, Act.put]) rfl rfl (by intro u hu; rw [List.mem_singleton] at hu; subst hu; rfl) (by omega) (by omega) HS2.out.1.bel.size ?_; intro v4 w4 hown4 hg4 hB4; obtain ⟨A4, cc4, rfl, hcc4⟩ := own_form hown4; have G4 := HS2.out.1.drew.grow (HS2.out.1.drew.rws.own (j + 2) _ Hpj.out.2.2.1) hg4; have c4 : w4.cell? ⟨w.heap.size + 1, j, none⟩ = some vr := (G4.bL.cell j).trans Hpj.out.2.2.2; have j4 : w4.frozen? ⟨w.heap.size + 1, j, none⟩ = false := G4.bL.frozen j; have l4 := G4.bL.lt; have c41 : w4.cell? ⟨w.heap.size + 1 + 1, 1, none⟩ = some (.slice (some ⟨w.heap.size + 1, 0, none⟩) K K) := G4.bP.cell 1; have H4 := Lib.hid (And.intro hown4 (And.intro hg4 hB4)); clear G4 hown4 hg4 hB4)
          all_goals (try go_wp2)
          all_goals
            refine ⟨⟨k + 1, vN, vM, vj, iN, iM, rl.set j (.slice A4 (ir.length + 1) cc4, ir ++ [k]), by omega, by go_num, ?_, ?_⟩, by simp [intOf]; omega⟩
            · rw [Hpj.out.2.1]
              exact HS2.out.1.drew.pushL Hpj.out.2.2.1 H4.out.2.1 H4.out.1 H4.out.2.2
            · rw [Hpj.out.1, ← Hidx.out (2 + j) ir (snd_at Hsnd.out (by rw [Nat.add_comm]; exact Hpj.out.2.2.1)) (by omega)]
              exact snd_set2 Hsnd.out j _
        | none =>
          rw [hq] at hcv1
          unfold onlyV
          simp only at hcv1 ⊢
          have hp0 := Hp.out
          have hj0 := Hjs.out
          rw [hcv1] at hp0 hj0
          rw [if_pos rfl] at hj0
          have Hpj := Lib.hid (And.intro hp0 hj0)
          have c2 : w1.cell? ⟨w.heap.size + 1 + 1, 2, none⟩ = some vM := HS2.out.1.bP.cell 2
          have j2 : w1.frozen? ⟨w.heap.size + 1 + 1, 2, none⟩ = false := HS2.out.1.bP.frozen 2
          have l2 := HS2.out.1.bP.lt
          clear hp0 hj0 hq hcv1
          go_wp2_with (at_builtin; refine wpList_pushR (news := [.int .i64 (k : Int)]) rfl _ _ 39 rfl w.heap.size 3 i0 _ 1 8 Try.underlying39 hi0 hz0 hs0 hy0 rfl (by decide) vM iM.length _ rfl (HS2.out.1.rws.own 1 _ rfl) rfl _ rfl rfl rfl (by intro u hu; rw [List.mem_singleton] at hu; subst hu; rfl) (by omega) (by omega) HS2.out.1.bel.size ?_; intro v4 w4 hown4 hg4 hB4; obtain ⟨A4, cc4, rfl, hcc4⟩ := own_form hown4; have G4 := HS2.out.1.grow (HS2.out.1.rws.own 1 _ rfl) hg4; have c4 : w4.cell? ⟨w.heap.size + 1 + 1, 2, none⟩ = some vM := G4.bP.cell 2; have j4 : w4.frozen? ⟨w.heap.size + 1 + 1, 2, none⟩ = false := G4.bP.frozen 2; have l4 := G4.bP.lt; have HT := ((HS2.out.2.alloc (.cells #[.int .i64 (k : Int)] 3)).grown hg4 (fun e => own_blk_ne (HS2.out.1.rws.own 1 _ rfl) HS2.out.2 (by decide) e.symm)).far (p := ⟨w.heap.size + 1 + 1, 2, none⟩) hgne (.slice A4 (iM.length + 1) cc4); have t0 := HT.cell 0; have t1 := HT.cell 1; have t2 := HT.cell 2; have t3 := HT.cell 3; have t4 := HT.cell 4; have t5 := HT.cell 5; have t6 := HT.cell 6; have t7 := HT.cell 7; have t8 := HT.cell 8; have t9 := HT.cell 9; have t10 := HT.cell 10; have H4 := Lib.hid (And.intro hown4 (And.intro hg4 hB4)); clear G4 HT hown4 hg4 hB4)
          have P5 := HS2.out.1.pushM H4.out.2.1 H4.out.1 H4.out.2.2
          have S5 := snd_set1 (i' := iM ++ [k]) Hsnd.out (.slice A4 (iM.length + 1) cc4)
          rw [Hidx.out 1 iM (snd_at Hsnd.out rfl) (by omega), ← Hpj.out.1, ← Hidx.out 1 iM (snd_at Hsnd.out rfl) (by omega)] at S5
          have HP5 := Lib.hid (And.intro P5 S5)
          clear P5 S5 HS2 H4
          refine (HJ.out _ HP5.out.1.bel).mono ?_
          rintro e w5 ⟨rfl, hb5⟩
          have P6 := HP5.out.1.below hb5
          have HP6 := Lib.hid (And.intro P6 HP5.out.2)
          clear P6 HP5 hb5 c4 j4 l4 c2 j2 l2
          cases jt with
          | none =>
            unfold joinR
            go_wp2
            go_roundw
            case rel =>
              refine ⟨k + 1, vN, .slice A4 (iM.length + 1) cc4, vj, iN, iM ++ [k], rl, by omega, by go_num, ?_, HP6.out.2⟩
              rw [Hpj.out.2]
              simp only [Option.map_none, Option.toList_none, List.append_nil]
              exact HP6.out.1.alloc _
            case measure => simp [intOf]; omega
          | some x =>
            obtain ⟨x1, x2, x3, x4⟩ := x
            unfold joinR
            have c3 : w5.cell? ⟨w.heap.size + 1 + 1, 3, none⟩ = some vj := HP6.out.1.bP.cell 3
            have l3 := HP6.out.1.bP.lt
            have P7 := HP6.out.1.alloc (.cells #[.int .i64 (k : Int), .int .i64 x1, .int .i64 x2, .int .i64 x3, .int .i64 x4] 64)
            have HP7 := Lib.hid P7
            clear P7
            go_wp2_with (at_builtin; refine wpList_pushR (news := jC (k, x1, x2, x3, x4)) rfl _ _ 41 rfl w.heap.size 64 i2 _ 5 40 Try.underlying41 hi2 hz2 hs2 hy2 rfl (by decide) vj js.length _ rfl HP7.out.jn rfl _ rfl (by simp) rfl (jC_oneCell _) (by omega) (by omega) HP7.out.bel.size ?_; intro v6 w6 hown6 hg6 hB6; obtain ⟨A6, cc6, rfl, hcc6⟩ := own_form hown6; have BP := (HP7.out.bP.alloc _).grown hg6 (fun e => own_blk_ne HP7.out.jn HP7.out.bP (by decide) e.symm); have c63 : w6.cell? ⟨w.heap.size + 1 + 1, 3, none⟩ = some vj := BP.cell 3; have j63 : w6.frozen? ⟨w.heap.size + 1 + 1, 3, none⟩ = false := BP.frozen 3; have l63 := BP.lt; have H6 := Lib.hid (HP7.out.pushJ hg6 hown6); clear BP hown6 hg6 hB6)
            go_roundw
            case rel =>
              refine ⟨k + 1, vN, .slice A4 (iM.length + 1) cc4, .slice A6 (js.length + 1) cc6, iN, iM ++ [k], rl, by omega, by go_num, ?_, HP6.out.2⟩
              rw [Hpj.out.2]
              exact H6.out
            case measure => simp [intOf]; omega
    · obtain rfl : k = n := by omega
      have c0 : wr.cell? ⟨w.heap.size + 1 + 1, 0, none⟩ = some vN := hst.bP.cell 0
      have c1 : wr.cell? ⟨w.heap.size + 1 + 1, 1, none⟩ = some (.slice (some ⟨w.heap.size + 1, 0, none⟩) K K) := hst.bP.cell 1
      have c2 : wr.cell? ⟨w.heap.size + 1 + 1, 2, none⟩ = some vM := hst.bP.cell 2
      have c3 : wr.cell? ⟨w.heap.size + 1 + 1, 3, none⟩ = some vj := hst.bP.cell 3
      have d0 : wr.cell? ⟨w.heap.size, 0, none⟩ = some (.slice none 0 0) := hst.bR.cell 0
      have d1 : wr.cell? ⟨w.heap.size, 1, none⟩ = some (.slice none 0 0) := hst.bR.cell 1
      have d2 : wr.cell? ⟨w.heap.size, 2, none⟩ = some (.slice none 0 0) := hst.bR.cell 2
      have d3 : wr.cell? ⟨w.heap.size, 3, none⟩ = some (.slice none 0 0) := hst.bR.cell 3
      have f0 := hst.bR.frozen 0
      have f1 := hst.bR.frozen 1
      have f2 := hst.bR.frozen 2
      have f3 := hst.bR.frozen 3
      have hlR := hst.bR.lt
      have oN : wr.ownsRow w.heap.size 3 1 vN iN.length (vI iN) := hst.rws.own 0 _ rfl
      have oM : wr.ownsRow w.heap.size 3 1 vM iM.length (vI iM) := hst.rws.own 1 _ rfl
      obtain ⟨AN, cN, rfl, hcN⟩ := own_form oN
      obtain ⟨AM, cM, rfl, hcM⟩ := own_form oM
      clear oN oM
      obtain ⟨AJ, cJ, rfl, hcJ⟩ := own_form hst.jn
      have FIN := Lib.hid (hst.fin (.slice AN iN.length cN) (.slice (some ⟨w.heap.size + 1, 0, none⟩) K K) (.slice AM iM.length cM) (.slice AJ (jsK cl l k).length cJ))
      have Hsnd := Lib.hid hsnd
      clear hst hsnd
      go_wp2
      have r0 := FIN.out.2.cell 0
      have r1 := FIN.out.2.cell 1
      have r2 := FIN.out.2.cell 2
      have r3 := FIN.out.2.cell 3
      exact bodyPost_ret (v := .agg #[.slice AN iN.length cN, .slice (some ⟨w.heap.size + 1, 0, none⟩) K K, .slice AM iM.length cM, .slice AJ (jsK cl l k).length cJ]) (by simp [results, Try.results18, go_sem, r0, r1, r2, r3]) rfl ⟨_, _, _, _, _, _, _, rfl, FIN.out.1, Hsnd.out⟩
end Go.Proofs.Ytbmfojeklhbocaa

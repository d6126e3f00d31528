/-
  Split: contract of the reference's Split.
-/
import Derived.Test.YtbmfojeklhbocaaTm
import Derived.Test.YtbmfojeklhbocaaTn
import Derived.Deep.DeepCutAuto
set_option linter.unusedSimpArgs false
set_option linter.unusedVariables false
namespace Go.Proofs.Ytbmfojeklhbocaa
open Go.RowKit


set_option maxRecDepth 100000 in
set_option maxHeartbeats 32000000 in
theorem rsplit_any (f d : Nat) (A : Option Addr) (n c : Nat) (l : List Tm) (T : Int) (hd2 : 2 ≤ d) (w : World) (hr : Reads w w.heap.size 11 A n (vT l)) (hin : ∀ t ∈ l, TmIn w w.heap.size t) (hg : ∀ t ∈ l, grT f (d : Int) t = false) (hn : n ≤ 1000) :
    Calls Try.prog 20 #[.slice A n c, .int .i64 T] w (RetParts w (bnd T) (prt (clT f (bnd T)) (bnd T) l n) (jsK (clT f (bnd T)) l n)) := by
  have hl : l.length = n := by have := hr.1; rw [vT_len] at this; omega
  have Hl := Lib.hid hl; clear hl
  have hnI : (n : Int) ≤ 1000 := by omega
  have hK := bnd_le T
  have hmm : max 0 (min T 31) = ((bnd T : Nat) : Int) := by unfold bnd; omega
  have US := Lib.hid fun (t : Tm) (W : World) (ht : t ∈ l) (hb : Below w.heap.size w W) => ruses_any f d t (bnd T) (by omega) hd2 W (((hin t ht).under hb).more hb.size) (hg t ht)
  have C0 := Lib.hid fun (t : Tm) => cl_zero f (bnd T) t hK
  have C1 := Lib.hid fun (t : Tm) => cl_one f (bnd T) t hK
  have C2 := Lib.hid fun (t : Tm) => cl_many f (bnd T) t hK
  have CJ := Lib.hid fun (h : TmH) (A : Option Addr) (n c : Nat) (a b : Tm) => cl_join f (bnd T) h A n c a b
  obtain ⟨K, hKK⟩ : ∃ K, bnd T = K := ⟨_, rfl⟩
  rw [hKK] at US C0 C1 C2 CJ hmm hK ⊢
  clear hKK
  obtain ⟨cl, hcl⟩ : ∃ cl, clT f K = cl := ⟨_, rfl⟩
  rw [hcl] at C0 C1 C2 ⊢
  clear hcl
  obtain ⟨i0, hi0, hz0, hs0, hy0⟩ := int_info8 Try.infoI
  obtain ⟨i1, hi1, hz1, hs1, hy1⟩ := int_info8 Try.infoR
  obtain ⟨i2, hi2, hz2, hs2, hy2⟩ := int_info8 Try.infoJn
  have mk : ∀ W : World, (Instr.makeSlice 40 (.int .i64 (K : Int)) (.int .i64 (K : Int))).run Try.prog W = .ok (.slice (some ⟨W.heap.size, 0, none⟩) K K) (W.alloc (.cells (zL K) 39)) := by
    intro W
    have h := run_make (P := Try.prog) W 40 39 i1 (.slice none 0 0) Try.underlying40 hi1 hz1 .i64 .i64 (K : Int) (K : Int) (by omega) (by omega) (by rw [hy1]; omega) (by omega)
    rw [hs1, Int.toNat_natCast, Nat.mul_one, made_nil] at h
    exact h
  have ST := Lib.hid (PSt.start w K cl l)
  have HIN := Lib.hid hin
  clear hin hg hi1 hz1 hs1 hy1
  have hKI : (K : Int) ≤ 31 := by omega
  have hK0 : (0 : Int) ≤ (K : Int) := by omega
  go_enter Try.func20, Try.ntmps20
  go_upto_region 1 with fail
  go_cut [5] (fun s5 wx => s5 = .int .i64 (K : Int) ∧ wx = w.alloc (.cells zP 43))
  case first =>
    have HMM := Lib.hid hmm
    clear hmm mk
    rcases (show T < 0 ∨ (0 ≤ T ∧ T ≤ 31) ∨ 31 < T by omega) with h | ⟨h, h2⟩ | h
    all_goals (try go_wp2_with fail)
    all_goals go_meet
    all_goals exact ⟨val_int (by have := HMM.out; omega), rfl⟩
  case rest =>
  clear hmm
  obtain ⟨rfl, rfl⟩ := hcut
  go_wp2_with fail
  go_loopw [22] (fun i wr => ∃ (k : Nat) (vN vM vj : Value) (iN iM : List Nat) (rl : List (Value × List Nat)), k ≤ n ∧ i = .int .i64 k ∧ PSt w K w.heap.size (w.heap.size + 1) (w.heap.size + 1 + 1) wr vN vM vj iN iM rl (jsK cl l k) ∧ ((vN, iN) :: (vM, iM) :: rl).map Prod.snd = prt cl K l k) (fun i _ => n - (intOf i).toNat)
  case atStart => exact ⟨0, _, _, _, _, _, _, Nat.zero_le _, rfl, ST.out.1, ST.out.2⟩
  case round =>
    clear ST
    obtain ⟨k, vN, vM, vj, iN, iM, rl, hk, rfl, hst, hsnd⟩ := hrel
    have q0 : (0 : Int) ≤ (k : Int) := by omega
    by_cases hlt : k < n
    · have q1 : (k : Int) < (n : Int) := by omega
      obtain ⟨ad, v, rfl, hab, hv, hat0⟩ := hr.tm hlt
      have hmem := List.mem_of_getElem? hv
      have HC := Lib.hid fun W hbW => US.out v W hmem hbW
      have hvin := HIN.out v hmem
      have hat := hat0.under hst.bel (by rw [block_of_add]; exact hab)
      have hp := prt_succ (c := cl) (K := K) hv
      have hjs := jsK_succ (c := cl) hv
      have hjl := jsK_len cl l k
      obtain ⟨js, hjse⟩ : ∃ js, jsK cl l k = js := ⟨_, rfl⟩
      rw [hjse] at hst hjs hjl
      unfold jsB at hjs
      have D0 := C0.out v
      have D1 := C1.out v
      have D2 := C2.out v
      have DJ := CJ.out v.h v.A v.n v.c
      have hul := usL_len f v K
      have heta : Tm.mk v.h v.A v.n v.c v.args = v := by cases v; rfl
      have DJ2 : ∀ a b, v.args = [a, b] → v.h.k = 4 → a.h.k = 2 → b.h.k = 2 → 2 ≤ (usL f v K).length → a.h.tb ≠ b.h.tb := by
        intro a b h1 h2 h3 h4 h5
        refine DJ a b h2 h3 h4 ?_
        rw [← h1, heta]
        exact h5
      obtain ⟨U, hU⟩ : ∃ U, usL f v K = U := ⟨_, rfl⟩
      rw [hU] at HC D0 D1 D2 DJ2 hul
      have HD := Lib.hid (And.intro D0 (And.intro D1 (And.intro D2 DJ2)))
      have hsz := hst.bel.size
      have Hp := Lib.hid hp
      have Hjs := Lib.hid hjs
      have Hsnd := Lib.hid hsnd
      have hiN : iN.length ≤ k := by
        have h := snd_at hsnd (m := 0) rfl
        rw [prt_at _ _ _ _ _ (by omega)] at h
        injection h with h
        rw [← h]
        exact idxK_len _ _ _
      have hiM : iM.length ≤ k := by
        have h := snd_at hsnd (m := 1) rfl
        rw [prt_at _ _ _ _ _ (by omega)] at h
        injection h with h
        rw [← h]
        exact idxK_len _ _ _
      have hidx : ∀ m (i : List Nat), (prt cl K l k)[m]? = some i → m < 2 + K → i = idxK (fun t => cl t == m) l k := by
        intro m i h hm
        rw [prt_at _ _ _ _ _ hm] at h
        injection h with h
        exact h.symm
      have Hidx := Lib.hid hidx
      have HS1 := Lib.hid hst
      have HAT := Lib.hid (And.intro hat0 hvin)
      have hul31 : (U.length : Int) ≤ 31 := by omega
      clear hp hjs hsnd hst hv hmem hU hjse hidx D0 D1 D2 DJ DJ2 heta hat0 hvin
      obtain ⟨⟨k1, op1, no1, ⟨vk1, vi1, vs1⟩, of1, nm1, tb1, cl1⟩, A1, n1, c1, l1⟩ := v
      obtain ⟨y0, y1, y2, y3, y4, y5, y6, y7, y8, y9, y10⟩ := hat
      simp only [Tm.agg, TmH.agg, Tm.h, Tm.A, Tm.n, Tm.c] at HC y0 y1 y2 y3 y4 y5 y6 y7 y8 y9 y10
      go_wp2_with fail
      refine (HC.out _ HS1.out.bel).mono ?_
      rintro e w1 ⟨AU, cU, rfl, hcU, ownU, hb1⟩
      have hst2 := HS1.out.below hb1
      have hzw := hb1.size
      have hro := Reads.of_own ownU
      have HS2 := Lib.hid hst2
      have HB1 := Lib.hid hb1
      clear HS1 HC y0 y1 y2 y3 y4 y5 y6 y7 y8 y9 y10 hst2 hb1 ownU
      match U, hul, hul31, HD, hro with
      | [], hul, hul31, HD, hro =>
        have hcv0 := HD.out.1 rfl
        have hp0 := Hp.out
        have hj0 := Hjs.out
        rw [hcv0] at hp0 hj0
        simp at hj0
        have c0 : w1.cell? ⟨w.heap.size + 1 + 1, 0, none⟩ = some vN := HS2.out.bP.cell 0
        have j0 : w1.frozen? ⟨w.heap.size + 1 + 1, 0, none⟩ = false := HS2.out.bP.frozen 0
        have hlt0 := HS2.out.bP.lt
        simp only [List.length_nil]
        go_wp2_with (at_builtin; refine wpList_pushR (news := [.int .i64 (k : Int)]) rfl _ _ 39 rfl w.heap.size 3 i0 _ 1 8 Try.underlying39 hi0 hz0 hs0 hy0 rfl (by decide) vN iN.length _ rfl (HS2.out.rws.own 0 _ rfl) rfl _ rfl rfl rfl (by intro u hu; rw [List.mem_singleton] at hu; subst hu; rfl) (by omega) (by omega) HS2.out.bel.size ?_; intro v4 w4 hown4 hg4 hB4; obtain ⟨A4, cc4, rfl, hcc4⟩ := own_form hown4; have G4 := HS2.out.grow (HS2.out.rws.own 0 _ rfl) hg4; have c4 : w4.cell? ⟨w.heap.size + 1 + 1, 0, none⟩ = some vN := G4.bP.cell 0; have j4 : w4.frozen? ⟨w.heap.size + 1 + 1, 0, none⟩ = false := G4.bP.frozen 0; have l4 := G4.bP.lt; have H4 := Lib.hid (And.intro hown4 (And.intro hg4 hB4)); clear G4 hown4 hg4 hB4)
        go_roundw
        case rel =>
          refine ⟨k + 1, .slice A4 (iN.length + 1) cc4, vM, vj, iN ++ [k], iM, rl, by omega, by go_num, ?_, ?_⟩
          · rw [hj0]
            exact HS2.out.pushN H4.out.2.1 H4.out.1 H4.out.2.2
          · rw [hp0, ← Hidx.out 0 iN (snd_at Hsnd.out rfl) (by omega)]
            exact snd_set0 Hsnd.out _
        case measure => simp [intOf]; omega
      | [j], hul, hul31, HD, hro =>
        obtain ⟨hcv1, hjK⟩ := HD.out.2.1 j rfl
        have hjI : (j : Int) < (K : Int) := by omega
        have hj00 : (0 : Int) ≤ (j : Int) := by omega
        obtain ⟨adU, xU, rfl, habU, hxU, cxU⟩ := hro.nat (k := 0) (by simp)
        simp at hxU
        subst hxU
        have e0 : adU.add 0 = adU := by simp [Addr.add]
        rw [e0] at cxU
        obtain ⟨vr, ir, hrl⟩ := rl_at HS2.out.len hjK
        have hrj : (rl.map Prod.fst).toArray[j]? = some vr := by simp [hrl]
        have hir : ir.length ≤ k := by
          have h := snd_at Hsnd.out (m := j + 2) hrl
          rw [prt_at _ _ _ _ _ (by omega)] at h
          injection h with h
          rw [← h]
          exact idxK_len _ _ _
        have hp0 := Hp.out
        have hj0 := Hjs.out
        rw [hcv1] at hp0 hj0
        rw [if_neg (by omega)] at hj0
        simp only [Option.toList_none, List.append_nil] at hj0
        have Hpj := Lib.hid (And.intro hp0 (And.intro hj0 (And.intro hrl hrj)))
        have hown0 : w1.ownsRow w.heap.size 3 1 vr ir.length (vI ir) := HS2.out.rws.own (j + 2) _ hrl
        obtain ⟨Ar, cr0, rfl, hcr0⟩ := own_form hown0
        have hrd0 := Reads.of_own hown0
        have HS3 := Lib.hid (HS2.out.alloc (.cells #[] 3))
        have c1 : (w1.alloc (.cells #[] 3)).cell? ⟨w.heap.size + 1 + 1, 1, none⟩ = some (.slice (some ⟨w.heap.size + 1, 0, none⟩) K K) := HS3.out.bP.cell 1
        have cr : (w1.alloc (.cells #[] 3)).cell? ⟨w.heap.size + 1, j, none⟩ = some (.slice Ar ir.length cr0) := (HS3.out.bL.cell j).trans hrj
        have hrd1 := hrd0.alloc (Nat.le_refl _) (.cells #[] 3)
        have own0 := own_empty w1 3 1 (g := w1.heap.size) rfl
        have HR1 := Lib.hid (And.intro hrd1 own0)
        clear hp0 hj0 hrl hrj hcv1 hro hrd0 hrd1 own0 hown0
        simp only [List.length_cons, List.length_nil]
        go_wp2_with (at_builtin; refine wpList_append_any _ rfl _ _ 39 rfl w1.heap.size 3 i0 _ 1 8 Try.underlying39 hi0 hz0 hs0 hy0 rfl (by omega) _ 0 [] rfl HR1.out.2 w1.heap.size Ar ir.length cr0 (vI ir) rfl HR1.out.1 (vI_one ir) (by unfold maxLen; omega) (by omega) (by simp) ?_; intro v2 w2 hown2 hg2 hB2)
        have hb2 : Below w1.heap.size w1 w2 := bgrow (ball (Below.refl _ _) _) hg2 HR1.out.2 (Nat.le_refl _) (by simp)
        have own2 : w2.ownsRow w1.heap.size 3 1 v2 ir.length (vI ir) := by simpa using hown2
        obtain ⟨A2, cc2, rfl, hcc2⟩ := own_form own2
        have P2 := HS2.out.below hb2
        have c12 : w2.cell? ⟨w.heap.size + 1 + 1, 1, none⟩ = some (.slice (some ⟨w.heap.size + 1, 0, none⟩) K K) := P2.bP.cell 1
        have cr2 : w2.cell? ⟨w.heap.size + 1, j, none⟩ = some (.slice Ar ir.length cr0) := (P2.bL.cell j).trans Hpj.out.2.2.2
        have lL2 := P2.bL.lt
        have lP2 := P2.bP.lt
        have hz2' := hb2.size
        have H2 := Lib.hid (And.intro own2 hb2)
        have hrl := Hpj.out.2.2.1
        clear P2 own2 hb2 hown2 hg2 hB2 c1 cr cxU habU HR1 HS3
        go_region_law (refine step_pushR (w := w2.drew) (news := [.int .i64 (k : Int)]) rfl (.tmp 57) (.tmp 59) 39 rfl w1.heap.size 3 i0 _ 1 8 Try.underlying39 hi0 hz0 hs0 hy0 rfl (by decide) _ ir.length _ (by simp [Act.eval, Act.put]) H2.out.1.drew rfl _ (by simp [Act.eval, Act.put]) rfl rfl (by intro u hu; rw [List.mem_singleton] at hu; subst hu; rfl) (by omega) (by omega) hz2' ?_; intro v4 w4 hown4 hg4 hB4; obtain ⟨A4, cc4, rfl, hcc4⟩ := own_form hown4; have hb4 : Below w1.heap.size w1 w4 := belowX_grown (w := w2.drew) H2.out.1 (Nat.le_refl _) hz2' hg4 (Below.drew H2.out.2); have P4 := HS2.out.below hb4; have c41 : w4.cell? ⟨w.heap.size + 1 + 1, 1, none⟩ = some (.slice (some ⟨w.heap.size + 1, 0, none⟩) K K) := P4.bP.cell 1; have c4 : w4.cell? ⟨w.heap.size + 1, j, none⟩ = some (.slice Ar ir.length cr0) := (P4.bL.cell j).trans Hpj.out.2.2.2; have j4 : w4.frozen? ⟨w.heap.size + 1, j, none⟩ = false := P4.bL.frozen j; have l4 := P4.bL.lt; have H4 := Lib.hid (And.intro hown4 hb4); clear P4 hown4 hg4 hB4 hb4)
        all_goals (try go_wp2)
        all_goals
          refine ⟨⟨k + 1, vN, vM, vj, iN, iM, rl.set j (.slice A4 (ir.length + 1) cc4, ir ++ [k]), by omega, by go_num, ?_, ?_⟩, by simp [intOf]; omega⟩
          · rw [Hpj.out.2.1]
            refine HS2.out.newL H4.out.2 hrl ?_
            rw [vI_app, List.length_append]
            exact H4.out.1
          · rw [Hpj.out.1, ← Hidx.out (2 + j) ir (snd_at Hsnd.out (by rw [Nat.add_comm]; exact hrl)) (by omega)]
            exact snd_set2 Hsnd.out j _
      | x :: y :: rU, hul, hul31, HD, hro =>
        clear hro
        have hl2 : 2 ≤ (x :: y :: rU).length := by simp
        have hcv1 := HD.out.2.2.1 hl2
        have DJ := HD.out.2.2.2
        have HDJ := Lib.hid fun a b h1 h2 h3 h4 => DJ a b h1 h2 h3 h4 hl2
        have hp0 := Hp.out
        have hj0 := Hjs.out
        rw [hcv1] at hp0 hj0
        rw [if_pos rfl] at hj0
        have Hpj := Lib.hid (And.intro hp0 hj0)
        have c2 : w1.cell? ⟨w.heap.size + 1 + 1, 2, none⟩ = some vM := HS2.out.bP.cell 2
        have j2 : w1.frozen? ⟨w.heap.size + 1 + 1, 2, none⟩ = false := HS2.out.bP.frozen 2
        have l2 := HS2.out.bP.lt
        obtain ⟨QU, hQU⟩ : ∃ q, (x :: y :: rU).length = q := ⟨_, rfl⟩
        rw [hQU] at hul31 hl2 ⊢
        have eu0 : ((QU : Int) == 0) = false := by simp; omega
        have eu1 : ((QU : Int) == 1) = false := by simp; omega
        clear hp0 hj0 hcv1 DJ HD hQU hul
        go_upto_region 16 with (at_builtin; refine wpList_pushR (news := [.int .i64 (k : Int)]) rfl _ _ 39 rfl w.heap.size 3 i0 _ 1 8 Try.underlying39 hi0 hz0 hs0 hy0 rfl (by decide) vM iM.length _ rfl (HS2.out.rws.own 1 _ rfl) rfl _ rfl rfl rfl (by intro u hu; rw [List.mem_singleton] at hu; subst hu; rfl) (by omega) (by omega) HS2.out.bel.size ?_; intro v4 w4 hown4 hg4 hB4; obtain ⟨A4, cc4, rfl, hcc4⟩ := own_form hown4; have G4 := HS2.out.grow (HS2.out.rws.own 1 _ rfl) hg4; have c4 : w4.cell? ⟨w.heap.size + 1 + 1, 2, none⟩ = some vM := G4.bP.cell 2; have j4 : w4.frozen? ⟨w.heap.size + 1 + 1, 2, none⟩ = false := G4.bP.frozen 2; have l4 := G4.bP.lt; have P5 := HS2.out.pushM hg4 hown4 hB4; have HY := HAT.out.1.under P5.bel (by rw [block_of_add]; exact hab); have HP5 := Lib.hid P5; clear G4 hown4 hg4 hB4 P5; obtain ⟨y0, y1, y2, y3, y4, y5, y6, y7, y8, y9, y10⟩ := HY; simp only [Tm.agg, TmH.agg, Tm.h, Tm.A, Tm.n, Tm.c] at y0 y1 y2 y3 y4 y5 y6 y7 y8 y9 y10)
        have P6 := HP5.out.alloc (.cells (Tm.arr (Tm.mk ⟨k1, op1, no1, ⟨vk1, vi1, vs1⟩, of1, nm1, tb1, cl1⟩ A1 n1 c1 l1)) 56)
        have X6 := Blk.new (w4.setCell ⟨w.heap.size + 1 + 1, 2, none⟩ (.slice A4 (iM.length + 1) cc4)) 56 (Tm.arr (Tm.mk ⟨k1, op1, no1, ⟨vk1, vi1, vs1⟩, of1, nm1, tb1, cl1⟩ A1 n1 c1 l1))
        have hzX : (w4.setCell ⟨w.heap.size + 1 + 1, 2, none⟩ (Value.slice A4 (iM.length + 1) cc4)).heap.size = w4.heap.size := by simp [World.setCell]
        rw [hzX] at X6
        unfold Tm.arr Tm.cells at P6 X6
        obtain ⟨W6, hW6⟩ : ∃ W6, (w4.setCell ⟨w.heap.size + 1 + 1, 2, none⟩ (.slice A4 (iM.length + 1) cc4)).alloc (.cells #[.int .u8 k1, .string op1, .bool no1, .int .u8 vk1, .int .i64 vi1, .string vs1, .string of1, .string nm1, .int .i64 tb1, .int .i64 cl1, .slice A1 n1 c1] 56) = W6 := ⟨_, rfl⟩
        rw [hW6] at P6 X6 ⊢
        have S5 := snd_set1 (i' := iM ++ [k]) Hsnd.out (.slice A4 (iM.length + 1) cc4)
        rw [Hidx.out 1 iM (snd_at Hsnd.out rfl) (by omega), ← Hpj.out.1, ← Hidx.out 1 iM (snd_at Hsnd.out rfl) (by omega)] at S5
        have HP6 := Lib.hid (And.intro P6 S5)
        clear HP5 S5 hW6 hzX y0 y1 y2 y3 y4 y5 y6 y7 y8 y9 y10 c2 j2 l2 c4 j4 l4
        have t0 : W6.cell? ⟨w4.heap.size, 0, none⟩ = some (.int .u8 k1) := X6.cell 0
        have t1 : W6.cell? ⟨w4.heap.size, 1, none⟩ = some (.string op1) := X6.cell 1
        have t10 : W6.cell? ⟨w4.heap.size, 10, none⟩ = some (.slice A1 n1 c1) := X6.cell 10
        have hzT := X6.lt
        have HX6 := Lib.hid X6
        have hrd := HAT.out.2.reads
        have hnc := HAT.out.2.nc
        have hal := HAT.out.2.len
        simp only [Tm.A, Tm.n, Tm.c, Tm.h, Tm.args] at hrd hnc hal
        obtain ⟨nc1, nc2⟩ := hnc
        unfold maxLen at nc2
        have n1I : (n1 : Int) ≤ 9223372036854775807 := by omega
        have hj0 := Hpj.out.2
        clear X6 P6
        cases hj : jnT (Tm.mk ⟨k1, op1, no1, ⟨vk1, vi1, vs1⟩, of1, nm1, tb1, cl1⟩ A1 n1 c1 l1) with
        | none =>
          have hno := noJ_of _ _ _ c1 _ hal hj
          rw [hj] at hj0
          simp only [Option.map_none, Option.toList_none, List.append_nil] at hj0
          have HJ0 := Lib.hid hj0
          clear hj0 hj hal HDJ Hpj HAT
          unfold noJ at hno
          simp only at hno
          rcases hno with hk | ⟨rfl, ho⟩ | ⟨rfl, rfl, hn⟩ | ⟨rfl, rfl, rfl, a, b, rfl, ha⟩ | ⟨rfl, rfl, rfl, a, b, rfl, ha, hb⟩
          · have e1 : (k1 == 4) = false := by simpa using hk
            clear hrd
            go_wp2
            go_roundw
            case rel => exact ⟨k + 1, vN, .slice A4 (iM.length + 1) cc4, vj, iN, iM ++ [k], rl, by omega, by go_num, by rw [HJ0.out]; exact HP6.out.1, HP6.out.2⟩
            case measure => simp [intOf]; omega
          · have e3 : ¬ op1.toList = [61] := by
              rw [ByteArray.toList_eq]
              intro e
              apply ho
              obtain ⟨⟨a⟩⟩ := op1
              simp at e
              rw [e]
            clear hrd
            go_wp2
            go_roundw
            case rel => exact ⟨k + 1, vN, .slice A4 (iM.length + 1) cc4, vj, iN, iM ++ [k], rl, by omega, by go_num, by rw [HJ0.out]; exact HP6.out.1, HP6.out.2⟩
            case measure => simp [intOf]; omega
          · have e1 : ((n1 : Int) == 2) = false := by simp; omega
            clear hrd
            go_wp2
            go_roundw
            case rel => exact ⟨k + 1, vN, .slice A4 (iM.length + 1) cc4, vj, iN, iM ++ [k], rl, by omega, by go_num, by rw [HJ0.out]; exact HP6.out.1, HP6.out.2⟩
            case measure => simp [intOf]; omega
          · obtain ⟨ad2, a', hA, hab2, hv0, hat0⟩ := hrd.tm (k := 0) (by omega)
            obtain ⟨ad3, b', hA', _, hv1, hat1⟩ := hrd.tm (k := 1) (by omega)
            subst hA
            injection hA' with hA'
            subst hA'
            simp at hv0 hv1
            subst hv0
            subst hv1
            have e0 : ad2.add (0 * 11) = ad2 := by simp [Addr.add]
            have e1 : ad2.add (1 * 11) = ⟨ad2.block, ad2.off + 11, none⟩ := by simp [Addr.add]
            rw [e0] at hat0
            rw [e1] at hat1
            have hat0 := hat0.under HP6.out.1.bel hab2
            have hat1 := hat1.under HP6.out.1.bel hab2
            have z0 := hat0.c0
            obtain ⟨u, hu⟩ : ∃ u, a.h.k = u := ⟨_, rfl⟩
            rw [hu] at z0 ha
            have e2 : (u == 2) = false := by simpa using ha
            clear hat0 hat1 e0 e1 hrd hu ha
            go_wp2
            go_roundw
            case rel => exact ⟨k + 1, vN, .slice A4 (iM.length + 1) cc4, vj, iN, iM ++ [k], rl, by omega, by go_num, by rw [HJ0.out]; exact HP6.out.1, HP6.out.2⟩
            case measure => simp [intOf]; omega
          · obtain ⟨ad2, a', hA, hab2, hv0, hat0⟩ := hrd.tm (k := 0) (by omega)
            obtain ⟨ad3, b', hA', _, hv1, hat1⟩ := hrd.tm (k := 1) (by omega)
            subst hA
            injection hA' with hA'
            subst hA'
            simp at hv0 hv1
            subst hv0
            subst hv1
            have e0 : ad2.add (0 * 11) = ad2 := by simp [Addr.add]
            have e1 : ad2.add (1 * 11) = ⟨ad2.block, ad2.off + 11, none⟩ := by simp [Addr.add]
            rw [e0] at hat0
            rw [e1] at hat1
            have hat0 := hat0.under HP6.out.1.bel hab2
            have hat1 := hat1.under HP6.out.1.bel hab2
            have z0 := hat0.c0
            have q00 := hat1.c0
            obtain ⟨u, hu⟩ : ∃ u, b.h.k = u := ⟨_, rfl⟩
            rw [hu] at q00 hb
            rw [ha] at z0
            have e2 : (u == 2) = false := by simpa using hb
            clear hat0 hat1 e0 e1 hrd hu hb ha
            go_wp2
            go_roundw
            case rel => exact ⟨k + 1, vN, .slice A4 (iM.length + 1) cc4, vj, iN, iM ++ [k], rl, by omega, by go_num, by rw [HJ0.out]; exact HP6.out.1, HP6.out.2⟩
            case measure => simp [intOf]; omega
        | some xj =>
          obtain ⟨a, b, rfl, hk, ho, ha, hb, rfl⟩ := yesJ_of _ _ _ _ _ _ hj
          simp only at hk ho
          subst hk ho
          have hn2 : n1 = 2 := by simpa using hal.symm
          subst hn2
          have hne := HDJ.out a b rfl rfl ha hb
          rw [← jnR_eq _ _ hne] at hj
          rw [hj] at hj0
          simp only [Option.map_some, Option.toList_some] at hj0
          clear hj hal HDJ Hpj HAT hne
          · obtain ⟨ad2, a', hA, hab2, hv0, hat0⟩ := hrd.tm (k := 0) (by omega)
            obtain ⟨ad3, b', hA', _, hv1, hat1⟩ := hrd.tm (k := 1) (by omega)
            subst hA
            injection hA' with hA'
            subst hA'
            simp at hv0 hv1
            subst hv0
            subst hv1
            have e0 : ad2.add (0 * 11) = ad2 := by simp [Addr.add]
            have e1 : ad2.add (1 * 11) = ⟨ad2.block, ad2.off + 11, none⟩ := by simp [Addr.add]
            rw [e0] at hat0
            rw [e1] at hat1
            have hat0 := hat0.under HP6.out.1.bel hab2
            have hat1 := hat1.under HP6.out.1.bel hab2
            clear e0 e1 hrd
            have z0 := hat0.c0
            have z1 := hat0.c1
            have z2 := hat0.c2
            have z3 := hat0.c3
            have z4 := hat0.c4
            have z5 := hat0.c5
            have z6 := hat0.c6
            have z7 := hat0.c7
            have z8 := hat0.c8
            have z9 := hat0.c9
            have z10 := hat0.c10
            have q0_ := hat1.c0
            have q1_ := hat1.c1
            have q2 := hat1.c2
            have q3 := hat1.c3
            have q4 := hat1.c4
            have q5 := hat1.c5
            have q6 := hat1.c6
            have q7 := hat1.c7
            have q8 := hat1.c8
            have q9 := hat1.c9
            have q10 := hat1.c10
            clear hat0 hat1
            obtain ⟨⟨k2, op2, no2, ⟨vk2, vi2, vs2⟩, of2, nm2, tb2, cl2⟩, A2, n2, c2, l2⟩ := a
            obtain ⟨⟨k3, op3, no3, ⟨vk3, vi3, vs3⟩, of3, nm3, tb3, cl3⟩, A3, n3, c3, l3⟩ := b
            simp only [Tm.h, Tm.A, Tm.n, Tm.c] at ha hb z0 z1 z2 z3 z4 z5 z6 z7 z8 z9 z10 q0_ q1_ q2 q3 q4 q5 q6 q7 q8 q9 q10
            subst ha hb
            simp only [Nat.add_assoc, Nat.reduceAdd] at q1_ q2 q3 q4 q5 q6 q7 q8 q9 q10
            have hX7 : ∀ o : Obj, (W6.alloc o).cell? ⟨w4.heap.size, 10, none⟩ = some (.slice (some ad2) 2 c1) := fun o => (HX6.out.alloc o).cell 10
            have hab6 : ad2.block < W6.heap.size := by have := HP6.out.1.bel.size; omega
            have P8 : ∀ o o2 : Obj, PSt w K w.heap.size (w.heap.size + 1) (w.heap.size + 1 + 1) ((W6.alloc o).alloc o2) vN (.slice A4 (iM.length + 1) cc4) vj iN (iM ++ [k]) rl js := fun o o2 => (HP6.out.1.alloc o).alloc o2
            have c38 : ∀ o o2 : Obj, ((W6.alloc o).alloc o2).cell? ⟨w.heap.size + 1 + 1, 3, none⟩ = some vj := fun o o2 => (P8 o o2).bP.cell 3
            have hlP := HP6.out.1.bP.lt
            have HP8 := Lib.hid (P8 (.cells #[.int .u8 2, .string op2, .bool no2, .int .u8 vk2, .int .i64 vi2, .string vs2, .string of2, .string nm2, .int .i64 tb2, .int .i64 cl2, .slice A2 n2 c2] 56) (.cells #[.int .u8 2, .string op3, .bool no3, .int .u8 vk3, .int .i64 vi3, .string vs3, .string of3, .string nm3, .int .i64 tb3, .int .i64 cl3, .slice A3 n3 c3] 56))
            clear P8
            unfold jnR at hj0
            simp only [Tm.h] at hj0
            by_cases htb : tb2 < tb3
            · simp only [htb, ↓reduceIte] at hj0
              have HJ0 := Lib.hid hj0
              clear hj0
              go_wp2_with (at_builtin; refine wpList_pushR (news := jC (k, tb2, tb3, cl2, cl3)) rfl _ _ 41 rfl w.heap.size 64 i2 _ 5 40 Try.underlying41 hi2 hz2 hs2 hy2 rfl (by decide) vj js.length _ rfl HP8.out.jn rfl _ rfl (by simp) rfl (jC_oneCell _) (by omega) (by omega) HP8.out.bel.size ?_; intro v6 w6 hown6 hg6 hB6; obtain ⟨A6, cc6, rfl, hcc6⟩ := own_form hown6; have BP := (HP8.out.bP.alloc _).grown hg6 (fun e => own_blk_ne HP8.out.jn HP8.out.bP (by decide) e.symm); have c63 : w6.cell? ⟨w.heap.size + 1 + 1, 3, none⟩ = some vj := BP.cell 3; have j63 : w6.frozen? ⟨w.heap.size + 1 + 1, 3, none⟩ = false := BP.frozen 3; have l63 := BP.lt; have H6 := Lib.hid (HP8.out.pushJ hg6 hown6); clear BP hown6 hg6 hB6)
              go_roundw
              case rel => exact ⟨k + 1, vN, .slice A4 (iM.length + 1) cc4, .slice A6 (js.length + 1) cc6, iN, iM ++ [k], rl, by omega, by go_num, by rw [HJ0.out]; exact H6.out, HP6.out.2⟩
              case measure => simp [intOf]; omega
            · simp only [htb, ↓reduceIte] at hj0
              have HJ0 := Lib.hid hj0
              clear hj0
              go_wp2_with (at_builtin; refine wpList_pushR (news := jC (k, tb3, tb2, cl3, cl2)) rfl _ _ 41 rfl w.heap.size 64 i2 _ 5 40 Try.underlying41 hi2 hz2 hs2 hy2 rfl (by decide) vj js.length _ rfl HP8.out.jn rfl _ rfl (by simp) rfl (jC_oneCell _) (by omega) (by omega) HP8.out.bel.size ?_; intro v6 w6 hown6 hg6 hB6; obtain ⟨A6, cc6, rfl, hcc6⟩ := own_form hown6; have BP := (HP8.out.bP.alloc _).grown hg6 (fun e => own_blk_ne HP8.out.jn HP8.out.bP (by decide) e.symm); have c63 : w6.cell? ⟨w.heap.size + 1 + 1, 3, none⟩ = some vj := BP.cell 3; have j63 : w6.frozen? ⟨w.heap.size + 1 + 1, 3, none⟩ = false := BP.frozen 3; have l63 := BP.lt; have H6 := Lib.hid (HP8.out.pushJ hg6 hown6); clear BP hown6 hg6 hB6)
              go_roundw
              case rel => exact ⟨k + 1, vN, .slice A4 (iM.length + 1) cc4, .slice A6 (js.length + 1) cc6, iN, iM ++ [k], rl, by omega, by go_num, by rw [HJ0.out]; exact H6.out, HP6.out.2⟩
              case measure => simp [intOf]; omega
    · obtain rfl : k = n := by omega
      have c0 : wr.cell? ⟨w.heap.size + 1 + 1, 0, none⟩ = some vN := hst.bP.cell 0
      have c1 : wr.cell? ⟨w.heap.size + 1 + 1, 1, none⟩ = some (.slice (some ⟨w.heap.size + 1, 0, none⟩) K K) := hst.bP.cell 1
      have c2 : wr.cell? ⟨w.heap.size + 1 + 1, 2, none⟩ = some vM := hst.bP.cell 2
      have c3 : wr.cell? ⟨w.heap.size + 1 + 1, 3, none⟩ = some vj := hst.bP.cell 3
      have d0 : wr.cell? ⟨w.heap.size, 0, none⟩ = some (.slice none 0 0) := hst.bR.cell 0
      have d1 : wr.cell? ⟨w.heap.size, 1, none⟩ = some (.slice none 0 0) := hst.bR.cell 1
      have d2 : wr.cell? ⟨w.heap.size, 2, none⟩ = some (.slice none 0 0) := hst.bR.cell 2
      have d3 : wr.cell? ⟨w.heap.size, 3, none⟩ = some (.slice none 0 0) := hst.bR.cell 3
      have f0 := hst.bR.frozen 0
      have f1 := hst.bR.frozen 1
      have f2 := hst.bR.frozen 2
      have f3 := hst.bR.frozen 3
      have hlR := hst.bR.lt
      have oN : wr.ownsRow w.heap.size 3 1 vN iN.length (vI iN) := hst.rws.own 0 _ rfl
      have oM : wr.ownsRow w.heap.size 3 1 vM iM.length (vI iM) := hst.rws.own 1 _ rfl
      obtain ⟨AN, cN, rfl, hcN⟩ := own_form oN
      obtain ⟨AM, cM, rfl, hcM⟩ := own_form oM
      clear oN oM
      obtain ⟨AJ, cJ, rfl, hcJ⟩ := own_form hst.jn
      have FIN := Lib.hid (hst.fin (.slice AN iN.length cN) (.slice (some ⟨w.heap.size + 1, 0, none⟩) K K) (.slice AM iM.length cM) (.slice AJ (jsK cl l k).length cJ))
      have Hsnd := Lib.hid hsnd
      clear hst hsnd
      go_wp2
      have r0 := FIN.out.2.cell 0
      have r1 := FIN.out.2.cell 1
      have r2 := FIN.out.2.cell 2
      have r3 := FIN.out.2.cell 3
      exact bodyPost_ret (v := .agg #[.slice AN iN.length cN, .slice (some ⟨w.heap.size + 1, 0, none⟩) K K, .slice AM iM.length cM, .slice AJ (jsK cl l k).length cJ]) (by simp [results, Try.results20, go_sem, r0, r1, r2, r3]) rfl ⟨_, _, _, _, _, _, _, rfl, FIN.out.1, Hsnd.out⟩
end Go.Proofs.Ytbmfojeklhbocaa

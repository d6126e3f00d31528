/-
  B21 B29 B38 B39.
-/
import Derived.Test.YtebobcbaloddaaaGreatMfbr
import Derived.Test.YtebobcbaloddaaaGreatMfbs
import Derived.Test.YtebobcbaloddaaaGreatMfbd
import Derived.Test.YtebobcbaloddaaaGreatMfbt
import Derived.Test.YtebobcbaloddaaaGreatMfas
import Derived.Test.YtebobcbaloddaaaGreatMfau
import Derived.Test.YtebobcbaloddaaaGreatMfaf
import Derived.Test.YtebobcbaloddaaaGreatMfbf
import Derived.Test.YtebobcbaloddaaaGreatMfaq
import Derived.Test.YtebobcbaloddaaaGreatMfaj
import Derived.KernelRfl
import Derived.BigGuardPart
import Derived.Deep.DeepCutAuto
namespace Go.Proofs.YtebobcbaloddaaaGreat
section
set_option linter.unusedSimpArgs false
set_option linter.unusedVariables false
open Go.RowKit Go.Maps
def shV (a b c d : Int) : Value := .agg #[.int .i64 a, .int .i64 b, .int .i64 c, .int .i64 d]
def ChTold (w : World) (r : Option Ck) (e : Ending) (w' : World) : Prop :=
 (∃ st A c, r = some st ∧ e = .returned (.tuple #[.slice A st.L.length c, shV st.L.length st.lv st.pgs st.hi, .int .i64 0]) ∧ w'.ownsRow w.heap.size 37 3 (.slice A st.L.length c) st.L.length (vE st.L) ∧ st.L.length ≤ c ∧ CkOk (st.met.length) st) ∨
 (r = none ∧ ∃ x : Int, x ≠ 0 ∧ e = .returned (.tuple #[.slice none 0 0, shV 0 0 0 0, .int .i64 x]))
def RetCh (w : World) (lo gp gd gb gt n : Nat) (ps : List (List UInt8)) (T : List Bool) (gm size : Nat) (K : List Fr) (m : Nat) (r : Option Ck) (e : Ending) (w' : World) : Prop :=
 (∃ K' D' rd' ht', PS w' lo gp gd gb gt n ps T gm size K' D' rd' ht' ∧ rd' ≤ m + n + 1 ∧ ht' ≤ m + n + 1 ∧ ∀ (j : Nat) (f : Fr), K'[j]? = some f → (∃ i : Nat, K[i]? = some f) ∨ w.heap.size ≤ f.g) ∧ Turn w w' lo gp gm K ∧ ChTold w r e w'
theorem ck0_ok (n : Nat) : CkOk n (ck0 n) := ⟨by simp [ck0, trues], by simp [ck0], Nat.le_refl _, Nat.zero_le _, by simp [ck0]⟩
theorem ch_end {W : World} {R : Nat} {tm : Array Value} {Q : Ending → World → Prop} {u v a b c d : Value} (hR : Blk W R 55 #[a, b, c, d])
 (h4 : tm[4]? = some u) (h5 : tm[5]? = some (.pointer (some ⟨R, 0, none⟩))) (h6 : tm[6]? = some v) (h : Q (.returned (.tuple #[u, .agg #[a, b, c, d], v])) W) :
 bodyPost Tryz.prog Tryz.f22 Q Exit.ret { tmps := tm, defers := [] } W := by
 have q0 : W.cell? ⟨R, 0, none⟩ = _ := hR.cell 0
 have q1 : W.cell? ⟨R, 1, none⟩ = _ := hR.cell 1
 have q2 : W.cell? ⟨R, 2, none⟩ = _ := hR.cell 2
 have q3 : W.cell? ⟨R, 3, none⟩ = _ := hR.cell 3
 exact bodyPost_ret (v := .tuple #[u, .agg #[a, b, c, d], v]) (by simp [results, Tryz.results22, go_sem, h4, h5, h6, q0, q1, q2, q3]) rfl h
section
variable {w : World} {lo gp gd gb gt n : Nat} {ps : List (List UInt8)} {T : List Bool} {gm size : Nat} {K : List Fr} {D : DataW Unit} {rd ht m : Nat}
set_option maxRecDepth 100000 in
set_option maxHeartbeats 8000000 in
theorem check_any (h : PS w lo gp gd gb gt n ps T gm size K D rd ht) (hn : n ≤ 1000) (hn1 : 1 ≤ n) (hrd : rd ≤ m) (hht : ht ≤ m) (hm : m ≤ 800000) (hlo : lo ≤ w.heap.size) (root : Nat) (hroot : root < 4294967296) :
 Calls Tryz.prog 22 #[.pointer (some ⟨gp, 0, none⟩), .int .u32 root] w (RetCh w lo gp gd gb gt n ps T gm size K m (chkP ps root)) := by
 obtain ⟨i1, hi1, hz1, hs1, hy1⟩ := int_info8 Tryz.infoBool
 have mk1 : ∀ W, (Instr.makeSlice 59 (.int .i64 (n : Int)) (.int .i64 (n : Int))).run Tryz.prog W = .ok (.slice (some ⟨W.heap.size, 0, none⟩) n n) (W.alloc (.cells (tV (List.replicate n false)) 4)) := by
  intro W
  have h := run_make (P := Tryz.prog) W 59 4 i1 (.bool false) Tryz.underlying59 hi1 hz1 .i64 .i64 (n : Int) (n : Int) (by omega) (by omega) (by rw [hy1]; omega) (by omega)
  rw [Int.toNat_natCast, hs1, Nat.mul_one] at h
  have e : madeCells #[.bool false] n = tV (List.replicate n false) := by
   apply Array.ext
   · simp [size_madeCells, tV, tL]
   · intro j h1 h2
     simp [madeCells, Nat.mod_one, tV, tL]
  rw [show madeCells (Value.bool false).cells n = madeCells #[.bool false] n from rfl, e] at h
  exact h
 have hlt := h.dk.lts
 have hps := h.dk.hp
 have hfull := h.dk.full
 have hb0 := ball (Below.refl w.heap.size w) (.cells #[.int .i64 0, .int .i64 0, .int .i64 0, .int .i64 0] 55)
 have PGS := Lib.hid (pages_any (h.below hb0))
 have H0 := Lib.hid h
 clear hi1 hz1 hs1 hy1 h
 go_enter Tryz.func22, Tryz.ntmps22
 go_wp2_with fail
 refine PGS.out.mono ?_
 rintro e w1 ⟨rfl, rfl⟩
 have hb1 := ball (ball hb0 (.cells (tV (List.replicate n false)) 4)) (.cells #[.pointer (some ⟨gp, 0, none⟩), .slice (some ⟨w.heap.size + 1, 0, none⟩) n n, .slice none 0 0, .int .i64 0, .int .i64 0, .int .i64 0, .int .i64 0, .int .u32 0] 116)
 have XS := ((Blk.new w 55 #[.int .i64 0, .int .i64 0, .int .i64 0, .int .i64 0]).alloc (.cells (tV (List.replicate n false)) 4)).alloc (.cells #[.pointer (some ⟨gp, 0, none⟩), .slice (some ⟨w.heap.size + 1, 0, none⟩) n n, .slice none 0 0, .int .i64 0, .int .i64 0, .int .i64 0, .int .i64 0, .int .u32 0] 116)
 have XQ := (Blk.new (w.alloc (.cells #[.int .i64 0, .int .i64 0, .int .i64 0, .int .i64 0] 55)) 4 (tV (List.replicate n false))).alloc (.cells #[.pointer (some ⟨gp, 0, none⟩), .slice (some ⟨w.heap.size + 1, 0, none⟩) n n, .slice none 0 0, .int .i64 0, .int .i64 0, .int .i64 0, .int .i64 0, .int .u32 0] 116)
 have XC := Blk.new ((w.alloc (.cells #[.int .i64 0, .int .i64 0, .int .i64 0, .int .i64 0] 55)).alloc (.cells (tV (List.replicate n false)) 4)) 116 #[.pointer (some ⟨gp, 0, none⟩), .slice (some ⟨w.heap.size + 1, 0, none⟩) n n, .slice none 0 0, .int .i64 0, .int .i64 0, .int .i64 0, .int .i64 0, .int .u32 0]
 rw [alloc_size] at XQ
 rw [alloc_size, alloc_size] at XC
 go_wp2_with fail
 obtain ⟨W, hW⟩ : ∃ W, (((w.alloc (.cells #[.int .i64 0, .int .i64 0, .int .i64 0, .int .i64 0] 55)).alloc (.cells (tV (List.replicate n false)) 4)).alloc (.cells #[.pointer (some ⟨gp, 0, none⟩), .slice (some ⟨w.heap.size + 1, 0, none⟩) n n, .slice none 0 0, .int .i64 0, .int .i64 0, .int .i64 0, .int .i64 0, .int .u32 0] 116)) = W := ⟨_, rfl⟩
 rw [hW] at hb1 XS XQ XC ⊢
 clear hW mk1
 have hCS : CS w lo gp gd gb gt n ps T gm size K m (w.heap.size + 1 + 1) (w.heap.size + 1) (ck0 n) (.slice none 0 0) W :=
  ⟨⟨K, D, rd, ht, H0.out.below hb1, hrd, hht, fun j f hj => .inl ⟨j, hj⟩⟩, Turn.of_below hb1 hlo, XC, XQ, World.ownsRow_nil _ _ _ _, hlo, by omega, by omega, by omega, by simp [ck0], Nat.le_refl _⟩
 have HPG := Lib.hid (ckPage_any hps hfull hm hn 13 1 (by omega) (by omega) W (ck0 n) (.slice none 0 0) m root bnd0 hCS (ck0_ok n) (Nat.le_add_right _ _) hroot)
 have HCK : Hid (chkP ps root = (ckP ps 13 root 1 bnd0 (ck0 n)).bind fun st => if st.nx = 0 then some st else none) := Lib.hid (by unfold chkP; rw [hps])
 have HOK : Hid (∀ s, ckP ps 13 root 1 bnd0 (ck0 n) = some s → CkOk n s) := Lib.hid fun s hs => ckP_ok hps hfull 13 root 1 bnd0 (ck0 n) s (by omega) (ck0_ok n) hs
 generalize ckP ps 13 root 1 bnd0 (ck0 n) = R0 at *
 unfold bnd0 enZ Bnd.agg at HPG
 simp only at HPG
 have HXS := Lib.hid (And.intro XS (And.intro hCS hb1))
 clear XS XQ XC hCS hb0 hb1 PGS hps hfull
 refine HPG.out.mono ?_
 rintro e w2 ⟨st, v, c, hC, hE, hv, hres⟩
 -- what stands there at the end
 have XS2 := hE.blk HXS.out.1 (by decide) (by decide) (HXS.out.2.1.ne_m HXS.out.1) (HXS.out.2.1.ne_c HXS.out.1 (by decide)) (HXS.out.2.1.ne_q HXS.out.1 (by decide)) (HXS.out.2.1.ne_v HXS.out.1 (by decide))
 have s0 : w2.cell? ⟨w.heap.size, 0, none⟩ = some (.int .i64 0) := XS2.cell 0
 have s1 : w2.cell? ⟨w.heap.size, 1, none⟩ = some (.int .i64 0) := XS2.cell 1
 have s2 : w2.cell? ⟨w.heap.size, 2, none⟩ = some (.int .i64 0) := XS2.cell 2
 have s3 : w2.cell? ⟨w.heap.size, 3, none⟩ = some (.int .i64 0) := XS2.cell 3
 have t0 := XS2.frozen 0
 have t1 := XS2.frozen 1
 have t2 := XS2.frozen 2
 have t3 := XS2.frozen 3
 have ls := XS2.lt
 have k7 : w2.cell? ⟨w.heap.size + 1 + 1, 7, none⟩ = some (.int .u32 (st.nx : Int)) := hC.cb.cell 7
 have lc := hC.cb.lt
 -- a pool and its turn, behind stores into the shape
 have HBAD : Hid (∀ (x : Int), x ≠ 0 → c ≤ m + n + 1 → chkP ps root = none → RetCh w lo gp gd gb gt n ps T gm size K m (chkP ps root) (.returned (.tuple #[.slice none 0 0, .agg #[.int .i64 0, .int .i64 0, .int .i64 0, .int .i64 0], .int .i64 x])) ((((w2.setCell ⟨w.heap.size, 0, none⟩ (.int .i64 0)).setCell ⟨w.heap.size, 1, none⟩ (.int .i64 0)).setCell ⟨w.heap.size, 2, none⟩ (.int .i64 0)).setCell ⟨w.heap.size, 3, none⟩ (.int .i64 0))) := by
  refine Lib.hid fun x hx hc hno => ?_
  obtain ⟨K', D', rd', ht', p1, p2, p3, p4⟩ := hC.pool
  have hf : Far w2 ((((w2.setCell ⟨w.heap.size, 0, none⟩ (.int .i64 0)).setCell ⟨w.heap.size, 1, none⟩ (.int .i64 0)).setCell ⟨w.heap.size, 2, none⟩ (.int .i64 0)).setCell ⟨w.heap.size, 3, none⟩ (.int .i64 0)) w.heap.size :=
   ⟨fun g hg => (Below.heap_setCell _ _ _ _ hg).trans ((Below.heap_setCell _ _ _ _ hg).trans ((Below.heap_setCell _ _ _ _ hg).trans (Below.heap_setCell _ _ _ _ hg))), by simp [World.setCell], fun B w0 hB hb => below_set4 hb hB⟩
  exact ⟨⟨K', D', rd', ht', p1.far XS2 hf (by decide) (by decide) (by decide) (by decide) (by decide), by omega, by omega, p4⟩, hC.turn.far hf (Nat.le_refl _) hlo, .inr ⟨hno, x, hx, rfl⟩⟩
 have HXS2 := Lib.hid XS2
 have HC := Lib.hid hC
 have hpg := hE.size
 clear hC hE hv XS2
 rcases hres with ⟨s, hs, rfl, rfl, hcs⟩ | ⟨hno, ⟨x, hx, rfl⟩, hcs⟩
 · have hokS := HOK.out st hs
   by_cases hnx : st.nx = 0
   · have hnx' : ((st.nx : Int) != 0) = false := by rw [hnx]; rfl
     obtain ⟨A, ca, rfl, hca⟩ := own_form HC.out.row
     have hll := HC.out.ll
     have hlvn : st.lv ≤ 1000 := by have h0 := hokS.lv; have h1 := hokS.pg; have h2 := trues_le st.met; rw [hokS.ml] at h2; omega
     have hpn : st.pgs ≤ n := by have h1 := hokS.pg; have h2 := trues_le st.met; rw [hokS.ml] at h2; omega
     have k2 : w2.cell? ⟨w.heap.size + 1 + 1, 2, none⟩ = some (.slice A st.L.length ca) := HC.out.cb.cell 2
     have k3 : w2.cell? ⟨w.heap.size + 1 + 1, 3, none⟩ = some (.int .i64 0) := HC.out.cb.cell 3
     have f3 := HC.out.cb.frozen 3
     have X3 : Blk (w2.setCell ⟨w.heap.size + 1 + 1, 3, none⟩ (.int .i64 (st.L.length : Int))) (w.heap.size + 1 + 1) 116 #[.pointer (some ⟨gp, 0, none⟩), .slice (some ⟨w.heap.size + 1, 0, none⟩) n n, .slice A st.L.length ca, .int .i64 (st.L.length : Int), .int .i64 (st.lv : Int), .int .i64 (st.pgs : Int), .int .i64 (st.hi : Int), .int .u32 (st.nx : Int)] := by
      have := HC.out.cb.set_ 3 (.int .i64 (st.L.length : Int))
      simpa [ckArr] using this
     obtain ⟨K', D', rd', ht', p1, p2, p3, p4⟩ := HC.out.pool
     have hf1 := Far.set1 w2 (w.heap.size + 1 + 1) 3 (.int .i64 (st.L.length : Int))
     have q1 := p1.far HC.out.cb hf1 (by decide) (by decide) (by decide) (by decide) (by decide)
     have q2 := HC.out.turn.far hf1 (by omega) hlo
     have q3 := own_far HC.out.row HC.out.cb (by decide) 3 (.int .i64 (st.L.length : Int))
     have q4 := HXS2.out.far (p := ⟨w.heap.size + 1 + 1, 3, none⟩) (by simp; omega) (.int .i64 (st.L.length : Int))
     have HQ := Lib.hid (And.intro q1 (And.intro q2 (And.intro q3 (And.intro q4 X3))))
     have HF : Hid (chkP ps root = some st) := Lib.hid (by rw [HCK.out, hs]; simp [hnx])
     have HP := Lib.hid (And.intro p2 (And.intro p3 (And.intro p4 (And.intro hcs (And.intro hpn (And.intro hokS hca))))))
     clear q1 q2 q3 q4 X3 p1 p2 p3 p4 hf1 hs hcs hnx hokS HBAD
     go_wp2_with fail
     obtain ⟨w3, hw3⟩ : ∃ w3, (w2.setCell ⟨w.heap.size + 1 + 1, 3, none⟩ (.int .i64 (st.L.length : Int))) = w3 := ⟨_, rfl⟩
     rw [hw3] at HQ ⊢
     clear hw3 k2 k3 f3 k7 s0 s1 s2 s3 t0 t1 t2 t3 ls
     have k2 : w3.cell? ⟨w.heap.size + 1 + 1, 2, none⟩ = some (.slice A st.L.length ca) := HQ.out.2.2.2.2.cell 2
     have k3 : w3.cell? ⟨w.heap.size + 1 + 1, 3, none⟩ = some (.int .i64 (st.L.length : Int)) := HQ.out.2.2.2.2.cell 3
     have k4 : w3.cell? ⟨w.heap.size + 1 + 1, 4, none⟩ = some (.int .i64 (st.lv : Int)) := HQ.out.2.2.2.2.cell 4
     have k5 : w3.cell? ⟨w.heap.size + 1 + 1, 5, none⟩ = some (.int .i64 (st.pgs : Int)) := HQ.out.2.2.2.2.cell 5
     have k6 : w3.cell? ⟨w.heap.size + 1 + 1, 6, none⟩ = some (.int .i64 (st.hi : Int)) := HQ.out.2.2.2.2.cell 6
     have s0 : w3.cell? ⟨w.heap.size, 0, none⟩ = some (.int .i64 0) := HQ.out.2.2.2.1.cell 0
     have s1 : w3.cell? ⟨w.heap.size, 1, none⟩ = some (.int .i64 0) := HQ.out.2.2.2.1.cell 1
     have s2 : w3.cell? ⟨w.heap.size, 2, none⟩ = some (.int .i64 0) := HQ.out.2.2.2.1.cell 2
     have s3 : w3.cell? ⟨w.heap.size, 3, none⟩ = some (.int .i64 0) := HQ.out.2.2.2.1.cell 3
     have t0 := HQ.out.2.2.2.1.frozen 0
     have t1 := HQ.out.2.2.2.1.frozen 1
     have t2 := HQ.out.2.2.2.1.frozen 2
     have t3 := HQ.out.2.2.2.1.frozen 3
     have ls := HQ.out.2.2.2.1.lt
     have HEND : Hid (RetCh w lo gp gd gb gt n ps T gm size K m (chkP ps root) (.returned (.tuple #[.slice A st.L.length ca, .agg #[.int .i64 (st.L.length : Int), .int .i64 (st.lv : Int), .int .i64 (st.pgs : Int), .int .i64 (st.hi : Int)], .int .i64 0])) ((((w3.setCell ⟨w.heap.size, 0, none⟩ (.int .i64 (st.L.length : Int))).setCell ⟨w.heap.size, 1, none⟩ (.int .i64 (st.lv : Int))).setCell ⟨w.heap.size, 2, none⟩ (.int .i64 (st.pgs : Int))).setCell ⟨w.heap.size, 3, none⟩ (.int .i64 (st.hi : Int))).drew ∧
      Blk ((((w3.setCell ⟨w.heap.size, 0, none⟩ (.int .i64 (st.L.length : Int))).setCell ⟨w.heap.size, 1, none⟩ (.int .i64 (st.lv : Int))).setCell ⟨w.heap.size, 2, none⟩ (.int .i64 (st.pgs : Int))).setCell ⟨w.heap.size, 3, none⟩ (.int .i64 (st.hi : Int))).drew w.heap.size 55 #[.int .i64 (st.L.length : Int), .int .i64 (st.lv : Int), .int .i64 (st.pgs : Int), .int .i64 (st.hi : Int)]) := by
      have hf : Far w3 ((((w3.setCell ⟨w.heap.size, 0, none⟩ (.int .i64 (st.L.length : Int))).setCell ⟨w.heap.size, 1, none⟩ (.int .i64 (st.lv : Int))).setCell ⟨w.heap.size, 2, none⟩ (.int .i64 (st.pgs : Int))).setCell ⟨w.heap.size, 3, none⟩ (.int .i64 (st.hi : Int))) w.heap.size :=
       ⟨fun g hg => (Below.heap_setCell _ _ _ _ hg).trans ((Below.heap_setCell _ _ _ _ hg).trans ((Below.heap_setCell _ _ _ _ hg).trans (Below.heap_setCell _ _ _ _ hg))), by simp [World.setCell], fun B w0 hB hb => below_set4 hb hB⟩
      have X := HQ.out.2.2.2.1
      have hdr := Below.drew (Below.refl ((((w3.setCell ⟨w.heap.size, 0, none⟩ (.int .i64 (st.L.length : Int))).setCell ⟨w.heap.size, 1, none⟩ (.int .i64 (st.lv : Int))).setCell ⟨w.heap.size, 2, none⟩ (.int .i64 (st.pgs : Int))).setCell ⟨w.heap.size, 3, none⟩ (.int .i64 (st.hi : Int))).heap.size ((((w3.setCell ⟨w.heap.size, 0, none⟩ (.int .i64 (st.L.length : Int))).setCell ⟨w.heap.size, 1, none⟩ (.int .i64 (st.lv : Int))).setCell ⟨w.heap.size, 2, none⟩ (.int .i64 (st.pgs : Int))).setCell ⟨w.heap.size, 3, none⟩ (.int .i64 (st.hi : Int))))
      obtain ⟨p2, p3, p4, hcs, hpn, hokS, hca⟩ := HP.out
      refine Lib.hid ⟨⟨⟨K', D', rd', ht', (HQ.out.1.far X hf (by decide) (by decide) (by decide) (by decide) (by decide)).below hdr, by omega, by omega, p4⟩, (HQ.out.2.1.far hf (Nat.le_refl _) hlo).more hdr hlo, .inl ⟨st, A, ca, HF.out, rfl, own_below (ownR_stays HQ.out.2.2.1 fun g cs _ hb => hf.heap g (hb.ne_ X (by decide))) hdr, hca, by rw [hokS.ml]; exact hokS⟩⟩, (blk4 X).drew⟩
     go_region
     all_goals (go_wp2; exact ch_end HEND.out.2 rfl rfl rfl HEND.out.1)
   · have hnx' : ((st.nx : Int) != 0) = true := by simp; omega
     have hpn : st.pgs ≤ n := by have h1 := hokS.pg; have h2 := trues_le st.met; rw [hokS.ml] at h2; omega
     have HF := Lib.hid (HBAD.out 2 (by decide) (by omega) (by rw [HCK.out, hs]; simp [hnx]))
     clear hnx hs hokS hcs HBAD
     go_wp2
     exact ch_end (blk4 HXS2.out) rfl rfl rfl HF.out
 · have hxb : (x == 0) = false := by simpa using hx
   have hxb2 : (x != 0) = true := by simpa using hx
   have HF := Lib.hid (HBAD.out x hx hcs (by rw [HCK.out, hno]; rfl))
   clear hno hx hcs HBAD
   go_wp2
   exact ch_end (blk4 HXS2.out) rfl rfl rfl HF.out
end
end
end Go.Proofs.YtebobcbaloddaaaGreat
namespace Go.Proofs.YtebobcbaloddaaaGreat
section
set_option linter.unusedSimpArgs false
set_option linter.unusedVariables false
open Go.RowKit Go.Maps
theorem bdF_root : (bdP [] (pagesOf (zb 3) 3) (marksOf (zb 3) 3)).2.2 = some 1 := by kernel_rfl
theorem bdF_chk : chkP (bdP [] (pagesOf (zb 3) 3) (marksOf (zb 3) 3)).1 1 = some ⟨[false, true, false], [], 1, 1, 1, 0⟩ := by kernel_rfl
set_option maxRecDepth 100000 in
set_option maxHeartbeats 2000000 in
theorem fixed11_any (w : World) : Calls Tryz.prog 8 #[] w (RetB w (.bool true)) := by
 have ND := Lib.hid (newDP 3 (by omega) (by omega) w)
 go_enter Tryz.func8, Tryz.ntmps8
 go_wp2_with fail
 refine ND.out.mono ?_
 rintro e w1 ⟨g, gb, gt, rfl, hd, k1, k2, k3, hb1⟩
 have BU := Lib.hid (build_any hd (by omega) (A := none) (m := 0) (c := 0) (l := []) ⟨rfl, fun h => absurd h (by omega)⟩ (fun ad h => by cases h) (fun e he => by cases he) rfl (by omega) (by omega) (by decide))
 have hB := bdF_root
 have hC := bdF_chk
 generalize bdP [] (pagesOf (zb 3) 3) (marksOf (zb 3) 3) = R at *
 have HC := Lib.hid hC
 clear hd ND hC
 go_wp2_with fail
 refine BU.out.mono ?_
 rintro e w2 ⟨hd2, hL, hres⟩
 rcases hres with ⟨root, hroot, rfl⟩ | ⟨hno, rfl⟩
 rotate_left
 · rw [hno] at hB; cases hB
 rw [hB] at hroot
 injection hroot with hroot
 subst hroot
 have hb2 : Below w.heap.size w1 w2 := hL.below w.heap.size k2 k3 hb1.size
 have hb3 := hb1.trans hb2
 have PN := Lib.hid (pnew_any hd2 (size := 3) (by omega) (by omega))
 clear hB hL hd2 BU hb1 hb2
 go_wp2_with fail
 refine PN.out.mono ?_
 rintro e w3 ⟨gp, gm, D, rfl, hp, hb4, k4, k5⟩
 have hz := hb3.size
 have hb5 := hb3.trans (hb4.mono hz)
 have CH := Lib.hid (check_any hp (m := 0) (by omega) (by omega) (by omega) (by omega) (by omega) hb4.size 1 (by omega))
 rw [HC.out] at CH
 clear hp PN hb4
 go_wp2_with fail
 refine CH.out.mono ?_
 rintro e w4 ⟨_, tn, ht⟩
 rcases ht with ⟨st, A, c, hst, rfl, _, _, _⟩ | ⟨hno, _⟩
 rotate_left
 · cases hno
 injection hst with hst
 subst hst
 have hb6 := tn.below w.heap.size w hz hb5
 have HB := Lib.hid hb6
 clear tn CH hb5 hb6
 unfold shV
 go_wp2
 go_ret
 exact ⟨rfl, ball HB.out _⟩
end
end Go.Proofs.YtebobcbaloddaaaGreat
namespace Go.Proofs.YtebobcbaloddaaaGreat
section
set_option linter.unusedSimpArgs false
set_option linter.unusedVariables false
open Go.RowKit Go.Maps
theorem pages_flat {ps : List (List UInt8)} (hf : Full ps) {n : Nat} (hn : ps.length = n) : pagesOf ps.flatten n = ps := by
 apply List.ext_getElem?
 intro i
 unfold pagesOf
 rw [List.getElem?_map]
 rcases Nat.lt_or_ge i n with h | h
 · rw [List.getElem?_range h]
   have hp : ps[i]? = some (ps[i]'(by omega)) := List.getElem?_eq_getElem _
   rw [hp]
   simp only [Option.map_some]
   rw [pflat_page ps hf i _ hp]
 · rw [List.getElem?_eq_none (by simp; exact h), List.getElem?_eq_none (by omega)]; rfl
def TreeOk (ps : List (List UInt8)) (root : Nat) (l : List En) (h : Nat) (d : Nd) : Prop :=
 1 ≤ h ∧ h ≤ 12 ∧ Sub ps h d 0 ∧ d.p = root ∧ d.L = l ∧ d.P.Nodup ∧ ∀ p ∈ d.P, p < ps.length
theorem tree_facts {ps : List (List UInt8)} {root : Nat} {l : List En} {h : Nat} {d : Nd} (t : TreeOk ps root l h d) (hf : Full ps) (hok : ∀ e ∈ l, e.ok) :
 chkP ps root = some (adv (ck0 ps.length) l d.P d.k h 0) ∧ d.k ≤ d.P.length ∧ d.P.length ≤ ps.length ∧ ∃ F : List Nat, F.length = d.k ∧ rbP ps 13 root 1 rs0 = some ⟨l, F, F.tail ++ [0], d.P, h⟩ := by
 obtain ⟨h1, h2, hs, hr, hL, hn, hp⟩ := t
 have hc := sub_chk hs h1 h2 hL hn hok hp
 rw [hr] at hc
 have hc' := hc
 unfold chkP at hc'
 cases hx : ckP ps 13 root 1 bnd0 (ck0 ps.length) with
 | none => rw [hx] at hc'; cases hc'
 | some st =>
   rw [hx] at hc'
   simp only [Option.bind_some] at hc'
   split at hc'
   · injection hc' with hc'
     have ck := ckP_ok rfl hf 13 root 1 bnd0 (ck0 ps.length) st (by omega) (ck0_ok _) hx
     rw [hc'] at ck
     have e1 : (adv (ck0 ps.length) l d.P d.k h 0).pgs = d.P.length := by simp [adv, ck0]
     have e2 : (adv (ck0 ps.length) l d.P d.k h 0).lv = d.k := by simp [adv, ck0]
     have q1 := ck.lv; have q2 := ck.pg; have q3 := trues_le (adv (ck0 ps.length) l d.P d.k h 0).met; have q4 := ck.ml
     rw [e1] at q1 q2
     rw [e2] at q1
     refine ⟨hc, q1, by omega, ?_⟩
     obtain ⟨F, k1, k2, k3⟩ := sub_rb h d 0 hs 13 1 (by omega) (by omega) (by omega) hn
     refine ⟨F, k1, ?_⟩
     have := k3 rs0 (fun p _ hq => by cases hq) (.inl rfl)
     show rbP ps 13 root 1 rs0 = _
     rw [← hr]
     refine this.trans ?_
     rw [show 1 + h - 1 = h from by omega]
     simp [radv, rs0, hL]
   · cases hc'
set_option maxRecDepth 100000 in
set_option maxHeartbeats 8000000 in
theorem right_any {w : World} {g gb gt n : Nat} {ps : List (List UInt8)} {T : List Bool} (hd : DP w g gb gt n ps T) (hn : n ≤ 1000) (hn1 : 1 ≤ n) {A : Option Addr} {m c : Nat} {l : List En} (hr : Reads w w.heap.size 3 A m (vE l)) (hm : m ≤ 100000) (hri : riseE l = true) (hok : ∀ e ∈ l, e.ok) {h root : Nat} {d : Nd} (t : TreeOk ps root l h d) :
 Calls Tryz.prog 15 #[.pointer (some ⟨g, 0, none⟩), .int .u32 root, .slice A m c] w (RetB w (.bool true)) := by
 have hfl := pflat_len ps hd.full
 rw [hd.hp] at hfl
 have hlm : l.length = m := by have := hr.1; rw [vE_len] at this; omega
 obtain ⟨f1, f2, f3, F, f4, f5⟩ := tree_facts t hd.full hok
 have hroot : root < n := by
  have := t.2.2.2.2.2.2 d.p
  rw [hd.hp, t.2.2.2.1] at this
  refine this ?_
  obtain ⟨h1, h2, hs, hr', hL, hn', hp⟩ := t
  rw [← hr']
  obtain ⟨k, rfl⟩ : ∃ k, h = k + 1 := ⟨h - 1, by omega⟩
  cases k with
  | zero => rw [hs.2.2.2.2.2.1]; simp
  | succ k =>
    obtain ⟨_, _, _, _, _, _, _, _, _, _, _, _, _, hP, _⟩ := hs
    rw [hP]; simp
 have hkn : d.k ≤ n := by rw [← hd.hp]; omega
 have hPn : d.P.length ≤ n := by rw [← hd.hp]; exact f3
 have hh : h ≤ 12 := t.2.1
 have IM := Lib.hid (image_any hd.dk (by omega) hn1 (by rw [bV_toList]; exact bL_one ps.flatten))
 have hpf := pages_flat hd.full hd.hp
 have LO := Lib.hid fun W => rload_ok ps.flatten n hn1 (by omega) hfl W
 rw [hpf] at LO
 have HT := Lib.hid (And.intro f1 (And.intro f4 (And.intro f5 (And.intro hri hok))))
 have HD := Lib.hid hd
 have HR := Lib.hid hr
 have HFL := Lib.hid hfl
 have HLM := Lib.hid hlm
 clear f1 f2 f3 f4 f5 hri hok hd hr hfl hlm hpf t
 go_enter Tryz.func15, Tryz.ntmps15
 go_wp2_with fail
 refine IM.out.mono ?_
 rintro e w1 ⟨rfl, hB1, hb1⟩
 have cv := conv_blk (P := Tryz.prog) hB1 58 5 9 Tryz.underlying58 Tryz.underlying5 Tryz.underlying9 (n * 512) (n * 512) HFL.out
 have LP := Lib.hid (LO.out w1)
 have H1 := Lib.hid hb1
 clear hB1 hb1
 go_wp2_with fail
 refine LP.out.mono ?_
 rintro e w2 ⟨A1, c1, A2, c2, rfl, r1, r2, hc1, hc2, -, -, hb2⟩
 have hz1 := H1.out.size
 have hz2 := hb2.size
 have hbD := ball (H1.out.trans (hb2.mono hz1)) (.cells #[.slice A1 n c1, .slice A2 n c2] 90)
 have hRD : RD (w2.alloc (.cells #[.slice A1 n c1, .slice A2 n c2] 90)) (w2.alloc (.cells #[.slice A1 n c1, .slice A2 n c2] 90)).heap.size n (.agg #[.slice A1 n c1, .slice A2 n c2]) ps (marksOf ps.flatten n) :=
  ⟨A1, c1, A2, c2, rfl, (r1.alloc (Nat.le_refl _) _).more (by simp), (r2.alloc (Nat.le_refl _) _).more (by simp), hc1, hc2⟩
 have CK := Lib.hid (rcheck_any (f := 13) (root := root) (s := ⟨l, F, F.tail ++ [0], d.P, h⟩) (by omega) hRD (by omega) HT.out.2.2.1 ⟨by have := HLM.out; simp only; omega, by have := HT.out.2.1; simp only; omega, by have := HT.out.2.1; simp only [List.length_append, List.length_tail, List.length_singleton]; omega, by simp only; omega⟩ rfl HT.out.2.2.2.1)
 have H2 := Lib.hid hbD
 clear r1 r2 hc1 hc2 hb2 hbD hRD cv
 go_wp2_with fail
 refine CK.out.mono ?_
 rintro e w4 ⟨⟨⟨Bl, ml, el⟩, ⟨Bf, mf, ef⟩, ⟨Bx, mx, ex⟩, ⟨Bp, mp, ep⟩⟩, rfl, ts4, hb4⟩
 have hls := ts4.lens
 simp only at hls
 obtain ⟨p1, p2, -, p4⟩ := hls
 have q1 : ml = m := by rw [p1]; exact HLM.out
 have q2 : mf = d.k := by rw [p2]; exact HT.out.2.1
 have q4 : mp = d.P.length := p4
 clear p1 p2 p4
 subst q1
 subst q2
 subst q4
 have hbT := ball (Below.refl w4.heap.size w4) (.cells #[.slice Bl ml el, .slice Bf d.k ef, .slice Bx mx ex, .slice Bp d.P.length ep, .int .i64 (h : Int), .bool false] 95)
 have hb5 := (H2.out.trans (hb4.mono H2.out.size)).trans (hbT.mono (Nat.le_trans H2.out.size hb4.size))
 have XT := Blk.new w4 95 #[.slice Bl ml el, .slice Bf d.k ef, .slice Bx mx ex, .slice Bp d.P.length ep, .int .i64 (h : Int), .bool false]
 have rL := ((Reads.of_own ts4.l).below hbT).more hbT.size
 have PN := Lib.hid (pnew_any (HD.out.lower hb5) (size := 3) (by omega) (by omega))
 have H5 := Lib.hid (And.intro hb5 (And.intro XT rL))
 clear hbT hb5 XT rL ts4 hb4 CK
 go_wp2_with fail
 obtain ⟨w5, hw5⟩ : ∃ x, w4.alloc (.cells #[.slice Bl ml el, .slice Bf d.k ef, .slice Bx mx ex, .slice Bp d.P.length ep, .int .i64 (h : Int), .bool false] 95) = x := ⟨_, rfl⟩
 rw [hw5] at PN H5 ⊢
 clear hw5
 refine PN.out.mono ?_
 rintro e w6 ⟨gp, gm, D, rfl, hp, hb6, k4, k5⟩
 have CH := Lib.hid (check_any hp (m := 0) (by omega) (by omega) (by omega) (by omega) (by omega) hb6.size root (by omega))
 rw [HT.out.1] at CH
 have H6 := Lib.hid hb6
 clear hp PN hb6 k4 k5
 go_wp2_with fail
 refine CH.out.mono ?_
 rintro e w7 ⟨_, tn, ht⟩
 rcases ht with ⟨st, A3, c3, hst, rfl, o7, hc3, -⟩ | ⟨hno, _⟩
 rotate_left
 · cases hno
 injection hst with hst
 have e1 : st.L = l := by rw [← hst]; simp [adv, ck0]
 have e2 : st.lv = d.k := by rw [← hst]; simp [adv, ck0]
 have e3 : st.pgs = d.P.length := by rw [← hst]; simp [adv, ck0]
 have e4 : st.hi = h := by rw [← hst]; rfl
 have hb67 : Below w5.heap.size w5 w7 := tn.below w5.heap.size w5 (Nat.le_refl _) H6.out
 have hz6 := H6.out.size
 have hz7 := tn.size
 rw [e1, HLM.out] at o7
 rw [e1, e2, e3, e4, HLM.out]
 have hb07 := H5.out.1.trans (hb67.mono H5.out.1.size)
 have XT7 := H5.out.2.1.below hb67 H5.out.2.1.lt
 have hb8 := ball (Below.refl w7.heap.size w7) (.cells #[.int .i64 (ml : Int), .int .i64 (d.k : Int), .int .i64 (d.P.length : Int), .int .i64 (h : Int)] 55)
 have XT8 := XT7.alloc (.cells #[.int .i64 (ml : Int), .int .i64 (d.k : Int), .int .i64 (d.P.length : Int), .int .i64 (h : Int)] 55)
 have XS8 := Blk.new w7 55 #[.int .i64 (ml : Int), .int .i64 (d.k : Int), .int .i64 (d.P.length : Int), .int .i64 (h : Int)]
 have rL8 := ((H5.out.2.2.below hb67).more hb67.size).below hb8 |>.more hb8.size
 have rl8 := ((HR.out.below hb07).more hb07.size).below hb8 |>.more hb8.size
 have rx8 := (Reads.of_own o7).below hb8 |>.more hb8.size
 have hb08 := hb07.trans (hb8.mono hb07.size)
 have S1 := Lib.hid (sameE_any Bl ml el A c l _ rL8 rl8 (by omega))
 have H8 := Lib.hid (And.intro XT8 (And.intro XS8 (And.intro rl8 (And.intro rx8 hb08))))
 have t0 : (w7.alloc (.cells #[.int .i64 (ml : Int), .int .i64 (d.k : Int), .int .i64 (d.P.length : Int), .int .i64 (h : Int)] 55)).cell? ⟨w4.heap.size, 0, none⟩ = some (.slice Bl ml el) := XT8.cell 0
 have t5 : (w7.alloc (.cells #[.int .i64 (ml : Int), .int .i64 (d.k : Int), .int .i64 (d.P.length : Int), .int .i64 (h : Int)] 55)).cell? ⟨w4.heap.size, 5, none⟩ = some (.bool false) := XT8.cell 5
 clear XT8 XS8 rL8 rl8 rx8 hb08 hb8 hb07 XT7 hb67 tn o7 hc3 hst e1 e2 e3 e4 CH
 unfold shV
 go_wp2_with fail
 refine S1.out.mono ?_
 rintro e w9 ⟨rfl, hb9⟩
 have XT9 := H8.out.1.below hb9 H8.out.1.lt
 have S2 := Lib.hid (sameE_any A3 ml c3 A c l w9 ((H8.out.2.2.2.1.below hb9).more hb9.size) ((H8.out.2.2.1.below hb9).more hb9.size) (by omega))
 have H9 := Lib.hid (And.intro XT9 (And.intro (H8.out.2.1.below hb9 H8.out.2.1.lt) (H8.out.2.2.2.2.trans (hb9.mono H8.out.2.2.2.2.size))))
 clear hb9 XT9 t0 t5 S1
 go_wp2_with fail
 refine S2.out.mono ?_
 rintro e wa ⟨rfl, hba⟩
 have XTa := H9.out.1.below hba H9.out.1.lt
 have XSa := H9.out.2.1.below hba H9.out.2.1.lt
 have hb0a := H9.out.2.2.trans (hba.mono H9.out.2.2.size)
 have t1 : wa.cell? ⟨w4.heap.size, 1, none⟩ = some (.slice Bf d.k ef) := XTa.cell 1
 have t3 : wa.cell? ⟨w4.heap.size, 3, none⟩ = some (.slice Bp d.P.length ep) := XTa.cell 3
 have t4 : wa.cell? ⟨w4.heap.size, 4, none⟩ = some (.int .i64 (h : Int)) := XTa.cell 4
 have s0 : wa.cell? ⟨w7.heap.size, 0, none⟩ = some (.int .i64 (ml : Int)) := XSa.cell 0
 have s1 : wa.cell? ⟨w7.heap.size, 1, none⟩ = some (.int .i64 (d.k : Int)) := XSa.cell 1
 have s2 : wa.cell? ⟨w7.heap.size, 2, none⟩ = some (.int .i64 (d.P.length : Int)) := XSa.cell 2
 have s3 : wa.cell? ⟨w7.heap.size, 3, none⟩ = some (.int .i64 (h : Int)) := XSa.cell 3
 have HA := Lib.hid hb0a
 clear XTa XSa hb0a hba S2
 go_wp2_with fail
 go_ret
 exact ⟨rfl, HA.out⟩
end
end Go.Proofs.YtebobcbaloddaaaGreat
namespace Go.Proofs.YtebobcbaloddaaaGreat
section
set_option linter.unusedSimpArgs false
set_option linter.unusedVariables false
open Go.RowKit Go.Maps
theorem marks_len (L : List UInt8) (n : Nat) : (marksOf L n).length = n := by simp [marksOf]
end
end Go.Proofs.YtebobcbaloddaaaGreat

/-
  The program's putIndex.
-/
import Derived.Test.YtflolnilagogpaaIt
import Derived.Test.YtflolnilagogpaaIl
set_option linter.unusedSimpArgs false
set_option linter.unusedVariables false
namespace Go.Proofs.Ytflolnilagogpaa
open Go.RowKit

set_option maxRecDepth 100000 in
set_option maxHeartbeats 4000000 in
theorem putIndex_any (sv : Value) (l : List UInt8) (x : Ix) (ts : List PT) (w : World) (base : Nat) (hown : Own w base sv l) (hb : base ≤ w.heap.size) (hlen : l.length ≤ 10000) (hcs : Reads w base 1 x.A x.n (vI64 x.cs)) (hds : Reads w base 1 x.B x.m (vI64 x.ds)) (hm : MayX ts x.px)
    (hrow : (∀ c ∈ x.cs, 0 ≤ c ∧ c < 256) ∧ ∀ d ∈ x.ds, num31 d = true) (htb : x.tb < 256) :
    Calls Try.prog 18 #[sv, x.agg] w (RetOwn w base (l ++ idxB x.px)) := by
  obtain ⟨nm, tb, A, n, c, root, lv, hi, B, m, e', cs, ds⟩ := x
  simp only at hcs hds hrow htb
  have hcl : cs.length = n := by have := hcs.1; rw [vI64_len] at this; omega
  have hdl : ds.length = m := by have := hds.1; rw [vI64_len] at this; omega
  have n2 : n ≤ 2 := by have := hm.2.2.2.2.1; change cs.length ≤ 2 at this; omega
  have m2 : m ≤ 2 := by have := hm.2.2.2.2.2.1; change ds.length = cs.length at this; omega
  have nI : (n : Int) ≤ 2 := by omega
  have nms : nm.size ≤ 24 := (nb_facts hm.1).2
  have r31 := num31_iff.1 hm.2.2.2.2.2.2.2.2.1
  change 0 ≤ root ∧ root < 2147483648 at r31
  have f0 : (0 : Int) ≤ root := r31.1
  have f1 : root ≤ 4294967295 := by omega
  have wf : IntKind.i64.wrap root = root := Go.IntWalk.i64_in _ (by omega)
  have t0 : 0 ≤ tb := hm.2.1
  have hn8 := u8_of (z := (n : Int)) (by omega) (by omega)
  have ht8 := u8_of (z := tb) t0 (by omega)
  have HC := Lib.hid (And.intro hcs (And.intro hds (And.intro hm (And.intro hrow (And.intro hcl (And.intro hdl (And.intro nms (And.intro hlen (And.intro hn8 ht8)))))))))
  have HX := Lib.hid fun k => hdX_len hm k
  clear hcs hds hm hrow hcl hdl nms hlen hn8 ht8 r31
  go_enter Try.func18, Try.ntmps18
  go_wp2_with fail
  refine (putText_any sv l nm _ base (hown.alloc _) (by simp; omega) HC.out.2.2.2.2.2.2.1 (by have := HC.out.2.2.2.2.2.2.2.1; omega)).mono ?_
  rintro e w1 ⟨v1, rfl, own1, kp1⟩
  have K1 : Keeps base w w1 := (Keeps.alloc_ hb _).trans kp1
  have B1 : Blk w1 w.heap.size 49 #[.string nm, .int .i64 tb, .slice A n c, .int .u32 root, .int .i64 lv, .int .i64 hi, .slice B m e'] := kp1.blk _ _ _ (by decide) (Blk.new _ _ _)
  have c1 : w1.cell? ⟨w.heap.size, 1, none⟩ = some (.int .i64 tb) := B1.cell 1
  have c2 : w1.cell? ⟨w.heap.size, 2, none⟩ = some (.slice A n c) := B1.cell 2
  have H1 := Lib.hid (And.intro own1 (And.intro K1 B1))
  have hb1 := Nat.le_trans hb K1.size
  have lt1 := B1.lt
  clear hown kp1 own1 K1 B1
  have hbl : [Value.int .u8 tb, Value.int .u8 (n : Int)] = bL [UInt8.ofNat tb.toNat, UInt8.ofNat (n : Int).toNat] := by
    show _ = [Value.int .u8 ((UInt8.ofNat tb.toNat).toNat : Int), Value.int .u8 ((UInt8.ofNat (n : Int).toNat).toNat : Int)]
    rw [← HC.out.2.2.2.2.2.2.2.2.1.1, ← HC.out.2.2.2.2.2.2.2.2.2.1]
  have HBL := Lib.hid hbl
  clear hbl
  go_wp2_with (at_builtin; refine wpList_appR (w := w1.alloc _) rfl _ _ rfl base v1 (l ++ txtB nm.data.toList) [UInt8.ofNat tb.toNat, UInt8.ofNat (n : Int).toNat] (some ⟨w1.heap.size, 0, none⟩) 2 2 (w1.heap.size + 1) (by first | rfl | (simp; done)) (H1.out.1.alloc _) (by first | rfl | (simp; done)) (by rw [← HBL.out]; exact reads_new w1 _ _ rfl rfl) (by have := HC.out.2.2.2.2.2.2.2.1; have := HC.out.2.2.2.2.2.2.1; rw [List.length_append, txt_len]; have : nm.data.toList.length = nm.size := rfl; simp; omega) (by simp; omega) ?_; intro v2 w2 own2 kp2; have K2 := H1.out.2.1.trans ((Keeps.alloc_ hb1 _).trans kp2); have B2 := kp2.blk _ _ _ (by decide) (H1.out.2.2.alloc (.cells #[.int .u8 tb, .int .u8 (n : Int)] 5)); have c2' : w2.cell? ⟨w.heap.size, 2, none⟩ = some (.slice A n c) := B2.cell 2; have H2 := Lib.hid (And.intro own2 (And.intro K2 B2)); clear kp2 K2 B2)
  go_loopw [0, 24] (fun bv iv wr => ∃ k : Nat, k ≤ n ∧ iv = .int .i64 k ∧ Own wr base bv (l ++ hdX ⟨nm.data.toList, tb, cs, root, lv, hi, ds⟩ k) ∧ Keeps base w wr ∧ Blk wr w.heap.size 49 #[.string nm, .int .i64 tb, .slice A n c, .int .u32 root, .int .i64 lv, .int .i64 hi, .slice B m e']) (fun _ iv _ => n - (intOf iv).toNat)
  case atStart =>
    refine ⟨0, by omega, rfl, ?_, H2.out.2.1, H2.out.2.2⟩
    have h := H2.out.1
    have e : l ++ txtB nm.data.toList ++ [UInt8.ofNat tb.toNat, UInt8.ofNat (n : Int).toNat] = l ++ hdX ⟨nm.data.toList, tb, cs, root, lv, hi, ds⟩ 0 := by
      unfold hdX oneB
      rw [show (cs.length : Int) = (n : Int) from by rw [HC.out.2.2.2.2.1]]
      simp
    rwa [e] at h
  case round =>
    clear c1 c2 c2'
    obtain ⟨wo, rfl⟩ : ∃ wo : World, wo = wr := ⟨_, rfl⟩
    obtain ⟨k, hk, rfl, own, kp, hbk⟩ := hrel
    have q0 : (0 : Int) ≤ (k : Int) := by omega
    have hbo := Nat.le_trans hb kp.size
    have d2 : wo.cell? ⟨w.heap.size, 2, none⟩ = some (.slice A n c) := hbk.cell 2
    have blt := hbk.lt
    have hll : (l ++ hdX ⟨nm.data.toList, tb, cs, root, lv, hi, ds⟩ k).length ≤ 10100 := by
      have := HC.out.2.2.2.2.2.2.2.1
      have := HX.out k
      change (hdX ⟨nm.data.toList, tb, cs, root, lv, hi, ds⟩ k).length ≤ 50 at this
      rw [List.length_append]; omega
    by_cases hlt : k < n
    · have q1 : (k : Int) < (n : Int) := by omega
      obtain ⟨ad, z, hA, hab, hz, f2⟩ := (HC.out.1.below kp.low).i64_ hlt
      subst hA
      have hzz := HC.out.2.2.2.1.1 z (List.mem_of_getElem? hz)
      have z0 := hzz.1
      have z1 : z ≤ 255 := by omega
      have hqk := u8_of z0 z1
      have hst : l ++ hdX ⟨nm.data.toList, tb, cs, root, lv, hi, ds⟩ (k + 1) = l ++ hdX ⟨nm.data.toList, tb, cs, root, lv, hi, ds⟩ k ++ [UInt8.ofNat z.toNat] := by
        unfold hdX
        rw [flat_take oneB (show cs[k]? = some z from hz)]
        unfold oneB
        simp
      have HQ := Lib.hid (And.intro hqk (And.intro hll (And.intro hst (And.intro own (And.intro kp hbk)))))
      clear hz hzz hqk hll hst own kp hbk
      go_wp2_with (at_builtin; refine wpList_pushB rfl _ _ rfl base _ _ (UInt8.ofNat z.toNat) _ (by first | rfl | (simp; done)) HQ.out.2.2.2.1 _ (by first | rfl | (simp; done)) (by simp) (by first | exact HQ.out.1.1 | exact HQ.out.1.2) (by have := HQ.out.2.1; omega) hbo ?_; intro v4 w4 own4 kp4)
      exact ⟨⟨k + 1, by omega, by go_num, by rw [HQ.out.2.2.1]; exact own4, HQ.out.2.2.2.2.1.trans kp4, kp4.blk _ _ _ (by decide) HQ.out.2.2.2.2.2⟩, by simp [intOf]; omega⟩
    · obtain rfl : k = n := by omega
      have d3 : wo.cell? ⟨w.heap.size, 3, none⟩ = some (.int .u32 root) := hbk.cell 3
      have d4 : wo.cell? ⟨w.heap.size, 4, none⟩ = some (.int .i64 lv) := hbk.cell 4
      have d5 : wo.cell? ⟨w.heap.size, 5, none⟩ = some (.int .i64 hi) := hbk.cell 5
      have HQ := Lib.hid (And.intro hll (And.intro own (And.intro kp hbk)))
      clear hll own kp hbk
      go_wp2_with fail
      refine (putNumbers_any _ _ (some ⟨wo.heap.size, 0, none⟩) 3 3 [root, lv, hi] _ base (HQ.out.2.1.alloc _) (by simp; omega) (by have := HQ.out.1; omega) (by omega) (fun W kW => ⟨_, reads_blk (kW.blk _ _ _ (by decide) (Blk.new _ _ _)) rfl rfl⟩) (by
        intro z hz
        simp only [List.mem_cons, List.not_mem_nil, or_false] at hz
        rcases hz with rfl | rfl | rfl
        · exact HC.out.2.2.1.2.2.2.2.2.2.2.2.1
        · exact HC.out.2.2.1.2.2.2.2.2.2.2.2.2.1
        · exact HC.out.2.2.1.2.2.2.2.2.2.2.2.2.2)).mono ?_
      rintro e w5 ⟨v5, rfl, own5, kp5⟩
      have K5 := HQ.out.2.2.1.trans ((Keeps.alloc_ hbo _).trans kp5)
      have B5 := kp5.blk _ _ _ (by decide) (HQ.out.2.2.2.alloc (.cells #[.int .i64 root, .int .i64 lv, .int .i64 hi] 3))
      have g6 : w5.cell? ⟨w.heap.size, 6, none⟩ = some (.slice B m e') := B5.cell 6
      have H5 := Lib.hid (And.intro own5 K5)
      have hb5 := Nat.le_trans hb K5.size
      clear own5 kp5 K5 B5 d2 d3 d4 d5
      go_wp2_with fail
      refine (putNumbers_any v5 _ B m e' ds _ base H5.out.1 hb5 (by have := HQ.out.1; rw [List.length_append]; have h4 := four_flat [root, lv, hi]; simp only [List.length_cons, List.length_nil] at h4; omega) (by omega) (fun W kW => ⟨_, HC.out.2.1.below (H5.out.2.trans kW).low⟩) HC.out.2.2.2.1.2).mono ?_
      rintro e w6 ⟨v6, rfl, own6, kp6⟩
      have hst : l ++ idxB ⟨nm.data.toList, tb, cs, root, lv, hi, ds⟩ = l ++ hdX ⟨nm.data.toList, tb, cs, root, lv, hi, ds⟩ k ++ [root, lv, hi].flatMap fourB ++ ds.flatMap fourB := by
        unfold idxB hdX
        rw [List.take_of_length_le (by rw [HC.out.2.2.2.2.1]; exact Nat.le_refl _)]
        simp
      have H6 := Lib.hid (And.intro own6 (And.intro (H5.out.2.trans kp6) hst))
      clear own6 kp6 hst
      go_wp2
      go_ret
      exact ⟨v6, rfl, by rw [show (Ix.px ⟨nm, tb, A, k, c, root, lv, hi, B, m, e', cs, ds⟩) = ⟨nm.data.toList, tb, cs, root, lv, hi, ds⟩ from rfl, H6.out.2.2]; exact H6.out.1, H6.out.2.1⟩
end Go.Proofs.Ytflolnilagogpaa

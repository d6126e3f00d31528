/-
  The program's putTable.
-/
import Derived.Test.YtflolnilagogpaaIh
import Derived.Test.YtflolnilagogpaaIs
import Derived.Test.YtflolnilagogpaaIr
set_option linter.unusedSimpArgs false
set_option linter.unusedVariables false
namespace Go.Proofs.Ytflolnilagogpaa
open Go.RowKit

theorem Keeps.low {base : Nat} {w w' : World} (h : Keeps base w w') : Below base w w' := h.below base w (Nat.le_refl _) ⟨rfl, rfl, rfl, Nat.le_refl _, fun _ _ => rfl⟩
theorem u8_of {z : Int} (h0 : 0 ≤ z) (h1 : z ≤ 255) : z = ((UInt8.ofNat z.toNat).toNat : Int) ∧ IntKind.u8.wrap z = ((UInt8.ofNat z.toNat).toNat : Int) := by
  rw [u8_nat, IntKind.wrap_u8]
  omega
set_option maxRecDepth 100000 in
set_option maxHeartbeats 4000000 in
theorem putTable_any (sv : Value) (l : List UInt8) (t : Tb) (w : World) (base : Nat) (hown : Own w base sv l) (hb : base ≤ w.heap.size) (hlen : l.length ≤ 10000) (hcr : Reads w base 4 t.A t.n (vC t.cols)) (hm : MayT t.pt) :
    Calls Try.prog 17 #[sv, t.agg] w (RetOwn w base (l ++ tabB t.pt)) := by
  obtain ⟨nm, A, n, c, f, rr, p, cols⟩ := t
  simp only at hcr
  have hln : cols.length = n := by have := hcr.1; rw [vC_len] at this; omega
  have hlp : (cols.map Cl.pc).length = n := by rw [List.length_map]; exact hln
  have n8 : n ≤ 8 := by have := hm.2.2.1; change (cols.map Cl.pc).length ≤ 8 at this; omega
  have nI : (n : Int) ≤ 8 := by omega
  have nms : nm.size ≤ 24 := (nb_facts hm.1).2
  have wf : IntKind.i64.wrap f = f := Go.IntWalk.i64_in _ (by have := num31_iff.1 hm.2.2.2.1; change 0 ≤ f ∧ f < 2147483648 at this; omega)
  have hn8 := u8_of (z := (n : Int)) (by omega) (by omega)
  have HC := Lib.hid (And.intro hcr (And.intro hm (And.intro hln (And.intro hlp (And.intro nms (And.intro hlen hn8))))))
  have HH : ∀ k, (headL ⟨nm.data.toList, cols.map Cl.pc, f, rr, p⟩ k).length ≤ 600 ∨ 16 < k := fun k => by
    by_cases h : k ≤ 16
    · exact .inl (headL_len hm k h)
    · exact .inr (by omega)
  have HLN := Lib.hid HH
  clear hcr hm hln hlp nms hlen hn8 HH
  go_enter Try.func17, Try.ntmps17
  go_wp2_with fail
  refine (putText_any sv l nm _ base (hown.alloc _) (by simp; omega) HC.out.2.2.2.2.1 (by have := HC.out.2.2.2.2.2.1; omega)).mono ?_
  rintro e w1 ⟨v1, rfl, own1, kp1⟩
  have K1 : Keeps base w w1 := (Keeps.alloc_ hb _).trans kp1
  have B1 : Blk w1 w.heap.size 44 #[.string nm, .slice A n c, .int .u32 f, .int .i64 rr, .int .i64 p] := kp1.blk _ _ _ (by decide) (Blk.new _ _ _)
  have c1 : w1.cell? ⟨w.heap.size, 1, none⟩ = some (.slice A n c) := B1.cell 1
  have H1 := Lib.hid (And.intro own1 (And.intro K1 B1))
  have hb1 := Nat.le_trans hb K1.size
  have lt1 := B1.lt
  clear hown kp1 own1 K1 B1
  go_wp2_with (at_builtin; refine wpList_pushB rfl _ _ rfl base v1 (l ++ txtB nm.data.toList) (UInt8.ofNat (n : Int).toNat) _ (by first | rfl | (simp; done)) H1.out.1 _ (by first | rfl | (simp; done)) (by simp) (by first | exact HC.out.2.2.2.2.2.2.1 | exact HC.out.2.2.2.2.2.2.2) (by have := HC.out.2.2.2.2.2.1; have := HC.out.2.2.2.2.1; rw [List.length_append, txt_len]; have : nm.data.toList.length = nm.size := rfl; omega) hb1 ?_; intro v2 w2 own2 kp2; have B2 := kp2.blk _ _ _ (by decide) H1.out.2.2; have c2 : w2.cell? ⟨w.heap.size, 1, none⟩ = some (.slice A n c) := B2.cell 1; have H2 := Lib.hid (And.intro own2 (And.intro (H1.out.2.1.trans kp2) B2)))
  have hb2 := Nat.le_trans hb H2.out.2.1.size
  go_loopw [0, 21] (fun bv iv wr => ∃ k : Nat, k ≤ n ∧ iv = .int .i64 k ∧ Own wr base bv (l ++ headL ⟨nm.data.toList, cols.map Cl.pc, f, rr, p⟩ k) ∧ Keeps base w wr ∧ Blk wr w.heap.size 44 #[.string nm, .slice A n c, .int .u32 f, .int .i64 rr, .int .i64 p]) (fun _ iv _ => n - (intOf iv).toNat)
  case atStart =>
    refine ⟨0, by omega, rfl, ?_, H2.out.2.1, H2.out.2.2⟩
    have h := H2.out.1
    have e : l ++ txtB nm.data.toList ++ [UInt8.ofNat (n : Int).toNat] = l ++ headL ⟨nm.data.toList, cols.map Cl.pc, f, rr, p⟩ 0 := by
      unfold headL oneB
      rw [show ((cols.map Cl.pc).length : Int) = (n : Int) from by rw [HC.out.2.2.2.1]]
      simp
    rwa [e] at h
  case round =>
    clear c1 c2
    obtain ⟨wo, rfl⟩ : ∃ wo : World, wo = wr := ⟨_, rfl⟩
    obtain ⟨k, hk, rfl, own, kp, hbk⟩ := hrel
    have q0 : (0 : Int) ≤ (k : Int) := by omega
    have hbo := Nat.le_trans hb kp.size
    have d1 : wo.cell? ⟨w.heap.size, 1, none⟩ = some (.slice A n c) := hbk.cell 1
    have blt := hbk.lt
    by_cases hlt : k < n
    · have q1 : (k : Int) < (n : Int) := by omega
      obtain ⟨ad, q, hA, hab, hq, f0, f1, f2, f3⟩ := (HC.out.1.below kp.low).cl_ hlt
      subst hA
      have hpq : (cols.map Cl.pc)[k]? = some q.pc := by rw [List.getElem?_map, hq]; rfl
      have hok := (HC.out.2.1.2.2.2.2.2.2 k (by rw [show (Tb.pt ⟨nm, some ad, n, c, f, rr, p, cols⟩).cols.length = n from HC.out.2.2.2.1]; exact hlt) _ hpq).1
      have hqk := u8_of (z := q.k) (by have := hok.2.1.1; change 1 ≤ q.k at this; omega) (by have := hok.2.1.2; change q.k ≤ 3 at this; omega)
      have hll : (l ++ headL ⟨nm.data.toList, cols.map Cl.pc, f, rr, p⟩ k).length ≤ 10600 := by
        have := HC.out.2.2.2.2.2.1
        rcases HLN.out k with h | h
        · rw [List.length_append]; omega
        · omega
      have hst : l ++ headL ⟨nm.data.toList, cols.map Cl.pc, f, rr, p⟩ (k + 1) = l ++ headL ⟨nm.data.toList, cols.map Cl.pc, f, rr, p⟩ k ++ txtB q.nm.data.toList ++ [UInt8.ofNat q.k.toNat] ++ [q.d, q.u].flatMap fourB := by
        unfold headL
        rw [flat_take colB hpq]
        unfold colB oneB Cl.pc
        simp
      have HQ := Lib.hid (And.intro hok (And.intro hqk (And.intro hll (And.intro hst (And.intro own (And.intro kp hbk))))))
      clear hpq hq hok hqk hll hst own kp hbk
      go_wp2_with fail
      refine (putText_any _ _ q.nm _ base (HQ.out.2.2.2.2.1.alloc _) (by simp; omega) (nb_facts HQ.out.1.1).2 (by have := HQ.out.2.2.1; omega)).mono ?_
      rintro e w3 ⟨v3, rfl, own3, kp3⟩
      have K3 : Keeps base w w3 := HQ.out.2.2.2.2.2.1.trans ((Keeps.alloc_ hbo _).trans kp3)
      have B3 := kp3.blk _ _ _ (by decide) (HQ.out.2.2.2.2.2.2.alloc (.cells #[.string q.nm, .int .u8 q.k, .int .i64 q.d, .int .i64 q.u] 46))
      have C3 := kp3.blk _ _ _ (by decide) (Blk.new wo 46 #[.string q.nm, .int .u8 q.k, .int .i64 q.d, .int .i64 q.u])
      have g1 : w3.cell? ⟨wo.heap.size, 1, none⟩ = some (.int .u8 q.k) := C3.cell 1
      have H3 := Lib.hid (And.intro own3 (And.intro K3 (And.intro B3 C3)))
      have hb3 := Nat.le_trans hb K3.size
      clear own3 K3 B3 C3 kp3 f0 f1 f2 f3
      go_wp2_with (at_builtin; refine wpList_pushB rfl _ _ rfl base v3 _ (UInt8.ofNat q.k.toNat) _ (by first | rfl | (simp; done)) H3.out.1 _ (by first | rfl | (simp; done)) (by simp) (by first | exact HQ.out.2.1.1 | exact HQ.out.2.1.2) (by have := HQ.out.2.2.1; have := (nb_facts HQ.out.1.1).2; change q.nm.data.toList.length ≤ 24 at this; rw [List.length_append, txt_len]; omega) hb3 ?_; intro v4 w4 own4 kp4; have B4 := kp4.blk _ _ _ (by decide) H3.out.2.2.1; have C4 := kp4.blk _ _ _ (by decide) H3.out.2.2.2; have g2 : w4.cell? ⟨wo.heap.size, 2, none⟩ = some (.int .i64 q.d) := C4.cell 2; have g3 : w4.cell? ⟨wo.heap.size, 3, none⟩ = some (.int .i64 q.u) := C4.cell 3; have H4 := Lib.hid (And.intro own4 (And.intro (H3.out.2.1.trans kp4) B4)); clear own4 kp4 B4 C4)
      have hb4 := Nat.le_trans hb H4.out.2.1.size
      refine (putNumbers_any v4 _ (some ⟨w4.heap.size, 0, none⟩) 2 2 [q.d, q.u] _ base (H4.out.1.alloc _) (by simp; omega) (by have := HQ.out.2.2.1; have := (nb_facts HQ.out.1.1).2; change q.nm.data.toList.length ≤ 24 at this; rw [List.length_append, List.length_append, txt_len]; simp only [List.length_cons, List.length_nil]; omega) (by omega) (fun W kW => ⟨_, reads_blk (kW.blk _ _ _ (by decide) (Blk.new _ _ _)) rfl rfl⟩) (by
        intro z hz
        simp only [List.mem_cons, List.not_mem_nil, or_false] at hz
        rcases hz with rfl | rfl
        · exact HQ.out.1.2.2.1
        · exact HQ.out.1.2.2.2)).mono ?_
      rintro e w5 ⟨v5, rfl, own5, kp5⟩
      have H5 := Lib.hid (And.intro own5 (And.intro (H4.out.2.1.trans ((Keeps.alloc_ hb4 _).trans kp5)) (kp5.blk _ _ _ (by decide) (H4.out.2.2.alloc (.cells #[.int .i64 q.d, .int .i64 q.u] 3)))))
      clear own5 kp5 g1 g2 g3
      go_wp2
      exact ⟨⟨k + 1, by omega, by go_num, by rw [HQ.out.2.2.2.1]; exact H5.out.1, H5.out.2.1, H5.out.2.2⟩, by simp [intOf]; omega⟩
    · obtain rfl : k = n := by omega
      have d2 : wo.cell? ⟨w.heap.size, 2, none⟩ = some (.int .u32 f) := hbk.cell 2
      have d3 : wo.cell? ⟨w.heap.size, 3, none⟩ = some (.int .i64 rr) := hbk.cell 3
      have d4 : wo.cell? ⟨w.heap.size, 4, none⟩ = some (.int .i64 p) := hbk.cell 4
      have f0 : (0 : Int) ≤ f := by have := num31_iff.1 HC.out.2.1.2.2.2.1; change 0 ≤ f ∧ f < 2147483648 at this; omega
      have f1 : f ≤ 4294967295 := by have := num31_iff.1 HC.out.2.1.2.2.2.1; change 0 ≤ f ∧ f < 2147483648 at this; omega
      have hst : l ++ tabB ⟨nm.data.toList, cols.map Cl.pc, f, rr, p⟩ = l ++ headL ⟨nm.data.toList, cols.map Cl.pc, f, rr, p⟩ k ++ [f, rr, p].flatMap fourB := by
        unfold tabB headL
        rw [List.take_of_length_le (by rw [HC.out.2.2.2.1]; exact Nat.le_refl _)]
        simp
      have hll : (l ++ headL ⟨nm.data.toList, cols.map Cl.pc, f, rr, p⟩ k).length ≤ 10600 := by
        have := HC.out.2.2.2.2.2.1
        rcases HLN.out k with h | h
        · rw [List.length_append]; omega
        · omega
      have HQ := Lib.hid (And.intro hst (And.intro hll (And.intro own kp)))
      clear hst hll own kp hbk
      go_wp2_with fail
      refine (putNumbers_any _ _ (some ⟨wo.heap.size, 0, none⟩) 3 3 [f, rr, p] _ base (HQ.out.2.2.1.alloc _) (by simp; omega) (by have := HQ.out.2.1; omega) (by omega) (fun W kW => ⟨_, reads_blk (kW.blk _ _ _ (by decide) (Blk.new _ _ _)) rfl rfl⟩) (by
        intro z hz
        simp only [List.mem_cons, List.not_mem_nil, or_false] at hz
        rcases hz with rfl | rfl | rfl
        · exact HC.out.2.1.2.2.2.1
        · exact HC.out.2.1.2.2.2.2.1
        · exact HC.out.2.1.2.2.2.2.2.1)).mono ?_
      rintro e w5 ⟨v5, rfl, own5, kp5⟩
      have H5 := Lib.hid (And.intro own5 (HQ.out.2.2.2.trans ((Keeps.alloc_ hbo _).trans kp5)))
      clear own5 kp5
      go_wp2
      go_ret
      exact ⟨v5, rfl, by rw [show (Tb.pt ⟨nm, A, k, c, f, rr, p, cols⟩) = ⟨nm.data.toList, cols.map Cl.pc, f, rr, p⟩ from rfl, HQ.out.1]; exact H5.out.1, H5.out.2⟩
end Go.Proofs.Ytflolnilagogpaa

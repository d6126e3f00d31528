/-
  Pool: the reference's Get.
-/
import Derived.Test.YtcpbkaeilmabaaaPp
namespace Go.Proofs.Ytcpbkaeilmabaaa
set_option linter.unusedSimpArgs false
set_option linter.unusedVariables false
open Go.RowKit Go.Maps

theorem Try.elemU : Try.prog.elem 67 = 34 := by kernel_rfl
theorem Try.sizeU (W : World) : (Go.sizeOf 34).run Try.prog W = .ok 1 W := by kernel_rfl
theorem Try.sliceU : Try.prog.underlying 67 = some (.slice (Try.prog.elem 67)) := by rw [Try.elemU]; exact Try.underlying67
/-- Where what is left behind the first element begins. -/
def offU (c : Nat) : Nat := if c = 1 then 0 else 1
theorem cutU (g m c : Nat) (h : m + 1 ≤ c) (W : World) : (Instr.slice 67 (.slice (some ⟨g, 0, none⟩) (m + 1) c) (some (.int .i64 1)) none none).run Try.prog W = .ok (.slice (some ⟨g, offU c, none⟩) m (c - 1)) W := by
  rw [run_slice_l W 67 (some ⟨g, 0, none⟩) (m + 1) c Try.sliceU .i64 1 (by omega) (by omega), Try.elemU, Try.sizeU]
  unfold offU
  by_cases h1 : c = 1
  · simp [sliced, Result.andThen, h1]
  · simp [sliced, Result.andThen, h1, Addr.add]
def RetR (w : World) (size : Nat) (s : List Nat × Nat × Nat) (e : Ending) (w' : World) : Prop :=
  ∃ A c, e = .returned (.agg #[.int .i64 size, .slice A s.1.length c, .int .u64 (s.2.1 : Nat), .int .u64 (s.2.2 : Nat)]) ∧ RU w' A s.1.length s.1 ∧ Below w.heap.size w w'
theorem decide_not_eq (x p : Nat) : decide (x ≠ p) = (x != p) := by
  by_cases h : x = p
  · subst h; simp
  · simp [h]
theorem mem_take_other {P : List Nat} {p q i : Nat} (h : P[i]? = some q) (hq : q ≠ p) : decide (p ∈ P.take (i + 1)) = decide (p ∈ P.take i) := by
  rw [List.take_add_one, h]
  have e : p ≠ q := fun e => hq e.symm
  simp [e]
/-- What the last stores leave. -/
theorem fin_any {w5 w0 : World} {x r n B : Nat} {A : Option Addr} {P : List Nat} {csx csr : Array Value} (hX : Blk w5 x 74 csx) (hR : Blk w5 r 74 csr) (h : RU w5 A n P) (hb : Below B w0 w5) (hx : B ≤ x) (hr : B ≤ r) (v a b c d : Value) :
    RU (((((w5.setCell ⟨x, 1, none⟩ v).setCell ⟨r, 0, none⟩ a).setCell ⟨r, 1, none⟩ b).setCell ⟨r, 2, none⟩ c).setCell ⟨r, 3, none⟩ d) A n P ∧ Below B w0 (((((w5.setCell ⟨x, 1, none⟩ v).setCell ⟨r, 0, none⟩ a).setCell ⟨r, 1, none⟩ b).setCell ⟨r, 2, none⟩ c).setCell ⟨r, 3, none⟩ d) := by
  refine ⟨h.same (by simp [World.setCell]) fun g cs hc => ?_, ((((hb.setCell (show B ≤ (⟨x, 1, none⟩ : Addr).block from hx) _).setCell (show B ≤ (⟨r, 0, none⟩ : Addr).block from hr) _).setCell (show B ≤ (⟨r, 1, none⟩ : Addr).block from hr) _).setCell (show B ≤ (⟨r, 2, none⟩ : Addr).block from hr) _).setCell (show B ≤ (⟨r, 3, none⟩ : Addr).block from hr) _⟩
  have h1 := hc.ne_ hX (by decide)
  have h2 := hc.ne_ hR (by decide)
  exact (Below.heap_setCell _ _ _ _ h2).trans ((Below.heap_setCell _ _ _ _ h2).trans ((Below.heap_setCell _ _ _ _ h2).trans ((Below.heap_setCell _ _ _ _ h2).trans (Below.heap_setCell _ _ _ _ h1))))
def outF (P : List Nat) (p : Nat) : List Nat := P.filter (· ≠ p)
theorem outF_same {P : List Nat} {p i : Nat} (h : P[i]? = some p) : outF (P.take (i + 1)) p = outF (P.take i) p := by
  unfold outF; rw [List.take_add_one, h]; simp [List.filter_append]
theorem outF_other {P : List Nat} {p q i : Nat} (h : P[i]? = some q) (hq : q ≠ p) : outF (P.take (i + 1)) p = outF (P.take i) p ++ [q] := by
  unfold outF; rw [List.take_add_one, h]; simp [List.filter_append, hq]
theorem outF_len (P : List Nat) (p : Nat) : (outF P p).length ≤ P.length := List.length_filter_le _ _
theorem outF_in {P : List Nat} {p : Nat} (h : P.Nodup) : outF P p = P.erase p := by
  unfold outF; rw [h.erase_eq_filter]; congr 1; funext x; exact decide_not_eq x p
theorem outF_no {P : List Nat} {p : Nat} (h : p ∉ P) : outF P p = P := by
  unfold outF; rw [List.filter_eq_self]; intro x hx; simp; rintro rfl; exact h hx
set_option maxRecDepth 100000 in
set_option maxHeartbeats 2000000 in
theorem rget_any (size : Nat) (A : Option Addr) (k c : Nat) (P : List Nat) (rd ht p : Nat) (w : World) (hr : RU w A k P) (hk : P.length = k) (hk6 : k ≤ 1000) (hnd : P.Nodup) (hle : k ≤ size) (h1 : 1 ≤ size) (h2 : size ≤ 9223372036854775807) (hrd : rd ≤ 1000000) (hht : ht ≤ 1000000) (hp : p ≤ 4294967295) :
    Calls Try.prog 40 #[.agg #[.int .i64 size, .slice A k c, .int .u64 rd, .int .u64 ht], .int .u32 p] w (RetR w size (stepG size (P, rd, ht) p)) := by
  obtain ⟨i0, hi0, hz0, hs0, hy0⟩ := int_info8 Try.infoU32
  have HP := Lib.hid (And.intro hr (And.intro hk (And.intro hnd (And.intro hle (And.intro h1 h2)))))
  have hkI : (k : Int) ≤ 1000 := by omega
  have hpI : (p : Int) ≤ 4294967295 := by omega
  have hrdI : (rd : Int) ≤ 1000000 := by omega
  have hhtI : (ht : Int) ≤ 1000000 := by omega
  have hsI : (size : Int) ≤ 9223372036854775807 := by omega
  clear hr hk hnd hle h1 h2 hp
  go_enter Try.func40, Try.ntmps40
  go_wp2_with fail
  go_loopw [5, 6, 12] (fun u5 u6 u12 wr => ∃ (i : Nat) (A5 : Option Addr) (m c5 : Nat) (b : Bool), u5 = .slice A5 m c5 ∧ u6 = .bool b ∧ u12 = .int .i64 i ∧ i ≤ k ∧ Hid (b = decide (p ∈ P.take i)) ∧ (outF (P.take i) p).length = m ∧ wr.ownsRow (w.heap.size + 2) 34 1 (.slice A5 m c5) m (uL (outF (P.take i) p)) ∧
      Blk wr w.heap.size 74 #[.int .i64 size, .slice A k c, .int .u64 rd, .int .u64 ht] ∧ Blk wr (w.heap.size + 1) 74 #[.int .i64 0, .slice none 0 0, .int .u64 0, .int .u64 0] ∧ Below w.heap.size w wr ∧ w.heap.size + 2 ≤ wr.heap.size) (fun _ _ u12 _ => k - (intOf u12).toNat)
  case atStart =>
    have hown := own_empty ((w.alloc (.cells #[.int .i64 size, .slice A k c, .int .u64 rd, .int .u64 ht] 74)).alloc (.cells #[.int .i64 0, .slice none 0 0, .int .u64 0, .int .u64 0] 74)) 34 1 (g := w.heap.size + 1 + 1) (by simp)
    exact ⟨0, some ⟨w.heap.size + 1 + 1, 0, none⟩, 0, 0, false, rfl, rfl, rfl, by omega, by unfold Hid; simp, rfl, by simpa [outF, uL] using hown, (Blk.newAt (by simp)).alloc _ |>.alloc _, (Blk.newAt (by simp)).alloc _, ball (ball (ball (Below.refl _ _) _) _) _, by simp⟩
  case round =>
    obtain ⟨i, A5, m, c5, b, rfl, rfl, rfl, hi, hbb, hm, ho, hX, hR, hb, hz⟩ := hrel
    have q0 : (0 : Int) ≤ (i : Int) := by omega
    have x1 := hX.cell 1
    have hm6 : m ≤ i := by have h1 := outF_len (P.take i) p; rw [List.length_take] at h1; omega
    by_cases hlt : i < k
    · have q1 : (i : Int) < (k : Int) := by omega
      obtain ⟨ad, u, rfl, _, hu, cl⟩ := (HP.out.1.1.below hb).at_ hlt
      unfold uL at hu
      rw [List.getElem?_map] at hu
      obtain ⟨q, hq, rfl⟩ := Option.map_eq_some_iff.1 hu
      have H := Lib.hid (And.intro ho (And.intro hX (And.intro hR (And.intro hb (And.intro hbb hq)))))
      clear ho hX hR hb hbb hu
      by_cases hqp : q = p
      · subst hqp
        have e1 : ((q : Int) == (q : Int)) = true := by simp
        clear hq
        go_wp2
        go_roundw
        case rel => exact ⟨i + 1, A5, m, c5, true, rfl, rfl, by go_num, by omega, by unfold Hid; have := H.out.2.2.2.2.2; rw [List.take_add_one, this]; simp, by rw [outF_same H.out.2.2.2.2.2]; exact hm, by rw [outF_same H.out.2.2.2.2.2]; exact H.out.1, H.out.2.1, H.out.2.2.1, H.out.2.2.2.1, hz⟩
        case measure => simp [intOf]; omega
      · have e1 : ((q : Int) == (p : Int)) = false := by simp; omega
        have HQ := Lib.hid hqp
        clear hq hqp
        go_wp2_with (at_builtin; refine wpList_push1 rfl (.tmp 22) (.tmp 28) 67 rfl (w.heap.size + 2) 34 i0 (.int .u32 0) 4 Try.underlying67 hi0 hz0 hs0 hy0 rfl _ m _ (.int .u32 q) rfl H.out.1 _ rfl rfl rfl (by omega) (by omega) hz ?_; intro v5 w5 ho5 hg5; obtain ⟨A6, c6, rfl, hc6⟩ := own_form ho5)
        have hX5 := blk_grown H.out.1 H.out.2.1 (by decide) hg5
        have hR5 := blk_grown H.out.1 H.out.2.2.1 (by decide) hg5
        have b5 := below_grown H.out.1 (show w.heap.size ≤ w.heap.size + 2 by omega) hz hg5 H.out.2.2.2.1
        have hz5 : w.heap.size + 2 ≤ w5.heap.size := by have := hg5.size; simp at this; omega
        have HE := Lib.hid (And.intro ho5 (And.intro hX5 (And.intro hR5 b5)))
        clear ho5 hX5 hR5 b5 hg5
        go_roundw
        case rel => exact ⟨i + 1, A6, m + 1, c6, b, rfl, rfl, by go_num, by omega, by unfold Hid; have h1 := H.out.2.2.2.2.2; have h2 := H.out.2.2.2.2.1.out; rw [h2, mem_take_other h1 HQ.out], by rw [outF_other H.out.2.2.2.2.2 HQ.out, List.length_append, hm]; rfl, by rw [outF_other H.out.2.2.2.2.2 HQ.out, ← uL_snoc]; exact HE.out.1, HE.out.2.1, HE.out.2.2.1, HE.out.2.2.2, hz5⟩
        case measure => simp [intOf]; omega
    · obtain rfl : i = k := by omega
      have htk : P.take i = P := List.take_of_length_le (by rw [HP.out.2.1]; exact Nat.le_refl _)
      have hbb' := hbb.out
      rw [htk] at hbb' hm ho
      clear hbb htk
      have x3 := hX.cell 3; have x2 := hX.cell 2; have x0 := hX.cell 0
      have f3 := hX.frozen 3; have f2 := hX.frozen 2
      by_cases hin : p ∈ P
      · obtain rfl : b = true := by rw [hbb']; simp [hin]
        have hX2 := hX.set_ 3 (.int .u64 ((ht : Int) + 1))
        have hR2 := hR.far (p := ⟨w.heap.size, 3, none⟩) (by simp) (.int .u64 ((ht : Int) + 1))
        have ho2 := own_far ho hX (by decide) 3 (.int .u64 ((ht : Int) + 1))
        have hb2 := hb.setCell (show w.heap.size ≤ (⟨w.heap.size, 3, none⟩ : Addr).block from Nat.le_refl _) (.int .u64 ((ht : Int) + 1))
        have hz2 : (wr.setCell ⟨w.heap.size, 3, none⟩ (.int .u64 ((ht : Int) + 1))).heap.size = wr.heap.size := by simp [World.setCell]
        have H := Lib.hid (And.intro hX2 (And.intro hR2 (And.intro ho2 hb2)))
        clear hX hR hb hX2 hR2 hb2 hbb'
        go_wp2_with (at_builtin; refine wpList_push1 rfl (.tmp 47) (.tmp 49) 67 rfl (w.heap.size + 2) 34 i0 (.int .u32 0) 4 Try.underlying67 hi0 hz0 hs0 hy0 rfl _ m _ (.int .u32 p) rfl H.out.2.2.1 _ rfl (by simp [World.setCell]) rfl (by omega) (by omega) (by rw [hz2]; exact hz) ?_; intro v5 w5 ho5 hg5; obtain ⟨A6, c6, rfl, hc6⟩ := own_form ho5; have hX5 := blk_grown H.out.2.2.1 H.out.1 (by decide) hg5; have hR5 := blk_grown H.out.2.2.1 H.out.2.1 (by decide) hg5; have y0 : w5.cell? ⟨w.heap.size, 0, none⟩ = some (.int .i64 size) := hX5.cell 0; have y2 : w5.cell? ⟨w.heap.size, 2, none⟩ = some (.int .u64 (rd : Int)) := hX5.cell 2; have y3 : w5.cell? ⟨w.heap.size, 3, none⟩ = some (.int .u64 ((ht : Int) + 1)) := hX5.cell 3; have y1 := hX5.cell 1; have g1 := hX5.frozen 1; have r0 := hR5.cell 0; have r1 := hR5.cell 1; have r2 := hR5.cell 2; have r3 := hR5.cell 3; have k0 := hR5.frozen 0; have k1 := hR5.frozen 1; have k2 := hR5.frozen 2; have k3 := hR5.frozen 3)
        have b5 := below_grown H.out.2.2.1 (show w.heap.size ≤ w.heap.size + 2 by omega) (by rw [hz2]; exact hz) hg5 H.out.2.2.2
        rw [uL_snoc] at ho5
        have fa := fin_any hX5 hR5 (RU.of_own ho5) b5 (Nat.le_refl _) (Nat.le_succ _)
        refine bodyPost_ret (v := .agg #[.int .i64 size, .slice A6 (m + 1) c6, .int .u64 (rd : Int), .int .u64 ((ht : Int) + 1)]) (by simp only [results, Try.results40]; simp [go_sem, r0, r1, r2, r3]) rfl ?_
        have hs : stepG size (P, rd, ht) p = (outF P p ++ [p], rd, ht + 1) := by
          unfold stepG; rw [if_pos hin, outF_in HP.out.2.2.1]
        rw [hs]
        unfold RetR
        simp only
        rw [show (outF P p ++ [p]).length = m + 1 from by rw [List.length_append, hm]; rfl]
        exact ⟨A6, c6, rfl, fa _ _ _ _ _⟩
      · obtain rfl : b = false := by rw [hbb']; simp [hin]
        have hX2 := hX.set_ 2 (.int .u64 ((rd : Int) + 1))
        have hR2 := hR.far (p := ⟨w.heap.size, 2, none⟩) (by simp) (.int .u64 ((rd : Int) + 1))
        have ho2 := own_far ho hX (by decide) 2 (.int .u64 ((rd : Int) + 1))
        have hb2 := hb.setCell (show w.heap.size ≤ (⟨w.heap.size, 2, none⟩ : Addr).block from Nat.le_refl _) (.int .u64 ((rd : Int) + 1))
        have hz2 : (wr.setCell ⟨w.heap.size, 2, none⟩ (.int .u64 ((rd : Int) + 1))).heap.size = wr.heap.size := by simp [World.setCell]
        have hmk := Lib.hid (show m = i by rw [← hm, outF_no hin]; exact HP.out.2.1)
        by_cases hks : i < size
        · have e1 : ((m : Int) == (size : Int)) = false := by have := hmk.out; simp; omega
          have H := Lib.hid (And.intro hX2 (And.intro hR2 (And.intro ho2 hb2)))
          clear hX hR hb hX2 hR2 hb2 hbb'
          go_wp2_with (at_builtin; refine wpList_push1 rfl (.tmp 47) (.tmp 49) 67 rfl (w.heap.size + 2) 34 i0 (.int .u32 0) 4 Try.underlying67 hi0 hz0 hs0 hy0 rfl _ m _ (.int .u32 p) rfl H.out.2.2.1 _ rfl (by simp [World.setCell]) rfl (by omega) (by omega) (by rw [hz2]; exact hz) ?_; intro v5 w5 ho5 hg5; obtain ⟨A6, c6, rfl, hc6⟩ := own_form ho5; have hX5 := blk_grown H.out.2.2.1 H.out.1 (by decide) hg5; have hR5 := blk_grown H.out.2.2.1 H.out.2.1 (by decide) hg5; have y0 : w5.cell? ⟨w.heap.size, 0, none⟩ = some (.int .i64 size) := hX5.cell 0; have y2 : w5.cell? ⟨w.heap.size, 2, none⟩ = some (.int .u64 ((rd : Int) + 1)) := hX5.cell 2; have y3 : w5.cell? ⟨w.heap.size, 3, none⟩ = some (.int .u64 (ht : Int)) := hX5.cell 3; have y1 := hX5.cell 1; have g1 := hX5.frozen 1; have r0 := hR5.cell 0; have r1 := hR5.cell 1; have r2 := hR5.cell 2; have r3 := hR5.cell 3; have k0 := hR5.frozen 0; have k1 := hR5.frozen 1; have k2 := hR5.frozen 2; have k3 := hR5.frozen 3)
          have b5 := below_grown H.out.2.2.1 (show w.heap.size ≤ w.heap.size + 2 by omega) (by rw [hz2]; exact hz) hg5 H.out.2.2.2
          rw [uL_snoc] at ho5
          have fa := fin_any hX5 hR5 (RU.of_own ho5) b5 (Nat.le_refl _) (Nat.le_succ _)
          refine bodyPost_ret (v := .agg #[.int .i64 size, .slice A6 (m + 1) c6, .int .u64 ((rd : Int) + 1), .int .u64 (ht : Int)]) (by simp only [results, Try.results40]; simp [go_sem, r0, r1, r2, r3]) rfl ?_
          have hs : stepG size (P, rd, ht) p = (outF P p ++ [p], rd + 1, ht) := by
            unfold stepG; rw [if_neg hin]; simp only; rw [if_pos (by rw [HP.out.2.1]; exact hks), outF_no hin]
          rw [hs]
          unfold RetR
          simp only
          rw [show (outF P p ++ [p]).length = m + 1 from by rw [List.length_append, hm]; rfl]
          exact ⟨A6, c6, rfl, fa _ _ _ _ _⟩
        · have hsz := Lib.hid (show size = i by have := HP.out.2.2.2.1; omega)
          have e1 : ((m : Int) == (size : Int)) = true := by have := hmk.out; have := hsz.out; simp; omega
          obtain ⟨m', rfl⟩ : ∃ m', m = m' + 1 := ⟨m - 1, by have := hmk.out; have := HP.out.2.2.2.2.1; omega⟩
          rcases ho2.2 with ⟨_, h0⟩ | ⟨g, cap, cur, e, hgb, hgB, hmc, hcm, hcs, hxs⟩
          · omega
          injection e with e e' e''
          subst e; subst e''
          have hgB' : Blk (wr.setCell ⟨w.heap.size, 2, none⟩ (.int .u64 ((rd : Int) + 1))) g 34 cur := hgB
          have sl := cutU g m' c5 hmc
          have hgX := hgB'.ne_ hX2 (by decide)
          have hgR := hgB'.ne_ hR2 (by decide)
          have hxs' : ∀ (j : Nat) (u : Value), (uL P.tail)[j]? = some u → cur[offU c5 + j]? = some u := by
            intro j u hu
            rw [outF_no hin, Nat.mul_one] at hxs
            have hj := lt_of_at hu
            rw [uL_len, List.length_tail, HP.out.2.1] at hj
            have hmk' := hmk.out
            have ho1 : offU c5 = 1 := by unfold offU; rw [if_neg (by omega)]
            unfold uL at hu
            rw [List.getElem?_map, List.getElem?_tail, ← List.getElem?_map] at hu
            have hx : (uL P)[j + 1]? = some u := hu
            rw [← hxs, List.getElem?_take_of_lt (by omega), Array.getElem?_toList] at hx
            rw [ho1, Nat.add_comm]; exact hx
          have hfit : m' < c5 - 1 → offU c5 + (c5 - 1) ≤ cur.size := by intro h; unfold offU; rw [if_neg (by omega)]; omega
          have htl : (uL P.tail).length = m' := by have := hmk.out; rw [uL_len, List.length_tail, HP.out.2.1]; omega
          have H := Lib.hid (And.intro hX2 (And.intro hR2 (And.intro hgB' hb2)))
          have HC := Lib.hid (And.intro htl (And.intro hxs' hfit))
          have hmc' : m' ≤ c5 - 1 := by omega
          clear hX hR hb hX2 hR2 hb2 hbb' hgB hgB' hxs hcs htl hxs' hfit ho
          go_wp2_with (at_builtin; refine wpList_push_cut rfl (.tmp 47) (.tmp 49) 67 rfl Try.underlying67 hi0 hz0 hs0 hy0 rfl H.out.2.2.1 HC.out.1 HC.out.2.1 HC.out.2.2 hmc' (.int .u32 p) rfl (by omega) (by omega) rfl _ rfl (by simp [World.setCell]) ?_; intro A6 c6 w5 hr5 hk5 hg5; have hX5 := (H.out.1.alloc _).grown hg5 (fun e => hgX (by injection e with e; exact e.symm)); have hR5 := (H.out.2.1.alloc _).grown hg5 (fun e => hgR (by injection e with e; exact e.symm)); have y0 : w5.cell? ⟨w.heap.size, 0, none⟩ = some (.int .i64 size) := hX5.cell 0; have y2 : w5.cell? ⟨w.heap.size, 2, none⟩ = some (.int .u64 ((rd : Int) + 1)) := hX5.cell 2; have y3 : w5.cell? ⟨w.heap.size, 3, none⟩ = some (.int .u64 (ht : Int)) := hX5.cell 3; have y1 := hX5.cell 1; have g1 := hX5.frozen 1; have r0 := hR5.cell 0; have r1 := hR5.cell 1; have r2 := hR5.cell 2; have r3 := hR5.cell 3; have k0 := hR5.frozen 0; have k1 := hR5.frozen 1; have k2 := hR5.frozen 2; have k3 := hR5.frozen 3)
          have b5 := (H.out.2.2.2.alloc (by rw [hz2]; omega) (.cells #[.int .u32 p] 34)).grown hg5 (by simp [World.setCell]; omega) (fun k hk => by injection hk with hk; omega)
          rw [uL_snoc] at hr5
          have fa := fin_any hX5 hR5 ⟨hr5, hk5⟩ b5 (Nat.le_refl _) (Nat.le_succ _)
          refine bodyPost_ret (v := .agg #[.int .i64 size, .slice A6 (m' + 1) c6, .int .u64 ((rd : Int) + 1), .int .u64 (ht : Int)]) (by simp only [results, Try.results40]; simp [go_sem, r0, r1, r2, r3]) rfl ?_
          have hs : stepG size (P, rd, ht) p = (P.tail ++ [p], rd + 1, ht) := by
            unfold stepG; rw [if_neg hin]; simp only; rw [if_neg (by rw [HP.out.2.1]; exact hks)]
          rw [hs]
          unfold RetR
          simp only
          rw [show (P.tail ++ [p]).length = m' + 1 from by rw [List.length_append, List.length_tail, HP.out.2.1]; have := hmk.out; simp; omega]
          exact ⟨A6, c6, rfl, fa _ _ _ _ _⟩
end Go.Proofs.Ytcpbkaeilmabaaa

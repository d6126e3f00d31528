/-
  Tokens of queries: contracts of Words, and of the reference's Words, Word.
-/
import Derived.Test.YtbmfojeklhbocaaXj
import Derived.Maps.AppendAt
import Derived.RangeFuncWrites
import Derived.Lib.SliceRun
import Derived.Deep.Upon
set_option linter.unusedSimpArgs false
set_option linter.unusedVariables false
namespace Go.Proofs.Ytbmfojeklhbocaa
open Go.RowKit Go.Shelf
attribute [local go_sem] Oper.semAt_some

def vS (l : List ByteArray) : List Value := l.map Value.string
theorem Try.infoStr : (Try.prog.info? 9).map (fun i => (i.zero, i.size, i.bytes)) = some (some (.string ⟨#[]⟩), 1, 16) := by kernel_rfl
set_option maxRecDepth 100000 in
set_option maxHeartbeats 4000000 in
theorem words_in (F : Fence) (n : Nat) (h12 : F.fn 12) (h28 : F.fn 28) (hro : F.round = none) (hn : 3 ≤ n) (w : World) :
    CallsIn F n Try.prog 12 #[] w fun e W' => ∃ v, e = .returned v ∧ W'.ownsRow w.heap.size 9 1 v wordsS.length (vS wordsS) ∧ Below w.heap.size w W' := by
  have h1 : 1 ≤ n := by omega
  obtain ⟨i0, hi, hz0, hz1, hz2⟩ := info_parts Try.infoStr
  refine callsIn_of_wp_marks Try.func12 rfl h12 ?_ hro
  simp only [Try.ntmps12, List.size_toArray, List.length_cons, List.length_nil, Nat.reduceAdd, Nat.reduceSub, Array.replicate_succ, Array.replicate_zero, List.push_toArray, List.append_toArray, List.nil_append, List.cons_append]
  gi_wp2
  have bO := Boxed.new w 30 (.slice none 0 0)
  have hB0 : Below w.heap.size w (w.alloc (.cells #[.slice none 0 0] 30)) := (Below.refl _ w).alloc (Nat.le_refl _) _
  refine wpIn_rangeFunc_ownG hro h1 (gf := 28) (lb := #[]) rfl h28 (enters_of Try.func28 (by kernel_rfl) rfl)
    (words_stops F (n - 1) h28 hro (by omega) w.heap.size _) belowK_t (belowK_b (by simp)) (Below.refl _ _) (fun _ => rfl)
    (fun pre W => (∃ v, Boxed W w.heap.size 30 v ∧ W.ownsRow w.heap.size 9 1 v pre.length (vS pre) ∧ True) ∧ Below w.heap.size w W)
    (fun _ _ _ => False)
    (OwnFrom.and (Own.from (holdsRow_own w.heap.size w.heap.size 30 9 1 (fun pre => pre.length) (fun pre => vS pre) (fun pre v => True)) _) (ownFrom_below (Nat.le_refl _) (by simp)))
    (fun _ _ _ _ _ hs _ _ => hs)
    ⟨⟨_, bO, World.ownsRow_nil _ _ _ _, trivial⟩, hB0⟩
    (fun x => { tmps := #[.slice none 0 0, .pointer (some ⟨w.heap.size, 0, none⟩), .string x, .string x, undef, undef, undef, undef, undef], defers := [] }) ?assign ?body ?done ?stop
  case assign =>
    intro l x W K hK
    gi_wp2
    exact hK
  case body =>
    rintro l pre x W ⟨⟨v, hv, hrow, _⟩, hB⟩ hlt
    have hc := hv.cell
    gi_wp2_with (gi_at_builtin; refine wpListIn_append_own _ rfl _ _ 30 rfl w.heap.size 9 i0 (.string ⟨#[]⟩) 1 16 Try.underlying30 hi hz0 hz1 hz2 rfl (by decide) _ _ _ rfl (hrow.alloc _) ⟨W.heap.size, 0, none⟩ 1 1 [.string x] rfl rfl (cell_one_new _ _ _) (by simp [Value.oneCell']) (by unfold maxLen; omega) (by omega) (by have := hB.size; simp; omega) ?_; intro v' w1 hown' hgrow _; obtain ⟨g', cap', rfl⟩ := ownsRow_succ hown'; obtain ⟨hv1, hv2, hr2, hk2, hb2⟩ := hv.appended (by decide) hrow hB.size (Nat.le_refl _) hown' hgrow; have hc1 := hv1.cell; have hf1 := hv1.frozen)
    exact ⟨hk2.from _, hb2, ⟨_, hv2, by simpa [vS] using hr2, trivial⟩, hB.trans hb2⟩
  case done =>
    rintro D ys W hD rfl ⟨⟨v, hv, hrow, _⟩, hB⟩ hK
    have hc := hv.cell
    gi_wp2
    refine ⟨by simp, .inl ⟨_, _, rfl, run_takeDeferred hK, ?_⟩⟩
    exact ⟨_, results_tmp rfl _ _ _, v, rfl, ownsRow_putObj hrow _ hK rfl, hB.trans (belowK_b (w := w) (Nat.le_refl _) W D _ _ (by simp at hD; omega) hK rfl rfl)⟩
  case stop =>
    rintro D c pre W _ _ h _
    exact h.elim
theorem wordsS_len : wordsS.length = 24 := rfl
theorem words_any (w : World) : Calls Try.prog 12 #[] w fun e W' => ∃ A c, e = .returned (.slice A 24 c) ∧ 24 ≤ c ∧ W'.ownsRow w.heap.size 9 1 (.slice A 24 c) 24 (vS wordsS) ∧ Below w.heap.size w W' := by
  refine (callsIn_wide.1 (words_in Fence.wide 3 trivial trivial rfl (by omega) w)).mono ?_
  rintro e W' ⟨v, rfl, hown, hb⟩
  rw [wordsS_len] at hown
  obtain ⟨A, c, rfl, hc⟩ := own_form hown
  exact ⟨A, c, rfl, hc, hown, hb⟩
theorem rwords_any (w : World) : Calls Try.prog 13 #[] w fun e W' => e = .returned (.slice (some ⟨w.heap.size, 0, none⟩) 24 24) ∧ W' = w.alloc (.cells (vS wordsS).toArray 9) := by
  go_enter Try.func13, Try.ntmps13
  go_wp2
  go_ret
  exact ⟨rfl, rfl⟩
theorem vS_at {k : Nat} {x : ByteArray} (h : wordsS[k]? = some x) : (vS wordsS)[k]? = some (.string x) := by
  unfold vS; rw [List.getElem?_map, h]; rfl
set_option maxHeartbeats 2000000 in
theorem rword_any (s : ByteArray) (w : World) : Calls Try.prog 15 #[.string s] w (RetB w (.bool (wordB s.data.toList))) := by
  have RW := Lib.hid fun W => rwords_any W
  go_enter Try.func15, Try.ntmps15
  go_wp2_with fail
  refine (RW.out _).mono ?_
  rintro e w1 ⟨rfl, hw1⟩
  have hbl : Blk w1 w.heap.size 9 (vS wordsS).toArray := by rw [hw1]; exact Blk.new _ _ _
  have hb : Below w.heap.size w w1 := by rw [hw1]; exact ball (Below.refl _ _) _
  clear hw1
  go_wp2_with fail
  go_loopw [8] (fun iv wr => ∃ k : Nat, k ≤ 24 ∧ iv = .int .i64 k ∧ (∀ y ∈ wordsS.take k, y ≠ s) ∧ wr = w1) (fun iv _ => 24 - (intOf iv).toNat)
  case atStart => exact ⟨0, by omega, rfl, by simp, rfl⟩
  case round =>
    obtain ⟨k, hk, rfl, hne, rfl⟩ := hrel
    have q0 : (0 : Int) ≤ (k : Int) := by omega
    have HN := Lib.hid hne
    clear hne
    by_cases hlt : k < 24
    · have q1 : (k : Int) < 24 := by omega
      obtain ⟨x, hx⟩ : ∃ x, wordsS[k]? = some x := ⟨_, List.getElem?_eq_getElem (show k < wordsS.length from hlt)⟩
      have cx : wr.cell? ⟨w.heap.size, k, none⟩ = some (.string x) := (hbl.cell k).trans (by simpa using vS_at hx)
      have hst : Hid (x ≠ s → ∀ y ∈ wordsS.take (k + 1), y ≠ s) := Lib.hid (fun h y hy => by
        rw [List.take_add_one, hx] at hy
        rcases List.mem_append.1 hy with hy | hy
        · exact HN.out y hy
        · simp at hy; subst hy; exact h)
      have hmem : Hid (x = s → wordB s.data.toList = true) := Lib.hid (fun h => (word_mem s).1 (h ▸ List.mem_of_getElem? hx))
      clear hx
      by_cases hxs : x.toList = s.toList
      · have hxb : (x.toList == s.toList) = true := by simpa using hxs
        have hF := Lib.hid (hmem.out (beq_bytes _ _ hxs))
        go_wp2
        go_ret
        exact ⟨by rw [hF.out]; rfl, hb⟩
      · have hxb : (x.toList == s.toList) = false := by simpa using hxs
        have hF := Lib.hid (hst.out (fun e => hxs (by rw [e])))
        go_wp2
        go_roundw
        case rel => exact ⟨k + 1, by omega, by go_num, hF.out, by trivial⟩
        case measure => simp [intOf]; omega
    · obtain rfl : k = 24 := by omega
      have hF : Hid (wordB s.data.toList = false) := Lib.hid (Bool.eq_false_iff.2 fun h => HN.out s ((word_mem s).2 h) rfl)
      go_wp2
      go_ret
      exact ⟨by rw [hF.out]; rfl, hb⟩
theorem Try.zeroStr (w : World) : (zeroValue 9).run Try.prog w = .ok (.string ⟨#[]⟩) w := by kernel_rfl
theorem below_setCellsX {B g : Nat} {w0 : World} (hB : B ≤ g) : ∀ (vs : List Value) (o : Nat) (w : World), Below B w0 w → Below B w0 (w.setCells g o vs)
  | [], _, _, h => h
  | v :: r, o, w, h => below_setCellsX hB r (o + 1) _ (h.setCell hB v)
theorem size_setCellsX (g : Nat) : ∀ (vs : List Value) (o : Nat) (w : World), (w.setCells g o vs).heap.size = w.heap.size
  | [], _, _ => rfl
  | v :: r, o, w => (size_setCellsX g r (o + 1) _).trans (by simp [World.setCell])
/-- clear of strings of the call's own. -/
theorem clearS {w : World} {base c : Nat} {A : Option Addr} {l : List ByteArray} (h : w.ownsRow base 9 1 (.slice A 24 c) 24 (vS l)) :
    ∃ w', (∀ ty, (Builtin.clear_ #[30] ty #[.slice A 24 c]).run Try.prog w = .ok (.tuple #[]) w') ∧ (∀ B w0, B ≤ base → Below B w0 w → Below B w0 w') ∧
      (∀ g, g < base → w'.heap[g]? = w.heap[g]?) ∧ (∀ g, (Value.slice A 24 c).ownBlock ≠ some g → g < w.heap.size → w'.heap[g]? = w.heap[g]?) ∧ w.heap.size ≤ w'.heap.size := by
  obtain ⟨g, cap, hv, hbase, hlt⟩ := World.ownsRow.form h (by omega)
  have hA : A = some ⟨g, 0, none⟩ := by injection hv
  have hcc : c = cap := by injection hv
  subst hA; subst hcc
  have hl := h.1
  refine ⟨w.setCells g 0 (List.replicate 24 (.string ⟨#[]⟩)), fun ty => ?_, ?_, ?_, ?_, by rw [size_setCellsX]; exact Nat.le_refl _⟩
  · refine Lib.run_clear_slice w _ _ ty _ Try.underlying30 Try.zeroStr rfl rfl g 0 24 c (by omega) (fun j hj => ?_) (fun j hj => ?_)
    · rw [Nat.zero_add, h.cellAt j (by omega), List.getElem?_eq_getElem (by omega)]
      rfl
    · rw [Nat.zero_add]
      exact h.frozenAt j
  · intro B w0 hB hb
    exact below_setCellsX (by omega) _ _ _ hb
  · intro g' hg'
    exact World.heap_setCells_other w g 0 _ (by omega) (by omega)
  · intro g' hne hg'
    refine World.heap_setCells_other w g 0 _ hg' (fun e => hne ?_)
    subst e
    rfl
end Go.Proofs.Ytbmfojeklhbocaa

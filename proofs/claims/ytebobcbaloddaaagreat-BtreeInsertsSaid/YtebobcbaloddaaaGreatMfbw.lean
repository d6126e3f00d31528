/-
  B50 B51 B52 B53 B54 B55 B56 B63 B57 B58 B59 B60 B61 B64.
-/
import Derived.Test.YtebobcbaloddaaaGreatMfbv
import Derived.Test.YtebobcbaloddaaaGreatMfbs
import Derived.Test.YtebobcbaloddaaaGreatMfbr
import Derived.Test.YtebobcbaloddaaaGreatMfbp
import Derived.Test.YtebobcbaloddaaaGreatMfbe
import Derived.Test.YtebobcbaloddaaaGreatMfbg
import Derived.Laws.Externs
import Derived.BigQuiet
import Derived.Deep.DeepCutAuto
import Derived.BigRegion
namespace Go.Proofs.YtebobcbaloddaaaGreat
section
set_option linter.unusedSimpArgs false
set_option linter.unusedVariables false
open Go.RowKit Go.Maps
theorem row_facts {w w' : World} {b g : Nat} {e : TypeId} {cur C : Array Value} {ns : Array Value} (hw : w' = w.setRow b C) (hB : Blk w b e cur) (hx : Blk w g e ns) (hgb : g ≠ b) : Blk w' b e C ∧ Blk w' g e ns ∧ EvT (fun k => k = b) w w' := by
 subst hw
 refine ⟨setRow_heap w b cur C e _ hB, (setRow_other w b g C hgb).trans hx, ⟨rfl, rfl, rfl, by simp [World.setRow], fun k hk hne => setRow_other w b k C hne⟩⟩
theorem src_at {w : World} {b i sz m : Nat} {e : TypeId} {cur : Array Value} {xs : List Value} {j : Nat} {v : Value} (hB : Blk w b e cur) (hxs : cur.toList.take m = xs) (hj : (xs.drop (i * sz))[j]? = some v) : w.cell? ((⟨b, i * sz, none⟩ : Addr).add j) = some v := by
 have e : (⟨b, i * sz, none⟩ : Addr).add j = ⟨b, i * sz + j, none⟩ := by unfold Addr.add; split <;> simp_all
 rw [e, hB.cell]
 rw [List.getElem?_drop, ← hxs, List.getElem?_take] at hj
 split at hj
 · simpa using hj
 · cases hj
theorem ins_row {cur : List Value} {xs news : List Value} {n i sz : Nat} (hxs : cur.take (n * sz) = xs) (hi : i < n) (hl : news.length = sz) (hc : (n + 1) * sz ≤ cur.length) :
 (((cur.take ((i + 1) * sz) ++ xs.drop (i * sz) ++ cur.drop ((i + 1) * sz + (xs.drop (i * sz)).length)).take (i * sz) ++ news ++ (cur.take ((i + 1) * sz) ++ xs.drop (i * sz) ++ cur.drop ((i + 1) * sz + (xs.drop (i * sz)).length)).drop (i * sz + news.length))).take ((n + 1) * sz) = xs.take (i * sz) ++ news ++ xs.drop (i * sz) := by
 have e1 : (i + 1) * sz = i * sz + sz := by rw [Nat.add_mul, Nat.one_mul]
 have e2 : (n + 1) * sz = n * sz + sz := by rw [Nat.add_mul, Nat.one_mul]
 have e3 : (i + 1) * sz ≤ n * sz := Nat.mul_le_mul_right _ (by omega)
 rw [e1] at e3 ⊢
 rw [e2] at hc ⊢
 generalize i * sz = p at *
 generalize n * sz = q at *
 subst hl
 have hxl : xs.length = q := by rw [← hxs, List.length_take]; omega
 have hdl : (xs.drop p).length = q - p := by rw [List.length_drop, hxl]
 have t1 : (cur.take (p + news.length) ++ xs.drop p ++ cur.drop (p + news.length + (xs.drop p).length)).take p = xs.take p := by
  rw [List.append_assoc, List.take_append_of_le_length (by rw [List.length_take]; omega), List.take_take, Nat.min_eq_left (by omega), ← hxs, List.take_take, Nat.min_eq_left (by omega)]
 have t2 : (cur.take (p + news.length) ++ xs.drop p ++ cur.drop (p + news.length + (xs.drop p).length)).drop (p + news.length) = xs.drop p ++ cur.drop (p + news.length + (xs.drop p).length) := by
  rw [List.append_assoc, List.drop_left' (by rw [List.length_take]; omega)]
 rw [t1, t2]
 have hlen : (xs.take p ++ news ++ xs.drop p).length = q + news.length := by
  simp only [List.length_append, List.length_take, hdl]; omega
 rw [← List.append_assoc, ← hlen, List.take_left]
set_option maxRecDepth 100000 in
set_option maxHeartbeats 8000000 in
theorem insE_room {w : World} {base n c g b i : Nat} {cur : Array Value} {xs news : List Value} (hB : Blk w b 37 cur) (hbb : base ≤ b) (hc : n + 1 ≤ c) (hcm : c ≤ maxLen) (hcs : cur.size = c * 3) (hxs : cur.toList.take (n * 3) = xs) (hi : i < n) (hn : n ≤ 100000) (hx : Blk w g 37 news.toArray) (hl : news.length = 3) (h1 : ∀ u ∈ xs ++ news, u.oneCell' = true) (hgb : g ≠ b) :
 Calls Tryz.prog 31 #[.slice (some ⟨b, 0, none⟩) n c, .int .i64 (i : Int), .slice (some ⟨g, 0, none⟩) 1 1] w (RetIn w base 37 3 (some ⟨b, 0, none⟩) n c (xs.take (i * 3) ++ news ++ xs.drop (i * 3))) := by
 have hsz : (Tryz.prog.info? 37).map (·.size) = some 3 := by
  obtain ⟨i0, hi0, hz0, hs0, hy0⟩ := int_info8 Tryz.infoE
  rw [hi0]; simp [hs0]
 have hxl : xs.length = n * 3 := by rw [← hxs, List.length_take, Array.length_toList, hcs]; apply Nat.min_eq_left; omega
 have hnl : news.toArray.size = 3 := by simp [hl]
 have hov : ∀ lb cb, (callFunc 62 #[.slice (some ⟨g, 0, none⟩) 1 1, .slice (some ⟨b, (i + 1) * 3, none⟩) lb cb]).run Tryz.prog w = .ok (.value (.bool false)) w := fun lb cb => by
  rw [run_callFunc_extern Tryz.func62 (by kernel_rfl) (by kernel_rfl) (by kernel_rfl) (e := Extern.SlicesOverlaps.overlaps #[22, 22] #[4]) (by kernel_rfl),
   Lib.run_overlaps_apart w 22 4 37 Tryz.underlying22 3 (fun w => by
    cases hq : Tryz.prog.info? 37 with
    | none => rw [hq] at hsz; simp at hsz
    | some j =>
      rw [hq] at hsz
      have hj : j.size = 3 := by simpa using hsz
      simp [sizeOf, typeInfo, hq, hj]) ⟨g, 0, none⟩ ⟨b, (i + 1) * 3, none⟩ 1 1 lb cb hgb 37 37 news.toArray.size cur.size (by simp [World.shape?, show w.heap[g]? = _ from hx]) (by simp [World.shape?, show w.heap[b]? = _ from hB]) (by rw [hcs]; omega) (hx.frozen 0) (hx.frozen _)]
  rfl
 have HH := Lib.hid (And.intro hB (And.intro hx (And.intro hxs (And.intro hxl (And.intro h1 (And.intro hcs hl))))))
 clear hB hx hxs hxl h1 hcs hl hnl
 have i0 : (0 : Int) ≤ (i : Int) := by omega
 have i1 : (i : Int) < (n : Int) := by omega
 have iln : (i : Int) ≤ (n : Int) := by omega
 have ne1 : ¬ (i : Int) = (n : Int) := by omega
 have c1 : (n : Int) + 1 ≤ (c : Int) := by omega
 have i2 : (0 : Int) ≤ (i : Int) + 1 := by omega
 have i3 : (i : Int) + 1 ≤ (n : Int) + 1 := by omega
 have i4 : (i : Int) ≤ (n : Int) + 1 := by omega
 have hcI : (c : Int) ≤ 9223372036854775807 := by unfold maxLen at hcm; omega
 have hw1 : IntKind.i64.wrap ((i : Int) + 1) = (i : Int) + 1 := IntWalk.i64_in _ (by omega)
 have hci : ¬ c = i := by omega
 have hci1 : ¬ c = i + 1 := by omega
 have htn : ((i : Int) + 1).toNat = i + 1 := by omega
 go_enter Tryz.func31, Tryz.ntmps31
 have hil : i * 3 ≤ n * 3 := by omega
 have hil1 : (i + 1) * 3 = i * 3 + 3 := by omega
 have hnl1 : (n + 1) * 3 = n * 3 + 3 := by omega
 have hncl : (n + 1) * 3 ≤ c * 3 := by omega
 have hcl : (xs.drop (i * 3)).length = (n - i) * 3 := by rw [List.length_drop, HH.out.2.2.2.1]; omega
 have hsum : (i + 1) * 3 + (n - i) * 3 = (n + 1) * 3 := by omega
 have HN := Lib.hid (And.intro hil (And.intro hil1 (And.intro hnl1 (And.intro hncl (And.intro hcl hsum)))))
 clear hil hil1 hnl1 hncl hcl hsum
 obtain ⟨C1, hC1⟩ : ∃ C1, C1 = (cur.toList.take ((i + 1) * 3) ++ xs.drop (i * 3) ++ cur.toList.drop ((i + 1) * 3 + (xs.drop (i * 3)).length)).toArray := ⟨_, rfl⟩
 have hC1s : C1.size = c * 3 := by
  rw [hC1]
  simp only [List.size_toArray, List.length_append, List.length_take, List.length_drop, Array.length_toList, HH.out.2.2.2.2.2.1, HH.out.2.2.2.1]
  have h1 := HN.out.2.1; have h2 := HN.out.2.2.2.1; have h3 := HN.out.1; have h4 := HN.out.2.2.1
  omega
 have HC1 := Lib.hid hC1s
 have HCE := Lib.hid hC1
 clear hC1s hC1
 go_upto_region 15 with (simp only [hov])
 clear hov
 go_region_law (go_loud (refine step_copyS (w := w.drew) rfl (.tmp 73) (.tmp 76) 22 22 rfl 37 3 Tryz.underlying22 hsz b ((i + 1) * 3) (n + 1 - (i + 1)) (c - (i + 1)) ⟨b, i * 3, none⟩ (n + 1 - i) (c - i) (n - i) (by simp [Act.eval, Act.put]) (by simp [Act.eval, Act.put]) cur 37 HH.out.1 (xs.drop (i * 3)) (by simp only [Nat.min_def]; split <;> omega) HN.out.2.2.2.2.1 (fun j v hj => src_at HH.out.1.drew HH.out.2.2.1 hj) (by rw [HN.out.2.2.2.2.1, HH.out.2.2.2.2.2.1, HN.out.2.2.2.2.2]; exact HN.out.2.2.2.1) (fun v hv => HH.out.2.2.2.2.1 v (List.mem_append_left _ (List.mem_of_mem_drop hv))) ?_); intro w1 e1; rw [← HCE.out] at e1; have H1 := Lib.hid (row_facts e1 HH.out.1.drew HH.out.2.1.drew hgb); clear e1)
 go_wp2_with (refine wpList_copyS rfl (.tmp 80) (.tmp 81) 22 22 rfl 37 3 Tryz.underlying22 hsz b (i * 3) (n + 1 - i) (c - i) ⟨g, 0, none⟩ 1 1 1 rfl rfl C1 37 H1.out.1 news (by simp only [Nat.min_def]; split <;> omega) HH.out.2.2.2.2.2.2 (fun j v hj => by rw [add_head, H1.out.2.1.cell]; simpa using hj) (by rw [HC1.out, HH.out.2.2.2.2.2.2]; have h1 := HN.out.2.1; have h2 := HN.out.2.2.2.1; have h3 := HN.out.1; have h4 := HN.out.2.2.1; omega) (fun v hv => HH.out.2.2.2.2.1 v (List.mem_append_right _ hv)) ?_; intro w2 e2; have H2 := Lib.hid (row_facts e2 H1.out.1 H1.out.2.1 hgb); clear e2)
 go_ret
 have hfin := ins_row (news := news) HH.out.2.2.1 hi HH.out.2.2.2.2.2.2 (by rw [Array.length_toList, HH.out.2.2.2.2.2.1]; exact HN.out.2.2.2.1)
 refine ⟨some ⟨b, 0, none⟩, c, rfl, ⟨?_, .inr ⟨b, c, _, rfl, hbb, H2.out.1, hc, hcm, ?_, ?_⟩⟩, ?_, fun k e => .inl e⟩
 · simp only [List.length_append, List.length_take, HN.out.2.2.2.2.1, HH.out.2.2.2.1, HH.out.2.2.2.2.2.2]
   have h1 := HN.out.1; have h2 := HN.out.2.2.1; omega
 · simp only [List.size_toArray, List.length_append, List.length_take, List.length_drop, Array.length_toList, HC1.out, HH.out.2.2.2.2.2.2]
   have h1 := HN.out.2.1; have h2 := HN.out.2.2.2.1; have h3 := HN.out.1; have h4 := HN.out.2.2.1
   omega
 · rw [List.toList_toArray, HCE.out, List.toList_toArray]
   exact hfin
 · refine ((EvT.of_below (Below.drew (Below.refl _ _))).trans (H1.out.2.2.trans H2.out.2.2 fun k e => .inl e) fun k e => ?_)
   subst e
   exact .inl rfl
end
end Go.Proofs.YtebobcbaloddaaaGreat
namespace Go.Proofs.YtebobcbaloddaaaGreat
section
set_option linter.unusedSimpArgs false
set_option linter.unusedVariables false
open Go.RowKit Go.Maps
set_option maxRecDepth 100000 in
set_option maxHeartbeats 8000000 in
theorem insN_room {w : World} {base n c g b i : Nat} {cur : Array Value} {xs news : List Value} (hB : Blk w b 30 cur) (hbb : base ≤ b) (hc : n + 1 ≤ c) (hcm : c ≤ maxLen) (hcs : cur.size = c) (hxs : cur.toList.take (n) = xs) (hi : i < n) (hn : n ≤ 100000) (hx : Blk w g 30 news.toArray) (hl : news.length = 1) (h1 : ∀ u ∈ xs ++ news, u.oneCell' = true) (hgb : g ≠ b) :
 Calls Tryz.prog 69 #[.slice (some ⟨b, 0, none⟩) n c, .int .i64 (i : Int), .slice (some ⟨g, 0, none⟩) 1 1] w (RetIn w base 30 1 (some ⟨b, 0, none⟩) n c (xs.take (i) ++ news ++ xs.drop (i))) := by
 have hsz : (Tryz.prog.info? 30).map (·.size) = some 1 := by
  obtain ⟨i0, hi0, hz0, hs0, hy0⟩ := int_info8 Tryz.infoN
  rw [hi0]; simp [hs0]
 have hxl : xs.length = n := by rw [← hxs, List.length_take, Array.length_toList, hcs]; apply Nat.min_eq_left; omega
 have hnl : news.toArray.size = 1 := by simp [hl]
 have hov : ∀ lb cb, (callFunc 96 #[.slice (some ⟨g, 0, none⟩) 1 1, .slice (some ⟨b, (i + 1), none⟩) lb cb]).run Tryz.prog w = .ok (.value (.bool false)) w := fun lb cb => by
  rw [run_callFunc_extern Tryz.func96 (by kernel_rfl) (by kernel_rfl) (by kernel_rfl) (e := Extern.SlicesOverlaps.overlaps #[73, 73] #[4]) (by kernel_rfl),
   Lib.run_overlaps_apart w 73 4 30 Tryz.underlying73 1 (fun w => by
    cases hq : Tryz.prog.info? 30 with
    | none => rw [hq] at hsz; simp at hsz
    | some j =>
      rw [hq] at hsz
      have hj : j.size = 1 := by simpa using hsz
      simp [sizeOf, typeInfo, hq, hj]) ⟨g, 0, none⟩ ⟨b, (i + 1), none⟩ 1 1 lb cb hgb 30 30 news.toArray.size cur.size (by simp [World.shape?, show w.heap[g]? = _ from hx]) (by simp [World.shape?, show w.heap[b]? = _ from hB]) (by rw [hcs]; omega) (hx.frozen 0) (hx.frozen _)]
  rfl
 have HH := Lib.hid (And.intro hB (And.intro hx (And.intro hxs (And.intro hxl (And.intro h1 (And.intro hcs hl))))))
 clear hB hx hxs hxl h1 hcs hl hnl
 have i0 : (0 : Int) ≤ (i : Int) := by omega
 have i1 : (i : Int) < (n : Int) := by omega
 have iln : (i : Int) ≤ (n : Int) := by omega
 have ne1 : ¬ (i : Int) = (n : Int) := by omega
 have c1 : (n : Int) + 1 ≤ (c : Int) := by omega
 have i2 : (0 : Int) ≤ (i : Int) + 1 := by omega
 have i3 : (i : Int) + 1 ≤ (n : Int) + 1 := by omega
 have i4 : (i : Int) ≤ (n : Int) + 1 := by omega
 have hcI : (c : Int) ≤ 9223372036854775807 := by unfold maxLen at hcm; omega
 have hw1 : IntKind.i64.wrap ((i : Int) + 1) = (i : Int) + 1 := IntWalk.i64_in _ (by omega)
 have hci : ¬ c = i := by omega
 have hci1 : ¬ c = i + 1 := by omega
 have htn : ((i : Int) + 1).toNat = i + 1 := by omega
 go_enter Tryz.func69, Tryz.ntmps69
 have hil : i ≤ n := by omega
 have hil1 : (i + 1) = i + 1 := by omega
 have hnl1 : (n + 1) = n + 1 := by omega
 have hncl : (n + 1) ≤ c := by omega
 have hcl : (xs.drop (i)).length = (n - i) := by rw [List.length_drop, HH.out.2.2.2.1]
 have hsum : (i + 1) + (n - i) = (n + 1) := by omega
 have HN := Lib.hid (And.intro hil (And.intro hil1 (And.intro hnl1 (And.intro hncl (And.intro hcl hsum)))))
 clear hil hil1 hnl1 hncl hcl hsum
 obtain ⟨C1, hC1⟩ : ∃ C1, C1 = (cur.toList.take ((i + 1)) ++ xs.drop (i) ++ cur.toList.drop ((i + 1) + (xs.drop (i)).length)).toArray := ⟨_, rfl⟩
 have hC1s : C1.size = c := by
  rw [hC1]
  simp only [List.size_toArray, List.length_append, List.length_take, List.length_drop, Array.length_toList, HH.out.2.2.2.2.2.1, HH.out.2.2.2.1]
  have h1 := HN.out.2.1; have h2 := HN.out.2.2.2.1; have h3 := HN.out.1; have h4 := HN.out.2.2.1
  omega
 have HC1 := Lib.hid hC1s
 have HCE := Lib.hid hC1
 clear hC1s hC1
 go_upto_region 15 with (simp only [hov])
 clear hov
 go_region_law (go_loud (refine step_copyS (w := w.drew) rfl (.tmp 73) (.tmp 76) 73 73 rfl 30 1 Tryz.underlying73 hsz b ((i + 1)) (n + 1 - (i + 1)) (c - (i + 1)) ⟨b, i, none⟩ (n + 1 - i) (c - i) (n - i) (by simp [Act.eval, Act.put]) (by simp [Act.eval, Act.put]) cur 30 HH.out.1 (xs.drop (i)) (by simp only [Nat.min_def]; split <;> omega) (by rw [HN.out.2.2.2.2.1, Nat.mul_one]) (fun j v hj => by have h := src_at (sz := 1) (i := i) (m := n) HH.out.1.drew HH.out.2.2.1 (j := j) (v := v) (by rw [Nat.mul_one]; exact hj); rw [Nat.mul_one] at h; exact h) (by rw [HN.out.2.2.2.2.1, HH.out.2.2.2.2.2.1, HN.out.2.2.2.2.2]; exact HN.out.2.2.2.1) (fun v hv => HH.out.2.2.2.2.1 v (List.mem_append_left _ (List.mem_of_mem_drop hv))) ?_); intro w1 e1; rw [← HCE.out] at e1; have H1 := Lib.hid (row_facts e1 HH.out.1.drew HH.out.2.1.drew hgb); clear e1)
 go_wp2_with (refine wpList_copyS rfl (.tmp 80) (.tmp 81) 73 73 rfl 30 1 Tryz.underlying73 hsz b (i) (n + 1 - i) (c - i) ⟨g, 0, none⟩ 1 1 1 rfl rfl C1 30 H1.out.1 news (by simp only [Nat.min_def]; split <;> omega) HH.out.2.2.2.2.2.2 (fun j v hj => by rw [add_head, H1.out.2.1.cell]; simpa using hj) (by rw [HC1.out, HH.out.2.2.2.2.2.2]; have h1 := HN.out.2.1; have h2 := HN.out.2.2.2.1; have h3 := HN.out.1; have h4 := HN.out.2.2.1; omega) (fun v hv => HH.out.2.2.2.2.1 v (List.mem_append_right _ hv)) ?_; intro w2 e2; have H2 := Lib.hid (row_facts e2 H1.out.1 H1.out.2.1 hgb); clear e2)
 go_ret
 have hfin := ins_row (sz := 1) (n := n) (i := i) (news := news) (cur := cur.toList) (xs := xs) (by rw [Nat.mul_one]; exact HH.out.2.2.1) hi HH.out.2.2.2.2.2.2 (by rw [Array.length_toList, HH.out.2.2.2.2.2.1]; omega)
 simp only [Nat.mul_one] at hfin
 refine ⟨some ⟨b, 0, none⟩, c, rfl, ⟨?_, .inr ⟨b, c, _, rfl, hbb, H2.out.1, hc, hcm, ?_, ?_⟩⟩, ?_, fun k e => .inl e⟩
 · simp only [List.length_append, List.length_take, HN.out.2.2.2.2.1, HH.out.2.2.2.1, HH.out.2.2.2.2.2.2]
   have h1 := HN.out.1; have h2 := HN.out.2.2.1; omega
 · simp only [List.size_toArray, List.length_append, List.length_take, List.length_drop, Array.length_toList, HC1.out, HH.out.2.2.2.2.2.2]
   have h1 := HN.out.2.1; have h2 := HN.out.2.2.2.1; have h3 := HN.out.1; have h4 := HN.out.2.2.1
   omega
 · rw [List.toList_toArray, HCE.out, List.toList_toArray]
   rw [Nat.mul_one]; first | exact hfin | rw [hfin, List.append_assoc]
 · refine ((EvT.of_below (Below.drew (Below.refl _ _))).trans (H1.out.2.2.trans H2.out.2.2 fun k e => .inl e) fun k e => ?_)
   subst e
   exact .inl rfl
end
end Go.Proofs.YtebobcbaloddaaaGreat
namespace Go.Proofs.YtebobcbaloddaaaGreat
section
set_option linter.unusedSimpArgs false
set_option linter.unusedVariables false
open Go.RowKit Go.Maps
theorem grow_facts {w : World} {b g i G sz m : Nat} {e : TypeId} {cur ns row : Array Value} {xs : List Value} (hB : Blk w b e cur) (hx : Blk w g e ns) (h : m ≤ G ∧ G ≤ maxLen ∧ row.size = G * sz ∧ row.toList.take (i * sz) = xs.take (i * sz)) :
 Blk ((w.alloc (.cells row e)).drew) w.heap.size e row ∧ Blk ((w.alloc (.cells row e)).drew) b e cur ∧ Blk ((w.alloc (.cells row e)).drew) g e ns ∧ EvT (fun k => (none : Option Nat) = some k) w ((w.alloc (.cells row e)).drew) ∧ m ≤ G ∧ G ≤ maxLen ∧ row.size = G * sz ∧ row.toList.take (i * sz) = xs.take (i * sz) :=
 ⟨(Blk.new w e row).drew, (hB.alloc _).drew, (hx.alloc _).drew, EvT.of_below (Below.drew ((Below.refl w.heap.size w).alloc (Nat.le_refl _) _)), h.1, h.2.1, h.2.2.1, h.2.2.2⟩
theorem row_facts3 {w w' : World} {b g d : Nat} {e : TypeId} {cur C ns cd : Array Value} (hw : w' = w.setRow b C) (hB : Blk w b e cur) (hx : Blk w g e ns) (hd : Blk w d e cd) (hgb : g ≠ b) (hdb : d ≠ b) : Blk w' b e C ∧ Blk w' g e ns ∧ Blk w' d e cd ∧ EvT (fun k => k = b) w w' := by
 subst hw
 exact ⟨setRow_heap w b cur C e _ hB, (setRow_other w b g C hgb).trans hx, (setRow_other w b d C hdb).trans hd, ⟨rfl, rfl, rfl, by simp [World.setRow], fun k hk hne => setRow_other w b k C hne⟩⟩
theorem grow_row {row : List Value} {xs news : List Value} {n i sz G : Nat} (hx : xs.length = n * sz) (hrs : row.length = G * sz) (hG : n + 1 ≤ G) (hrt : row.take (i * sz) = xs.take (i * sz)) (hi : i < n) (hl : news.length = sz) :
 (((row.take (i * sz) ++ news ++ row.drop (i * sz + news.length)).take ((i + 1) * sz) ++ xs.drop (i * sz) ++ (row.take (i * sz) ++ news ++ row.drop (i * sz + news.length)).drop ((i + 1) * sz + (xs.drop (i * sz)).length))).take ((n + 1) * sz) = xs.take (i * sz) ++ news ++ xs.drop (i * sz) := by
 have e1 : (i + 1) * sz = i * sz + sz := by rw [Nat.add_mul, Nat.one_mul]
 have e2 : (n + 1) * sz = n * sz + sz := by rw [Nat.add_mul, Nat.one_mul]
 have e3 : i * sz ≤ n * sz := Nat.mul_le_mul_right _ (by omega)
 have e4 : (n + 1) * sz ≤ G * sz := Nat.mul_le_mul_right _ hG
 rw [e1]
 rw [e2] at e4 ⊢
 generalize i * sz = p at *
 generalize n * sz = q at *
 generalize G * sz = r at *
 subst hl
 have hpl : (xs.take p).length = p := by rw [List.length_take]; omega
 have hdl : (xs.drop p).length = q - p := by rw [List.length_drop, hx]
 rw [hrt]
 have t1 : (xs.take p ++ news ++ row.drop (p + news.length)).take (p + news.length) = xs.take p ++ news := List.take_left' (by rw [List.length_append, hpl])
 rw [t1]
 have hlen : (xs.take p ++ news ++ xs.drop p).length = q + news.length := by
  simp only [List.length_append, hpl, hdl]; omega
 rw [← hlen, List.take_left]
theorem old_at {w : World} {b m p : Nat} {e : TypeId} {cur : Array Value} {xs : List Value} {j : Nat} {v : Value} (hB : Blk w b e cur) (hxs : cur.toList.take m = xs) (hj : (xs.take p)[j]? = some v) : w.cell? ((⟨b, 0, none⟩ : Addr).add j) = some v := by
 rw [add_head, hB.cell]
 rw [List.getElem?_take] at hj
 split at hj
 · rw [← hxs, List.getElem?_take] at hj
   split at hj
   · simpa using hj
   · cases hj
 · cases hj
set_option maxRecDepth 100000 in
set_option maxHeartbeats 8000000 in
theorem insE_grow {w : World} {base n g b i : Nat} {cur : Array Value} {xs news : List Value} (hB : Blk w b 37 cur) (hbb : base ≤ b) (hbase : base ≤ w.heap.size) (hcs : cur.size = n * 3) (hxs : cur.toList.take (n * 3) = xs) (hi : i < n) (hn : n ≤ 100000) (hx : Blk w g 37 news.toArray) (hl : news.length = 3) (h1 : ∀ u ∈ xs ++ news, u.oneCell' = true) (hgb : g ≠ b) :
 Calls Tryz.prog 31 #[.slice (some ⟨b, 0, none⟩) n n, .int .i64 (i : Int), .slice (some ⟨g, 0, none⟩) 1 1] w (RetIn w base 37 3 (some ⟨b, 0, none⟩) n n (xs.take (i * 3) ++ news ++ xs.drop (i * 3))) := by
 obtain ⟨ii, hi0, hz0, hs0, hy0⟩ := int_info8 Tryz.infoE
 have hsz : (Tryz.prog.info? 37).map (·.size) = some 3 := by rw [hi0]; simp [hs0]
 have hxl : xs.length = n * 3 := by rw [← hxs, List.length_take, Array.length_toList, hcs]; omega
 have hil : i * 3 ≤ n * 3 := by omega
 have hil1 : (i + 1) * 3 = i * 3 + 3 := by omega
 have hnl1 : (n + 1) * 3 = n * 3 + 3 := by omega
 have hcl : (xs.drop (i * 3)).length = (n - i) * 3 := by rw [List.length_drop, hxl]; omega
 have htl : (xs.take (i * 3)).length = i * 3 := by rw [List.length_take, hxl]; omega
 have HH := Lib.hid (And.intro hB (And.intro hx (And.intro hxs (And.intro hxl (And.intro h1 (And.intro hcs hl))))))
 have HN := Lib.hid (And.intro hil (And.intro hil1 (And.intro hnl1 (And.intro hcl htl))))
 have hbw := hB.lt
 have hgw := hx.lt
 clear hB hx hxs hxl h1 hcs hl hil hil1 hnl1 hcl htl
 have i0 : (0 : Int) ≤ (i : Int) := by omega
 have i1 : (i : Int) < (n : Int) := by omega
 have iln : (i : Int) ≤ (n : Int) := by omega
 have ne1 : ¬ (i : Int) = (n : Int) := by omega
 have i2 : (0 : Int) ≤ (i : Int) + 1 := by omega
 have i3 : (i : Int) + 1 ≤ (n : Int) + 1 := by omega
 have i4 : (i : Int) ≤ (n : Int) + 1 := by omega
 have hcI : (n : Int) ≤ 9223372036854775807 := by omega
 have hw1 : IntKind.i64.wrap ((i : Int) + 1) = (i : Int) + 1 := IntWalk.i64_in _ (by omega)
 have hci : ¬ n = i := by omega
 have htn : ((i : Int) + 1).toNat = i + 1 := by omega
 obtain ⟨k, hk⟩ : ∃ k : Nat, n + 1 - i = k := ⟨_, rfl⟩
 have hkI : (n : Int) + 1 - (i : Int) = (k : Int) := by omega
 have hik : i + k = n + 1 := by omega
 have hk0 : 0 < k := by omega
 have Hk := Lib.hid (And.intro hk (And.intro hik hk0))
 clear hk hik hk0
 go_enter Tryz.func31, Tryz.ntmps31
 go_wp2_with (first | (at_builtin; refine wpList_zerosM rfl (.tmp 34) (.tmp 39) 22 3 rfl 37 ii _ .i64 .i64 Tryz.underlying22 Tryz.underlying3 hi0 hz0 (by rw [hs0]; rfl) (by rw [hs0]; decide) b i n rfl (xs.take (i * 3)) (by rw [hs0]; exact HN.out.2.2.2.2) (fun j v hj => old_at HH.out.1 HH.out.2.2.1 hj) k (n + 1) rfl Hk.out.2.2 Hk.out.2.1 (by omega) (by omega) (by rw [hy0]; decide) ?_; intro G row hG hGm hrs hrt; rw [hs0] at hrs hrt; have hGi : ¬ G = i := (by omega); have hGi1 : ¬ G = i + 1 := (by omega); have hGc : (n : Int) + 1 ≤ (G : Int) := (by omega); have HR := Lib.hid (grow_facts (w := w) (row := row) HH.out.1 HH.out.2.1 (And.intro hG (And.intro hGm (And.intro hrs hrt)))); clear hG hGm hrs hrt) | (refine wpList_copyS rfl (.tmp 43) (.tmp 44) 22 22 rfl 37 3 Tryz.underlying22 hsz w.heap.size (i * 3) (n + 1 - i) (G - i) ⟨g, 0, none⟩ 1 1 1 rfl rfl row 37 HR.out.1 news (by simp only [Nat.min_def]; split <;> omega) HH.out.2.2.2.2.2.2 (fun j v hj => by rw [add_head, HR.out.2.2.1.cell]; simpa using hj) (by rw [HR.out.2.2.2.2.2.2.1, HH.out.2.2.2.2.2.2]; have := HR.out.2.2.2.2.1; omega) (fun v hv => HH.out.2.2.2.2.1 v (List.mem_append_right _ hv)) ?_; intro w2 e2; have H2 := Lib.hid (row_facts3 e2 HR.out.1 HR.out.2.2.1 HR.out.2.1 (by omega) (by omega)); clear e2))
 obtain ⟨C1, hC1⟩ : ∃ C1, C1 = (row.toList.take (i * 3) ++ news ++ row.toList.drop (i * 3 + news.length)).toArray := ⟨_, rfl⟩
 have hC1s : C1.size = G * 3 := by
  rw [hC1]
  simp only [List.size_toArray, List.length_append, List.length_take, List.length_drop, Array.length_toList, HR.out.2.2.2.2.2.2.1, HH.out.2.2.2.2.2.2]
  have := HR.out.2.2.2.2.1
  omega
 rw [← hC1] at H2
 have HCE := Lib.hid hC1
 have HCS := Lib.hid hC1s
 clear hC1 hC1s
 go_region_law (go_loud (refine step_copyS (w := w2.drew) rfl (.tmp 50) (.tmp 53) 22 22 rfl 37 3 Tryz.underlying22 hsz w.heap.size ((i + 1) * 3) (n + 1 - (i + 1)) (G - (i + 1)) ⟨b, i * 3, none⟩ (n - i) (n - i) (n - i) (by simp [Act.eval, Act.put]) (by simp [Act.eval, Act.put]) C1 37 H2.out.1 (xs.drop (i * 3)) (by simp only [Nat.min_def]; split <;> omega) HN.out.2.2.2.1 (fun j v hj => src_at H2.out.2.2.1.drew HH.out.2.2.1 hj) (by rw [HN.out.2.2.2.1, HCS.out]; have := HR.out.2.2.2.2.1; omega) (fun v hv => HH.out.2.2.2.2.1 v (List.mem_append_left _ (List.mem_of_mem_drop hv))) ?_); intro w3 e3; have H3 := Lib.hid (row_facts3 e3 H2.out.1.drew H2.out.2.1.drew H2.out.2.2.1.drew (by omega) (by omega)); clear e3)
 go_wp2_with fail
 go_ret
 have hfin := grow_row (news := news) HH.out.2.2.2.1 (by rw [Array.length_toList, HR.out.2.2.2.2.2.2.1]) HR.out.2.2.2.2.1 HR.out.2.2.2.2.2.2.2 hi HH.out.2.2.2.2.2.2
 refine ⟨some ⟨w.heap.size, 0, none⟩, G, rfl, ⟨?_, .inr ⟨w.heap.size, G, _, rfl, hbase, H3.out.1, HR.out.2.2.2.2.1, HR.out.2.2.2.2.2.1, ?_, ?_⟩⟩, ?_, fun q e => .inr (by injection e with e; show w.heap.size ≤ q; have e2 : w.heap.size = q := e; omega)⟩
 · simp only [List.length_append, HN.out.2.2.2.1, HN.out.2.2.2.2, HH.out.2.2.2.2.2.2]
   have h2 := HN.out.2.2.1
   omega
 · simp only [List.size_toArray, List.length_append, List.length_take, List.length_drop, Array.length_toList, HCS.out, HN.out.2.2.2.1]
   have := HR.out.2.2.2.2.1
   omega
 · rw [List.toList_toArray, HCE.out, List.toList_toArray]
   exact hfin
 · refine EvT.mono (HR.out.2.2.2.1.trans (H2.out.2.2.2.trans ((EvT.of_below (Below.drew (Below.refl _ _))).trans H3.out.2.2.2 fun q e => .inl e) fun q e => .inl e) fun q e => ?_) (fun q e => by cases e)
   subst e
   exact .inr (Nat.le_refl _)
theorem insE_any {w : World} {base n c g i : Nat} {A : Option Addr} {xs news : List Value} (ho : w.ownsRow base 37 3 (.slice A n c) n xs) (hn : n ≤ 100000) (hbase : base ≤ w.heap.size) (hi : i ≤ n) (hx : Blk w g 37 news.toArray) (hl : news.length = 3) (h1 : ∀ u ∈ xs ++ news, u.oneCell' = true) (hgb : A.map Addr.block ≠ some g) :
 Calls Tryz.prog 31 #[.slice A n c, .int .i64 (i : Int), .slice (some ⟨g, 0, none⟩) 1 1] w (RetIn w base 37 3 A n c (xs.take (i * 3) ++ news ++ xs.drop (i * 3))) := by
 rcases Nat.lt_or_ge i n with h | h
 · have ho' := ho
   obtain ⟨hxl, hc⟩ := ho'
   rcases hc with ⟨_, h0⟩ | ⟨b, cap, cur, e, hbb, hB, hnc, hcm, hcs, hxs⟩
   · omega
   · injection e with e1 _ e3
     subst e1
     subst e3
     have hne : g ≠ b := fun e => hgb (by rw [e]; rfl)
     by_cases hr : n + 1 ≤ c
     · exact insE_room hB hbb hr hcm (by rw [hcs]) (by rw [← hxs]) h hn hx hl h1 hne
     · obtain rfl : c = n := by omega
       exact insE_grow hB hbb hbase (by rw [hcs]) (by rw [← hxs]) h hn hx hl h1 hne
 · obtain rfl : i = n := by omega
   have hxl := ho.1
   have e1 : xs.take (i * 3) = xs := List.take_of_length_le (by omega)
   have e2 : xs.drop (i * 3) = [] := List.drop_eq_nil_of_le (by omega)
   rw [e1, e2, List.append_nil]
   exact insE_end ho hn hbase hx hl h1
end
end Go.Proofs.YtebobcbaloddaaaGreat
namespace Go.Proofs.YtebobcbaloddaaaGreat
section
set_option linter.unusedSimpArgs false
set_option linter.unusedVariables false
open Go.RowKit Go.Maps
set_option maxRecDepth 100000 in
set_option maxHeartbeats 8000000 in
theorem insN_grow {w : World} {base n g b i : Nat} {cur : Array Value} {xs news : List Value} (hB : Blk w b 30 cur) (hbb : base ≤ b) (hbase : base ≤ w.heap.size) (hcs : cur.size = n) (hxs : cur.toList.take (n) = xs) (hi : i < n) (hn : n ≤ 100000) (hx : Blk w g 30 news.toArray) (hl : news.length = 1) (h1 : ∀ u ∈ xs ++ news, u.oneCell' = true) (hgb : g ≠ b) :
 Calls Tryz.prog 69 #[.slice (some ⟨b, 0, none⟩) n n, .int .i64 (i : Int), .slice (some ⟨g, 0, none⟩) 1 1] w (RetIn w base 30 1 (some ⟨b, 0, none⟩) n n (xs.take (i) ++ news ++ xs.drop (i))) := by
 obtain ⟨ii, hi0, hz0, hs0, hy0⟩ := int_info8 Tryz.infoN
 have hsz : (Tryz.prog.info? 30).map (·.size) = some 1 := by rw [hi0]; simp [hs0]
 have hxl : xs.length = n := by rw [← hxs, List.length_take, Array.length_toList, hcs]; omega
 have hil : i ≤ n := by omega
 have hil1 : (i + 1) = i + 1 := by omega
 have hnl1 : (n + 1) = n + 1 := by omega
 have hcl : (xs.drop (i)).length = (n - i) := by rw [List.length_drop, hxl]
 have htl : (xs.take (i)).length = i := by rw [List.length_take, hxl]; omega
 have HH := Lib.hid (And.intro hB (And.intro hx (And.intro hxs (And.intro hxl (And.intro h1 (And.intro hcs hl))))))
 have HN := Lib.hid (And.intro hil (And.intro hil1 (And.intro hnl1 (And.intro hcl htl))))
 have hbw := hB.lt
 have hgw := hx.lt
 clear hB hx hxs hxl h1 hcs hl hil hil1 hnl1 hcl htl
 have i0 : (0 : Int) ≤ (i : Int) := by omega
 have i1 : (i : Int) < (n : Int) := by omega
 have iln : (i : Int) ≤ (n : Int) := by omega
 have ne1 : ¬ (i : Int) = (n : Int) := by omega
 have i2 : (0 : Int) ≤ (i : Int) + 1 := by omega
 have i3 : (i : Int) + 1 ≤ (n : Int) + 1 := by omega
 have i4 : (i : Int) ≤ (n : Int) + 1 := by omega
 have hcI : (n : Int) ≤ 9223372036854775807 := by omega
 have hw1 : IntKind.i64.wrap ((i : Int) + 1) = (i : Int) + 1 := IntWalk.i64_in _ (by omega)
 have hci : ¬ n = i := by omega
 have htn : ((i : Int) + 1).toNat = i + 1 := by omega
 obtain ⟨k, hk⟩ : ∃ k : Nat, n + 1 - i = k := ⟨_, rfl⟩
 have hkI : (n : Int) + 1 - (i : Int) = (k : Int) := by omega
 have hik : i + k = n + 1 := by omega
 have hk0 : 0 < k := by omega
 have Hk := Lib.hid (And.intro hk (And.intro hik hk0))
 clear hk hik hk0
 go_enter Tryz.func69, Tryz.ntmps69
 go_wp2_with (first | (at_builtin; refine wpList_zerosM rfl (.tmp 34) (.tmp 39) 73 3 rfl 30 ii _ .i64 .i64 Tryz.underlying73 Tryz.underlying3 hi0 hz0 (by rw [hs0]; rfl) (by rw [hs0]; decide) b i n rfl (xs.take (i)) (by rw [hs0]; rw [Nat.mul_one]; exact HN.out.2.2.2.2) (fun j v hj => old_at HH.out.1 HH.out.2.2.1 hj) k (n + 1) rfl Hk.out.2.2 Hk.out.2.1 (by omega) (by omega) (by rw [hy0]; decide) ?_; intro G row hG hGm hrs hrt; rw [hs0] at hrs hrt; have hGi : ¬ G = i := (by omega); have hGi1 : ¬ G = i + 1 := (by omega); have hGc : (n : Int) + 1 ≤ (G : Int) := (by omega); have HR := Lib.hid (grow_facts (w := w) (row := row) (sz := 1) (i := i) (xs := xs) HH.out.1 HH.out.2.1 (And.intro hG (And.intro hGm (And.intro hrs (by rw [Nat.mul_one] at hrt ⊢; exact hrt))))); clear hG hGm hrs hrt) | (refine wpList_copyS rfl (.tmp 43) (.tmp 44) 73 73 rfl 30 1 Tryz.underlying73 hsz w.heap.size (i) (n + 1 - i) (G - i) ⟨g, 0, none⟩ 1 1 1 rfl rfl row 30 HR.out.1 news (by simp only [Nat.min_def]; split <;> omega) HH.out.2.2.2.2.2.2 (fun j v hj => by rw [add_head, HR.out.2.2.1.cell]; simpa using hj) (by rw [HR.out.2.2.2.2.2.2.1, HH.out.2.2.2.2.2.2]; have := HR.out.2.2.2.2.1; omega) (fun v hv => HH.out.2.2.2.2.1 v (List.mem_append_right _ hv)) ?_; intro w2 e2; have H2 := Lib.hid (row_facts3 e2 HR.out.1 HR.out.2.2.1 HR.out.2.1 (by omega) (by omega)); clear e2))
 obtain ⟨C1, hC1⟩ : ∃ C1, C1 = (row.toList.take (i) ++ news ++ row.toList.drop (i + news.length)).toArray := ⟨_, rfl⟩
 have hC1s : C1.size = G * 1 := by
  rw [hC1]
  simp only [List.size_toArray, List.length_append, List.length_take, List.length_drop, Array.length_toList, HR.out.2.2.2.2.2.2.1, HH.out.2.2.2.2.2.2]
  have := HR.out.2.2.2.2.1
  omega
 rw [← hC1] at H2
 have HCE := Lib.hid hC1
 have HCS := Lib.hid hC1s
 clear hC1 hC1s
 go_region_law (go_loud (refine step_copyS (w := w2.drew) rfl (.tmp 50) (.tmp 53) 73 73 rfl 30 1 Tryz.underlying73 hsz w.heap.size ((i + 1)) (n + 1 - (i + 1)) (G - (i + 1)) ⟨b, i, none⟩ (n - i) (n - i) (n - i) (by simp [Act.eval, Act.put]) (by simp [Act.eval, Act.put]) C1 30 H2.out.1 (xs.drop (i)) (by simp only [Nat.min_def]; split <;> omega) (by rw [HN.out.2.2.2.1, Nat.mul_one]) (fun j v hj => by have h := src_at (sz := 1) (i := i) (m := n) H2.out.2.2.1.drew HH.out.2.2.1 (j := j) (v := v) (by rw [Nat.mul_one]; exact hj); rw [Nat.mul_one] at h; exact h) (by rw [HN.out.2.2.2.1, HCS.out]; have := HR.out.2.2.2.2.1; omega) (fun v hv => HH.out.2.2.2.2.1 v (List.mem_append_left _ (List.mem_of_mem_drop hv))) ?_); intro w3 e3; have H3 := Lib.hid (row_facts3 e3 H2.out.1.drew H2.out.2.1.drew H2.out.2.2.1.drew (by omega) (by omega)); clear e3)
 go_wp2_with fail
 go_ret
 have hfin := grow_row (sz := 1) (n := n) (i := i) (G := G) (row := row.toList) (xs := xs) (news := news) (by rw [HH.out.2.2.2.1, Nat.mul_one]) (by rw [Array.length_toList, HR.out.2.2.2.2.2.2.1]) HR.out.2.2.2.2.1 HR.out.2.2.2.2.2.2.2 hi HH.out.2.2.2.2.2.2
 simp only [Nat.mul_one] at hfin
 refine ⟨some ⟨w.heap.size, 0, none⟩, G, rfl, ⟨?_, .inr ⟨w.heap.size, G, _, rfl, hbase, H3.out.1, HR.out.2.2.2.2.1, HR.out.2.2.2.2.2.1, ?_, ?_⟩⟩, ?_, fun q e => .inr (by injection e with e; show w.heap.size ≤ q; have e2 : w.heap.size = q := e; omega)⟩
 · simp only [List.length_append, HN.out.2.2.2.1, HN.out.2.2.2.2, HH.out.2.2.2.2.2.2]
   have h2 := HN.out.2.2.1
   omega
 · simp only [List.size_toArray, List.length_append, List.length_take, List.length_drop, Array.length_toList, HCS.out, HN.out.2.2.2.1]
   have := HR.out.2.2.2.2.1
   omega
 · rw [List.toList_toArray, HCE.out, List.toList_toArray]
   rw [Nat.mul_one]; first | exact hfin | rw [hfin, List.append_assoc]
 · refine EvT.mono (HR.out.2.2.2.1.trans (H2.out.2.2.2.trans ((EvT.of_below (Below.drew (Below.refl _ _))).trans H3.out.2.2.2 fun q e => .inl e) fun q e => .inl e) fun q e => ?_) (fun q e => by cases e)
   subst e
   exact .inr (Nat.le_refl _)
theorem insN_any {w : World} {base n c g i : Nat} {A : Option Addr} {xs news : List Value} (ho : w.ownsRow base 30 1 (.slice A n c) n xs) (hn : n ≤ 100000) (hbase : base ≤ w.heap.size) (hi : i ≤ n) (hx : Blk w g 30 news.toArray) (hl : news.length = 1) (h1 : ∀ u ∈ xs ++ news, u.oneCell' = true) (hgb : A.map Addr.block ≠ some g) :
 Calls Tryz.prog 69 #[.slice A n c, .int .i64 (i : Int), .slice (some ⟨g, 0, none⟩) 1 1] w (RetIn w base 30 1 A n c (xs.take (i) ++ news ++ xs.drop (i))) := by
 rcases Nat.lt_or_ge i n with h | h
 · have ho' := ho
   obtain ⟨hxl, hc⟩ := ho'
   rcases hc with ⟨_, h0⟩ | ⟨b, cap, cur, e, hbb, hB, hnc, hcm, hcs, hxs⟩
   · omega
   · injection e with e1 _ e3
     subst e1
     subst e3
     have hne : g ≠ b := fun e => hgb (by rw [e]; rfl)
     by_cases hr : n + 1 ≤ c
     · exact insN_room hB hbb hr hcm (by omega) (by rw [Nat.mul_one] at hxs; exact hxs) h hn hx hl h1 hne
     · obtain rfl : c = n := by omega
       exact insN_grow hB hbb hbase (by omega) (by rw [Nat.mul_one] at hxs; exact hxs) h hn hx hl h1 hne
 · obtain rfl : i = n := by omega
   have hxl := ho.1
   have e1 : xs.take (i) = xs := List.take_of_length_le (by omega)
   have e2 : xs.drop (i) = [] := List.drop_eq_nil_of_le (by omega)
   rw [e1, e2, List.append_nil]
   exact insN_end ho hn hbase hx hl h1
end
end Go.Proofs.YtebobcbaloddaaaGreat
namespace Go.Proofs.YtebobcbaloddaaaGreat
section
set_option linter.unusedSimpArgs false
set_option linter.unusedVariables false
open Go.RowKit Go.Maps
theorem sum_next {sz : List Nat} {i k : Nat} (h : sz[i]? = some k) : (sz.take (i + 1)).sum = (sz.take i).sum + k := by
 rw [List.take_add_one, h, List.sum_append]; simp
set_option maxRecDepth 100000 in
set_option maxHeartbeats 8000000 in
theorem cutL_any (A : Option Addr) (n c : Nat) (l : List En) (w : World) (hr : Reads w w.heap.size 3 A n (vE l)) (hn : n ≤ 1000) (hnc : n ≤ c) (hcm : c ≤ maxLen) (hwn : 0 ≤ n) (hs : ∀ x ∈ l, x.s.size ≤ 9000) :
 Calls Tryz.prog 95 #[.slice A n c, .int .i64 0, .func (.func 48) #[] #[]] w (RetB w (.int .i64 (cutP 0 (lfSz l) : Nat))) := by
 have hl : l.length = n := by have := hr.1; rw [vE_len] at this; omega
 have hzl : (lfSz l).length = n := by unfold lfSz; rw [List.length_map, hl]
 have hb : (lfSz l).sum ≤ n * 9012 := by
  rw [← hzl]
  refine sum_len fun x hx => ?_
  unfold lfSz at hx
  obtain ⟨e, he, rfl⟩ := List.mem_map.1 hx
  have := hs e he
  omega
 have HS := Lib.hid fun (x : En) (hx : x ∈ l) (W : World) => entrySize_any x (hs x hx) W
 have HR := Lib.hid hr
 have HL := Lib.hid (And.intro hl (And.intro hzl hb))
 have hat : ∀ (i : Nat) (x : En), l[i]? = some x → (lfSz l)[i]? = some (8 + x.s.size) := fun i x hx => by unfold lfSz; rw [List.getElem?_map, hx]; rfl
 have HAT := Lib.hid hat
 obtain ⟨sz, hsz⟩ : ∃ sz, lfSz l = sz := ⟨_, rfl⟩
 rw [hsz] at HL HAT ⊢
 clear hl hzl hb hs hr hat hsz
 obtain ⟨S, hS⟩ : ∃ S, sz.sum = S := ⟨_, rfl⟩
 have hSb : S ≤ 9012000 := by rw [← hS]; have := HL.out.2.2; have h2 : n * 9012 ≤ 1000 * 9012 := Nat.mul_le_mul_right _ hn; omega
 have HSS := Lib.hid hS
 clear hS
 have hcI : (c : Int) ≤ 9223372036854775807 := by unfold maxLen at hcm; omega
 go_enter Tryz.func95, Tryz.ntmps95
 go_wp2_with fail
 go_loopw [7, 19] (fun v7 v19 wr => ∃ i : Nat, v19 = .int .i64 (i : Int) ∧ i ≤ n ∧ v7 = .int .i64 (((sz.take i).sum : Nat) : Int) ∧ Below w.heap.size w wr) (fun _ v19 _ => n - (intOf v19).toNat)
 case atStart => exact ⟨0, rfl, Nat.zero_le _, by simp, Below.refl _ _⟩
 case round =>
  obtain ⟨i, rfl, hin, rfl, hb⟩ := hrel
  have i0 : (0 : Int) ≤ (i : Int) := by omega
  by_cases hlt : i < n
  · have i1 : (i : Int) < (n : Int) := by omega
    obtain ⟨x, hx⟩ : ∃ x, l[i]? = some x := ⟨_, List.getElem?_eq_getElem (by rw [HL.out.1]; exact hlt)⟩
    have hns := Lib.hid (sum_next (HAT.out i x hx))
    obtain ⟨ad, rfl, hab, _, HXX⟩ := ent_of (w := w) HR.out hx
    obtain ⟨u0, u1, u2⟩ := HXX wr hb
    have HX := Lib.hid (HS.out x (List.mem_of_getElem? hx))
    have hbnd := (take_le sz i)
    obtain ⟨s1, hs1⟩ : ∃ q, (sz.take i).sum = q := ⟨_, rfl⟩
    rw [hs1] at hns hbnd ⊢
    rw [HSS.out] at hbnd
    have hbnd2 := take_le sz (i + 1)
    rw [hns.out, HSS.out] at hbnd2
    obtain ⟨s2, hs2⟩ : ∃ q, (sz.take (i + 1)).sum = q := ⟨_, rfl⟩
    rw [hs2] at hns
    have Hs2 := Lib.hid hs2
    have HB := Lib.hid (ball hb (.cells #[.string x.s, .int .u32 x.p, .int .u16 x.q] 37))
    clear hs1 hs2 hx HXX hb
    obtain ⟨xs, xp, xq⟩ := x
    unfold En.agg at HX
    simp only at u0 u1 u2 HX HB hns hbnd2
    have s0 : (0 : Int) ≤ (s1 : Int) := by omega
    have sb : (s1 : Int) ≤ 9012000 := by omega
    have x0 : (0 : Int) ≤ (xs.size : Int) := by omega
    have xb : (xs.size : Int) ≤ 9012000 := by omega
    go_wp2_with fail
    refine (HX.out _).mono ?_
    rintro e w1 ⟨rfl, hb1⟩
    have hb2 := Lib.hid (bto0 HB.out hb1)
    clear hb1
    go_wp2_with fail
    go_roundw
    case rel => exact ⟨i + 1, by go_num, by omega, by rw [Hs2.out, hns.out]; go_num, hb2.out⟩
    case measure => simp [intOf]; omega
  · have hin' : i = n := by omega
    have hfull : (sz.take i).sum = S := by rw [List.take_of_length_le (by rw [HL.out.2.1]; omega)]; exact HSS.out
    rw [hfull]
    have HB0 := Lib.hid hb
    have i1 : (n : Int) ≤ (i : Int) := by omega
    have S0 : (0 : Int) ≤ (S : Int) := by omega
    have Sb : (S : Int) ≤ 9012000 := by omega
    have nI : (n : Int) ≤ 1000 := by omega
    have n0 : (0 : Int) ≤ (n : Int) := by omega
    obtain ⟨N, hN⟩ : ∃ N : Nat, n - 0 = N := ⟨_, rfl⟩
    have hNI : (n : Int) - 0 = (N : Int) := by omega
    have hNn : N ≤ n := by omega
    have HN := Lib.hid (And.intro hN hNn)
    clear hb hfull hin hN hNn hin'
    have hdn : decide (i < n) = false := decide_eq_false hlt
    have hdI : decide ((i : Int) < (n : Int)) = false := decide_eq_false (by omega)
    go_wp2_with fail
    clear hdn hdI
    go_loopw [10, 11, 12, 35] (fun v10 v11 v12 v35 wr2 => ∃ i : Nat, v35 = .int .i64 (i : Int) ∧ i ≤ N ∧ v10 = .int .i64 (((sz.take i).sum : Nat) : Int) ∧ v11 = .int .i64 (((cutF 0 sz i).1 : Nat) : Int) ∧ v12 = .int .i64 (((cutF 0 sz i).2 : Nat) : Int) ∧ Below w.heap.size w wr2) (fun _ _ _ v35 _ => N - (intOf v35).toNat)
    case atStart => exact ⟨0, rfl, Nat.zero_le _, by simp, by simp [cutF], by simp [cutF, HSS.out], HB0.out⟩
    case round =>
     obtain ⟨i, rfl, hiN, rfl, rfl, rfl, hb⟩ := hrel
     have i0 : (0 : Int) ≤ (i : Int) := by omega
     have hFF := cutF_ok 0 sz i
     have hcF : Hid (cutF 0 sz (i + 1) = if 0 < i ∧ cutV 0 sz i < (cutF 0 sz i).2 then (i, cutV 0 sz i) else cutF 0 sz i) := Lib.hid rfl
     have hm1 : (cutF 0 sz i).2 ≤ S + 1 := by
      rcases hFF.1 with ⟨_, h⟩ | ⟨_, _, h⟩
      · rw [h, HSS.out]; exact Nat.le_refl _
      · rw [h]; have := cutV_le 0 sz (cutF 0 sz i).1; rw [HSS.out] at this; omega
     by_cases hlt : i < N
     · have i1 : (i : Int) < (N : Int) := by omega
       have hin : i < n := by have := HN.out; omega
       have iI : (i : Int) < (n : Int) := by omega
       obtain ⟨x, hx⟩ : ∃ x, l[i]? = some x := ⟨_, List.getElem?_eq_getElem (by rw [HL.out.1]; exact hin)⟩
       have hns := sum_next (HAT.out i x hx)
       obtain ⟨ad, hAd, hab, _, HXX⟩ := ent_of (w := w) HR.out hx
       have HXX := Lib.hid HXX
       have HX := Lib.hid (HS.out x (List.mem_of_getElem? hx))
       have ha := take_le sz i
       have ha2 := take_le sz (i + 1)
       rw [HSS.out] at ha ha2
       have hdr : ((sz.drop i).take 0).sum = 0 := by simp
       have hcV : cutV 0 sz i = max (sz.take i).sum (S - (sz.take i).sum - 0) := by unfold cutV; rw [hdr, HSS.out]
       rw [hns] at ha2
       obtain ⟨a, haa⟩ : ∃ q, (sz.take i).sum = q := ⟨_, rfl⟩
       obtain ⟨a2, haa2⟩ : ∃ q, (sz.take (i + 1)).sum = q := ⟨_, rfl⟩
       rw [haa2] at hns
       rw [haa] at ha ha2 hns hcV ⊢
       obtain ⟨F1, hF1⟩ : ∃ q, (cutF 0 sz i).1 = q := ⟨_, rfl⟩
       obtain ⟨F2, hF2⟩ : ∃ q, (cutF 0 sz i).2 = q := ⟨_, rfl⟩
       have hFp : cutF 0 sz i = (F1, F2) := by rw [← hF1, ← hF2]
       obtain ⟨V, hV⟩ : ∃ q, cutV 0 sz i = q := ⟨_, rfl⟩
       have hF1b : F1 ≤ n := by
        rcases hFF.1 with ⟨h, _⟩ | ⟨_, h, _⟩
        · rw [← hF1, h]; exact Nat.zero_le _
        · rw [← hF1]; omega
       have hcG : cutF 0 sz (i + 1) = if 0 < i ∧ V < F2 then (i, V) else (F1, F2) := by rw [hcF.out, hV, hF2, hFp]
       rw [hF1, hF2]
       rw [hF2] at hm1
       rw [hV] at hcV
       obtain ⟨r0, hr0⟩ : ∃ q, S - a = q := ⟨_, rfl⟩
       rw [hr0] at hcV
       have hr0I : (S : Int) - (a : Int) = (r0 : Int) := by omega
       have HH := Lib.hid (And.intro hcG (And.intro haa2 (And.intro hns (And.intro hcV (And.intro hb (And.intro hin ha))))))
       have a0 : (0 : Int) ≤ (a : Int) := by omega
       have ab : (a : Int) ≤ 9012000 := by omega
       have xb0 : (x.s.size : Int) ≤ 9012000 := by omega
       have F2b : (F2 : Int) ≤ 9012001 := by omega
       have r0b : (r0 : Int) ≤ 9012000 := by omega
       have r00 : (0 : Int) ≤ (r0 : Int) := by omega
       have Hr0 := Lib.hid hr0
       have HAX := Lib.hid (show a + (8 + x.s.size) ≤ S from ha2)
       have c2 : (i : Int) + 1 ≤ (c : Int) := by omega
       have w2 : IntKind.i64.wrap ((i : Int) + 1) = (i : Int) + 1 := IntWalk.i64_in _ (by omega)
       have i11 : (0 : Int) ≤ (i : Int) + 1 := by omega
       have hci : ¬ c = i := by omega
       have hcIi : (i : Int) ≤ (c : Int) := by omega
       clear hcF hFF hm1 hF1 hF2 hFp hV hcG haa haa2 hns hcV hb hr0 ha ha2 hdr hF1b hin hlt hx
       subst hAd
       go_wp2_with fail
       go_loopw [14, 48] (fun v14 v48 wr3 => ∃ j : Nat, v48 = .int .i64 (j : Int) ∧ j ≤ 0 ∧ v14 = .int .i64 (((r0 - (if j = 0 then 0 else 0) : Nat)) : Int) ∧ Below w.heap.size w wr3) (fun _ v48 _ => 0 - (intOf v48).toNat)
       case atStart => exact ⟨0, rfl, Nat.zero_le _, by simp, HH.out.2.2.2.2.1⟩
       case round =>
        obtain ⟨j, rfl, hj, rfl, hb3⟩ := hrel
        have HB3 := Lib.hid hb3
        obtain ⟨u0, u1, u2⟩ := HXX.out _ hb3
        have hjW : j = 0 := by omega
        subst hjW
        obtain ⟨r, hr⟩ : ∃ q, r0 - (if (0 : Nat) = 0 then 0 else 0) = q := ⟨_, rfl⟩
        rw [hr]
        have hVr : V = max a r := by rw [HH.out.2.2.2.1, ← hr]; rfl
        have rI0 : (0 : Int) ≤ (r : Int) := by omega
        have rIb : (r : Int) ≤ 9012000 := by omega
        have HVr := Lib.hid hVr
        have HXS : Hid (x.s.size ≤ 9012000) := Lib.hid (by omega)
        clear hb3 hj hr hVr
        obtain ⟨xs, xp, xq⟩ := x
        unfold En.agg at HX
        simp only at u0 u1 u2 HX HXS HH
        by_cases h0 : 0 < i
        · have h0I : (0 : Int) < (i : Int) := by omega
          by_cases hV : V < F2
          · have HCN : Hid (cutF 0 sz (i + 1) = (i, V)) := Lib.hid (by rw [HH.out.1, if_pos ⟨h0, hV⟩])
            have hVI : max (a : Int) (r : Int) < (F2 : Int) := by have := HVr.out; omega
            have eV : max (a : Int) (r : Int) = (V : Int) := by have := HVr.out; omega
            have hd : decide (max (a : Int) (r : Int) < (F2 : Int)) = true := decide_eq_true hVI
            clear hV
            go_wp2_with fail
            refine (HX.out _).mono ?_
            rintro e w5 ⟨rfl, hb5⟩
            have hb6 := Lib.hid (bto0 HB3.out hb5)
            clear hb5
            go_wp2_with fail
            go_roundw
            case rel => exact ⟨i + 1, by go_num, by omega, by rw [HH.out.2.1, HH.out.2.2.1]; go_num, by rw [HCN.out], by rw [HCN.out], hb6.out⟩
            case measure => simp [intOf]; omega
          · have HCN : Hid (cutF 0 sz (i + 1) = (F1, F2)) := Lib.hid (by rw [HH.out.1, if_neg (fun h => hV h.2)])
            have hVI : (F2 : Int) ≤ max (a : Int) (r : Int) := by have := HVr.out; omega
            have eV : max (a : Int) (r : Int) = (V : Int) := by have := HVr.out; omega
            have hVI2 : (F2 : Int) ≤ (V : Int) := by omega
            have hVN : F2 ≤ V := by omega
            clear hV
            go_wp2_with fail
            refine (HX.out _).mono ?_
            rintro e w5 ⟨rfl, hb5⟩
            have hb6 := Lib.hid (bto0 HB3.out hb5)
            clear hb5
            go_wp2_with fail
            go_roundw
            case rel => exact ⟨i + 1, by go_num, by omega, by rw [HH.out.2.1, HH.out.2.2.1]; go_num, by rw [HCN.out], by rw [HCN.out], hb6.out⟩
            case measure => simp [intOf]; omega
        · have HCN : Hid (cutF 0 sz (i + 1) = (F1, F2)) := Lib.hid (by rw [HH.out.1, if_neg (fun h => h0 h.1)])
          have h0I : (i : Int) ≤ 0 := by omega
          have h0J : decide ((0 : Int) < (i : Int)) = false := decide_eq_false (by omega)
          go_wp2_with fail
          refine (HX.out _).mono ?_
          rintro e w5 ⟨rfl, hb5⟩
          have hb6 := Lib.hid (bto0 HB3.out hb5)
          clear hb5
          go_wp2_with fail
          go_roundw
          case rel => exact ⟨i + 1, by go_num, by omega, by rw [HH.out.2.1, HH.out.2.2.1]; go_num, by rw [HCN.out], by rw [HCN.out], hb6.out⟩
          case measure => simp [intOf]; omega
     · have hiE : i = N := by omega
       have hN1 := HN.out.1
       have i1 : (N : Int) ≤ (i : Int) := by omega
       have HF := Lib.hid (show (cutF 0 sz i).1 = cutP 0 sz by unfold cutP; rw [HL.out.2.1, hiE, ← hN1])
       have HB := Lib.hid hb
       obtain ⟨F1, hF1⟩ : ∃ q, (cutF 0 sz i).1 = q := ⟨_, rfl⟩
       rw [hF1] at HF ⊢
       clear hb hiE hN1 hF1 hcF hFF hm1
       go_wp2_with fail
       go_ret
       first | exact ⟨rfl, HB.out⟩ | exact ⟨by rw [HF.out]; rfl, HB.out⟩
end
end Go.Proofs.YtebobcbaloddaaaGreat
namespace Go.Proofs.YtebobcbaloddaaaGreat
section
set_option linter.unusedSimpArgs false
set_option linter.unusedVariables false
open Go.RowKit Go.Maps
set_option maxRecDepth 100000 in
set_option maxHeartbeats 8000000 in
theorem cutI_any (A : Option Addr) (n c : Nat) (l : List En) (w : World) (hr : Reads w w.heap.size 3 A n (vE l)) (hn : n ≤ 1000) (hnc : n ≤ c) (hcm : c ≤ maxLen) (hwn : 1 ≤ n) (hs : ∀ x ∈ l, x.s.size ≤ 9000) :
 Calls Tryz.prog 95 #[.slice A n c, .int .i64 1, .func (.func 87) #[] #[]] w (RetB w (.int .i64 (cutP 1 (inSz l) : Nat))) := by
 have hl : l.length = n := by have := hr.1; rw [vE_len] at this; omega
 have hzl : (inSz l).length = n := by unfold inSz; rw [List.length_map, hl]
 have hb : (inSz l).sum ≤ n * 9012 := by
  rw [← hzl]
  refine sum_len fun x hx => ?_
  unfold inSz at hx
  obtain ⟨e, he, rfl⟩ := List.mem_map.1 hx
  have := hs e he
  omega
 have HS := Lib.hid fun (x : En) (hx : x ∈ l) (W : World) => sepSize_any x (hs x hx) W
 have HR := Lib.hid hr
 have HL := Lib.hid (And.intro hl (And.intro hzl hb))
 have hat : ∀ (i : Nat) (x : En), l[i]? = some x → (inSz l)[i]? = some (12 + x.s.size) := fun i x hx => by unfold inSz; rw [List.getElem?_map, hx]; rfl
 have HAT := Lib.hid hat
 obtain ⟨sz, hsz⟩ : ∃ sz, inSz l = sz := ⟨_, rfl⟩
 rw [hsz] at HL HAT ⊢
 clear hl hzl hb hs hr hat hsz
 obtain ⟨S, hS⟩ : ∃ S, sz.sum = S := ⟨_, rfl⟩
 have hSb : S ≤ 9012000 := by rw [← hS]; have := HL.out.2.2; have h2 : n * 9012 ≤ 1000 * 9012 := Nat.mul_le_mul_right _ hn; omega
 have HSS := Lib.hid hS
 clear hS
 have hcI : (c : Int) ≤ 9223372036854775807 := by unfold maxLen at hcm; omega
 go_enter Tryz.func95, Tryz.ntmps95
 go_wp2_with fail
 go_loopw [7, 19] (fun v7 v19 wr => ∃ i : Nat, v19 = .int .i64 (i : Int) ∧ i ≤ n ∧ v7 = .int .i64 (((sz.take i).sum : Nat) : Int) ∧ Below w.heap.size w wr) (fun _ v19 _ => n - (intOf v19).toNat)
 case atStart => exact ⟨0, rfl, Nat.zero_le _, by simp, Below.refl _ _⟩
 case round =>
  obtain ⟨i, rfl, hin, rfl, hb⟩ := hrel
  have i0 : (0 : Int) ≤ (i : Int) := by omega
  by_cases hlt : i < n
  · have i1 : (i : Int) < (n : Int) := by omega
    obtain ⟨x, hx⟩ : ∃ x, l[i]? = some x := ⟨_, List.getElem?_eq_getElem (by rw [HL.out.1]; exact hlt)⟩
    have hns := Lib.hid (sum_next (HAT.out i x hx))
    obtain ⟨ad, rfl, hab, _, HXX⟩ := ent_of (w := w) HR.out hx
    obtain ⟨u0, u1, u2⟩ := HXX wr hb
    have HX := Lib.hid (HS.out x (List.mem_of_getElem? hx))
    have hbnd := (take_le sz i)
    obtain ⟨s1, hs1⟩ : ∃ q, (sz.take i).sum = q := ⟨_, rfl⟩
    rw [hs1] at hns hbnd ⊢
    rw [HSS.out] at hbnd
    have hbnd2 := take_le sz (i + 1)
    rw [hns.out, HSS.out] at hbnd2
    obtain ⟨s2, hs2⟩ : ∃ q, (sz.take (i + 1)).sum = q := ⟨_, rfl⟩
    rw [hs2] at hns
    have Hs2 := Lib.hid hs2
    have HB := Lib.hid (ball hb (.cells #[.string x.s, .int .u32 x.p, .int .u16 x.q] 37))
    clear hs1 hs2 hx HXX hb
    obtain ⟨xs, xp, xq⟩ := x
    unfold En.agg at HX
    simp only at u0 u1 u2 HX HB hns hbnd2
    have s0 : (0 : Int) ≤ (s1 : Int) := by omega
    have sb : (s1 : Int) ≤ 9012000 := by omega
    have x0 : (0 : Int) ≤ (xs.size : Int) := by omega
    have xb : (xs.size : Int) ≤ 9012000 := by omega
    go_wp2_with fail
    refine (HX.out _).mono ?_
    rintro e w1 ⟨rfl, hb1⟩
    have hb2 := Lib.hid (bto0 HB.out hb1)
    clear hb1
    go_wp2_with fail
    go_roundw
    case rel => exact ⟨i + 1, by go_num, by omega, by rw [Hs2.out, hns.out]; go_num, hb2.out⟩
    case measure => simp [intOf]; omega
  · have hin' : i = n := by omega
    have hfull : (sz.take i).sum = S := by rw [List.take_of_length_le (by rw [HL.out.2.1]; omega)]; exact HSS.out
    rw [hfull]
    have HB0 := Lib.hid hb
    have i1 : (n : Int) ≤ (i : Int) := by omega
    have S0 : (0 : Int) ≤ (S : Int) := by omega
    have Sb : (S : Int) ≤ 9012000 := by omega
    have nI : (n : Int) ≤ 1000 := by omega
    have n0 : (0 : Int) ≤ (n : Int) := by omega
    obtain ⟨N, hN⟩ : ∃ N : Nat, n - 1 = N := ⟨_, rfl⟩
    have hNI : (n : Int) - 1 = (N : Int) := by omega
    have hNn : N ≤ n := by omega
    have HN := Lib.hid (And.intro hN hNn)
    clear hb hfull hin hN hNn hin'
    have hdn : decide (i < n) = false := decide_eq_false hlt
    have hdI : decide ((i : Int) < (n : Int)) = false := decide_eq_false (by omega)
    go_wp2_with fail
    clear hdn hdI
    go_loopw [10, 11, 12, 35] (fun v10 v11 v12 v35 wr2 => ∃ i : Nat, v35 = .int .i64 (i : Int) ∧ i ≤ N ∧ v10 = .int .i64 (((sz.take i).sum : Nat) : Int) ∧ v11 = .int .i64 (((cutF 1 sz i).1 : Nat) : Int) ∧ v12 = .int .i64 (((cutF 1 sz i).2 : Nat) : Int) ∧ Below w.heap.size w wr2) (fun _ _ _ v35 _ => N - (intOf v35).toNat)
    case atStart => exact ⟨0, rfl, Nat.zero_le _, by simp, by simp [cutF], by simp [cutF, HSS.out], HB0.out⟩
    case round =>
     obtain ⟨i, rfl, hiN, rfl, rfl, rfl, hb⟩ := hrel
     have i0 : (0 : Int) ≤ (i : Int) := by omega
     have hFF := cutF_ok 1 sz i
     have hcF : Hid (cutF 1 sz (i + 1) = if 0 < i ∧ cutV 1 sz i < (cutF 1 sz i).2 then (i, cutV 1 sz i) else cutF 1 sz i) := Lib.hid rfl
     have hm1 : (cutF 1 sz i).2 ≤ S + 1 := by
      rcases hFF.1 with ⟨_, h⟩ | ⟨_, _, h⟩
      · rw [h, HSS.out]; exact Nat.le_refl _
      · rw [h]; have := cutV_le 1 sz (cutF 1 sz i).1; rw [HSS.out] at this; omega
     by_cases hlt : i < N
     · have i1 : (i : Int) < (N : Int) := by omega
       have hin : i < n := by have := HN.out; omega
       have iI : (i : Int) < (n : Int) := by omega
       obtain ⟨x, hx⟩ : ∃ x, l[i]? = some x := ⟨_, List.getElem?_eq_getElem (by rw [HL.out.1]; exact hin)⟩
       have hns := sum_next (HAT.out i x hx)
       obtain ⟨ad, hAd, hab, _, HXX⟩ := ent_of (w := w) HR.out hx
       have HXX := Lib.hid HXX
       have HX := Lib.hid (HS.out x (List.mem_of_getElem? hx))
       have ha := take_le sz i
       have ha2 := take_le sz (i + 1)
       rw [HSS.out] at ha ha2
       have hdr : ((sz.drop i).take 1).sum = (12 + x.s.size) := by rw [List.drop_eq_getElem_cons (by rw [HL.out.2.1]; exact hin)]; have h9 := HAT.out i x hx; rw [List.getElem?_eq_getElem (by rw [HL.out.2.1]; exact hin)] at h9; injection h9 with h9; all_goals simp [h9]
       have hcV : cutV 1 sz i = max (sz.take i).sum (S - (sz.take i).sum - (12 + x.s.size)) := by unfold cutV; rw [hdr, HSS.out]
       rw [hns] at ha2
       obtain ⟨a, haa⟩ : ∃ q, (sz.take i).sum = q := ⟨_, rfl⟩
       obtain ⟨a2, haa2⟩ : ∃ q, (sz.take (i + 1)).sum = q := ⟨_, rfl⟩
       rw [haa2] at hns
       rw [haa] at ha ha2 hns hcV ⊢
       obtain ⟨F1, hF1⟩ : ∃ q, (cutF 1 sz i).1 = q := ⟨_, rfl⟩
       obtain ⟨F2, hF2⟩ : ∃ q, (cutF 1 sz i).2 = q := ⟨_, rfl⟩
       have hFp : cutF 1 sz i = (F1, F2) := by rw [← hF1, ← hF2]
       obtain ⟨V, hV⟩ : ∃ q, cutV 1 sz i = q := ⟨_, rfl⟩
       have hF1b : F1 ≤ n := by
        rcases hFF.1 with ⟨h, _⟩ | ⟨_, h, _⟩
        · rw [← hF1, h]; exact Nat.zero_le _
        · rw [← hF1]; omega
       have hcG : cutF 1 sz (i + 1) = if 0 < i ∧ V < F2 then (i, V) else (F1, F2) := by rw [hcF.out, hV, hF2, hFp]
       rw [hF1, hF2]
       rw [hF2] at hm1
       rw [hV] at hcV
       obtain ⟨r0, hr0⟩ : ∃ q, S - a = q := ⟨_, rfl⟩
       rw [hr0] at hcV
       have hr0I : (S : Int) - (a : Int) = (r0 : Int) := by omega
       have HH := Lib.hid (And.intro hcG (And.intro haa2 (And.intro hns (And.intro hcV (And.intro hb (And.intro hin ha))))))
       have a0 : (0 : Int) ≤ (a : Int) := by omega
       have ab : (a : Int) ≤ 9012000 := by omega
       have xb0 : (x.s.size : Int) ≤ 9012000 := by omega
       have F2b : (F2 : Int) ≤ 9012001 := by omega
       have r0b : (r0 : Int) ≤ 9012000 := by omega
       have r00 : (0 : Int) ≤ (r0 : Int) := by omega
       have Hr0 := Lib.hid hr0
       have HAX := Lib.hid (show a + (12 + x.s.size) ≤ S from ha2)
       have c2 : (i : Int) + 1 ≤ (c : Int) := by omega
       have w2 : IntKind.i64.wrap ((i : Int) + 1) = (i : Int) + 1 := IntWalk.i64_in _ (by omega)
       have i11 : (0 : Int) ≤ (i : Int) + 1 := by omega
       have hci : ¬ c = i := by omega
       have hcIi : (i : Int) ≤ (c : Int) := by omega
       clear hcF hFF hm1 hF1 hF2 hFp hV hcG haa haa2 hns hcV hb hr0 ha ha2 hdr hF1b hin hlt hx
       subst hAd
       go_wp2_with fail
       go_loopw [14, 48] (fun v14 v48 wr3 => ∃ j : Nat, v48 = .int .i64 (j : Int) ∧ j ≤ 1 ∧ v14 = .int .i64 (((r0 - (if j = 0 then 0 else (12 + x.s.size)) : Nat)) : Int) ∧ Below w.heap.size w wr3) (fun _ v48 _ => 1 - (intOf v48).toNat)
       case atStart => exact ⟨0, rfl, Nat.zero_le _, by simp, HH.out.2.2.2.2.1⟩
       case round =>
        obtain ⟨j, rfl, hj, rfl, hb3⟩ := hrel
        by_cases hj1 : j < 1
        · have hj0 : j = 0 := by omega
          subst hj0
          obtain ⟨u0, u1, u2⟩ := HXX.out _ hb3
          have HB3 := Lib.hid (ball hb3 (.cells #[.string x.s, .int .u32 x.p, .int .u16 x.q] 37))
          have hsz0 : r0 - (if (0 : Nat) = 0 then 0 else (12 + x.s.size)) = r0 := by simp
          rw [hsz0]
          obtain ⟨r, hr⟩ : ∃ q, r0 - (12 + x.s.size) = q := ⟨_, rfl⟩
          have hrI : (r0 : Int) - ((x.s.size : Int) + 12) = (r : Int) := by have := Hr0.out; have := HAX.out; omega
          have Hr := Lib.hid hr
          clear hb3 hsz0 hr hj hj1
          obtain ⟨xs, xp, xq⟩ := x
          unfold En.agg at HX
          simp only at u0 u1 u2 HX HB3 hrI Hr xb0
          go_wp2_with fail
          refine (HX.out _).mono ?_
          rintro e w4 ⟨rfl, hb4⟩
          have hb5 := Lib.hid (bto0 HB3.out hb4)
          clear hb4
          go_wp2_with fail
          go_roundw
          case rel => exact ⟨1, by go_num, Nat.le_refl _, by rw [← Hr.out]; rfl, hb5.out⟩
          case measure => simp [intOf]
        have HB3 := Lib.hid hb3
        obtain ⟨u0, u1, u2⟩ := HXX.out _ hb3
        have hjW : j = 1 := by omega
        subst hjW
        obtain ⟨r, hr⟩ : ∃ q, r0 - (if (1 : Nat) = 0 then 0 else (12 + x.s.size)) = q := ⟨_, rfl⟩
        rw [hr]
        have hVr : V = max a r := by rw [HH.out.2.2.2.1, ← hr]; rfl
        have rI0 : (0 : Int) ≤ (r : Int) := by omega
        have rIb : (r : Int) ≤ 9012000 := by omega
        have HVr := Lib.hid hVr
        have HXS : Hid (x.s.size ≤ 9012000) := Lib.hid (by omega)
        clear hb3 hj hr hVr
        obtain ⟨xs, xp, xq⟩ := x
        unfold En.agg at HX
        simp only at u0 u1 u2 HX HXS HH
        by_cases h0 : 0 < i
        · have h0I : (0 : Int) < (i : Int) := by omega
          by_cases hV : V < F2
          · have HCN : Hid (cutF 1 sz (i + 1) = (i, V)) := Lib.hid (by rw [HH.out.1, if_pos ⟨h0, hV⟩])
            have hVI : max (a : Int) (r : Int) < (F2 : Int) := by have := HVr.out; omega
            have eV : max (a : Int) (r : Int) = (V : Int) := by have := HVr.out; omega
            have hd : decide (max (a : Int) (r : Int) < (F2 : Int)) = true := decide_eq_true hVI
            clear hV
            go_wp2_with fail
            refine (HX.out _).mono ?_
            rintro e w5 ⟨rfl, hb5⟩
            have hb6 := Lib.hid (bto0 HB3.out hb5)
            clear hb5
            go_wp2_with fail
            go_roundw
            case rel => exact ⟨i + 1, by go_num, by omega, by rw [HH.out.2.1, HH.out.2.2.1]; go_num, by rw [HCN.out], by rw [HCN.out], hb6.out⟩
            case measure => simp [intOf]; omega
          · have HCN : Hid (cutF 1 sz (i + 1) = (F1, F2)) := Lib.hid (by rw [HH.out.1, if_neg (fun h => hV h.2)])
            have hVI : (F2 : Int) ≤ max (a : Int) (r : Int) := by have := HVr.out; omega
            have eV : max (a : Int) (r : Int) = (V : Int) := by have := HVr.out; omega
            have hVI2 : (F2 : Int) ≤ (V : Int) := by omega
            have hVN : F2 ≤ V := by omega
            clear hV
            go_wp2_with fail
            refine (HX.out _).mono ?_
            rintro e w5 ⟨rfl, hb5⟩
            have hb6 := Lib.hid (bto0 HB3.out hb5)
            clear hb5
            go_wp2_with fail
            go_roundw
            case rel => exact ⟨i + 1, by go_num, by omega, by rw [HH.out.2.1, HH.out.2.2.1]; go_num, by rw [HCN.out], by rw [HCN.out], hb6.out⟩
            case measure => simp [intOf]; omega
        · have HCN : Hid (cutF 1 sz (i + 1) = (F1, F2)) := Lib.hid (by rw [HH.out.1, if_neg (fun h => h0 h.1)])
          have h0I : (i : Int) ≤ 0 := by omega
          have h0J : decide ((0 : Int) < (i : Int)) = false := decide_eq_false (by omega)
          go_wp2_with fail
          refine (HX.out _).mono ?_
          rintro e w5 ⟨rfl, hb5⟩
          have hb6 := Lib.hid (bto0 HB3.out hb5)
          clear hb5
          go_wp2_with fail
          go_roundw
          case rel => exact ⟨i + 1, by go_num, by omega, by rw [HH.out.2.1, HH.out.2.2.1]; go_num, by rw [HCN.out], by rw [HCN.out], hb6.out⟩
          case measure => simp [intOf]; omega
     · have hiE : i = N := by omega
       have hN1 := HN.out.1
       have i1 : (N : Int) ≤ (i : Int) := by omega
       have HF := Lib.hid (show (cutF 1 sz i).1 = cutP 1 sz by unfold cutP; rw [HL.out.2.1, hiE, ← hN1])
       have HB := Lib.hid hb
       obtain ⟨F1, hF1⟩ : ∃ q, (cutF 1 sz i).1 = q := ⟨_, rfl⟩
       rw [hF1] at HF ⊢
       clear hb hiE hN1 hF1 hcF hFF hm1
       go_wp2_with fail
       go_ret
       first | exact ⟨rfl, HB.out⟩ | exact ⟨by rw [HF.out]; rfl, HB.out⟩
end
end Go.Proofs.YtebobcbaloddaaaGreat
namespace Go.Proofs.YtebobcbaloddaaaGreat
section
set_option linter.unusedSimpArgs false
set_option linter.unusedVariables false
open Go.RowKit Go.Maps
def fitP (lf : Bool) (l : List En) : Bool := if lf then decide (sumE l ≤ 504) else decide (sumE l + 4 * l.length ≤ 500)
theorem fits_any {w : World} {b o n c : Nat} {lf : Bool} {A : Option Addr} {l : List En} (h0 : w.cell? ⟨b, o, none⟩ = some (.bool lf)) (h3 : w.cell? ⟨b, o + 3, none⟩ = some (.slice A n c)) (hr : Reads w w.heap.size 3 A n (vE l)) (hs : sumE l ≤ 72000) :
 Calls Tryz.prog 64 #[.pointer (some ⟨b, o, none⟩)] w (RetB w (.bool (fitP lf l))) := by
 have hl : l.length = n := by have := hr.1; rw [vE_len] at this; omega
 have LS := Lib.hid (leafSize_any A n c l w hr hs)
 have IS := Lib.hid (innerSize_any A n c l w hr hs)
 obtain ⟨S, hS⟩ : ∃ S, sumE l = S := ⟨_, rfl⟩
 have HF : Hid (fitP lf l = if lf then decide (S ≤ 504) else decide (S + 4 * n ≤ 500)) := Lib.hid (by unfold fitP; rw [hS, hl])
 rw [hS] at LS IS
 clear hr hs hS hl
 obtain ⟨R, hR⟩ : ∃ R, fitP lf l = R := ⟨_, rfl⟩
 rw [hR] at HF ⊢
 clear hR
 go_enter Tryz.func64, Tryz.ntmps64
 cases lf
 · go_wp2_with fail
   refine IS.out.mono ?_
   rintro e w1 ⟨rfl, hb1⟩
   go_wp2
   go_ret
   refine ⟨ret_bool ?_, hb1⟩
   rw [HF.out]
   by_cases h : S + 4 * n ≤ 500
   · simp [h]; omega
   · simp [h]; omega
 · go_wp2_with fail
   refine LS.out.mono ?_
   rintro e w1 ⟨rfl, hb1⟩
   go_wp2
   go_ret
   refine ⟨ret_bool ?_, hb1⟩
   rw [HF.out]
   by_cases h : S ≤ 504
   · simp [h]; omega
   · simp [h]; omega
end
end Go.Proofs.YtebobcbaloddaaaGreat
namespace Go.Proofs.YtebobcbaloddaaaGreat
section
set_option linter.unusedSimpArgs false
set_option linter.unusedVariables false
open Go.RowKit Go.Maps
def pgB (lf : Bool) (N : Nat) (kids : List Nat) (l : List En) : List UInt8 := if lf = true then leafL N l else kidL kids l
def cutW (lf : Bool) (l : List En) : Nat := if lf = true then cutP 0 (lfSz l) else cutP 1 (inSz l)
def gap (lf : Bool) : Nat := if lf = true then 0 else 1
def curSt (lf : Bool) (wr : List (Nat × List UInt8)) (p N : Nat) (kids : List Nat) (l : List En) (T : List Bool) : Stt :=
 if fitP lf l = true then .done (wr ++ [(p, pgB lf N kids l)]) T
 else match freeI T with
  | none => .no T
  | some q => .up (wr ++ [(p, pgB lf q (kids.take (cutW lf l + 1)) (l.take (cutW lf l))), (q, pgB lf N (kids.drop (cutW lf l + 1)) (l.drop (cutW lf l + gap lf)))]) (T.set q true) (l.getD (cutW lf l) enZ) q
theorem headD_drop63 {α : Type} (l : List α) (k : Nat) (d : α) : (l.drop k).headD d = l.getD k d := by
 rw [List.headD_eq_head?_getD, List.head?_drop, List.getD_eq_getElem?_getD]
theorem leafSt_cur (p N : Nat) (es : List En) (T : List Bool) : leafSt p N es T = curSt true [] p N [] es T := by
 unfold leafSt curSt fitP pgB cutW gap
 by_cases h : sumE es ≤ 504
 · simp [h]
 · simp only [h, if_true, decide_false, if_false, Bool.false_eq_true, List.nil_append, Nat.add_zero]
   cases freeI T with
   | none => rfl
   | some q => simp only [headD_drop63]
theorem frSt_cur (f : Fr11) (wr : List (Nat × List UInt8)) (T : List Bool) (sep : En) (q : Nat) : frSt f (.up wr T sep q) = curSt false wr f.p 0 (insI f.kids (f.i + 1) q) (insI f.seps f.i sep) T := by
 unfold frSt curSt fitP pgB cutW gap
 simp only [Bool.false_eq_true, if_false, decide_eq_true_eq]
 split
 · rfl
 · cases freeI T <;> rfl
structure CurOk (lf : Bool) (N : Nat) (kids : List Nat) (l : List En) : Prop where
 ok : ∀ e ∈ l, e.ok
 may : mayEn l = true
 N : N < 4294967296
 sz : (if lf = true then sumE l else sumE l + 4 * l.length) ≤ 712
 kid : lf = false → kids.length = l.length + 1 ∧ (∀ k ∈ kids, k < 4294967296) ∧ l ≠ []
 lfk : lf = true → kids = []
theorem may_take {l : List En} (h : mayEn l = true) (k : Nat) : mayEn (l.take k) = true := by
 obtain ⟨a, b⟩ := may_parts.1 h
 exact may_parts.2 ⟨fun e he => a e (List.mem_of_mem_take he), List.Pairwise.sublist (List.take_sublist _ _) b⟩
theorem may_drop {l : List En} (h : mayEn l = true) (k : Nat) : mayEn (l.drop k) = true := by
 obtain ⟨a, b⟩ := may_parts.1 h
 exact may_parts.2 ⟨fun e he => a e (List.mem_of_mem_drop he), List.Pairwise.sublist (List.drop_sublist _ _) b⟩
theorem inSz_take (l : List En) (k : Nat) : (inSz l).take k = inSz (l.take k) := by unfold inSz; rw [List.map_take]
theorem inSz_drop (l : List En) (k : Nat) : (inSz l).drop k = inSz (l.drop k) := by unfold inSz; rw [List.map_drop]
theorem lfSz_take (l : List En) (k : Nat) : (lfSz l).take k = lfSz (l.take k) := by unfold lfSz; rw [List.map_take]
theorem lfSz_drop (l : List En) (k : Nat) : (lfSz l).drop k = lfSz (l.drop k) := by unfold lfSz; rw [List.map_drop]
theorem CurOk.cut {lf : Bool} {N : Nat} {kids : List Nat} {l : List En} (h : CurOk lf N kids l) (hf : fitP lf l ≠ true) :
 0 < cutW lf l ∧ cutW lf l + gap lf < l.length ∧ fitP lf (l.take (cutW lf l)) = true ∧ fitP lf (l.drop (cutW lf l + gap lf)) = true := by
 have hm := (may_parts.1 h.may).1
 cases lf with
 | true =>
   have hs : sumE l ≤ 712 := h.sz
   have hf : ¬ sumE l ≤ 504 := fun e => hf (by unfold fitP; simp [e])
   obtain ⟨c1, c2, c3, c4⟩ := cut0 (sz := lfSz l) (fun y hy => by
    obtain ⟨e, he, rfl⟩ := List.mem_map.1 hy
    have := hm e he; omega) (by show 500 < sumE l; omega) (by show sumE l ≤ 712; omega)
   rw [lfSz_take] at c3
   rw [lfSz_drop] at c4
   have c3 : sumE (l.take (cutP 0 (lfSz l))) ≤ 500 := c3
   have c4 : sumE (l.drop (cutP 0 (lfSz l))) ≤ 500 := c4
   have hl : (lfSz l).length = l.length := by unfold lfSz; simp
   unfold cutW gap fitP
   simp only [if_true, Nat.add_zero, decide_eq_true_eq]
   omega
 | false =>
   have hs : sumE l + 4 * l.length ≤ 712 := h.sz
   have hf : ¬ sumE l + 4 * l.length ≤ 500 := fun e => hf (by unfold fitP; simp [e])
   obtain ⟨c1, c2, c3, c4⟩ := cut1 (sz := inSz l) (fun y hy => by
    obtain ⟨e, he, rfl⟩ := List.mem_map.1 hy
    have := hm e he; omega) (by rw [in_sum]; omega) (by rw [in_sum]; omega)
   rw [inSz_take, in_sum] at c3
   rw [inSz_drop, in_sum] at c4
   have hl : (inSz l).length = l.length := by unfold inSz; simp
   unfold cutW gap fitP
   simp only [Bool.false_eq_true, if_false, decide_eq_true_eq]
   omega
def StepsOk : List Fr11 → Stt → Prop
 | [], _ => True
 | f :: fs, st => f.p < 4294967296 ∧ (∀ wr T sep q, st = .up wr T sep q → f.i ≤ f.seps.length ∧ f.kids.length = f.seps.length + 1 ∧ CurOk false 0 (insI f.kids (f.i + 1) q) (insI f.seps f.i sep)) ∧ StepsOk fs (frSt f st)
theorem stepsOk_snoc : ∀ {fs : List Fr11} {f : Fr11} {st : Stt}, StepsOk fs st → f.p < 4294967296 → (∀ wr T sep q, fs.foldl (fun s fr => frSt fr s) st = .up wr T sep q → f.i ≤ f.seps.length ∧ f.kids.length = f.seps.length + 1 ∧ CurOk false 0 (insI f.kids (f.i + 1) q) (insI f.seps f.i sep)) → StepsOk (fs ++ [f]) st
 | [], f, st, _, hp, h2 => ⟨hp, h2, trivial⟩
 | a :: r, f, st, h1, hp, h2 => ⟨h1.1, h1.2.1, stepsOk_snoc h1.2.2 hp h2⟩
theorem st_done : ∀ (fs : List Fr11) (wr : List (Nat × List UInt8)) (T : List Bool), fs.foldl (fun s fr => frSt fr s) (.done wr T) = .done wr T
 | [], _, _ => rfl
 | _ :: r, wr, T => st_done r wr T
theorem st_no : ∀ (fs : List Fr11) (T : List Bool), fs.foldl (fun s fr => frSt fr s) (.no T) = .no T
 | [], _ => rfl
 | _ :: r, T => st_no r T
theorem fr_cur {ps : List (List UInt8)} {T : List Bool} {h nx : Nat} {pre post : List Nd} {di : Nd} {seps : List En} {x : En} {wr : List (Nat × List UInt8)} {T' : List Bool} {sep : En} {q : Nat}
 (H : InOk ps h (pre ++ di :: post) seps nx) (hf : sumE seps + 4 * seps.length ≤ 500) (hb : ps.length ≤ 4095) (hi : pre.length = chN seps x) (HI : InsOk ps T (h + 1) di ((post.map Nd.f).headD nx) x (.up wr T' sep q)) :
 chN seps x ≤ seps.length ∧ ((pre ++ di :: post).map Nd.p).length = seps.length + 1 ∧ CurOk false 0 (insI ((pre ++ di :: post).map Nd.p) (chN seps x + 1) q) (insI seps (chN seps x) sep) := by
 obtain ⟨m1, m2⟩ := may_parts.1 H.may
 have hlen := H.len
 have hile : pre.length ≤ seps.length := by rw [List.length_append, List.length_cons] at hlen; omega
 obtain ⟨d1, d2, g1, g2, g3, g4, g5, gq, g6, g7, g8, g9, g10, g11, g12, g13, g14, g15⟩ := HI
 have hmem : ∀ y, y ∈ d1.L ∨ y ∈ d2.L → y = x ∨ y ∈ di.L := fun y hy => by
  have : y ∈ d1.L ++ d2.L := List.mem_append.2 hy
  rw [g6] at this
  exact with_mem.1 this
 obtain ⟨y1, hy1⟩ : ∃ y, y ∈ d1.L := List.exists_mem_of_ne_nil _ g7
 obtain ⟨y2, hy2⟩ : ∃ y, y ∈ d2.L := List.exists_mem_of_ne_nil _ g8
 have hlow : ∀ (j : Nat) (a : En), seps[j]? = some a → j < pre.length → cmpE a sep < 0 := fun j a ha hj => le_lt ((sep_mid m2 H.sep hlen hi (hmem y1 (.inl hy1))).1 j a ha hj) (g9 y1 hy1)
 have hhigh : ∀ (j : Nat) (a : En), seps[j]? = some a → pre.length ≤ j → cmpE sep a < 0 := fun j a ha hj => by
  have h1 := (sep_mid m2 H.sep hlen hi (hmem y2 (.inr hy2))).2 j a ha hj
  have h2 := g10 y2 hy2
  have h3 := cmpE_swap y2 sep
  have h4 := cmpE_swap a y2
  exact le_lt (b := y2) (by omega) (by omega)
 have hmay := may_ins H.may hile g12 hlow hhigh
 have hll : (insI seps pre.length sep).length = seps.length + 1 := insI_len _ _ _ hile
 have hsE := sumE_ins seps pre.length sep
 rw [← hi]
 refine ⟨hile, by rw [List.length_map]; exact hlen, ⟨fun e he => ?_, hmay, by decide, ?_, fun _ => ⟨?_, fun k hk => ?_, fun e => ?_⟩, fun e => by cases e⟩⟩
 · rcases insI_mem.1 he with rfl | he
   · exact g11
   · exact H.ok e he
 · show sumE (insI seps pre.length sep) + 4 * (insI seps pre.length sep).length ≤ 712
   rw [hll, hsE]; omega
 · rw [insI_len _ _ _ (by rw [List.length_map, hlen]; omega), List.length_map, hlen, hll]
 · rcases insI_mem.1 hk with rfl | hk
   · omega
   · obtain ⟨d, hd, rfl⟩ := List.mem_map.1 hk
     exact H.kid d hd
 · rw [e] at hll; simp at hll
theorem way_ok {ps : List (List UInt8)} {T : List Bool} {x : En} (hxo : x.ok) (hxs : x.s.size ≤ 200) (hT : T.length = ps.length) (hb : ps.length ≤ 4095) : ∀ (h : Nat) (d : Nd) (nx : Nat), Sub ps h d nx → d.P.Nodup → (∀ p ∈ d.P, T[p]? = some true) → riseP d.L → ∀ f, h ≤ f → x ∉ d.L → ∀ frs lp N es, wayP ps f d.p x = some (frs, lp, N, es) →
 StepsOk frs (leafSt lp N (withP es x) T) ∧ CurOk true N [] (withP es x) ∧ InsOk ps T h d nx x (setSt frs lp N (withP es x) T) ∧ lp < ps.length
 | 0, _, _, hs, _, _, _, _, _, _, _, _, _, _, _ => hs.elim
 | 1, d, nx, hs, hn, hm, hr, f, hf, hx, frs, lp, N, es, hw => by
   obtain ⟨f', rfl⟩ : ∃ f', f = f' + 1 := ⟨f - 1, by omega⟩
   have hs' := hs
   obtain ⟨hp, hnx, hok, hmay, hfit, hP, hdf, hk⟩ := hs
   rw [wayP, hp] at hw
   simp only at hw
   rw [rdPg_leaf nx d.L hnx hok hmay hfit] at hw
   simp only at hw
   injection hw with hw
   injection hw with h1 hw
   injection hw with h2 hw
   injection hw with h3 h4
   subst h1; subst h2; subst h3; subst h4
   obtain ⟨m1, m2⟩ := may_parts.1 hmay
   refine ⟨trivial, ⟨fun e he => ?_, may_parts.2 ⟨fun e he => ?_, with_rise m2 hx⟩, hnx, ?_, fun e => (by cases e), fun _ => rfl⟩, leaf_ins hxo hxs hs' hT hb hm hx, lt_of_at hp⟩
   · rcases with_mem.1 he with rfl | he
     · exact hxo
     · exact hok e he
   · rcases with_mem.1 he with rfl | he
     · exact hxs
     · exact m1 e he
   · show sumE (withP d.L x) ≤ 712
     rw [sumE_with]; omega
 | h + 2, d, nx, hs, hn, hm, hr, f, hf, hx, frs, lp, N, es, hw => by
   obtain ⟨f', rfl⟩ : ∃ f', f = f' + 1 := ⟨f - 1, by omega⟩
   obtain ⟨ds, seps, H, hsn, hp, hfit, hd⟩ := sub_to hs
   obtain ⟨m1, m2⟩ := may_parts.1 H.may
   obtain ⟨c1, c2, c3⟩ := chN_at m2 x
   obtain ⟨k1, k2, k3⟩ := kidL_page H hsn hfit
   have hlen := H.len
   have hil : chN seps x < ds.length := by omega
   obtain ⟨pre, di, post, hds, hpre⟩ : ∃ pre di post, ds = pre ++ di :: post ∧ pre.length = chN seps x := ⟨ds.take (chN seps x), ds[chN seps x], ds.drop (chN seps x + 1), by rw [← List.drop_eq_getElem_cons hil, List.take_append_drop], by rw [List.length_take]; omega⟩
   subst hds
   obtain ⟨p, hpp⟩ : ∃ p, d.p = p := ⟨_, rfl⟩
   rw [hpp] at hp hd hw
   subst hd
   have hL := ndOf_L p pre di post
   have hP := ndOf_P p pre di post
   have hc := H.chn.app.2.1
   have hdn : di.P.Nodup := by
    rw [hP, List.nodup_append, List.nodup_append] at hn
    exact hn.1.2.1
   have hdm : ∀ q ∈ di.P, T[q]? = some true := fun q hq => hm q (by rw [hP]; simp [hq])
   have hdr : riseP di.L := by
    rw [hL] at hr
    exact (List.pairwise_append.1 (List.pairwise_append.1 hr).1).2.1
   have hget : (((pre ++ di :: post).map Nd.p).headD 0 :: (seps.zip ((pre ++ di :: post).map Nd.p).tail).map Prod.snd).getD (chN seps x) 0 = di.p := by
    rw [k3, List.getD_eq_getElem?_getD, List.getElem?_map, mid_at, if_neg (by omega), if_pos hpre.symm]; rfl
   rw [wayP, hp] at hw
   simp only at hw
   rw [k1] at hw
   simp only at hw
   rw [k2, hget, k3] at hw
   cases hwd : wayP ps f' di.p x with
   | none => rw [hwd] at hw; cases hw
   | some r =>
     rw [hwd] at hw
     simp only [Option.map_some] at hw
     obtain ⟨frs', lp', N', es'⟩ := r
     injection hw with hw
     injection hw with h1 hw
     injection hw with h2 hw
     injection hw with h3 h4
     simp only at h1 h2 h3 h4
     subst h1; subst h2; subst h3; subst h4
     obtain ⟨i1, i2, i3, i4⟩ := way_ok hxo hxs hT hb (h + 1) di ((post.map Nd.f).headD nx) hc hdn hdm hdr f' (by omega) (fun e => hx (by rw [hL]; simp [e])) _ _ _ _ hwd
     refine ⟨stepsOk_snoc i1 (by have := lt_of_at hp; show p < 4294967296; omega) fun wr T' sep q e => ?_, i2, ?_, i4⟩
     · have i3 : InsOk ps T (h + 1) di ((post.map Nd.f).headD nx) x (.up wr T' sep q) := e ▸ i3
       exact fr_cur H hfit hb hpre i3
     · show InsOk ps T (h + 2) _ nx x (setSt _ _ _ _ T)
       unfold setSt
       rw [List.foldl_append]
       exact fr_ins hxo H hsn hp hfit hT hb hn hm hpre i3
def setR (way root : Nat) : Stt → Option (List (Nat × List UInt8) × Nat) × List Bool
 | .no T => (none, T)
 | .done wr T => (some (wr, root), T)
 | .up wr T sep q => if way = 12 then (none, T) else match freeI T with
   | none => (none, T)
   | some r => (some (wr ++ [(r, kidL [root, q] [sep])], r), T.set r true)
theorem insP_set (ps : List (List UInt8)) (T : List Bool) (root way : Nat) (st : Stt) : insP ps T root way st = (match (setR way root st).1 with | none => ps | some (wr, _) => wrA ps wr, (setR way root st).2, (setR way root st).1.map Prod.snd) := by
 cases st with
 | no T' => rfl
 | done wr T' => rfl
 | up wr T' sep q =>
   unfold insP setR
   simp only
   split
   · rfl
   · cases freeI T' <;> rfl
end
end Go.Proofs.YtebobcbaloddaaaGreat
namespace Go.Proofs.YtebobcbaloddaaaGreat
section
set_option linter.unusedSimpArgs false
set_option linter.unusedVariables false
open Go.RowKit Go.Maps
theorem sp_end {W : World} {R : Nat} {tm : Array Value} {Q : Ending → World → Prop} {x0 x1 x2 a b c d : Value} (hX : Blk W R 37 #[x0, x1, x2]) (hR : Blk W (R + 1) 75 #[a, b, c, d])
 (h4 : tm[2]? = some (.pointer (some ⟨R, 0, none⟩))) (h5 : tm[3]? = some (.pointer (some ⟨R + 1, 0, none⟩))) (h : Q (.returned (.tuple #[.agg #[x0, x1, x2], .agg #[a, b, c, d]])) W) :
 bodyPost Tryz.prog Tryz.f66 Q Exit.ret { tmps := tm, defers := [] } W := by
 have p0 : W.cell? ⟨R, 0, none⟩ = _ := hX.cell 0
 have p1 : W.cell? ⟨R, 1, none⟩ = _ := hX.cell 1
 have p2 : W.cell? ⟨R, 2, none⟩ = _ := hX.cell 2
 have q0 : W.cell? ⟨R + 1, 0, none⟩ = _ := hR.cell 0
 have q1 : W.cell? ⟨R + 1, 1, none⟩ = _ := hR.cell 1
 have q2 : W.cell? ⟨R + 1, 2, none⟩ = _ := hR.cell 2
 have q3 : W.cell? ⟨R + 1, 3, none⟩ = _ := hR.cell 3
 exact bodyPost_ret (v := .tuple #[.agg #[x0, x1, x2], .agg #[a, b, c, d]]) (by simp [results, Tryz.results66, go_sem, h4, h5, p0, p1, p2, q0, q1, q2, q3]) rfl h
theorem set3e {W : World} {R : Nat} {t : TypeId} {a b c a' b' c' : Value} (h : Blk W R t #[a, b, c]) : Blk (((W.setCell ⟨R, 0, none⟩ a').setCell ⟨R, 1, none⟩ b').setCell ⟨R, 2, none⟩ c') R t #[a', b', c'] := by
 have := ((h.set_ 0 a').set_ 1 b').set_ 2 c'
 simpa using this
theorem far3 {W : World} {R g : Nat} {t : TypeId} {cs : Array Value} {a b c : Value} (h : Blk W g t cs) (hg : R ≠ g) : Blk (((W.setCell ⟨R, 0, none⟩ a).setCell ⟨R, 1, none⟩ b).setCell ⟨R, 2, none⟩ c) g t cs :=
 ((h.far (p := ⟨R, 0, none⟩) hg.symm _).far (p := ⟨R, 1, none⟩) hg.symm _).far (p := ⟨R, 2, none⟩) hg.symm _
theorem far4 {W : World} {R g : Nat} {t : TypeId} {cs : Array Value} {a b c d : Value} (h : Blk W g t cs) (hg : R ≠ g) : Blk ((((W.setCell ⟨R, 0, none⟩ a).setCell ⟨R, 1, none⟩ b).setCell ⟨R, 2, none⟩ c).setCell ⟨R, 3, none⟩ d) g t cs :=
 (((h.far (p := ⟨R, 0, none⟩) hg.symm _).far (p := ⟨R, 1, none⟩) hg.symm _).far (p := ⟨R, 2, none⟩) hg.symm _).far (p := ⟨R, 3, none⟩) hg.symm _
theorem EvT.drew {O : Nat → Prop} {w w' : World} (h : EvT O w w') : EvT O w w'.drew := h.trans (O' := O) (EvT.of_below (Below.drew (Below.refl _ _))) fun _ e => .inl e
theorem EvT.store {O : Nat → Prop} {w w' : World} (h : EvT O w w') {p : Addr} (hp : w.heap.size ≤ p.block ∨ O p.block) (u : Value) : EvT O w (w'.setCell p u) :=
 ⟨h.os, h.tape, h.output, by simpa [World.setCell] using h.size, fun k hk ho => (Below.heap_setCell _ _ _ _ fun e => hp.elim (by omega) fun h => ho (by rw [e]; exact h)).trans (h.block k hk ho)⟩
theorem EvT.set7 {O : Nat → Prop} {w W : World} (h : EvT O w W) (a b c d e f g : Value) : EvT O w (((((((W.setCell ⟨w.heap.size, 0, none⟩ a).setCell ⟨w.heap.size, 1, none⟩ b).setCell ⟨w.heap.size, 2, none⟩ c).setCell ⟨w.heap.size + 1, 0, none⟩ d).setCell ⟨w.heap.size + 1, 1, none⟩ e).setCell ⟨w.heap.size + 1, 2, none⟩ f).setCell ⟨w.heap.size + 1, 3, none⟩ g) :=
 ((((((h.store (p := ⟨w.heap.size, 0, none⟩) (.inl (Nat.le_refl _)) a).store (p := ⟨w.heap.size, 1, none⟩) (.inl (Nat.le_refl _)) b).store (p := ⟨w.heap.size, 2, none⟩) (.inl (Nat.le_refl _)) c).store (p := ⟨w.heap.size + 1, 0, none⟩) (.inl (Nat.le_succ _)) d).store (p := ⟨w.heap.size + 1, 1, none⟩) (.inl (Nat.le_succ _)) e).store (p := ⟨w.heap.size + 1, 2, none⟩) (.inl (Nat.le_succ _)) f).store (p := ⟨w.heap.size + 1, 3, none⟩) (.inl (Nat.le_succ _)) g
def RetSpL (w : World) (b o : Nat) (ty : TypeId) (cs : Array Value) (N : Nat) (A : Addr) (n c : Nat) (l : List En) (at_ : Nat) (e : Ending) (w' : World) : Prop :=
 ∃ x, l[at_]? = some x ∧ e = .returned (.tuple #[x.agg, .agg #[.bool true, .int .u32 (N : Int), .slice none 0 0, .slice (some (A.add (at_ * 3))) (n - at_) (c - at_)]]) ∧ Blk w' b ty (cs.setIfInBounds (o + 3) (.slice (some A) at_ c)) ∧ EvT (fun k => k = b) w w'
set_option maxRecDepth 100000 in
set_option maxHeartbeats 8000000 in
theorem splitL_any {w : World} {b o n c N : Nat} {ty : TypeId} {cs : Array Value} {A : Addr} {l : List En} (hB : Blk w b ty cs) (k0 : cs[o]? = some (.bool true)) (k1 : cs[o + 1]? = some (.int .u32 (N : Int))) (k3 : cs[o + 3]? = some (.slice (some A) n c))
 (hr : Reads w w.heap.size 3 (some A) n (vE l)) (hn : n ≤ 1000) (hnc : n ≤ c) (hcm : c ≤ maxLen) (hs : ∀ x ∈ l, x.s.size ≤ 9000) (hAb : A.block ≠ b) (h1 : 0 < cutP 0 (lfSz l)) (h2 : cutP 0 (lfSz l) < n) :
 Calls Tryz.prog 66 #[.pointer (some ⟨b, o, none⟩)] w (RetSpL w b o ty cs N A n c l (cutP 0 (lfSz l))) := by
 have hl : l.length = n := by have := hr.1; rw [vE_len] at this; omega
 have hbl : b < w.heap.size := hB.lt
 have CU := Lib.hid fun (W : World) (hb : Below w.heap.size w W) => cutL_any (some A) n c l W ((hr.below hb).more hb.size) hn hnc hcm (Nat.zero_le _) hs
 obtain ⟨i, hi⟩ : ∃ i, cutP 0 (lfSz l) = i := ⟨_, rfl⟩
 rw [hi] at CU h1 h2 ⊢
 obtain ⟨x, hx⟩ : ∃ x, l[i]? = some x := ⟨_, List.getElem?_eq_getElem (by rw [hl]; exact h2)⟩
 obtain ⟨ad, hAd, hab, _, HXX⟩ := ent_of (w := w) hr hx
 injection hAd with hAd
 subst hAd
 have hb0 := ball (ball (Below.refl w.heap.size w) (.cells #[.string ⟨#[]⟩, .int .u32 0, .int .u16 0] 37)) (.cells #[.bool false, .int .u32 0, .slice none 0 0, .slice none 0 0] 75)
 have X0 := (Blk.new w 37 #[.string ⟨#[]⟩, .int .u32 0, .int .u16 0]).alloc (.cells #[.bool false, .int .u32 0, .slice none 0 0, .slice none 0 0] 75)
 have X1 := Blk.new (w.alloc (.cells #[.string ⟨#[]⟩, .int .u32 0, .int .u16 0] 37)) 75 #[.bool false, .int .u32 0, .slice none 0 0, .slice none 0 0]
 rw [alloc_size] at X1
 have H0 := Lib.hid (And.intro hB (And.intro X0 (And.intro X1 hb0)))
 have HK := Lib.hid (And.intro k0 (And.intro k1 k3))
 have HX := Lib.hid HXX
 have Hx := Lib.hid hx
 clear hB X0 X1 hb0 k0 k1 k3 HXX hx hi hr hs
 obtain ⟨xs, xp, xq⟩ := x
 have i0 : (0 : Int) ≤ (i : Int) := by omega
 have i1 : (i : Int) ≤ (c : Int) := by omega
 have i2 : (i : Int) < (n : Int) := by omega
 have i3 : (i : Int) ≤ (n : Int) := by omega
 have i4 : (n : Int) ≤ (c : Int) := by omega
 have hcI : (c : Int) ≤ 9223372036854775807 := by unfold maxLen at hcm; omega
 go_enter Tryz.func66, Tryz.ntmps66
 go_upto_region 1 with fail
 obtain ⟨WX, hWX⟩ : ∃ WX, ((w.alloc (.cells #[.string ⟨#[]⟩, .int .u32 0, .int .u16 0] 37)).alloc (.cells #[.bool false, .int .u32 0, .slice none 0 0, .slice none 0 0] 75)) = WX := ⟨_, rfl⟩
 rw [hWX] at H0 ⊢
 have hzX : WX.heap.size = w.heap.size + 1 + 1 := by rw [← hWX]; simp
 clear hWX
 have B0 := H0.out.1.below H0.out.2.2.2 hbl
 have e0 : WX.cell? ⟨b, o, none⟩ = some (.bool true) := (B0.cell o).trans HK.out.1
 have e1 : WX.cell? ⟨b, o + 1, none⟩ = some (.int .u32 (N : Int)) := (B0.cell (o + 1)).trans HK.out.2.1
 have e3 : WX.cell? ⟨b, o + 3, none⟩ = some (.slice (some A) n c) := (B0.cell (o + 3)).trans HK.out.2.2
 have C1 := Lib.hid (CU.out _ H0.out.2.2.2)
 clear B0 CU
 go_wp2_with fail
 refine C1.out.mono ?_
 rintro e w1 ⟨rfl, hb1⟩
 have B1 := (H0.out.1.below H0.out.2.2.2 hbl).below hb1 (by omega)
 have X0' := H0.out.2.1.below hb1 (by omega)
 have X1' := H0.out.2.2.1.below hb1 (by omega)
 have hbw1 := bto0 H0.out.2.2.2 hb1
 have hz1 : w.heap.size + 1 + 1 ≤ w1.heap.size := by have := hb1.size; omega
 have H1 := Lib.hid (And.intro B1 (And.intro X0' (And.intro X1' hbw1)))
 clear B1 X0' X1' hb1 hbw1 C1 e0 e1 e3
 have e1 : w1.cell? ⟨b, o + 1, none⟩ = some (.int .u32 (N : Int)) := (H1.out.1.cell (o + 1)).trans HK.out.2.1
 have e3 : w1.cell? ⟨b, o + 3, none⟩ = some (.slice (some A) n c) := (H1.out.1.cell (o + 3)).trans HK.out.2.2
 have f3 := H1.out.1.frozen (o + 3)
 have hb1l := H1.out.1.lt
 have hbne : b ≠ w1.heap.size := by omega
 go_wp2_with fail
 go_region
 go_wp2_with fail
 have E5 : EvT (fun k => k = b) w1 (w1.setCell ⟨b, o + 3, none⟩ (.slice (some A) i c)) := EvT.of_set (O := fun k => k = b) (p := ⟨b, o + 3, none⟩) (.inr rfl) _
 have B5 := (H1.out.1.set_ (o + 3) (.slice (some A) i c)).alloc (.cells #[.bool true, .int .u32 (N : Int), .slice none 0 0, .slice (some (A.add (i * 3))) (n - i) (c - i)] 75)
 have X5 := (H1.out.2.1.far (p := ⟨b, o + 3, none⟩) (show w.heap.size ≠ b by omega) (.slice (some A) i c)).alloc (.cells #[.bool true, .int .u32 (N : Int), .slice none 0 0, .slice (some (A.add (i * 3))) (n - i) (c - i)] 75)
 have Y5 := (H1.out.2.2.1.far (p := ⟨b, o + 3, none⟩) (show w.heap.size + 1 ≠ b by omega) (.slice (some A) i c)).alloc (.cells #[.bool true, .int .u32 (N : Int), .slice none 0 0, .slice (some (A.add (i * 3))) (n - i) (c - i)] 75)
 have Z5 := Blk.new (w1.setCell ⟨b, o + 3, none⟩ (.slice (some A) i c)) 75 #[.bool true, .int .u32 (N : Int), .slice none 0 0, .slice (some (A.add (i * 3))) (n - i) (c - i)]
 have hzs : (w1.setCell ⟨b, o + 3, none⟩ (.slice (some A) i c)).heap.size = w1.heap.size := by simp [World.setCell]
 rw [hzs] at Z5
 have EA : EvT (fun k => k = b) w ((w1.setCell ⟨b, o + 3, none⟩ (.slice (some A) i c)).alloc (.cells #[.bool true, .int .u32 (N : Int), .slice none 0 0, .slice (some (A.add (i * 3))) (n - i) (c - i)] 75)) :=
  ((EvT.of_below (O := fun k => k = b) H1.out.2.2.2).trans E5 fun g e => .inl e).trans (EvT.of_below (O := fun k => k = b) (ball (Below.refl _ _) _)) fun g e => .inl e
 obtain ⟨u0, u1, u2⟩ := HX.out _ H1.out.2.2.2
 have hA3 : (A.add (i * 3)).block = A.block := by rw [block_of_add]
 have V0 : ((w1.setCell ⟨b, o + 3, none⟩ (.slice (some A) i c)).alloc (.cells #[.bool true, .int .u32 (N : Int), .slice none 0 0, .slice (some (A.add (i * 3))) (n - i) (c - i)] 75)).heap[A.block]? = w1.heap[A.block]? := by
  rw [Below.heap_alloc _ _ _ (by rw [hzs]; omega), Below.heap_setCell _ _ _ _ hAb]
 obtain ⟨W5, hW5⟩ : ∃ W5, ((w1.setCell ⟨b, o + 3, none⟩ (.slice (some A) i c)).alloc (.cells #[.bool true, .int .u32 (N : Int), .slice none 0 0, .slice (some (A.add (i * 3))) (n - i) (c - i)] 75)) = W5 := ⟨_, rfl⟩
 rw [hW5] at B5 X5 Y5 Z5 EA V0 ⊢
 have q3 : W5.cell? ⟨w1.heap.size, 3, none⟩ = some (.slice (some (A.add (i * 3))) (n - i) (c - i)) := Z5.cell 3
 have q0 : W5.cell? ⟨w1.heap.size, 0, none⟩ = some (.bool true) := Z5.cell 0
 have q1 : W5.cell? ⟨w1.heap.size, 1, none⟩ = some (.int .u32 (N : Int)) := Z5.cell 1
 have q2 : W5.cell? ⟨w1.heap.size, 2, none⟩ = some (.slice none 0 0) := Z5.cell 2
 have v0 : W5.cell? (A.add (i * 3)) = some (.string xs) := (World.cell?_of_block (by rw [hA3]; exact V0)).trans u0
 have v1 : W5.cell? ⟨(A.add (i * 3)).block, (A.add (i * 3)).off + 1, none⟩ = some (.int .u32 xp) := (World.cell?_of_block (a := ⟨(A.add (i * 3)).block, _, none⟩) (by rw [hA3]; exact V0)).trans u1
 have v2 : W5.cell? ⟨(A.add (i * 3)).block, (A.add (i * 3)).off + 2, none⟩ = some (.int .u16 xq) := (World.cell?_of_block (a := ⟨(A.add (i * 3)).block, _, none⟩) (by rw [hA3]; exact V0)).trans u2
 have p0 : W5.cell? ⟨w.heap.size, 0, none⟩ = some (.string ⟨#[]⟩) := X5.cell 0
 have p1 : W5.cell? ⟨w.heap.size, 1, none⟩ = some (.int .u32 0) := X5.cell 1
 have p2 : W5.cell? ⟨w.heap.size, 2, none⟩ = some (.int .u16 0) := X5.cell 2
 have r0 : W5.cell? ⟨w.heap.size + 1, 0, none⟩ = some (.bool false) := Y5.cell 0
 have r1 : W5.cell? ⟨w.heap.size + 1, 1, none⟩ = some (.int .u32 0) := Y5.cell 1
 have r2 : W5.cell? ⟨w.heap.size + 1, 2, none⟩ = some (.slice none 0 0) := Y5.cell 2
 have r3 : W5.cell? ⟨w.heap.size + 1, 3, none⟩ = some (.slice none 0 0) := Y5.cell 3
 have fp0 := X5.frozen 0
 have fp1 := X5.frozen 1
 have fp2 := X5.frozen 2
 have fr0 := Y5.frozen 0
 have fr1 := Y5.frozen 1
 have fr2 := Y5.frozen 2
 have fr3 := Y5.frozen 3
 have lp := X5.lt
 have lr := Y5.lt
 have HH := Lib.hid (And.intro B5 (And.intro X5 (And.intro Y5 EA)))
 have n1 : w.heap.size ≠ (A.add (i * 3)).block := by omega
 have n2 : w.heap.size + 1 ≠ (A.add (i * 3)).block := by omega
 have n3 : w1.heap.size ≠ w.heap.size := by omega
 have n4 : w1.heap.size ≠ w.heap.size + 1 := by omega
 have hni : (0 : Int) < ((n - i : Nat) : Int) := by omega
 clear B5 X5 Y5 Z5 EA V0 E5 hzs hW5 e1 e3 f3
 obtain ⟨Bd, hBd⟩ : ∃ Bd, A.add (i * 3) = Bd := ⟨_, rfl⟩
 rw [hBd] at v0 v1 v2 q3 n1 n2 ⊢
 have HBd := Lib.hid hBd
 clear hBd hA3 u0 u1 u2
 go_region
 go_wp2_with fail
 have hXf := set3e HH.out.2.1 (a' := .string xs) (b' := .int .u32 xp) (c' := .int .u16 xq)
 have hYf := blk4 (far3 HH.out.2.2.1 (show w.heap.size ≠ w.heap.size + 1 by omega) (a := .string xs) (b := .int .u32 xp) (c := .int .u16 xq)) (a' := .bool true) (b' := .int .u32 (N : Int)) (c' := .slice none 0 0) (d' := .slice (some Bd) (n - i) (c - i))
 have hXg := far4 hXf (show w.heap.size + 1 ≠ w.heap.size by omega) (a := .bool true) (b := .int .u32 (N : Int)) (c := .slice none 0 0) (d := .slice (some Bd) (n - i) (c - i))
 have hBf := far4 (far3 HH.out.1 (show w.heap.size ≠ b by omega) (a := .string xs) (b := .int .u32 xp) (c := .int .u16 xq)) (show w.heap.size + 1 ≠ b by omega) (a := .bool true) (b := .int .u32 (N : Int)) (c := .slice none 0 0) (d := .slice (some Bd) (n - i) (c - i))
 have hEf := EvT.set7 HH.out.2.2.2 (.string xs) (.int .u32 xp) (.int .u16 xq) (.bool true) (.int .u32 (N : Int)) (.slice none 0 0) (.slice (some Bd) (n - i) (c - i))
 refine sp_end hXg.drew.drew hYf.drew.drew rfl rfl ⟨⟨xs, xp, xq⟩, Hx.out, ?_, hBf.drew.drew, hEf.drew.drew⟩
 rw [HBd.out]
end
end Go.Proofs.YtebobcbaloddaaaGreat
namespace Go.Proofs.YtebobcbaloddaaaGreat
section
set_option linter.unusedSimpArgs false
set_option linter.unusedVariables false
open Go.RowKit Go.Maps
theorem farS2 {W : World} {g R i j : Nat} {t : TypeId} {cs : Array Value} {a b : Value} (h : Blk W g t cs) (hg : g ≠ R) : Blk ((W.setCell ⟨R, i, none⟩ a).setCell ⟨R, j, none⟩ b) g t cs :=
 (h.far (p := ⟨R, i, none⟩) hg _).far (p := ⟨R, j, none⟩) hg _
def RetSpI (w : World) (b o : Nat) (ty : TypeId) (cs : Array Value) (A2 : Addr) (c2 : Nat) (A : Addr) (n c : Nat) (l : List En) (at_ : Nat) (e : Ending) (w' : World) : Prop :=
 ∃ x, l[at_]? = some x ∧ e = .returned (.tuple #[x.agg, .agg #[.bool false, .int .u32 0, .slice (some (A2.add (at_ + 1))) (n - at_) (c2 - (at_ + 1)), .slice (some (A.add ((at_ + 1) * 3))) (n - (at_ + 1)) (c - (at_ + 1))]]) ∧ Blk w' b ty ((cs.setIfInBounds (o + 2) (.slice (some A2) (at_ + 1) c2)).setIfInBounds (o + 3) (.slice (some A) at_ c)) ∧ EvT (fun k => k = b) w w'
set_option maxRecDepth 100000 in
set_option maxHeartbeats 8000000 in
theorem splitI_any {w : World} {b o n c c2 : Nat} {ty : TypeId} {cs : Array Value} {A A2 : Addr} {l : List En} (hB : Blk w b ty cs) (k0 : cs[o]? = some (.bool false)) (k2 : cs[o + 2]? = some (.slice (some A2) (n + 1) c2)) (k3 : cs[o + 3]? = some (.slice (some A) n c))
 (hr : Reads w w.heap.size 3 (some A) n (vE l)) (hn : n ≤ 1000) (hnc : n ≤ c) (hcm : c ≤ maxLen) (hnc2 : n + 1 ≤ c2) (hcm2 : c2 ≤ maxLen) (hs : ∀ x ∈ l, x.s.size ≤ 9000) (hAb : A.block ≠ b) (h1 : 0 < cutP 1 (inSz l)) (h2 : cutP 1 (inSz l) + 1 < n) :
 Calls Tryz.prog 66 #[.pointer (some ⟨b, o, none⟩)] w (RetSpI w b o ty cs A2 c2 A n c l (cutP 1 (inSz l))) := by
 have hl : l.length = n := by have := hr.1; rw [vE_len] at this; omega
 have hbl : b < w.heap.size := hB.lt
 have CU := Lib.hid fun (W : World) (hb : Below w.heap.size w W) => cutI_any (some A) n c l W ((hr.below hb).more hb.size) hn hnc hcm (by omega) hs
 obtain ⟨i, hi⟩ : ∃ i, cutP 1 (inSz l) = i := ⟨_, rfl⟩
 rw [hi] at CU h1 h2 ⊢
 obtain ⟨x, hx⟩ : ∃ x, l[i]? = some x := ⟨_, List.getElem?_eq_getElem (by rw [hl]; omega)⟩
 obtain ⟨ad, hAd, hab, _, HXX⟩ := ent_of (w := w) hr hx
 injection hAd with hAd
 subst hAd
 have hb0 := ball (ball (Below.refl w.heap.size w) (.cells #[.string ⟨#[]⟩, .int .u32 0, .int .u16 0] 37)) (.cells #[.bool false, .int .u32 0, .slice none 0 0, .slice none 0 0] 75)
 have X0 := (Blk.new w 37 #[.string ⟨#[]⟩, .int .u32 0, .int .u16 0]).alloc (.cells #[.bool false, .int .u32 0, .slice none 0 0, .slice none 0 0] 75)
 have X1 := Blk.new (w.alloc (.cells #[.string ⟨#[]⟩, .int .u32 0, .int .u16 0] 37)) 75 #[.bool false, .int .u32 0, .slice none 0 0, .slice none 0 0]
 rw [alloc_size] at X1
 have H0 := Lib.hid (And.intro hB (And.intro X0 (And.intro X1 hb0)))
 have HK := Lib.hid (And.intro k0 (And.intro k2 k3))
 have HX := Lib.hid HXX
 have Hx := Lib.hid hx
 clear hB X0 X1 hb0 k0 k2 k3 HXX hx hi hr hs
 obtain ⟨xs, xp, xq⟩ := x
 obtain ⟨i', hi'⟩ : ∃ i', i + 1 = i' := ⟨_, rfl⟩
 have i0 : (0 : Int) ≤ (i : Int) := by omega
 have i1 : (i : Int) ≤ (c : Int) := by omega
 have i2 : (i : Int) < (n : Int) := by omega
 have i3 : (i : Int) ≤ (n : Int) := by omega
 have i4 : (n : Int) ≤ (c : Int) := by omega
 have hcI : (c : Int) ≤ 9223372036854775807 := by unfold maxLen at hcm; omega
 have hcI2 : (c2 : Int) ≤ 9223372036854775807 := by unfold maxLen at hcm2; omega
 have j0 : (0 : Int) ≤ (i' : Int) := by omega
 have j1 : (i' : Int) ≤ (c : Int) := by omega
 have j2 : (i' : Int) ≤ (n : Int) := by omega
 have j3 : (i' : Int) ≤ ((n + 1 : Nat) : Int) := by omega
 have j4 : (i' : Int) ≤ (c2 : Int) := by omega
 have j5 : ((n + 1 : Nat) : Int) ≤ (c2 : Int) := by omega
 have e9 : n + 1 - i' = n - i := by omega
 have nI : (n : Int) ≤ 1000 := by omega
 go_enter Tryz.func66, Tryz.ntmps66
 go_upto_region 1 with fail
 obtain ⟨WX, hWX⟩ : ∃ WX, ((w.alloc (.cells #[.string ⟨#[]⟩, .int .u32 0, .int .u16 0] 37)).alloc (.cells #[.bool false, .int .u32 0, .slice none 0 0, .slice none 0 0] 75)) = WX := ⟨_, rfl⟩
 rw [hWX] at H0 ⊢
 have hzX : WX.heap.size = w.heap.size + 1 + 1 := by rw [← hWX]; simp
 clear hWX
 have B0 := H0.out.1.below H0.out.2.2.2 hbl
 have e0 : WX.cell? ⟨b, o, none⟩ = some (.bool false) := (B0.cell o).trans HK.out.1
 have e3 : WX.cell? ⟨b, o + 3, none⟩ = some (.slice (some A) n c) := (B0.cell (o + 3)).trans HK.out.2.2
 have C1 := Lib.hid (CU.out _ H0.out.2.2.2)
 clear B0 CU
 go_wp2_with fail
 refine C1.out.mono ?_
 rintro e w1 ⟨rfl, hb1⟩
 have B1 := (H0.out.1.below H0.out.2.2.2 hbl).below hb1 (by omega)
 have X0' := H0.out.2.1.below hb1 (by omega)
 have X1' := H0.out.2.2.1.below hb1 (by omega)
 have hbw1 := bto0 H0.out.2.2.2 hb1
 have hz1 : w.heap.size + 1 + 1 ≤ w1.heap.size := by have := hb1.size; omega
 have H1 := Lib.hid (And.intro B1 (And.intro X0' (And.intro X1' hbw1)))
 clear B1 X0' X1' hb1 hbw1 C1 e0 e3
 have e3 : w1.cell? ⟨b, o + 3, none⟩ = some (.slice (some A) n c) := (H1.out.1.cell (o + 3)).trans HK.out.2.2
 obtain ⟨u0, u1, u2⟩ := HX.out _ H1.out.2.2.2
 go_wp2_with fail
 have B7 := H1.out.1.alloc (.cells #[.string xs, .int .u32 xp, .int .u16 xq] 37)
 have X7 := H1.out.2.1.alloc (.cells #[.string xs, .int .u32 xp, .int .u16 xq] 37)
 have Y7 := H1.out.2.2.1.alloc (.cells #[.string xs, .int .u32 xp, .int .u16 xq] 37)
 have Z7 := Blk.new w1 37 #[.string xs, .int .u32 xp, .int .u16 xq]
 have b7 := ball H1.out.2.2.2 (.cells #[.string xs, .int .u32 xp, .int .u16 xq] 37)
 have hz7 : (w1.alloc (.cells #[.string xs, .int .u32 xp, .int .u16 xq] 37)).heap.size = w1.heap.size + 1 := by simp
 obtain ⟨W7, hW7⟩ : ∃ W7, (w1.alloc (.cells #[.string xs, .int .u32 xp, .int .u16 xq] 37)) = W7 := ⟨_, rfl⟩
 rw [hW7] at B7 X7 Y7 Z7 b7 hz7 ⊢
 have g2 : W7.cell? ⟨b, o + 2, none⟩ = some (.slice (some A2) (n + 1) c2) := (B7.cell (o + 2)).trans HK.out.2.1
 have g3 : W7.cell? ⟨b, o + 3, none⟩ = some (.slice (some A) n c) := (B7.cell (o + 3)).trans HK.out.2.2
 have H7 := Lib.hid (And.intro B7 (And.intro X7 (And.intro Y7 (And.intro Z7 b7))))
 have s1 : (i : Int) + 1 = (i' : Int) := by omega
 have s2 : IntKind.i64.wrap (i' : Int) = (i' : Int) := IntWalk.i64_in _ (by omega)
 have s3 : IntKind.i64.wrap ((i : Int) + 1) = (i' : Int) := by rw [s1, s2]
 have hb7l : b < W7.heap.size := by omega
 have hbne : b ≠ W7.heap.size := by omega
 have j3' : (i' : Int) ≤ (n : Int) + 1 := by omega
 have HZ7 := Lib.hid hz7
 clear B7 X7 Y7 Z7 b7 hW7 u0 u1 u2 e3 hz7
 go_region
 go_wp2_with fail
 have hz8 : (W7.alloc (.cells #[.bool false, .int .u32 0, .slice (some (A2.add i')) (n - i) (c2 - i'), .slice (some (A.add (i' * 3))) (n - i') (c - i')] 75)).heap.size = W7.heap.size + 1 := by simp
 have B8 := H7.out.1.alloc (.cells #[.bool false, .int .u32 0, .slice (some (A2.add i')) (n - i) (c2 - i'), .slice (some (A.add (i' * 3))) (n - i') (c - i')] 75)
 have X8 := H7.out.2.1.alloc (.cells #[.bool false, .int .u32 0, .slice (some (A2.add i')) (n - i) (c2 - i'), .slice (some (A.add (i' * 3))) (n - i') (c - i')] 75)
 have Y8 := H7.out.2.2.1.alloc (.cells #[.bool false, .int .u32 0, .slice (some (A2.add i')) (n - i) (c2 - i'), .slice (some (A.add (i' * 3))) (n - i') (c - i')] 75)
 have Z8 := H7.out.2.2.2.1.alloc (.cells #[.bool false, .int .u32 0, .slice (some (A2.add i')) (n - i) (c2 - i'), .slice (some (A.add (i' * 3))) (n - i') (c - i')] 75)
 have N8 := Blk.new W7 75 #[.bool false, .int .u32 0, .slice (some (A2.add i')) (n - i) (c2 - i'), .slice (some (A.add (i' * 3))) (n - i') (c - i')]
 have b8 := ball H7.out.2.2.2.2 (.cells #[.bool false, .int .u32 0, .slice (some (A2.add i')) (n - i) (c2 - i'), .slice (some (A.add (i' * 3))) (n - i') (c - i')] 75)
 obtain ⟨W8, hW8⟩ : ∃ W8, (W7.alloc (.cells #[.bool false, .int .u32 0, .slice (some (A2.add i')) (n - i) (c2 - i'), .slice (some (A.add (i' * 3))) (n - i') (c - i')] 75)) = W8 := ⟨_, rfl⟩
 rw [hW8] at B8 X8 Y8 Z8 N8 b8 hz8 ⊢
 clear g2 g3 hW8
 have g2 : W8.cell? ⟨b, o + 2, none⟩ = some (.slice (some A2) (n + 1) c2) := (B8.cell (o + 2)).trans HK.out.2.1
 have g3 : W8.cell? ⟨b, o + 3, none⟩ = some (.slice (some A) n c) := (B8.cell (o + 3)).trans HK.out.2.2
 have f2 := B8.frozen (o + 2)
 have f3 := B8.frozen (o + 3)
 have hb8l := B8.lt
 have H8 := Lib.hid (And.intro B8 (And.intro X8 (And.intro Y8 (And.intro Z8 (And.intro N8 b8)))))
 have HZ8 := Lib.hid hz8
 clear B8 X8 Y8 Z8 N8 b8 hz8 hbne hb7l
 go_region
 go_wp2_with fail
 have hw7 : w1.heap.size < W7.heap.size := by have := HZ7.out; omega
 have hw0 : w.heap.size + 1 < w1.heap.size := by omega
 have E9 : EvT (fun k => k = b) w ((W8.setCell ⟨b, o + 2, none⟩ (.slice (some A2) i' c2)).setCell ⟨b, o + 3, none⟩ (.slice (some A) i c)) :=
  ((EvT.of_below (O := fun k => k = b) H8.out.2.2.2.2.2).store (p := ⟨b, o + 2, none⟩) (.inr rfl) _).store (p := ⟨b, o + 3, none⟩) (.inr rfl) _
 have B9 := (H8.out.1.set_ (o + 2) (.slice (some A2) i' c2)).set_ (o + 3) (.slice (some A) i c)
 have X9 := farS2 H8.out.2.1 (show w.heap.size ≠ b by omega) (i := o + 2) (j := o + 3) (a := .slice (some A2) i' c2) (b := .slice (some A) i c)
 have Y9 := farS2 H8.out.2.2.1 (show w.heap.size + 1 ≠ b by omega) (i := o + 2) (j := o + 3) (a := .slice (some A2) i' c2) (b := .slice (some A) i c)
 have Z9 := farS2 H8.out.2.2.2.1 (show w1.heap.size ≠ b by omega) (i := o + 2) (j := o + 3) (a := .slice (some A2) i' c2) (b := .slice (some A) i c)
 have N9 := farS2 H8.out.2.2.2.2.1 (show W7.heap.size ≠ b by omega) (i := o + 2) (j := o + 3) (a := .slice (some A2) i' c2) (b := .slice (some A) i c)
 obtain ⟨W9, hW9⟩ : ∃ W9, ((W8.setCell ⟨b, o + 2, none⟩ (.slice (some A2) i' c2)).setCell ⟨b, o + 3, none⟩ (.slice (some A) i c)) = W9 := ⟨_, rfl⟩
 rw [hW9] at E9 B9 X9 Y9 Z9 N9 ⊢
 clear hW9 g2 g3 f2 f3
 have q0 : W9.cell? ⟨W7.heap.size, 0, none⟩ = some (.bool false) := N9.cell 0
 have q1 : W9.cell? ⟨W7.heap.size, 1, none⟩ = some (.int .u32 0) := N9.cell 1
 have q2 : W9.cell? ⟨W7.heap.size, 2, none⟩ = some (.slice (some (A2.add i')) (n - i) (c2 - i')) := N9.cell 2
 have q3 : W9.cell? ⟨W7.heap.size, 3, none⟩ = some (.slice (some (A.add (i' * 3))) (n - i') (c - i')) := N9.cell 3
 have v0 : W9.cell? ⟨w1.heap.size, 0, none⟩ = some (.string xs) := Z9.cell 0
 have v1 : W9.cell? ⟨w1.heap.size, 1, none⟩ = some (.int .u32 xp) := Z9.cell 1
 have v2 : W9.cell? ⟨w1.heap.size, 2, none⟩ = some (.int .u16 xq) := Z9.cell 2
 have p0 : W9.cell? ⟨w.heap.size, 0, none⟩ = some (.string ⟨#[]⟩) := X9.cell 0
 have p1 : W9.cell? ⟨w.heap.size, 1, none⟩ = some (.int .u32 0) := X9.cell 1
 have p2 : W9.cell? ⟨w.heap.size, 2, none⟩ = some (.int .u16 0) := X9.cell 2
 have r0 : W9.cell? ⟨w.heap.size + 1, 0, none⟩ = some (.bool false) := Y9.cell 0
 have r1 : W9.cell? ⟨w.heap.size + 1, 1, none⟩ = some (.int .u32 0) := Y9.cell 1
 have r2 : W9.cell? ⟨w.heap.size + 1, 2, none⟩ = some (.slice none 0 0) := Y9.cell 2
 have r3 : W9.cell? ⟨w.heap.size + 1, 3, none⟩ = some (.slice none 0 0) := Y9.cell 3
 have fp0 := X9.frozen 0
 have fp1 := X9.frozen 1
 have fp2 := X9.frozen 2
 have fr0 := Y9.frozen 0
 have fr1 := Y9.frozen 1
 have fr2 := Y9.frozen 2
 have fr3 := Y9.frozen 3
 have lp := X9.lt
 have lr := Y9.lt
 have n1 : w.heap.size ≠ w1.heap.size := by omega
 have n2 : w.heap.size + 1 ≠ w1.heap.size := by omega
 have n3 : W7.heap.size ≠ w.heap.size := by omega
 have n4 : W7.heap.size ≠ w.heap.size + 1 := by omega
 have n5 : w1.heap.size ≠ w.heap.size := by omega
 have n6 : w1.heap.size ≠ w.heap.size + 1 := by omega
 have HH := Lib.hid (And.intro B9 (And.intro X9 (And.intro Y9 E9)))
 have HI := Lib.hid hi'
 clear B9 X9 Y9 Z9 N9 E9 hi'
 go_region
 go_wp2_with fail
 have hXf := set3e HH.out.2.1 (a' := .string xs) (b' := .int .u32 xp) (c' := .int .u16 xq)
 have hYf := blk4 (far3 HH.out.2.2.1 (show w.heap.size ≠ w.heap.size + 1 by omega) (a := .string xs) (b := .int .u32 xp) (c := .int .u16 xq)) (a' := .bool false) (b' := .int .u32 0) (c' := .slice (some (A2.add i')) (n - i) (c2 - i')) (d' := .slice (some (A.add (i' * 3))) (n - i') (c - i'))
 have hXg := far4 hXf (show w.heap.size + 1 ≠ w.heap.size by omega) (a := .bool false) (b := .int .u32 0) (c := .slice (some (A2.add i')) (n - i) (c2 - i')) (d := .slice (some (A.add (i' * 3))) (n - i') (c - i'))
 have hBf := far4 (far3 HH.out.1 (show w.heap.size ≠ b by omega) (a := .string xs) (b := .int .u32 xp) (c := .int .u16 xq)) (show w.heap.size + 1 ≠ b by omega) (a := .bool false) (b := .int .u32 0) (c := .slice (some (A2.add i')) (n - i) (c2 - i')) (d := .slice (some (A.add (i' * 3))) (n - i') (c - i'))
 have hEf := EvT.set7 HH.out.2.2.2 (.string xs) (.int .u32 xp) (.int .u16 xq) (.bool false) (.int .u32 0) (.slice (some (A2.add i')) (n - i) (c2 - i')) (.slice (some (A.add (i' * 3))) (n - i') (c - i'))
 refine sp_end hXg.drew.drew.drew hYf.drew.drew.drew rfl rfl ⟨⟨xs, xp, xq⟩, Hx.out, ?_, ?_, hEf.drew.drew.drew⟩
 · rw [HI.out]
 · rw [HI.out]; exact hBf.drew.drew.drew
end
end Go.Proofs.YtebobcbaloddaaaGreat
namespace Go.Proofs.YtebobcbaloddaaaGreat
section
set_option linter.unusedSimpArgs false
set_option linter.unusedVariables false
open Go.RowKit Go.Maps
theorem Blk.ty {w : World} {g : Nat} {t t' : TypeId} {cs cs' : Array Value} (h : Blk w g t cs) (k : Blk w g t' cs') : t = t' := by
 have := (h.symm.trans k : some (Obj.cells cs t) = some (Obj.cells cs' t'))
 injection this with this
 injection this
def ChO (Bc : Nat) (P Y : S11) (b : Nat) : Prop := b = Bc ∨ P.own b ∨ Y.own b
structure ChS (w : World) (z Bc g : Nat) (P Y : S11) (ns : List Nat) (bs : List (List UInt8)) : Prop where
 blk : Blk w Bc 85 #[.pointer (some ⟨g, 0, none⟩), P.v, Y.v]
 hz : z ≤ Bc
 pg : w.ownsRow z 30 1 P.v P.n (vN ns)
 by_ : ∃ ys, w.ownsRow z 58 1 Y.v Y.n ys ∧ ys.length = bs.length ∧ ∀ (k : Nat) v L, ys[k]? = some v → bs[k]? = some L → Own w z v L
section
variable {w w' w6 : World} {z Bc g : Nat} {P Y : S11} {ns : List Nat} {bs : List (List UInt8)} {O : Nat → Prop}
theorem ChS.len (h : ChS w z Bc g P Y ns bs) : P.n = ns.length ∧ Y.n = bs.length := by
 obtain ⟨ys, h1, h2, _⟩ := h.by_
 have a := h.pg.1; have b := h1.1
 rw [vN_len] at a
 omega
theorem ChS.stays (h : ChS w z Bc g P Y ns bs) (hv : EvT O w w') (hO : ∀ b, O b → b < z) (hzw : z ≤ w.heap.size) : ChS w' z Bc g P Y ns bs := by
 obtain ⟨ys, h1, h2, h3⟩ := h.by_
 have hn : ∀ {e : TypeId} {size n : Nat} {v : Value} {xs : List Value}, w.ownsRow z e size v n xs → ∀ b, v.ownBlock = some b → ¬ O b := fun ho b e e2 => by
  have := (World.ownsRow.lt ho b e).1; have := hO b e2; omega
 exact ⟨hv.blk h.blk fun e => by have := hO _ e; have := h.hz; omega, h.hz, hv.own h.pg (hn h.pg), ys, hv.own h1 (hn h1), h2, fun k v L a b => hv.own (h3 k v L a b) (hn (h3 k v L a b))⟩
theorem ChS.pushP {o : Obj} {v' : Value} (h : ChS w z Bc g P Y ns bs) (p : Nat) (ho : w6.ownsRow z 30 1 v' (P.n + 1) (vN ns ++ [.int .u32 (p : Int)])) (hg : (w.alloc o).grownBy w6 P.v.ownBlock) (hv : v'.ownBlock = P.v.ownBlock ∨ v'.ownBlock = some (w.heap.size + 1)) :
 ∃ A c, v' = .slice A (P.n + 1) c ∧ ChS (w6.setCell ⟨Bc, 1, none⟩ (.slice A (P.n + 1) c)) z Bc g ⟨A, P.n + 1, c⟩ Y (ns ++ [p]) bs ∧ EvT (ChO Bc P Y) w (w6.setCell ⟨Bc, 1, none⟩ (.slice A (P.n + 1) c)) ∧ (∀ b, ChO Bc ⟨A, P.n + 1, c⟩ Y b → ChO Bc P Y b ∨ w.heap.size ≤ b) ∧ Blk w6 Bc 85 #[.pointer (some ⟨g, 0, none⟩), P.v, Y.v] := by
 obtain ⟨A, c, rfl, hc⟩ := own_form ho
 rw [← vN_snoc] at ho
 obtain ⟨ys, h1, h2, h3⟩ := h.by_
 have e1 : EvT P.own w w6 := (EvT.of_below (O := P.own) (ball (Below.refl _ _) _)).trans (EvT.of_grown (O := P.own) hg fun g e => .inl e) fun g e => .inl e
 have hBc : ¬ P.own Bc := fun e => own_blk_ne h.pg h.blk (by decide) e
 have hBn : ¬ (Value.slice A (P.n + 1) c).ownBlock = some Bc := fun e => by
  rcases hv with k | k
  · exact hBc (k.symm.trans e)
  · have := k.symm.trans e; injection this with this; have := h.blk.lt; omega
 have b6 := e1.blk h.blk hBc
 have hne : ∀ {e : TypeId} {size n : Nat} {v : Value} {xs : List Value}, w.ownsRow z e size v n xs → e ≠ 30 → ∀ b, v.ownBlock = some b → ¬ P.own b := fun ho hne b e e2 => by
  obtain ⟨cs, hb⟩ := own_blk17 ho e
  exact own_blk_ne h.pg hb (fun k => hne k.symm) e2
 have hfar : ∀ {e : TypeId} {size n : Nat} {v : Value} {xs : List Value}, w6.ownsRow z e size v n xs → e ≠ 85 → (w6.setCell ⟨Bc, 1, none⟩ (.slice A (P.n + 1) c)).ownsRow z e size v n xs := fun ho hne => own_far ho b6 hne 1 _
 refine ⟨A, c, rfl, ⟨by have := b6.set_ 1 (.slice A (P.n + 1) c); simpa using this, h.hz, hfar ho (by decide), ys, hfar (e1.own h1 (hne h1 (by decide))) (by decide), h2, fun k v L a b => hfar (e1.own (h3 k v L a b) (hne (h3 k v L a b) (by decide))) (by decide)⟩, (e1.mono fun g e => .inl (.inr (.inl e))).store (p := ⟨Bc, 1, none⟩) (.inr (.inl rfl)) _, ?_, b6⟩
 rintro b (e | e | e)
 · exact .inl (.inl e)
 · rcases hv with k | k
   · exact .inl (.inr (.inl (k.symm.trans e)))
   · have e : (Value.slice A (P.n + 1) c).ownBlock = some b := e
     have := k.symm.trans e; injection this with this; exact .inr (by omega)
 · exact .inl (.inr (.inr e))
theorem ChS.pushY {o : Obj} {v' v : Value} {L : List UInt8} (h : ChS w z Bc g P Y ns bs) {ys : List Value} (hys : w.ownsRow z 58 1 Y.v Y.n ys ∧ ys.length = bs.length ∧ ∀ (k : Nat) v L, ys[k]? = some v → bs[k]? = some L → Own w z v L) (hL : Own w z v L) (ho : w6.ownsRow z 58 1 v' (Y.n + 1) (ys ++ [v])) (hg : (w.alloc o).grownBy w6 Y.v.ownBlock) (hv : v'.ownBlock = Y.v.ownBlock ∨ v'.ownBlock = some (w.heap.size + 1)) :
 ∃ A c, v' = .slice A (Y.n + 1) c ∧ ChS (w6.setCell ⟨Bc, 2, none⟩ (.slice A (Y.n + 1) c)) z Bc g P ⟨A, Y.n + 1, c⟩ ns (bs ++ [L]) ∧ EvT (ChO Bc P Y) w (w6.setCell ⟨Bc, 2, none⟩ (.slice A (Y.n + 1) c)) ∧ (∀ b, ChO Bc P ⟨A, Y.n + 1, c⟩ b → ChO Bc P Y b ∨ w.heap.size ≤ b) ∧ Blk w6 Bc 85 #[.pointer (some ⟨g, 0, none⟩), P.v, Y.v] := by
 obtain ⟨A, c, rfl, hc⟩ := own_form ho
 obtain ⟨h1, h2, h3⟩ := hys
 have e1 : EvT Y.own w w6 := (EvT.of_below (O := Y.own) (ball (Below.refl _ _) _)).trans (EvT.of_grown (O := Y.own) hg fun g e => .inl e) fun g e => .inl e
 have hBc : ¬ Y.own Bc := fun e => own_blk_ne h1 h.blk (by decide) e
 have b6 := e1.blk h.blk hBc
 have hne : ∀ {e : TypeId} {size n : Nat} {v : Value} {xs : List Value}, w.ownsRow z e size v n xs → e ≠ 58 → ∀ b, v.ownBlock = some b → ¬ Y.own b := fun ho hne b e e2 => by
  obtain ⟨cs, hb⟩ := own_blk17 ho e
  exact own_blk_ne h1 hb (fun k => hne k.symm) e2
 have hfar : ∀ {e : TypeId} {size n : Nat} {v : Value} {xs : List Value}, w6.ownsRow z e size v n xs → e ≠ 85 → (w6.setCell ⟨Bc, 2, none⟩ (.slice A (Y.n + 1) c)).ownsRow z e size v n xs := fun ho hne => own_far ho b6 hne 2 _
 refine ⟨A, c, rfl, ⟨by have := b6.set_ 2 (.slice A (Y.n + 1) c); simpa using this, h.hz, hfar (e1.own h.pg (hne h.pg (by decide))) (by decide), ys ++ [v], hfar ho (by decide), by simp [h2], fun k u L' a b => ?_⟩, (e1.mono fun g e => .inl (.inr (.inr e))).store (p := ⟨Bc, 2, none⟩) (.inr (.inl rfl)) _, ?_, b6⟩
 · have hown : ∀ {u L'}, Own w z u L' → Own (w6.setCell ⟨Bc, 2, none⟩ (.slice A (Y.n + 1) c)) z u L' := fun ho => hfar (e1.own ho (hne ho (by decide))) (by decide)
   rcases Nat.lt_or_ge k ys.length with hk | hk
   · rw [List.getElem?_append_left hk] at a
     rw [List.getElem?_append_left (by omega)] at b
     exact hown (h3 k u L' a b)
   · rw [List.getElem?_append_right hk] at a
     rw [List.getElem?_append_right (by omega)] at b
     have hk0 : k - ys.length = 0 := by have := lt_of_at a; simp at this; omega
     have hk1 : k - bs.length = 0 := by omega
     rw [hk0] at a; rw [hk1] at b
     simp at a b
     subst a; subst b
     exact hown hL
 · rintro b (e | e | e)
   · exact .inl (.inl e)
   · exact .inl (.inr (.inl e))
   · rcases hv with k | k
     · exact .inl (.inr (.inr (k.symm.trans e)))
     · have e : (Value.slice A (Y.n + 1) c).ownBlock = some b := e
       have := k.symm.trans e; injection this with this; exact .inr (by omega)
theorem ChS.ne (h : ChS w z Bc g P Y ns bs) {b : Nat} {t : TypeId} {cs : Array Value} (hb : Blk w b t cs) (h1 : t ≠ 85) (h2 : 30 ≠ t) (h3 : 58 ≠ t) : ¬ ChO Bc P Y b := by
 obtain ⟨ys, k1, _⟩ := h.by_
 rintro (e | e | e)
 · subst e; exact h1 (hb.ty h.blk)
 · exact own_blk_ne h.pg hb h2 e
 · exact own_blk_ne k1 hb h3 e
theorem ChS.ne8 (h : ChS w z Bc g P Y ns bs) {base size n : Nat} {v : Value} {xs : List Value} (ho : w.ownsRow base 5 size v n xs) : ∀ b, v.ownBlock = some b → ¬ ChO Bc P Y b := fun b e => by
 obtain ⟨cs, hb⟩ := own_blk17 ho e
 exact h.ne hb (by decide) (by decide) (by decide)
end
theorem Tryz.infoBs11 : (Tryz.prog.info? 58).map (fun i => (i.zero, i.size, i.bytes)) = some (some (.slice none 0 0), 1, 24) := by kernel_rfl
def RetPut (w : World) (z Bc g : Nat) (P Y : S11) (ns : List Nat) (bs : List (List UInt8)) (e : Ending) (w' : World) : Prop :=
 ∃ P' Y', e = .returned (.int .i64 0) ∧ ChS w' z Bc g P' Y' ns bs ∧ EvT (ChO Bc P Y) w w' ∧ ∀ b, ChO Bc P' Y' b → ChO Bc P Y b ∨ w.heap.size ≤ b
theorem putInner_kid (A0 : Option Addr) (c0 : Nat) (A : Option Addr) (n c : Nat) (l : List En) (kids : List Nat) (w : World) (hr : Reads w w.heap.size 3 A n (vE l)) (hr0 : Reads w w.heap.size 1 A0 (n + 1) (vN kids)) (hok : ∀ e ∈ l, e.ok) (hch : ∀ x ∈ kids, x < 4294967296) (h2 : n ≠ 0) (hm : mayEn l = true) (hf : sumE l + 4 * n ≤ 500) :
 Calls Tryz.prog 54 #[.slice A0 (n + 1) c0, .slice A n c] w (RetLf w (kidL kids l)) := by
 have hl : l.length = n := by have := hr.1; rw [vE_len] at this; omega
 cases kids with
 | nil => have := hr0.1; simp [vN] at this
 | cons a r =>
   have := putInner_ok A0 c0 A n c l a r w hr hr0 hok hch h2 hm hf
   unfold kidL
   rw [hl]
   exact this
set_option maxRecDepth 100000 in
set_option maxHeartbeats 8000000 in
theorem putL_any {w : World} {z Bc g : Nat} {P Y : S11} {ns : List Nat} {bs : List (List UInt8)} (h : ChS w z Bc g P Y ns bs) (hns : ns.length ≤ 1000) (hbs : bs.length ≤ 1000) (hz : z ≤ w.heap.size) (p : Nat) (N : Nat) (hN : N < 4294967296) (A : Option Addr) (m c : Nat) (l : List En) (hr : Reads w w.heap.size 3 A m (vE l)) (hok : ∀ e ∈ l, e.ok) (hm : mayEn l = true) (hf : sumE l ≤ 504) :
 Calls Tryz.prog 65 #[.pointer (some ⟨Bc, 0, none⟩), .int .u32 (p : Int), .agg #[.bool true, .int .u32 (N : Int), .slice none 0 0, .slice A m c]] w (RetPut w z Bc g P Y (ns ++ [p]) (bs ++ [leafL N l])) := by
 obtain ⟨i1, hi1, hz1, hs1, hy1⟩ := int_info8 Tryz.infoN
 obtain ⟨i2, hi2, hz2, hs2, hy2⟩ := int_info8 Tryz.infoBs11
 have PL := Lib.hid fun (W : World) (hb : Below w.heap.size w W) => putLeaf_ok N hN A m c l W ((hr.below hb).more hb.size) hok hm hf
 obtain ⟨L, hL⟩ : ∃ L, leafL N l = L := ⟨_, rfl⟩
 rw [hL] at PL ⊢
 clear hL
 have hb0 := ball (Below.refl w.heap.size w) (.cells #[.bool true, .int .u32 (N : Int), .slice none 0 0, .slice A m c] 75)
 have X0 := Blk.new w 75 #[.bool true, .int .u32 (N : Int), .slice none 0 0, .slice A m c]
 have hw0 : (w.alloc (.cells #[.bool true, .int .u32 (N : Int), .slice none 0 0, .slice A m c] 75)).heap.size = w.heap.size + 1 := by simp
 clear hr hok hm hf hN
 obtain ⟨PA, Pn, Pc⟩ := P
 obtain ⟨YA, Yn, Yc⟩ := Y
 have hlen := h.len
 simp only at hlen
 have hPn : Pn + 1 ≤ 1000000000 := by omega
 have hYn : Yn + 1 ≤ 1000000000 := by omega
 clear hlen
 have H0 := Lib.hid (And.intro h (And.intro X0 hb0))
 clear h X0 hb0
 go_enter Tryz.func65, Tryz.ntmps65
 go_upto_region 3 with fail
 obtain ⟨WX, hWX⟩ : ∃ WX, (w.alloc (.cells #[.bool true, .int .u32 (N : Int), .slice none 0 0, .slice A m c] 75)) = WX := ⟨_, rfl⟩
 rw [hWX] at H0 hw0 ⊢
 clear hWX
 have y0 : WX.cell? ⟨w.heap.size, 0, none⟩ = some _ := H0.out.2.1.cell 0
 have y1 : WX.cell? ⟨w.heap.size, 1, none⟩ = some _ := H0.out.2.1.cell 1
 have y2 : WX.cell? ⟨w.heap.size, 2, none⟩ = some _ := H0.out.2.1.cell 2
 have y3 : WX.cell? ⟨w.heap.size, 3, none⟩ = some _ := H0.out.2.1.cell 3
 have PW := Lib.hid (PL.out _ H0.out.2.2)
 clear PL
 go_wp2_with fail
 refine PW.out.mono ?_
 rintro e w1 ⟨v1, rfl, own1, hb1⟩
 have hbw := bto0 H0.out.2.2 hb1
 have h1 := H0.out.1.stays (EvT.of_below (O := fun _ => False) hbw) (fun _ e => e.elim) hz
 have own1' := own1.mono (show z ≤ WX.heap.size by omega)
 have hz1w : WX.heap.size ≤ w1.heap.size := hb1.size
 have k1 : w1.cell? ⟨Bc, 1, none⟩ = some (.slice PA Pn Pc) := h1.blk.cell 1
 have l1 : Bc < w1.heap.size := h1.blk.lt
 have H1 := Lib.hid (And.intro h1 (And.intro own1' hbw))
 clear own1 own1' hb1 hbw h1 PW y0 y1 y2 y3
 have hzw : z ≤ w1.heap.size := by omega
 go_upto_region 7 with (at_builtin; go_loud (refine wpList_pushR (news := [.int .u32 (p : Int)]) rfl (.tmp 31) (.tmp 33) 73 rfl z 30 i1 _ 1 4 Tryz.underlying73 hi1 hz1 hs1 hy1 rfl (by decide) _ Pn (vN ns) rfl H1.out.1.pg rfl _ rfl rfl rfl (by intro u hu; rw [List.mem_singleton] at hu; subst hu; rfl) hPn (by omega) hzw ?_); intro v6 w6 ho6 hg6 hv6; obtain ⟨A7, c7, rfl, h7, e7, n7, b6⟩ := H1.out.1.pushP p ho6 hg6 hv6; have d1 : w6.cell? ⟨Bc, 1, none⟩ = some (.slice PA Pn Pc) := b6.cell 1; have f1 := b6.frozen 1; have m1 := b6.lt; have H7 := Lib.hid (And.intro h7 (And.intro e7 (And.intro n7 e7.size))); clear ho6 hg6 hv6 h7 e7 n7 b6)
 obtain ⟨w7, hw7⟩ : ∃ x, w6.setCell ⟨Bc, 1, none⟩ (.slice A7 (Pn + 1) c7) = x := ⟨_, rfl⟩
 rw [hw7] at H7 ⊢
 clear hw7 d1 f1 m1 k1
 have k2 : w7.cell? ⟨Bc, 2, none⟩ = some (.slice YA Yn Yc) := H7.out.1.blk.cell 2
 have l2 : Bc < w7.heap.size := H7.out.1.blk.lt
 have own7 := H7.out.2.1.own H1.out.2.1 (H1.out.1.ne8 H1.out.2.1)
 obtain ⟨ys, hys⟩ := H7.out.1.by_
 obtain ⟨Av, cv, rfl, hcv⟩ := Own.form (show Own w7 z v1 L from own7)
 have hz7 : z ≤ w7.heap.size := by have := H7.out.2.2.2; omega
 have H8 := Lib.hid (And.intro own7 hys)
 clear own7 hys
 have e7s := H7.out.2.2.2
 go_wp2_with (at_builtin; go_loud (refine wpList_pushR (news := [.slice Av L.length cv]) rfl (.tmp 41) (.tmp 43) 83 rfl z 58 i2 _ 1 24 Tryz.underlying83 hi2 hz2 hs2 hy2 rfl (by decide) _ Yn ys rfl H8.out.2.1 rfl _ rfl rfl rfl (by intro u hu; rw [List.mem_singleton] at hu; subst hu; rfl) hYn (by omega) hz7 ?_); intro v9 w9 ho9 hg9 hv9; obtain ⟨A9, c9, rfl, h9, e9, n9, b9⟩ := H7.out.1.pushY H8.out.2 H8.out.1 ho9 hg9 hv9; have d1 : w9.cell? ⟨Bc, 2, none⟩ = some (.slice YA Yn Yc) := b9.cell 2; have f1 := b9.frozen 2; have m1 := b9.lt; have H9 := Lib.hid (And.intro h9 (And.intro e9 (And.intro n9 e9.size))); clear ho9 hg9 hv9 h9 e9 n9 b9)
 go_ret
 have e17 := (EvT.of_below (O := ChO Bc ⟨PA, Pn, Pc⟩ ⟨YA, Yn, Yc⟩) H1.out.2.2).trans H7.out.2.1 (fun b e => .inl e)
 have z01 : w.heap.size ≤ w1.heap.size := by omega
 refine ⟨_, _, rfl, H9.out.1, e17.trans H9.out.2.1 (fun b e => (H7.out.2.2.1 b e).imp id fun k => by omega), fun b e => ?_⟩
 rcases H9.out.2.2.1 b e with k | k
 · exact (H7.out.2.2.1 b k).imp id fun k => by omega
 · exact .inr (by omega)
set_option maxRecDepth 100000 in
set_option maxHeartbeats 8000000 in
theorem putI_any {w : World} {z Bc g : Nat} {P Y : S11} {ns : List Nat} {bs : List (List UInt8)} (h : ChS w z Bc g P Y ns bs) (hns : ns.length ≤ 1000) (hbs : bs.length ≤ 1000) (hz : z ≤ w.heap.size) (p : Nat) (A0 : Option Addr) (c0 : Nat) (A : Option Addr) (m c : Nat) (l : List En) (kids : List Nat) (hr : Reads w w.heap.size 3 A m (vE l)) (hr0 : Reads w w.heap.size 1 A0 (m + 1) (vN kids)) (hok : ∀ e ∈ l, e.ok) (hch : ∀ x ∈ kids, x < 4294967296) (h2 : m ≠ 0) (hm : mayEn l = true) (hf : sumE l + 4 * m ≤ 500) (N : Int) :
 Calls Tryz.prog 65 #[.pointer (some ⟨Bc, 0, none⟩), .int .u32 (p : Int), .agg #[.bool false, .int .u32 N, .slice A0 (m + 1) c0, .slice A m c]] w (RetPut w z Bc g P Y (ns ++ [p]) (bs ++ [kidL kids l])) := by
 obtain ⟨i1, hi1, hz1, hs1, hy1⟩ := int_info8 Tryz.infoN
 obtain ⟨i2, hi2, hz2, hs2, hy2⟩ := int_info8 Tryz.infoBs11
 have hl : l.length = m := by have := hr.1; rw [vE_len] at this; omega
 have PL := Lib.hid fun (W : World) (hb : Below w.heap.size w W) => putInner_kid A0 c0 A m c l kids W ((hr.below hb).more hb.size) ((hr0.below hb).more hb.size) hok hch h2 hm hf
 obtain ⟨L, hL⟩ : ∃ L, kidL kids l = L := ⟨_, rfl⟩
 rw [hL] at PL ⊢
 clear hL
 have hb0 := ball (Below.refl w.heap.size w) (.cells #[.bool false, .int .u32 N, .slice A0 (m + 1) c0, .slice A m c] 75)
 have X0 := Blk.new w 75 #[.bool false, .int .u32 N, .slice A0 (m + 1) c0, .slice A m c]
 have hw0 : (w.alloc (.cells #[.bool false, .int .u32 N, .slice A0 (m + 1) c0, .slice A m c] 75)).heap.size = w.heap.size + 1 := by simp
 clear hr hr0 hok hch h2 hm hf hl
 obtain ⟨PA, Pn, Pc⟩ := P
 obtain ⟨YA, Yn, Yc⟩ := Y
 have hlen := h.len
 simp only at hlen
 have hPn : Pn + 1 ≤ 1000000000 := by omega
 have hYn : Yn + 1 ≤ 1000000000 := by omega
 clear hlen
 have H0 := Lib.hid (And.intro h (And.intro X0 hb0))
 clear h X0 hb0
 go_enter Tryz.func65, Tryz.ntmps65
 go_upto_region 3 with fail
 obtain ⟨WX, hWX⟩ : ∃ WX, (w.alloc (.cells #[.bool false, .int .u32 N, .slice A0 (m + 1) c0, .slice A m c] 75)) = WX := ⟨_, rfl⟩
 rw [hWX] at H0 hw0 ⊢
 clear hWX
 have y0 : WX.cell? ⟨w.heap.size, 0, none⟩ = some _ := H0.out.2.1.cell 0
 have y1 : WX.cell? ⟨w.heap.size, 1, none⟩ = some _ := H0.out.2.1.cell 1
 have y2 : WX.cell? ⟨w.heap.size, 2, none⟩ = some _ := H0.out.2.1.cell 2
 have y3 : WX.cell? ⟨w.heap.size, 3, none⟩ = some _ := H0.out.2.1.cell 3
 have PW := Lib.hid (PL.out _ H0.out.2.2)
 clear PL
 go_wp2_with fail
 refine PW.out.mono ?_
 rintro e w1 ⟨v1, rfl, own1, hb1⟩
 have hbw := bto0 H0.out.2.2 hb1
 have h1 := H0.out.1.stays (EvT.of_below (O := fun _ => False) hbw) (fun _ e => e.elim) hz
 have own1' := own1.mono (show z ≤ WX.heap.size by omega)
 have hz1w : WX.heap.size ≤ w1.heap.size := hb1.size
 have k1 : w1.cell? ⟨Bc, 1, none⟩ = some (.slice PA Pn Pc) := h1.blk.cell 1
 have l1 : Bc < w1.heap.size := h1.blk.lt
 have H1 := Lib.hid (And.intro h1 (And.intro own1' hbw))
 clear own1 own1' hb1 hbw h1 PW y0 y1 y2 y3
 have hzw : z ≤ w1.heap.size := by omega
 go_upto_region 7 with (at_builtin; go_loud (refine wpList_pushR (news := [.int .u32 (p : Int)]) rfl (.tmp 31) (.tmp 33) 73 rfl z 30 i1 _ 1 4 Tryz.underlying73 hi1 hz1 hs1 hy1 rfl (by decide) _ Pn (vN ns) rfl H1.out.1.pg rfl _ rfl rfl rfl (by intro u hu; rw [List.mem_singleton] at hu; subst hu; rfl) hPn (by omega) hzw ?_); intro v6 w6 ho6 hg6 hv6; obtain ⟨A7, c7, rfl, h7, e7, n7, b6⟩ := H1.out.1.pushP p ho6 hg6 hv6; have d1 : w6.cell? ⟨Bc, 1, none⟩ = some (.slice PA Pn Pc) := b6.cell 1; have f1 := b6.frozen 1; have m1 := b6.lt; have H7 := Lib.hid (And.intro h7 (And.intro e7 (And.intro n7 e7.size))); clear ho6 hg6 hv6 h7 e7 n7 b6)
 obtain ⟨w7, hw7⟩ : ∃ x, w6.setCell ⟨Bc, 1, none⟩ (.slice A7 (Pn + 1) c7) = x := ⟨_, rfl⟩
 rw [hw7] at H7 ⊢
 clear hw7 d1 f1 m1 k1
 have k2 : w7.cell? ⟨Bc, 2, none⟩ = some (.slice YA Yn Yc) := H7.out.1.blk.cell 2
 have l2 : Bc < w7.heap.size := H7.out.1.blk.lt
 have own7 := H7.out.2.1.own H1.out.2.1 (H1.out.1.ne8 H1.out.2.1)
 obtain ⟨ys, hys⟩ := H7.out.1.by_
 obtain ⟨Av, cv, rfl, hcv⟩ := Own.form (show Own w7 z v1 L from own7)
 have hz7 : z ≤ w7.heap.size := by have := H7.out.2.2.2; omega
 have H8 := Lib.hid (And.intro own7 hys)
 clear own7 hys
 have e7s := H7.out.2.2.2
 go_wp2_with (at_builtin; go_loud (refine wpList_pushR (news := [.slice Av L.length cv]) rfl (.tmp 41) (.tmp 43) 83 rfl z 58 i2 _ 1 24 Tryz.underlying83 hi2 hz2 hs2 hy2 rfl (by decide) _ Yn ys rfl H8.out.2.1 rfl _ rfl rfl rfl (by intro u hu; rw [List.mem_singleton] at hu; subst hu; rfl) hYn (by omega) hz7 ?_); intro v9 w9 ho9 hg9 hv9; obtain ⟨A9, c9, rfl, h9, e9, n9, b9⟩ := H7.out.1.pushY H8.out.2 H8.out.1 ho9 hg9 hv9; have d1 : w9.cell? ⟨Bc, 2, none⟩ = some (.slice YA Yn Yc) := b9.cell 2; have f1 := b9.frozen 2; have m1 := b9.lt; have H9 := Lib.hid (And.intro h9 (And.intro e9 (And.intro n9 e9.size))); clear ho9 hg9 hv9 h9 e9 n9 b9)
 go_ret
 have e17 := (EvT.of_below (O := ChO Bc ⟨PA, Pn, Pc⟩ ⟨YA, Yn, Yc⟩) H1.out.2.2).trans H7.out.2.1 (fun b e => .inl e)
 have z01 : w.heap.size ≤ w1.heap.size := by omega
 refine ⟨_, _, rfl, H9.out.1, e17.trans H9.out.2.1 (fun b e => (H7.out.2.2.1 b e).imp id fun k => by omega), fun b e => ?_⟩
 rcases H9.out.2.2.1 b e with k | k
 · exact (H7.out.2.2.1 b k).imp id fun k => by omega
 · exact .inr (by omega)
end
end Go.Proofs.YtebobcbaloddaaaGreat
namespace Go.Proofs.YtebobcbaloddaaaGreat
section
set_option linter.unusedSimpArgs false
set_option linter.unusedVariables false
open Go.RowKit Go.Maps
theorem EvT.of_lf {w w' : World} {gb gt : Nat} (h : Lf w w' gb gt) : EvT (fun k => k = gb ∨ k = gt) w w' :=
 have b := h.below 0 (Nat.zero_le _) (Nat.zero_le _) (Nat.zero_le _)
 ⟨b.os, b.tape, b.output, h.size, fun k hk ho => h.heap k hk (fun e => ho (.inl e)) (fun e => ho (.inr e))⟩
theorem wrA_succ {ps : List (List UInt8)} {wr : List (Nat × List UInt8)} {k : Nat} {q : Nat × List UInt8} (h : wr[k]? = some q) : wrA ps (wr.take (k + 1)) = (wrA ps (wr.take k)).set q.1 q.2 := by
 rw [List.take_add_one, h]
 unfold wrA
 rw [List.foldl_append]; rfl
set_option maxRecDepth 100000 in
set_option maxHeartbeats 8000000 in
theorem bwrite_any {w : World} {z Bc g gb gt n : Nat} {ps : List (List UInt8)} {T : List Bool} {P Y : S11} {wr : List (Nat × List UInt8)} (hD : DP w g gb gt n ps T) (hn : n ≤ 10000) (h : ChS w z Bc g P Y (wr.map Prod.fst) (wr.map Prod.snd)) (hz : z ≤ w.heap.size) (hgb : gb < z) (hgt : gt < z)
 (hwr : ∀ q ∈ wr, q.1 < n ∧ T[q.1]? = some true ∧ q.2.length = 512) (hl : wr.length ≤ 1000) :
 Calls Tryz.prog 34 #[.pointer (some ⟨Bc, 0, none⟩)] w (fun e w' => e = .returned (.tuple #[]) ∧ DP w' g gb gt n (wrA ps wr) T ∧ Lf w w' gb gt) := by
 have hlen := h.len
 rw [List.length_map, List.length_map] at hlen
 obtain ⟨PA, Pn, Pc⟩ := P
 obtain ⟨YA, Yn, Yc⟩ := Y
 simp only at hlen
 obtain ⟨rfl, rfl⟩ : Pn = wr.length ∧ Yn = wr.length := hlen
 obtain ⟨m, hm⟩ : ∃ m, wr.length = m := ⟨_, rfl⟩
 have k1 : w.cell? ⟨Bc, 1, none⟩ = some (.slice PA m Pc) := by rw [← hm]; exact h.blk.cell 1
 have H0 := Lib.hid (And.intro hD (And.intro h (And.intro hwr hm)))
 rw [hm] at hl
 clear hD h hwr hm
 have mI : (m : Int) ≤ 1000 := by omega
 go_enter Tryz.func34, Tryz.ntmps34
 go_wp2_with fail
 go_loopw [9] (fun v9 wr_ => ∃ k : Nat, v9 = .int .i64 (k : Int) ∧ k ≤ m ∧ DP wr_ g gb gt n (wrA ps (wr.take k)) T ∧ Lf w wr_ gb gt) (fun v9 _ => m - (intOf v9).toNat)
 case atStart => exact ⟨0, rfl, Nat.zero_le _, H0.out.1, Lf.refl _ _ _⟩
 case round =>
  rename World => wo
  obtain ⟨k, rfl, hk, hD, hL⟩ := hrel
  have q0 : (0 : Int) ≤ (k : Int) := by omega
  by_cases hlt : k < m
  · have q1 : (k : Int) < (m : Int) := by omega
    obtain ⟨q, hq⟩ : ∃ q, wr[k]? = some q := ⟨_, List.getElem?_eq_getElem (by rw [H0.out.2.2.2]; exact hlt)⟩
    have hs := Lib.hid (wrA_succ (ps := ps) hq)
    obtain ⟨hqn, hqT, hql⟩ := H0.out.2.2.1 q (List.mem_of_getElem? hq)
    have hc := H0.out.2.1.stays (EvT.of_lf hL) (fun b e => by rcases e with rfl | rfl <;> assumption) hz
    obtain ⟨ys, y1, y2, y3⟩ := hc.by_
    rw [List.length_map, H0.out.2.2.2] at y2
    have hcp := hc.pg
    obtain ⟨p, Lq⟩ := q
    simp only at hqn hqT hql hs
    have hm0 := H0.out.2.2.2
    obtain ⟨ap, x, hap, _, hx, cp0⟩ := (Reads.of_own hcp).num (k := k) (by simp only; omega)
    rw [List.getElem?_map, hq] at hx
    injection hx with hx
    subst hx
    obtain ⟨ag, ug, hag, _, hug, cg0⟩ := (Reads.of_own y1).at_ (k := k) (by simp only; omega)
    have oq := y3 k ug Lq hug (by rw [List.getElem?_map, hq]; rfl)
    obtain ⟨A3, c3, rfl, hc3⟩ := oq.form
    rw [hql] at cg0 hug oq
    obtain ⟨ga, tl, rfl, hga, hblk, _, _⟩ := oq.open_ (by omega)
    have WR := Lib.hid fun (W : World) (hb : DP W g gb gt n (wrA ps (wr.take k)) T) (ho : Own W z (.slice (some ⟨ga, 0, none⟩) 512 c3) Lq) => writeDP hb p hqn (by omega) ⟨ga, 0, none⟩ c3 W.heap.size Lq ho.reads.1
    simp only at hap hag
    subst hap
    subst hag
    have e0 : wo.cell? ⟨Bc, 0, none⟩ = some (.pointer (some ⟨g, 0, none⟩)) := hc.blk.cell 0
    have e2 : wo.cell? ⟨Bc, 2, none⟩ = some (.slice (some ag) m Yc) := by have := hc.blk.cell 2; rw [← hm0]; exact this
    have hTs := set_same hqT
    have HW := Lib.hid (And.intro hD (And.intro oq (And.intro hL hTs)))
    have WW := Lib.hid (WR.out wo.drew hD.drew oq.drew)
    clear hD oq hL hc y1 y2 y3 hcp hug hq hblk hTs hm0 WR
    go_wp2_with fail
    go_region_with (with_reducible refine WW.out.mono ?_; rintro e w5 ⟨rfl, lf5⟩; have H5 := Lib.hid lf5; clear lf5)
    all_goals (go_wp2_with fail)
    all_goals (
     have hD5 := H5.out.1
     rw [← hs.out, HW.out.2.2.2] at hD5
     exact ⟨⟨k + 1, by go_num, by omega, hD5, (HW.out.2.2.1.trans (Lf.of_below (Below.drew (Below.refl _ _)))).trans (Lf.of_left H5.out)⟩, by simp [intOf]; omega⟩)
  · have hk' : k = m := by omega
    have q1 : (m : Int) ≤ (k : Int) := by omega
    have hT : wrA ps (wr.take k) = wrA ps wr := by rw [List.take_of_length_le (by have := H0.out.2.2.2; omega)]
    rw [hT] at hD
    have H1 := Lib.hid (And.intro hD hL)
    clear hD hL hT hk'
    go_wp2_with fail
    go_end0
    exact ⟨rfl, H1.out.1, H1.out.2⟩
end
end Go.Proofs.YtebobcbaloddaaaGreat
namespace Go.Proofs.YtebobcbaloddaaaGreat
section
set_option linter.unusedSimpArgs false
set_option linter.unusedVariables false
open Go.RowKit Go.Maps
structure Stp where
 lf : Bool
 N : Nat
 k : S11
 e : S11
 p : Nat
 i : Nat
def Stp.cells (s : Stp) : List Value := [.bool s.lf, .int .u32 (s.N : Int), s.k.v, s.e.v, .int .u32 (s.p : Int), .int .i64 (s.i : Int)]
def Stp.own (s : Stp) (g : Nat) : Prop := s.k.own g ∨ s.e.own g
def vSt (l : List Stp) : List Value := l.flatMap Stp.cells
theorem vSt_at {l : List Stp} {k : Nat} {v : Stp} (h : l[k]? = some v) (j : Nat) (hj : j < 6) : (vSt l)[k * 6 + j]? = v.cells[j]? := flat_at Stp.cells 6 l k v j (fun _ _ => rfl) h hj
theorem vSt_snoc (l : List Stp) (s : Stp) : vSt l ++ s.cells = vSt (l ++ [s]) := by simp [vSt]
theorem vSt_one (s : Stp) : ∀ u ∈ s.cells, u.oneCell' = true := by
 intro u hu
 simp only [Stp.cells, List.mem_cons, List.not_mem_nil, or_false] at hu
 rcases hu with rfl | rfl | rfl | rfl | rfl | rfl <;> rfl
structure StI (w : World) (z : Nat) (s : Stp) (f : Fr11) : Prop where
 lf : s.lf = false
 N : s.N = 0
 p : s.p = f.p
 i : s.i = f.i
 k : w.ownsRow z 30 1 s.k.v s.k.n (vN f.kids)
 e : w.ownsRow z 37 3 s.e.v s.e.n (vE f.seps)
structure StL (w : World) (z : Nat) (s : Stp) (p N : Nat) (es : List En) : Prop where
 lf : s.lf = true
 N : s.N = N
 p : s.p = p
 k : s.k = ⟨none, 0, 0⟩
 e : w.ownsRow z 37 3 s.e.v s.e.n (vE es)
def WayR (w : World) (a : Nat) : List Stp → List Fr11 → Nat → Prop
 | [], [], b => a ≤ b
 | s :: ss, f :: fs, b => ∃ m, m ≤ b ∧ StI w m s f ∧ (∀ g, s.own g → g < b) ∧ WayR w a ss fs m
 | _, _, _ => False
section
variable {w w' : World} {O : Nat → Prop}
def Oth (w : World) (O : Nat → Prop) (b : Nat) : Prop := ∀ g, O g → b ≤ g ∨ ∃ t cs, Blk w g t cs ∧ 30 ≠ t ∧ 37 ≠ t
theorem Oth.mono {b b' : Nat} (h : Oth w O b) (hb : b' ≤ b) : Oth w O b' := fun g e => (h g e).imp (fun k => Nat.le_trans hb k) id
theorem Oth.num {b base size n : Nat} {v : Value} {xs : List Value} (h : Oth w O b) (ho : w.ownsRow base 30 size v n xs) (hb : ∀ g, v.ownBlock = some g → g < b) : ∀ g, v.ownBlock = some g → ¬ O g := fun g e e2 => by
 rcases h g e2 with k | ⟨t, cs, k, h1, h2⟩
 · have := hb g e; omega
 · exact own_blk_ne ho k h1 e
theorem Oth.ent {b base size n : Nat} {v : Value} {xs : List Value} (h : Oth w O b) (ho : w.ownsRow base 37 size v n xs) (hb : ∀ g, v.ownBlock = some g → g < b) : ∀ g, v.ownBlock = some g → ¬ O g := fun g e e2 => by
 rcases h g e2 with k | ⟨t, cs, k, h1, h2⟩
 · have := hb g e; omega
 · exact own_blk_ne ho k h2 e
theorem StI.stays {z b : Nat} {s : Stp} {f : Fr11} (h : StI w z s f) (hv : EvT O w w') (hO : Oth w O b) (hb : ∀ g, s.own g → g < b) : StI w' z s f :=
 ⟨h.lf, h.N, h.p, h.i, hv.own h.k (hO.num h.k fun g e => hb g (.inl e)), hv.own h.e (hO.ent h.e fun g e => hb g (.inr e))⟩
theorem WayR.stays {a : Nat} : ∀ {ss : List Stp} {fs : List Fr11} {b : Nat}, WayR w a ss fs b → EvT O w w' → Oth w O b → WayR w' a ss fs b
 | [], [], _, h, _, _ => h
 | s :: ss, f :: fs, b, ⟨m, h1, h2, h3, h4⟩, hv, hO => ⟨m, h1, h2.stays hv hO h3, h3, h4.stays hv (hO.mono h1)⟩
 | [], _ :: _, _, h, _, _ => h.elim
 | _ :: _, [], _, h, _, _ => h.elim
theorem WayR.le {a : Nat} : ∀ {ss : List Stp} {fs : List Fr11} {b : Nat}, WayR w a ss fs b → a ≤ b
 | [], [], _, h => h
 | s :: ss, f :: fs, b, ⟨m, h1, h2, h3, h4⟩ => Nat.le_trans h4.le h1
 | [], _ :: _, _, h => h.elim
 | _ :: _, [], _, h => h.elim
theorem WayR.len {a : Nat} : ∀ {ss : List Stp} {fs : List Fr11} {b : Nat}, WayR w a ss fs b → ss.length = fs.length
 | [], [], _, h => rfl
 | s :: ss, f :: fs, b, ⟨m, h1, h2, h3, h4⟩ => by rw [List.length_cons, List.length_cons, h4.len]
 | [], _ :: _, _, h => h.elim
 | _ :: _, [], _, h => h.elim
theorem Oth.none_ (w : World) (b : Nat) : Oth w (fun _ => False) b := fun g e => e.elim
theorem WayR.below {a b : Nat} {ss : List Stp} {fs : List Fr11} (h : WayR w a ss fs b) (hb : Below w.heap.size w w') : WayR w' a ss fs b :=
 h.stays (EvT.of_below (O := fun _ => False) hb) (Oth.none_ w b)
theorem own_some {base size n c : Nat} {e : TypeId} {A : Option Addr} {xs : List Value} (h : w.ownsRow base e size (.slice A n c) n xs) (hn : 0 < n) : ∃ g, A = some ⟨g, 0, none⟩ ∧ base ≤ g ∧ n ≤ c := by
 rcases h.2 with ⟨e, _⟩ | ⟨g, cap, cur, e, hb, _⟩
 · injection e with e1 e2 e3; omega
 · injection e with e1 _ e3
   obtain ⟨_, _, e2, hc⟩ := own_form h
   injection e2 with _ _ e4
   exact ⟨g, e1, hb, by omega⟩
end
end
end Go.Proofs.YtebobcbaloddaaaGreat
namespace Go.Proofs.YtebobcbaloddaaaGreat
section
set_option linter.unusedSimpArgs false
set_option linter.unusedVariables false
open Go.RowKit Go.Maps
theorem vE_drop64 : ∀ (k : Nat) (l : List En), (vE l).drop (k * 3) = vE (l.drop k)
 | 0, l => by simp
 | k + 1, [] => by simp [vE]
 | k + 1, a :: t => by
   have : vE (a :: t) = a.cells ++ vE t := by simp [vE]
   rw [this, show (k + 1) * 3 = a.cells.length + k * 3 from by rw [a.len]; omega, List.drop_append]
   rw [show a.cells.length + k * 3 - a.cells.length = k * 3 from by omega, List.drop_eq_nil_of_le (by omega), List.nil_append, vE_drop64 k t, List.drop_succ_cons]
theorem vE_take64 : ∀ (k : Nat) (l : List En), (vE l).take (k * 3) = vE (l.take k)
 | 0, l => by simp [vE]
 | k + 1, [] => by simp [vE]
 | k + 1, a :: t => by
   have : vE (a :: t) = a.cells ++ vE t := by simp [vE]
   rw [this, show (k + 1) * 3 = a.cells.length + k * 3 from by rw [a.len]; omega, List.take_append]
   rw [show a.cells.length + k * 3 - a.cells.length = k * 3 from by omega, List.take_of_length_le (by omega), vE_take64 k t, List.take_succ_cons]
   simp [vE]
theorem vN_take64 (a : List Nat) (k : Nat) : vN (a.take k) = (vN a).take k := by simp [vN, List.map_take]
theorem vN_drop64 (a : List Nat) (k : Nat) : vN (a.drop k) = (vN a).drop k := by simp [vN, List.map_drop]
structure PartOk (w : World) (lf : Bool) (k e : S11) (kids : List Nat) (l : List En) : Prop where
 re : Reads w w.heap.size 3 e.A e.n (vE l)
 rk : lf = false → Reads w w.heap.size 1 k.A k.n (vN kids)
 rz : lf = true → k = S110
theorem PartOk.stays {w w' : World} {lf : Bool} {k e : S11} {kids : List Nat} {l : List En} {O : Nat → Prop} (h : PartOk w lf k e kids l) (hv : EvT O w w') (h1 : ∀ ad, e.A = some ad → ¬ O ad.block) (h2 : ∀ ad, k.A = some ad → ¬ O ad.block) : PartOk w' lf k e kids l :=
 ⟨(hv.reads h.re (Nat.le_refl _) h1).more hv.size, fun e => (hv.reads (h.rk e) (Nat.le_refl _) h2).more hv.size, h.rz⟩
structure CurR (w : World) (a : Nat) (lf : Bool) (k e : S11) (kids : List Nat) (l : List En) : Prop where
 re : w.ownsRow a 37 3 e.v e.n (vE l)
 rk : lf = false → w.ownsRow a 30 1 k.v k.n (vN kids)
 rz : lf = true → k = S110
theorem CurR.part {w : World} {a : Nat} {lf : Bool} {k e : S11} {kids : List Nat} {l : List En} (h : CurR w a lf k e kids l) : PartOk w lf k e kids l :=
 ⟨Reads.of_own h.re, fun x => Reads.of_own (h.rk x), h.rz⟩
theorem CurR.stays {w w' : World} {a : Nat} {lf : Bool} {k e : S11} {kids : List Nat} {l : List En} {O : Nat → Prop} (h : CurR w a lf k e kids l) (hv : EvT O w w') (h1 : ∀ g, e.own g → ¬ O g) (h2 : ∀ g, k.own g → ¬ O g) : CurR w' a lf k e kids l :=
 ⟨hv.own h.re h1, fun x => hv.own (h.rk x) h2, h.rz⟩
theorem CurR.lens {w : World} {a : Nat} {lf : Bool} {k e : S11} {kids : List Nat} {l : List En} (h : CurR w a lf k e kids l) : e.n = l.length ∧ (lf = false → k.n = kids.length) := by
 have h1 := h.re.1
 rw [vE_len] at h1
 refine ⟨by omega, fun x => ?_⟩
 have h2 := (h.rk x).1
 rw [vN_len] at h2
 omega
theorem own_S {s : S11} {ad : Addr} (h : s.A = some ad) : s.own ad.block := by
 unfold S11.own
 show (Value.slice s.A s.n s.c).ownBlock = _
 rw [ownB, h]; rfl
def RetSp (w : World) (b o : Nat) (ty : TypeId) (cs : Array Value) (lf : Bool) (N : Nat) (kids : List Nat) (l : List En) (k e : S11) (e' : Ending) (w' : World) : Prop :=
 ∃ (x : En) (sk se rk re : S11) (rN : Nat) (cs' : Array Value), e' = .returned (.tuple #[x.agg, .agg #[.bool lf, .int .u32 (rN : Int), rk.v, re.v]]) ∧ rN < 4294967296 ∧ (lf = true → rN = N) ∧ l.getD (cutW lf l) enZ = x ∧ Blk w' b ty cs' ∧ cs'.size = cs.size ∧ (∀ j, j < o + 2 ∨ o + 3 < j → cs'[j]? = cs[j]?) ∧ cs'[o + 2]? = some sk.v ∧ cs'[o + 3]? = some se.v ∧ EvT (fun k => k = b) w w' ∧
   PartOk w' lf sk se (kids.take (cutW lf l + 1)) (l.take (cutW lf l)) ∧ PartOk w' lf rk re (kids.drop (cutW lf l + 1)) (l.drop (cutW lf l + gap lf)) ∧
   (∀ ad, se.A = some ad → e.own ad.block) ∧ (∀ ad, re.A = some ad → e.own ad.block) ∧ (∀ ad, sk.A = some ad → k.own ad.block) ∧ (∀ ad, rk.A = some ad → k.own ad.block)
theorem split_any {w : World} {b o a N : Nat} {ty : TypeId} {cs : Array Value} {lf : Bool} {k e : S11} {kids : List Nat} {l : List En} (hB : Blk w b ty cs) (k0 : cs[o]? = some (.bool lf)) (k1 : cs[o + 1]? = some (.int .u32 (N : Int))) (k2 : cs[o + 2]? = some k.v) (k3 : cs[o + 3]? = some e.v)
 (hR : CurR w a lf k e kids l) (hC : CurOk lf N kids l) (hf : fitP lf l ≠ true) (h1 : 30 ≠ ty) (h2 : 37 ≠ ty) :
 Calls Tryz.prog 66 #[.pointer (some ⟨b, o, none⟩)] w (RetSp w b o ty cs lf N kids l k e) := by
 obtain ⟨q1, q2, q3, q4⟩ := hC.cut hf
 obtain ⟨n1, n2⟩ := hR.lens
 obtain ⟨kA, kn, kc⟩ := k
 obtain ⟨eA, en, ec⟩ := e
 simp only at n1 n2
 have hsz := hC.sz
 have hms := (may_parts.1 hC.may).1
 have hsE := sumE_eq l
 have hln : l.length ≤ 712 := by
  cases lf with
  | true => have hsz : sumE l ≤ 712 := hsz; omega
  | false => have hsz : sumE l + 4 * l.length ≤ 712 := hsz; omega
 have k3 : cs[o + 3]? = some (.slice eA en ec) := k3
 have k2 : cs[o + 2]? = some (.slice kA kn kc) := k2
 have hE0 : w.ownsRow a 37 3 (.slice eA en ec) en (vE l) := hR.re
 obtain ⟨g, hg, hga, hgc⟩ := own_some hE0 (by omega)
 subst hg
 have hcap := own_cap hE0
 have hgb : g ≠ b := fun e => own_blk_ne hE0 (e ▸ hB) h2 rfl
 have hRe := Reads.of_own hE0
 have hl' : (l.take (cutW lf l)).length = cutW lf l := by rw [List.length_take]; omega
 cases lf with
 | true =>
   have hz := hR.rz rfl
   injection hz with z1 z2 z3
   subst z1; subst z2; subst z3
   have q1 : 0 < cutP 0 (lfSz l) := q1
   have q2 : cutP 0 (lfSz l) < l.length := q2
   refine (splitL_any hB k0 k1 k3 hRe (by omega) hgc hcap (fun x hx => by have := hms x hx; omega) hgb q1 (by omega)).mono ?_
   rintro e' w' ⟨x, hx, rfl, hB', hev⟩
   have hr' := (hev.reads hRe (Nat.le_refl _) (fun ad h => by injection h with h; subst h; exact hgb)).more hev.size
   have t1 := hr'.takec (cutP 0 (lfSz l)) (by omega)
   have t2 := hr'.dropc (cutP 0 (lfSz l)) (by omega)
   rw [vE_take64] at t1
   rw [vE_drop64] at t2
   refine ⟨x, S110, ⟨some ⟨g, 0, none⟩, cutP 0 (lfSz l), ec⟩, S110, ⟨some ((⟨g, 0, none⟩ : Addr).add (cutP 0 (lfSz l) * 3)), en - cutP 0 (lfSz l), ec - cutP 0 (lfSz l)⟩, N, _, rfl, hC.N, fun _ => rfl, ?_, hB', by simp, fun j hj => ?_, ?_, ?_, hev, ⟨t1, fun e => (by cases e), fun _ => rfl⟩, ⟨t2, fun e => (by cases e), fun _ => rfl⟩, fun ad h => ?_, fun ad h => ?_, fun ad h => (by cases h), fun ad h => (by cases h)⟩
   · show l.getD (cutP 0 (lfSz l)) enZ = x
     rw [List.getD_eq_getElem?_getD, hx]; rfl
   · rw [Array.getElem?_setIfInBounds_ne (by omega)]
   · rw [Array.getElem?_setIfInBounds_ne (by omega)]; exact k2
   · have : o + 3 < cs.size := (Array.getElem?_eq_some_iff.1 k3).1
     rw [Array.getElem?_setIfInBounds_self_of_lt this]
   · injection h with h; subst h; exact own_S (s := ⟨some ⟨g, 0, none⟩, en, ec⟩) rfl
   · injection h with h; subst h; rw [block_of_add]; exact own_S (s := ⟨some ⟨g, 0, none⟩, en, ec⟩) rfl
 | false =>
   obtain ⟨kk1, kk2, kk3⟩ := hC.kid rfl
   have n2 := n2 rfl
   have hRk : w.ownsRow a 30 1 (.slice kA kn kc) kn (vN kids) := hR.rk rfl
   obtain ⟨g2, hg2, hga2, hgc2⟩ := own_some hRk (by omega)
   subst hg2
   have hcap2 := own_cap hRk
   have hgb2 : g2 ≠ b := fun e => own_blk_ne hRk (e ▸ hB) h1 rfl
   have hRk' := Reads.of_own hRk
   have hkn : kn = en + 1 := by omega
   subst hkn
   have q1 : 0 < cutP 1 (inSz l) := q1
   have q2 : cutP 1 (inSz l) + 1 < l.length := q2
   refine (splitI_any hB k0 k2 k3 hRe (by omega) hgc hcap hgc2 hcap2 (fun x hx => by have := hms x hx; omega) hgb q1 (by omega)).mono ?_
   rintro e' w' ⟨x, hx, rfl, hB', hev⟩
   have hr' := (hev.reads hRe (Nat.le_refl _) (fun ad h => by injection h with h; subst h; exact hgb)).more hev.size
   have hr2 := (hev.reads hRk' (Nat.le_refl _) (fun ad h => by injection h with h; subst h; exact hgb2)).more hev.size
   have t1 := hr'.takec (cutP 1 (inSz l)) (by omega)
   have t2 := hr'.dropc (cutP 1 (inSz l) + 1) (by omega)
   have t3 := hr2.takec (cutP 1 (inSz l) + 1) (by omega)
   have t4 := hr2.dropc (cutP 1 (inSz l) + 1) (by omega)
   rw [vE_take64] at t1
   rw [vE_drop64] at t2
   rw [Nat.mul_one, ← vN_take64] at t3
   rw [Nat.mul_one, ← vN_drop64, show en + 1 - (cutP 1 (inSz l) + 1) = en - cutP 1 (inSz l) from by omega] at t4
   refine ⟨x, ⟨some ⟨g2, 0, none⟩, cutP 1 (inSz l) + 1, kc⟩, ⟨some ⟨g, 0, none⟩, cutP 1 (inSz l), ec⟩, ⟨some ((⟨g2, 0, none⟩ : Addr).add (cutP 1 (inSz l) + 1)), en - cutP 1 (inSz l), kc - (cutP 1 (inSz l) + 1)⟩, ⟨some ((⟨g, 0, none⟩ : Addr).add ((cutP 1 (inSz l) + 1) * 3)), en - (cutP 1 (inSz l) + 1), ec - (cutP 1 (inSz l) + 1)⟩, 0, _, rfl, by decide, fun e => (by cases e), ?_, hB', by simp, fun j hj => ?_, ?_, ?_, hev, ⟨t1, fun _ => t3, fun e => (by cases e)⟩, ⟨t2, fun _ => t4, fun e => (by cases e)⟩, fun ad h => ?_, fun ad h => ?_, fun ad h => ?_, fun ad h => ?_⟩
   · show l.getD (cutP 1 (inSz l)) enZ = x
     rw [List.getD_eq_getElem?_getD, hx]; rfl
   · rw [Array.getElem?_setIfInBounds_ne (by omega), Array.getElem?_setIfInBounds_ne (by omega)]
   · have : o + 2 < cs.size := (Array.getElem?_eq_some_iff.1 k2).1
     rw [Array.getElem?_setIfInBounds_ne (by omega), Array.getElem?_setIfInBounds_self_of_lt this]
   · have : o + 3 < cs.size := (Array.getElem?_eq_some_iff.1 k3).1
     rw [Array.getElem?_setIfInBounds_self_of_lt (by simpa using this)]
   · injection h with h; subst h; exact own_S (s := ⟨some ⟨g, 0, none⟩, en, ec⟩) rfl
   · injection h with h; subst h; rw [block_of_add]; exact own_S (s := ⟨some ⟨g, 0, none⟩, en, ec⟩) rfl
   · injection h with h; subst h; exact own_S (s := ⟨some ⟨g2, 0, none⟩, en + 1, kc⟩) rfl
   · injection h with h; subst h; rw [block_of_add]; exact own_S (s := ⟨some ⟨g2, 0, none⟩, en + 1, kc⟩) rfl
theorem put_any {w : World} {z Bc g : Nat} {P Y : S11} {ns : List Nat} {bs : List (List UInt8)} {lf : Bool} {N : Nat} {k e : S11} {kids : List Nat} {l : List En} (h : ChS w z Bc g P Y ns bs) (hns : ns.length ≤ 1000) (hbs : bs.length ≤ 1000) (hz : z ≤ w.heap.size) (p : Nat) (hN : N < 4294967296)
 (hp : PartOk w lf k e kids l) (hok : ∀ x ∈ l, x.ok) (hm : mayEn l = true) (hf : fitP lf l = true) (hk : lf = false → kids.length = l.length + 1 ∧ (∀ x ∈ kids, x < 4294967296) ∧ l ≠ []) :
 Calls Tryz.prog 65 #[.pointer (some ⟨Bc, 0, none⟩), .int .u32 (p : Int), .agg #[.bool lf, .int .u32 (N : Int), k.v, e.v]] w (RetPut w z Bc g P Y (ns ++ [p]) (bs ++ [pgB lf N kids l])) := by
 obtain ⟨kA, kn, kc⟩ := k
 obtain ⟨eA, en, ec⟩ := e
 have hel := hp.re.1
 rw [vE_len] at hel
 simp only at hel
 cases lf with
 | true =>
   have hz' := hp.rz rfl
   injection hz' with z1 z2 z3
   subst z1; subst z2; subst z3
   have hf : sumE l ≤ 504 := by simpa [fitP] using hf
   exact putL_any h hns hbs hz p N hN eA en ec l hp.re hok hm hf
 | false =>
   obtain ⟨k1, k2, k3⟩ := hk rfl
   have hr0 := hp.rk rfl
   have hkl := hr0.1
   rw [vN_len] at hkl
   simp only at hkl
   have hkn : kn = en + 1 := by omega
   subst hkn
   have hf : sumE l + 4 * l.length ≤ 500 := by simpa [fitP] using hf
   have hel' : l.length = en := by omega
   exact putI_any h hns hbs hz p kA kc eA en ec l kids hp.re hr0 hok k2 (fun e => k3 (List.eq_nil_of_length_eq_zero (by omega))) hm (by rw [← hel']; exact hf) N
def RetTkF (w : World) (g gb gt n : Nat) (ps : List (List UInt8)) (T : List Bool) (e : Ending) (w' : World) : Prop :=
 match freeI T with
 | some i => e = .returned (.tuple #[.int .u32 (i : Int), .int .i64 0]) ∧ DP w' g gb gt n ps (T.set i true) ∧ Lf w w' gb gt ∧ EvT (fun b => b = gt) w w' ∧ i < n
 | none => e = .returned (.tuple #[.int .u32 0, .int .i64 7]) ∧ w = w'
theorem takeF {w : World} {g gb gt n : Nat} {ps : List (List UInt8)} {T : List Bool} (h : DP w g gb gt n ps T) (hn : n ≤ 1000000) :
 Calls Tryz.prog 67 #[.pointer (some ⟨g, 0, none⟩)] w (RetTkF w g gb gt n ps T) := by
 have hT := h.hT
 unfold RetTkF
 rcases freeI_cases T with ⟨i, f1, f2, f3⟩ | ⟨f1, f2⟩
 · rw [f1]
   refine (take_at h.dk hn i (tV_at f2) (fun j hj => tV_at (f3 j hj))).mono ?_
   rintro e w' ⟨rfl, rfl⟩
   have hl : i < n := by have := lt_of_at f2; omega
   exact ⟨rfl, h.mark i true, ⟨fun B h1 h2 h3 => (Below.refl _ _).setCell h2 _, fun g' h1 h2 h3 => Below.heap_setCell _ _ _ _ h3, by simp [World.setCell]⟩, (EvT.refl (fun b => b = gt) w).store (p := ⟨gt, i, none⟩) (.inr rfl) _, hl⟩
 · rw [f1]
   exact take_fullDP h hn (fun j hj => f2 j (by omega))
theorem orE_any (A : Option Addr) (n c B : Nat) (l : List Int) (w : World) (hr : Reads w B 1 A n (l.map (Value.int .i64))) (hn : n ≤ 1000) :
 Calls Tryz.prog 68 #[.slice A n c] w fun e w' => e = .returned (.int .i64 (orL l)) ∧ w = w' := by
 have hl : l.length = n := by have := hr.1; simp at this; omega
 have Hl := Lib.hid hl; clear hl
 go_enter Tryz.func68, Tryz.ntmps68
 go_wp2
 go_loop [8] (fun i => ∃ k : Nat, k ≤ n ∧ i = .int .i64 k ∧ orL l = orL (l.drop k)) (fun i => n - (intOf i).toNat)
 case atStart => exact ⟨0, Nat.zero_le _, rfl, rfl⟩
 case round =>
  obtain ⟨k, hk, rfl, he⟩ := hrel
  have HE := Lib.hid he; clear he
  have q0 : (0 : Int) ≤ (k : Int) := by omega
  by_cases hlt : k < n
  · have q1 : (k : Int) < (n : Int) := by omega
    obtain ⟨ad, u, rfl, _, hu, c0⟩ := hr.at_ hlt
    rw [List.getElem?_map] at hu
    obtain ⟨x, hx, rfl⟩ := Option.map_eq_some_iff.1 hu
    have hd := Lib.hid (orL_drop hx)
    clear hx hu
    by_cases h0 : x = 0
    · subst h0
      have he2 : Hid (orL l = orL (l.drop (k + 1))) := Lib.hid (by rw [HE.out, hd.out, if_pos rfl])
      go_wp2
      go_round
      case rel => exact ⟨k + 1, by omega, by go_num, he2.out⟩
      case measure => simp [intOf]; omega
    · have he2 : Hid (orL l = x) := Lib.hid (by rw [HE.out, hd.out, if_neg h0])
      have hb : (x != 0) = true := by simpa using h0
      go_wp2
      go_ret
      exact ⟨by rw [he2.out]; rfl, rfl⟩
  · have he2 : Hid (orL l = 0) := Lib.hid (by rw [HE.out, List.drop_eq_nil_of_le (by rw [Hl.out]; omega)]; rfl)
    go_wp2
    go_ret
    exact ⟨by rw [he2.out]; rfl, rfl⟩
end
end Go.Proofs.YtebobcbaloddaaaGreat

/-
  B50 B51 B52 B53 B54 B55 B56 B57 B74 B75 B76 B77.
-/
import Derived.Test.YtebobcbaloddaaaGreatMobu
import Derived.Test.YtebobcbaloddaaaGreatMobs
import Derived.Test.YtebobcbaloddaaaGreatMobr
import Derived.Test.YtebobcbaloddaaaGreatMobp
import Derived.Test.YtebobcbaloddaaaGreatMobe
import Derived.Test.YtebobcbaloddaaaGreatMobf
import Derived.Test.YtebobcbaloddaaaGreatMobq
import Derived.Laws.Externs
import Derived.BigQuiet
import Derived.Deep.DeepCutAuto
import Derived.BigRegion
import Derived.Test.YtebobcbaloddaaaGreatMozz
namespace Go.Proofs.YtebobcbaloddaaaGreat
section
set_option linter.unusedSimpArgs false
set_option linter.unusedVariables false
open Go.RowKit Go.Maps
theorem row_facts {w w' : World} {b g : Nat} {e : TypeId} {cur C : Array Value} {ns : Array Value} (hw : w' = w.setRow b C) (hB : Blk w b e cur) (hx : Blk w g e ns) (hgb : g ≠ b) : Blk w' b e C ∧ Blk w' g e ns ∧ EvT (fun k => k = b) w w' := by
 subst hw
 refine ⟨setRow_heap w b cur C e _ hB, (setRow_other w b g C hgb).trans hx, ⟨rfl, rfl, rfl, by simp [World.setRow], fun k hk hne => setRow_other w b k C hne⟩⟩
theorem src_at {w : World} {b i sz m : Nat} {e : TypeId} {cur : Array Value} {xs : List Value} {j : Nat} {v : Value} (hB : Blk w b e cur) (hxs : cur.toList.take m = xs) (hj : (xs.drop (i * sz))[j]? = some v) : w.cell? ((⟨b, i * sz, none⟩ : Addr).add j) = some v := by
 have e : (⟨b, i * sz, none⟩ : Addr).add j = ⟨b, i * sz + j, none⟩ := by unfold Addr.add; split <;> simp_all
 rw [e, hB.cell]
 rw [List.getElem?_drop, ← hxs, List.getElem?_take] at hj
 split at hj
 · simpa using hj
 · cases hj
theorem ins_row {cur : List Value} {xs news : List Value} {n i sz : Nat} (hxs : cur.take (n * sz) = xs) (hi : i < n) (hl : news.length = sz) (hc : (n + 1) * sz ≤ cur.length) :
 (((cur.take ((i + 1) * sz) ++ xs.drop (i * sz) ++ cur.drop ((i + 1) * sz + (xs.drop (i * sz)).length)).take (i * sz) ++ news ++ (cur.take ((i + 1) * sz) ++ xs.drop (i * sz) ++ cur.drop ((i + 1) * sz + (xs.drop (i * sz)).length)).drop (i * sz + news.length))).take ((n + 1) * sz) = xs.take (i * sz) ++ news ++ xs.drop (i * sz) := by
 have e1 : (i + 1) * sz = i * sz + sz := by rw [Nat.add_mul, Nat.one_mul]
 have e2 : (n + 1) * sz = n * sz + sz := by rw [Nat.add_mul, Nat.one_mul]
 have e3 : (i + 1) * sz ≤ n * sz := Nat.mul_le_mul_right _ (by omega)
 rw [e1] at e3 ⊢
 rw [e2] at hc ⊢
 generalize i * sz = p at *
 generalize n * sz = q at *
 subst hl
 have hxl : xs.length = q := by rw [← hxs, List.length_take]; omega
 have hdl : (xs.drop p).length = q - p := by rw [List.length_drop, hxl]
 have t1 : (cur.take (p + news.length) ++ xs.drop p ++ cur.drop (p + news.length + (xs.drop p).length)).take p = xs.take p := by
  rw [List.append_assoc, List.take_append_of_le_length (by rw [List.length_take]; omega), List.take_take, Nat.min_eq_left (by omega), ← hxs, List.take_take, Nat.min_eq_left (by omega)]
 have t2 : (cur.take (p + news.length) ++ xs.drop p ++ cur.drop (p + news.length + (xs.drop p).length)).drop (p + news.length) = xs.drop p ++ cur.drop (p + news.length + (xs.drop p).length) := by
  rw [List.append_assoc, List.drop_left' (by rw [List.length_take]; omega)]
 rw [t1, t2]
 have hlen : (xs.take p ++ news ++ xs.drop p).length = q + news.length := by
  simp only [List.length_append, List.length_take, hdl]; omega
 rw [← List.append_assoc, ← hlen, List.take_left]
set_option maxRecDepth 100000 in
set_option maxHeartbeats 8000000 in
theorem insE_room {w : World} {base n c g b i : Nat} {cur : Array Value} {xs news : List Value} (hB : Blk w b 37 cur) (hbb : base ≤ b) (hc : n + 1 ≤ c) (hcm : c ≤ maxLen) (hcs : cur.size = c * 3) (hxs : cur.toList.take (n * 3) = xs) (hi : i < n) (hn : n ≤ 100000) (hx : Blk w g 37 news.toArray) (hl : news.length = 3) (h1 : ∀ u ∈ xs ++ news, u.oneCell' = true) (hgb : g ≠ b) :
 Calls Tryz.prog 31 #[.slice (some ⟨b, 0, none⟩) n c, .int .i64 (i : Int), .slice (some ⟨g, 0, none⟩) 1 1] w (RetIn w base 37 3 (some ⟨b, 0, none⟩) n c (xs.take (i * 3) ++ news ++ xs.drop (i * 3))) := by
 have hsz : (Tryz.prog.info? 37).map (·.size) = some 3 := by
  obtain ⟨i0, hi0, hz0, hs0, hy0⟩ := int_info8 Tryz.infoE
  rw [hi0]; simp [hs0]
 have hxl : xs.length = n * 3 := by rw [← hxs, List.length_take, Array.length_toList, hcs]; apply Nat.min_eq_left; omega
 have hnl : news.toArray.size = 3 := by simp [hl]
 have hov : ∀ lb cb, (callFunc 62 #[.slice (some ⟨g, 0, none⟩) 1 1, .slice (some ⟨b, (i + 1) * 3, none⟩) lb cb]).run Tryz.prog w = .ok (.value (.bool false)) w := fun lb cb => by
  rw [run_callFunc_extern Tryz.func62 (by kernel_rfl) (by kernel_rfl) (by kernel_rfl) (e := Extern.SlicesOverlaps.overlaps #[22, 22] #[4]) (by kernel_rfl),
   Lib.run_overlaps_apart w 22 4 37 Tryz.underlying22 3 (fun w => by
    cases hq : Tryz.prog.info? 37 with
    | none => rw [hq] at hsz; simp at hsz
    | some j =>
      rw [hq] at hsz
      have hj : j.size = 3 := by simpa using hsz
      simp [sizeOf, typeInfo, hq, hj]) ⟨g, 0, none⟩ ⟨b, (i + 1) * 3, none⟩ 1 1 lb cb hgb 37 37 news.toArray.size cur.size (by simp [World.shape?, show w.heap[g]? = _ from hx]) (by simp [World.shape?, show w.heap[b]? = _ from hB]) (by rw [hcs]; omega) (hx.frozen 0) (hx.frozen _)]
  rfl
 have HH := Lib.hid (And.intro hB (And.intro hx (And.intro hxs (And.intro hxl (And.intro h1 (And.intro hcs hl))))))
 clear hB hx hxs hxl h1 hcs hl hnl
 have i0 : (0 : Int) ≤ (i : Int) := by omega
 have i1 : (i : Int) < (n : Int) := by omega
 have iln : (i : Int) ≤ (n : Int) := by omega
 have ne1 : ¬ (i : Int) = (n : Int) := by omega
 have c1 : (n : Int) + 1 ≤ (c : Int) := by omega
 have i2 : (0 : Int) ≤ (i : Int) + 1 := by omega
 have i3 : (i : Int) + 1 ≤ (n : Int) + 1 := by omega
 have i4 : (i : Int) ≤ (n : Int) + 1 := by omega
 have hcI : (c : Int) ≤ 9223372036854775807 := by unfold maxLen at hcm; omega
 have hw1 : IntKind.i64.wrap ((i : Int) + 1) = (i : Int) + 1 := IntWalk.i64_in _ (by omega)
 have hci : ¬ c = i := by omega
 have hci1 : ¬ c = i + 1 := by omega
 have htn : ((i : Int) + 1).toNat = i + 1 := by omega
 go_enter Tryz.func31, Tryz.ntmps31
 have hil : i * 3 ≤ n * 3 := by omega
 have hil1 : (i + 1) * 3 = i * 3 + 3 := by omega
 have hnl1 : (n + 1) * 3 = n * 3 + 3 := by omega
 have hncl : (n + 1) * 3 ≤ c * 3 := by omega
 have hcl : (xs.drop (i * 3)).length = (n - i) * 3 := by rw [List.length_drop, HH.out.2.2.2.1]; omega
 have hsum : (i + 1) * 3 + (n - i) * 3 = (n + 1) * 3 := by omega
 have HN := Lib.hid (And.intro hil (And.intro hil1 (And.intro hnl1 (And.intro hncl (And.intro hcl hsum)))))
 clear hil hil1 hnl1 hncl hcl hsum
 obtain ⟨C1, hC1⟩ : ∃ C1, C1 = (cur.toList.take ((i + 1) * 3) ++ xs.drop (i * 3) ++ cur.toList.drop ((i + 1) * 3 + (xs.drop (i * 3)).length)).toArray := ⟨_, rfl⟩
 have hC1s : C1.size = c * 3 := by
  rw [hC1]
  simp only [List.size_toArray, List.length_append, List.length_take, List.length_drop, Array.length_toList, HH.out.2.2.2.2.2.1, HH.out.2.2.2.1]
  have h1 := HN.out.2.1; have h2 := HN.out.2.2.2.1; have h3 := HN.out.1; have h4 := HN.out.2.2.1
  omega
 have HC1 := Lib.hid hC1s
 have HCE := Lib.hid hC1
 clear hC1s hC1
 go_upto_region 15 with (simp only [hov])
 clear hov
 go_region_law (go_loud (refine step_copyS (w := w.drew) rfl (.tmp 73) (.tmp 76) 22 22 rfl 37 3 Tryz.underlying22 hsz b ((i + 1) * 3) (n + 1 - (i + 1)) (c - (i + 1)) ⟨b, i * 3, none⟩ (n + 1 - i) (c - i) (n - i) (by simp [Act.eval, Act.put]) (by simp [Act.eval, Act.put]) cur 37 HH.out.1 (xs.drop (i * 3)) (by simp only [Nat.min_def]; split <;> omega) HN.out.2.2.2.2.1 (fun j v hj => src_at HH.out.1.drew HH.out.2.2.1 hj) (by rw [HN.out.2.2.2.2.1, HH.out.2.2.2.2.2.1, HN.out.2.2.2.2.2]; exact HN.out.2.2.2.1) (fun v hv => HH.out.2.2.2.2.1 v (List.mem_append_left _ (List.mem_of_mem_drop hv))) ?_); intro w1 e1; rw [← HCE.out] at e1; have H1 := Lib.hid (row_facts e1 HH.out.1.drew HH.out.2.1.drew hgb); clear e1)
 go_wp2_with (refine wpList_copyS rfl (.tmp 80) (.tmp 81) 22 22 rfl 37 3 Tryz.underlying22 hsz b (i * 3) (n + 1 - i) (c - i) ⟨g, 0, none⟩ 1 1 1 rfl rfl C1 37 H1.out.1 news (by simp only [Nat.min_def]; split <;> omega) HH.out.2.2.2.2.2.2 (fun j v hj => by rw [add_head, H1.out.2.1.cell]; simpa using hj) (by rw [HC1.out, HH.out.2.2.2.2.2.2]; have h1 := HN.out.2.1; have h2 := HN.out.2.2.2.1; have h3 := HN.out.1; have h4 := HN.out.2.2.1; omega) (fun v hv => HH.out.2.2.2.2.1 v (List.mem_append_right _ hv)) ?_; intro w2 e2; have H2 := Lib.hid (row_facts e2 H1.out.1 H1.out.2.1 hgb); clear e2)
 go_ret
 have hfin := ins_row (news := news) HH.out.2.2.1 hi HH.out.2.2.2.2.2.2 (by rw [Array.length_toList, HH.out.2.2.2.2.2.1]; exact HN.out.2.2.2.1)
 refine ⟨some ⟨b, 0, none⟩, c, rfl, ⟨?_, .inr ⟨b, c, _, rfl, hbb, H2.out.1, hc, hcm, ?_, ?_⟩⟩, ?_, fun k e => .inl e⟩
 · simp only [List.length_append, List.length_take, HN.out.2.2.2.2.1, HH.out.2.2.2.1, HH.out.2.2.2.2.2.2]
   have h1 := HN.out.1; have h2 := HN.out.2.2.1; omega
 · simp only [List.size_toArray, List.length_append, List.length_take, List.length_drop, Array.length_toList, HC1.out, HH.out.2.2.2.2.2.2]
   have h1 := HN.out.2.1; have h2 := HN.out.2.2.2.1; have h3 := HN.out.1; have h4 := HN.out.2.2.1
   omega
 · rw [List.toList_toArray, HCE.out, List.toList_toArray]
   exact hfin
 · refine ((EvT.of_below (Below.drew (Below.refl _ _))).trans (H1.out.2.2.trans H2.out.2.2 fun k e => .inl e) fun k e => ?_)
   subst e
   exact .inl rfl
end
end Go.Proofs.YtebobcbaloddaaaGreat
namespace Go.Proofs.YtebobcbaloddaaaGreat
section
set_option linter.unusedSimpArgs false
set_option linter.unusedVariables false
open Go.RowKit Go.Maps
set_option maxRecDepth 100000 in
set_option maxHeartbeats 8000000 in
theorem insN_room {w : World} {base n c g b i : Nat} {cur : Array Value} {xs news : List Value} (hB : Blk w b 30 cur) (hbb : base ≤ b) (hc : n + 1 ≤ c) (hcm : c ≤ maxLen) (hcs : cur.size = c) (hxs : cur.toList.take (n) = xs) (hi : i < n) (hn : n ≤ 100000) (hx : Blk w g 30 news.toArray) (hl : news.length = 1) (h1 : ∀ u ∈ xs ++ news, u.oneCell' = true) (hgb : g ≠ b) :
 Calls Tryz.prog 69 #[.slice (some ⟨b, 0, none⟩) n c, .int .i64 (i : Int), .slice (some ⟨g, 0, none⟩) 1 1] w (RetIn w base 30 1 (some ⟨b, 0, none⟩) n c (xs.take (i) ++ news ++ xs.drop (i))) := by
 have hsz : (Tryz.prog.info? 30).map (·.size) = some 1 := by
  obtain ⟨i0, hi0, hz0, hs0, hy0⟩ := int_info8 Tryz.infoN
  rw [hi0]; simp [hs0]
 have hxl : xs.length = n := by rw [← hxs, List.length_take, Array.length_toList, hcs]; apply Nat.min_eq_left; omega
 have hnl : news.toArray.size = 1 := by simp [hl]
 have hov : ∀ lb cb, (callFunc 96 #[.slice (some ⟨g, 0, none⟩) 1 1, .slice (some ⟨b, (i + 1), none⟩) lb cb]).run Tryz.prog w = .ok (.value (.bool false)) w := fun lb cb => by
  rw [run_callFunc_extern Tryz.func96 (by kernel_rfl) (by kernel_rfl) (by kernel_rfl) (e := Extern.SlicesOverlaps.overlaps #[73, 73] #[4]) (by kernel_rfl),
   Lib.run_overlaps_apart w 73 4 30 Tryz.underlying73 1 (fun w => by
    cases hq : Tryz.prog.info? 30 with
    | none => rw [hq] at hsz; simp at hsz
    | some j =>
      rw [hq] at hsz
      have hj : j.size = 1 := by simpa using hsz
      simp [sizeOf, typeInfo, hq, hj]) ⟨g, 0, none⟩ ⟨b, (i + 1), none⟩ 1 1 lb cb hgb 30 30 news.toArray.size cur.size (by simp [World.shape?, show w.heap[g]? = _ from hx]) (by simp [World.shape?, show w.heap[b]? = _ from hB]) (by rw [hcs]; omega) (hx.frozen 0) (hx.frozen _)]
  rfl
 have HH := Lib.hid (And.intro hB (And.intro hx (And.intro hxs (And.intro hxl (And.intro h1 (And.intro hcs hl))))))
 clear hB hx hxs hxl h1 hcs hl hnl
 have i0 : (0 : Int) ≤ (i : Int) := by omega
 have i1 : (i : Int) < (n : Int) := by omega
 have iln : (i : Int) ≤ (n : Int) := by omega
 have ne1 : ¬ (i : Int) = (n : Int) := by omega
 have c1 : (n : Int) + 1 ≤ (c : Int) := by omega
 have i2 : (0 : Int) ≤ (i : Int) + 1 := by omega
 have i3 : (i : Int) + 1 ≤ (n : Int) + 1 := by omega
 have i4 : (i : Int) ≤ (n : Int) + 1 := by omega
 have hcI : (c : Int) ≤ 9223372036854775807 := by unfold maxLen at hcm; omega
 have hw1 : IntKind.i64.wrap ((i : Int) + 1) = (i : Int) + 1 := IntWalk.i64_in _ (by omega)
 have hci : ¬ c = i := by omega
 have hci1 : ¬ c = i + 1 := by omega
 have htn : ((i : Int) + 1).toNat = i + 1 := by omega
 go_enter Tryz.func69, Tryz.ntmps69
 have hil : i ≤ n := by omega
 have hil1 : (i + 1) = i + 1 := by omega
 have hnl1 : (n + 1) = n + 1 := by omega
 have hncl : (n + 1) ≤ c := by omega
 have hcl : (xs.drop (i)).length = (n - i) := by rw [List.length_drop, HH.out.2.2.2.1]
 have hsum : (i + 1) + (n - i) = (n + 1) := by omega
 have HN := Lib.hid (And.intro hil (And.intro hil1 (And.intro hnl1 (And.intro hncl (And.intro hcl hsum)))))
 clear hil hil1 hnl1 hncl hcl hsum
 obtain ⟨C1, hC1⟩ : ∃ C1, C1 = (cur.toList.take ((i + 1)) ++ xs.drop (i) ++ cur.toList.drop ((i + 1) + (xs.drop (i)).length)).toArray := ⟨_, rfl⟩
 have hC1s : C1.size = c := by
  rw [hC1]
  simp only [List.size_toArray, List.length_append, List.length_take, List.length_drop, Array.length_toList, HH.out.2.2.2.2.2.1, HH.out.2.2.2.1]
  have h1 := HN.out.2.1; have h2 := HN.out.2.2.2.1; have h3 := HN.out.1; have h4 := HN.out.2.2.1
  omega
 have HC1 := Lib.hid hC1s
 have HCE := Lib.hid hC1
 clear hC1s hC1
 go_upto_region 15 with (simp only [hov])
 clear hov
 go_region_law (go_loud (refine step_copyS (w := w.drew) rfl (.tmp 73) (.tmp 76) 73 73 rfl 30 1 Tryz.underlying73 hsz b ((i + 1)) (n + 1 - (i + 1)) (c - (i + 1)) ⟨b, i, none⟩ (n + 1 - i) (c - i) (n - i) (by simp [Act.eval, Act.put]) (by simp [Act.eval, Act.put]) cur 30 HH.out.1 (xs.drop (i)) (by simp only [Nat.min_def]; split <;> omega) (by rw [HN.out.2.2.2.2.1, Nat.mul_one]) (fun j v hj => by have h := src_at (sz := 1) (i := i) (m := n) HH.out.1.drew HH.out.2.2.1 (j := j) (v := v) (by rw [Nat.mul_one]; exact hj); rw [Nat.mul_one] at h; exact h) (by rw [HN.out.2.2.2.2.1, HH.out.2.2.2.2.2.1, HN.out.2.2.2.2.2]; exact HN.out.2.2.2.1) (fun v hv => HH.out.2.2.2.2.1 v (List.mem_append_left _ (List.mem_of_mem_drop hv))) ?_); intro w1 e1; rw [← HCE.out] at e1; have H1 := Lib.hid (row_facts e1 HH.out.1.drew HH.out.2.1.drew hgb); clear e1)
 go_wp2_with (refine wpList_copyS rfl (.tmp 80) (.tmp 81) 73 73 rfl 30 1 Tryz.underlying73 hsz b (i) (n + 1 - i) (c - i) ⟨g, 0, none⟩ 1 1 1 rfl rfl C1 30 H1.out.1 news (by simp only [Nat.min_def]; split <;> omega) HH.out.2.2.2.2.2.2 (fun j v hj => by rw [add_head, H1.out.2.1.cell]; simpa using hj) (by rw [HC1.out, HH.out.2.2.2.2.2.2]; have h1 := HN.out.2.1; have h2 := HN.out.2.2.2.1; have h3 := HN.out.1; have h4 := HN.out.2.2.1; omega) (fun v hv => HH.out.2.2.2.2.1 v (List.mem_append_right _ hv)) ?_; intro w2 e2; have H2 := Lib.hid (row_facts e2 H1.out.1 H1.out.2.1 hgb); clear e2)
 go_ret
 have hfin := ins_row (sz := 1) (n := n) (i := i) (news := news) (cur := cur.toList) (xs := xs) (by rw [Nat.mul_one]; exact HH.out.2.2.1) hi HH.out.2.2.2.2.2.2 (by rw [Array.length_toList, HH.out.2.2.2.2.2.1]; omega)
 simp only [Nat.mul_one] at hfin
 refine ⟨some ⟨b, 0, none⟩, c, rfl, ⟨?_, .inr ⟨b, c, _, rfl, hbb, H2.out.1, hc, hcm, ?_, ?_⟩⟩, ?_, fun k e => .inl e⟩
 · simp only [List.length_append, List.length_take, HN.out.2.2.2.2.1, HH.out.2.2.2.1, HH.out.2.2.2.2.2.2]
   have h1 := HN.out.1; have h2 := HN.out.2.2.1; omega
 · simp only [List.size_toArray, List.length_append, List.length_take, List.length_drop, Array.length_toList, HC1.out, HH.out.2.2.2.2.2.2]
   have h1 := HN.out.2.1; have h2 := HN.out.2.2.2.1; have h3 := HN.out.1; have h4 := HN.out.2.2.1
   omega
 · rw [List.toList_toArray, HCE.out, List.toList_toArray]
   rw [Nat.mul_one]; first | exact hfin | rw [hfin, List.append_assoc]
 · refine ((EvT.of_below (Below.drew (Below.refl _ _))).trans (H1.out.2.2.trans H2.out.2.2 fun k e => .inl e) fun k e => ?_)
   subst e
   exact .inl rfl
end
end Go.Proofs.YtebobcbaloddaaaGreat
namespace Go.Proofs.YtebobcbaloddaaaGreat
section
set_option linter.unusedSimpArgs false
set_option linter.unusedVariables false
open Go.RowKit Go.Maps
theorem grow_facts {w : World} {b g i G sz m : Nat} {e : TypeId} {cur ns row : Array Value} {xs : List Value} (hB : Blk w b e cur) (hx : Blk w g e ns) (h : m ≤ G ∧ G ≤ maxLen ∧ row.size = G * sz ∧ row.toList.take (i * sz) = xs.take (i * sz)) :
 Blk ((w.alloc (.cells row e)).drew) w.heap.size e row ∧ Blk ((w.alloc (.cells row e)).drew) b e cur ∧ Blk ((w.alloc (.cells row e)).drew) g e ns ∧ EvT (fun k => (none : Option Nat) = some k) w ((w.alloc (.cells row e)).drew) ∧ m ≤ G ∧ G ≤ maxLen ∧ row.size = G * sz ∧ row.toList.take (i * sz) = xs.take (i * sz) :=
 ⟨(Blk.new w e row).drew, (hB.alloc _).drew, (hx.alloc _).drew, EvT.of_below (Below.drew ((Below.refl w.heap.size w).alloc (Nat.le_refl _) _)), h.1, h.2.1, h.2.2.1, h.2.2.2⟩
theorem row_facts3 {w w' : World} {b g d : Nat} {e : TypeId} {cur C ns cd : Array Value} (hw : w' = w.setRow b C) (hB : Blk w b e cur) (hx : Blk w g e ns) (hd : Blk w d e cd) (hgb : g ≠ b) (hdb : d ≠ b) : Blk w' b e C ∧ Blk w' g e ns ∧ Blk w' d e cd ∧ EvT (fun k => k = b) w w' := by
 subst hw
 exact ⟨setRow_heap w b cur C e _ hB, (setRow_other w b g C hgb).trans hx, (setRow_other w b d C hdb).trans hd, ⟨rfl, rfl, rfl, by simp [World.setRow], fun k hk hne => setRow_other w b k C hne⟩⟩
theorem grow_row {row : List Value} {xs news : List Value} {n i sz G : Nat} (hx : xs.length = n * sz) (hrs : row.length = G * sz) (hG : n + 1 ≤ G) (hrt : row.take (i * sz) = xs.take (i * sz)) (hi : i < n) (hl : news.length = sz) :
 (((row.take (i * sz) ++ news ++ row.drop (i * sz + news.length)).take ((i + 1) * sz) ++ xs.drop (i * sz) ++ (row.take (i * sz) ++ news ++ row.drop (i * sz + news.length)).drop ((i + 1) * sz + (xs.drop (i * sz)).length))).take ((n + 1) * sz) = xs.take (i * sz) ++ news ++ xs.drop (i * sz) := by
 have e1 : (i + 1) * sz = i * sz + sz := by rw [Nat.add_mul, Nat.one_mul]
 have e2 : (n + 1) * sz = n * sz + sz := by rw [Nat.add_mul, Nat.one_mul]
 have e3 : i * sz ≤ n * sz := Nat.mul_le_mul_right _ (by omega)
 have e4 : (n + 1) * sz ≤ G * sz := Nat.mul_le_mul_right _ hG
 rw [e1]
 rw [e2] at e4 ⊢
 generalize i * sz = p at *
 generalize n * sz = q at *
 generalize G * sz = r at *
 subst hl
 have hpl : (xs.take p).length = p := by rw [List.length_take]; omega
 have hdl : (xs.drop p).length = q - p := by rw [List.length_drop, hx]
 rw [hrt]
 have t1 : (xs.take p ++ news ++ row.drop (p + news.length)).take (p + news.length) = xs.take p ++ news := List.take_left' (by rw [List.length_append, hpl])
 rw [t1]
 have hlen : (xs.take p ++ news ++ xs.drop p).length = q + news.length := by
  simp only [List.length_append, hpl, hdl]; omega
 rw [← hlen, List.take_left]
theorem old_at {w : World} {b m p : Nat} {e : TypeId} {cur : Array Value} {xs : List Value} {j : Nat} {v : Value} (hB : Blk w b e cur) (hxs : cur.toList.take m = xs) (hj : (xs.take p)[j]? = some v) : w.cell? ((⟨b, 0, none⟩ : Addr).add j) = some v := by
 rw [add_head, hB.cell]
 rw [List.getElem?_take] at hj
 split at hj
 · rw [← hxs, List.getElem?_take] at hj
   split at hj
   · simpa using hj
   · cases hj
 · cases hj
set_option maxRecDepth 100000 in
set_option maxHeartbeats 8000000 in
theorem insE_grow {w : World} {base n g b i : Nat} {cur : Array Value} {xs news : List Value} (hB : Blk w b 37 cur) (hbb : base ≤ b) (hbase : base ≤ w.heap.size) (hcs : cur.size = n * 3) (hxs : cur.toList.take (n * 3) = xs) (hi : i < n) (hn : n ≤ 100000) (hx : Blk w g 37 news.toArray) (hl : news.length = 3) (h1 : ∀ u ∈ xs ++ news, u.oneCell' = true) (hgb : g ≠ b) :
 Calls Tryz.prog 31 #[.slice (some ⟨b, 0, none⟩) n n, .int .i64 (i : Int), .slice (some ⟨g, 0, none⟩) 1 1] w (RetIn w base 37 3 (some ⟨b, 0, none⟩) n n (xs.take (i * 3) ++ news ++ xs.drop (i * 3))) := by
 obtain ⟨ii, hi0, hz0, hs0, hy0⟩ := int_info8 Tryz.infoE
 have hsz : (Tryz.prog.info? 37).map (·.size) = some 3 := by rw [hi0]; simp [hs0]
 have hxl : xs.length = n * 3 := by rw [← hxs, List.length_take, Array.length_toList, hcs]; omega
 have hil : i * 3 ≤ n * 3 := by omega
 have hil1 : (i + 1) * 3 = i * 3 + 3 := by omega
 have hnl1 : (n + 1) * 3 = n * 3 + 3 := by omega
 have hcl : (xs.drop (i * 3)).length = (n - i) * 3 := by rw [List.length_drop, hxl]; omega
 have htl : (xs.take (i * 3)).length = i * 3 := by rw [List.length_take, hxl]; omega
 have HH := Lib.hid (And.intro hB (And.intro hx (And.intro hxs (And.intro hxl (And.intro h1 (And.intro hcs hl))))))
 have HN := Lib.hid (And.intro hil (And.intro hil1 (And.intro hnl1 (And.intro hcl htl))))
 have hbw := hB.lt
 have hgw := hx.lt
 clear hB hx hxs hxl h1 hcs hl hil hil1 hnl1 hcl htl
 have i0 : (0 : Int) ≤ (i : Int) := by omega
 have i1 : (i : Int) < (n : Int) := by omega
 have iln : (i : Int) ≤ (n : Int) := by omega
 have ne1 : ¬ (i : Int) = (n : Int) := by omega
 have i2 : (0 : Int) ≤ (i : Int) + 1 := by omega
 have i3 : (i : Int) + 1 ≤ (n : Int) + 1 := by omega
 have i4 : (i : Int) ≤ (n : Int) + 1 := by omega
 have hcI : (n : Int) ≤ 9223372036854775807 := by omega
 have hw1 : IntKind.i64.wrap ((i : Int) + 1) = (i : Int) + 1 := IntWalk.i64_in _ (by omega)
 have hci : ¬ n = i := by omega
 have htn : ((i : Int) + 1).toNat = i + 1 := by omega
 obtain ⟨k, hk⟩ : ∃ k : Nat, n + 1 - i = k := ⟨_, rfl⟩
 have hkI : (n : Int) + 1 - (i : Int) = (k : Int) := by omega
 have hik : i + k = n + 1 := by omega
 have hk0 : 0 < k := by omega
 have Hk := Lib.hid (And.intro hk (And.intro hik hk0))
 clear hk hik hk0
 go_enter Tryz.func31, Tryz.ntmps31
 go_wp2_with (first | (at_builtin; refine wpList_zerosM rfl (.tmp 34) (.tmp 39) 22 3 rfl 37 ii _ .i64 .i64 Tryz.underlying22 Tryz.underlying3 hi0 hz0 (by rw [hs0]; rfl) (by rw [hs0]; decide) b i n rfl (xs.take (i * 3)) (by rw [hs0]; exact HN.out.2.2.2.2) (fun j v hj => old_at HH.out.1 HH.out.2.2.1 hj) k (n + 1) rfl Hk.out.2.2 Hk.out.2.1 (by omega) (by omega) (by rw [hy0]; decide) ?_; intro G row hG hGm hrs hrt; rw [hs0] at hrs hrt; have hGi : ¬ G = i := (by omega); have hGi1 : ¬ G = i + 1 := (by omega); have hGc : (n : Int) + 1 ≤ (G : Int) := (by omega); have HR := Lib.hid (grow_facts (w := w) (row := row) HH.out.1 HH.out.2.1 (And.intro hG (And.intro hGm (And.intro hrs hrt)))); clear hG hGm hrs hrt) | (refine wpList_copyS rfl (.tmp 43) (.tmp 44) 22 22 rfl 37 3 Tryz.underlying22 hsz w.heap.size (i * 3) (n + 1 - i) (G - i) ⟨g, 0, none⟩ 1 1 1 rfl rfl row 37 HR.out.1 news (by simp only [Nat.min_def]; split <;> omega) HH.out.2.2.2.2.2.2 (fun j v hj => by rw [add_head, HR.out.2.2.1.cell]; simpa using hj) (by rw [HR.out.2.2.2.2.2.2.1, HH.out.2.2.2.2.2.2]; have := HR.out.2.2.2.2.1; omega) (fun v hv => HH.out.2.2.2.2.1 v (List.mem_append_right _ hv)) ?_; intro w2 e2; have H2 := Lib.hid (row_facts3 e2 HR.out.1 HR.out.2.2.1 HR.out.2.1 (by omega) (by omega)); clear e2))
 obtain ⟨C1, hC1⟩ : ∃ C1, C1 = (row.toList.take (i * 3) ++ news ++ row.toList.drop (i * 3 + news.length)).toArray := ⟨_, rfl⟩
 have hC1s : C1.size = G * 3 := by
  rw [hC1]
  simp only [List.size_toArray, List.length_append, List.length_take, List.length_drop, Array.length_toList, HR.out.2.2.2.2.2.2.1, HH.out.2.2.2.2.2.2]
  have := HR.out.2.2.2.2.1
  omega
 rw [← hC1] at H2
 have HCE := Lib.hid hC1
 have HCS := Lib.hid hC1s
 clear hC1 hC1s
 go_region_law (go_loud (refine step_copyS (w := w2.drew) rfl (.tmp 50) (.tmp 53) 22 22 rfl 37 3 Tryz.underlying22 hsz w.heap.size ((i + 1) * 3) (n + 1 - (i + 1)) (G - (i + 1)) ⟨b, i * 3, none⟩ (n - i) (n - i) (n - i) (by simp [Act.eval, Act.put]) (by simp [Act.eval, Act.put]) C1 37 H2.out.1 (xs.drop (i * 3)) (by simp only [Nat.min_def]; split <;> omega) HN.out.2.2.2.1 (fun j v hj => src_at H2.out.2.2.1.drew HH.out.2.2.1 hj) (by rw [HN.out.2.2.2.1, HCS.out]; have := HR.out.2.2.2.2.1; omega) (fun v hv => HH.out.2.2.2.2.1 v (List.mem_append_left _ (List.mem_of_mem_drop hv))) ?_); intro w3 e3; have H3 := Lib.hid (row_facts3 e3 H2.out.1.drew H2.out.2.1.drew H2.out.2.2.1.drew (by omega) (by omega)); clear e3)
 go_wp2_with fail
 go_ret
 have hfin := grow_row (news := news) HH.out.2.2.2.1 (by rw [Array.length_toList, HR.out.2.2.2.2.2.2.1]) HR.out.2.2.2.2.1 HR.out.2.2.2.2.2.2.2 hi HH.out.2.2.2.2.2.2
 refine ⟨some ⟨w.heap.size, 0, none⟩, G, rfl, ⟨?_, .inr ⟨w.heap.size, G, _, rfl, hbase, H3.out.1, HR.out.2.2.2.2.1, HR.out.2.2.2.2.2.1, ?_, ?_⟩⟩, ?_, fun q e => .inr (by injection e with e; show w.heap.size ≤ q; have e2 : w.heap.size = q := e; omega)⟩
 · simp only [List.length_append, HN.out.2.2.2.1, HN.out.2.2.2.2, HH.out.2.2.2.2.2.2]
   have h2 := HN.out.2.2.1
   omega
 · simp only [List.size_toArray, List.length_append, List.length_take, List.length_drop, Array.length_toList, HCS.out, HN.out.2.2.2.1]
   have := HR.out.2.2.2.2.1
   omega
 · rw [List.toList_toArray, HCE.out, List.toList_toArray]
   exact hfin
 · refine EvT.mono (HR.out.2.2.2.1.trans (H2.out.2.2.2.trans ((EvT.of_below (Below.drew (Below.refl _ _))).trans H3.out.2.2.2 fun q e => .inl e) fun q e => .inl e) fun q e => ?_) (fun q e => by cases e)
   subst e
   exact .inr (Nat.le_refl _)
theorem insE_any {w : World} {base n c g i : Nat} {A : Option Addr} {xs news : List Value} (ho : w.ownsRow base 37 3 (.slice A n c) n xs) (hn : n ≤ 100000) (hbase : base ≤ w.heap.size) (hi : i ≤ n) (hx : Blk w g 37 news.toArray) (hl : news.length = 3) (h1 : ∀ u ∈ xs ++ news, u.oneCell' = true) (hgb : A.map Addr.block ≠ some g) :
 Calls Tryz.prog 31 #[.slice A n c, .int .i64 (i : Int), .slice (some ⟨g, 0, none⟩) 1 1] w (RetIn w base 37 3 A n c (xs.take (i * 3) ++ news ++ xs.drop (i * 3))) := by
 rcases Nat.lt_or_ge i n with h | h
 · have ho' := ho
   obtain ⟨hxl, hc⟩ := ho'
   rcases hc with ⟨_, h0⟩ | ⟨b, cap, cur, e, hbb, hB, hnc, hcm, hcs, hxs⟩
   · omega
   · injection e with e1 _ e3
     subst e1
     subst e3
     have hne : g ≠ b := fun e => hgb (by rw [e]; rfl)
     by_cases hr : n + 1 ≤ c
     · exact insE_room hB hbb hr hcm (by rw [hcs]) (by rw [← hxs]) h hn hx hl h1 hne
     · obtain rfl : c = n := by omega
       exact insE_grow hB hbb hbase (by rw [hcs]) (by rw [← hxs]) h hn hx hl h1 hne
 · obtain rfl : i = n := by omega
   have hxl := ho.1
   have e1 : xs.take (i * 3) = xs := List.take_of_length_le (by omega)
   have e2 : xs.drop (i * 3) = [] := List.drop_eq_nil_of_le (by omega)
   rw [e1, e2, List.append_nil]
   exact insE_end ho hn hbase hx hl h1
end
end Go.Proofs.YtebobcbaloddaaaGreat
namespace Go.Proofs.YtebobcbaloddaaaGreat
section
set_option linter.unusedSimpArgs false
set_option linter.unusedVariables false
open Go.RowKit Go.Maps
set_option maxRecDepth 100000 in
set_option maxHeartbeats 8000000 in
theorem insN_grow {w : World} {base n g b i : Nat} {cur : Array Value} {xs news : List Value} (hB : Blk w b 30 cur) (hbb : base ≤ b) (hbase : base ≤ w.heap.size) (hcs : cur.size = n) (hxs : cur.toList.take (n) = xs) (hi : i < n) (hn : n ≤ 100000) (hx : Blk w g 30 news.toArray) (hl : news.length = 1) (h1 : ∀ u ∈ xs ++ news, u.oneCell' = true) (hgb : g ≠ b) :
 Calls Tryz.prog 69 #[.slice (some ⟨b, 0, none⟩) n n, .int .i64 (i : Int), .slice (some ⟨g, 0, none⟩) 1 1] w (RetIn w base 30 1 (some ⟨b, 0, none⟩) n n (xs.take (i) ++ news ++ xs.drop (i))) := by
 obtain ⟨ii, hi0, hz0, hs0, hy0⟩ := int_info8 Tryz.infoN
 have hsz : (Tryz.prog.info? 30).map (·.size) = some 1 := by rw [hi0]; simp [hs0]
 have hxl : xs.length = n := by rw [← hxs, List.length_take, Array.length_toList, hcs]; omega
 have hil : i ≤ n := by omega
 have hil1 : (i + 1) = i + 1 := by omega
 have hnl1 : (n + 1) = n + 1 := by omega
 have hcl : (xs.drop (i)).length = (n - i) := by rw [List.length_drop, hxl]
 have htl : (xs.take (i)).length = i := by rw [List.length_take, hxl]; omega
 have HH := Lib.hid (And.intro hB (And.intro hx (And.intro hxs (And.intro hxl (And.intro h1 (And.intro hcs hl))))))
 have HN := Lib.hid (And.intro hil (And.intro hil1 (And.intro hnl1 (And.intro hcl htl))))
 have hbw := hB.lt
 have hgw := hx.lt
 clear hB hx hxs hxl h1 hcs hl hil hil1 hnl1 hcl htl
 have i0 : (0 : Int) ≤ (i : Int) := by omega
 have i1 : (i : Int) < (n : Int) := by omega
 have iln : (i : Int) ≤ (n : Int) := by omega
 have ne1 : ¬ (i : Int) = (n : Int) := by omega
 have i2 : (0 : Int) ≤ (i : Int) + 1 := by omega
 have i3 : (i : Int) + 1 ≤ (n : Int) + 1 := by omega
 have i4 : (i : Int) ≤ (n : Int) + 1 := by omega
 have hcI : (n : Int) ≤ 9223372036854775807 := by omega
 have hw1 : IntKind.i64.wrap ((i : Int) + 1) = (i : Int) + 1 := IntWalk.i64_in _ (by omega)
 have hci : ¬ n = i := by omega
 have htn : ((i : Int) + 1).toNat = i + 1 := by omega
 obtain ⟨k, hk⟩ : ∃ k : Nat, n + 1 - i = k := ⟨_, rfl⟩
 have hkI : (n : Int) + 1 - (i : Int) = (k : Int) := by omega
 have hik : i + k = n + 1 := by omega
 have hk0 : 0 < k := by omega
 have Hk := Lib.hid (And.intro hk (And.intro hik hk0))
 clear hk hik hk0
 go_enter Tryz.func69, Tryz.ntmps69
 go_wp2_with (first | (at_builtin; refine wpList_zerosM rfl (.tmp 34) (.tmp 39) 73 3 rfl 30 ii _ .i64 .i64 Tryz.underlying73 Tryz.underlying3 hi0 hz0 (by rw [hs0]; rfl) (by rw [hs0]; decide) b i n rfl (xs.take (i)) (by rw [hs0]; rw [Nat.mul_one]; exact HN.out.2.2.2.2) (fun j v hj => old_at HH.out.1 HH.out.2.2.1 hj) k (n + 1) rfl Hk.out.2.2 Hk.out.2.1 (by omega) (by omega) (by rw [hy0]; decide) ?_; intro G row hG hGm hrs hrt; rw [hs0] at hrs hrt; have hGi : ¬ G = i := (by omega); have hGi1 : ¬ G = i + 1 := (by omega); have hGc : (n : Int) + 1 ≤ (G : Int) := (by omega); have HR := Lib.hid (grow_facts (w := w) (row := row) (sz := 1) (i := i) (xs := xs) HH.out.1 HH.out.2.1 (And.intro hG (And.intro hGm (And.intro hrs (by rw [Nat.mul_one] at hrt ⊢; exact hrt))))); clear hG hGm hrs hrt) | (refine wpList_copyS rfl (.tmp 43) (.tmp 44) 73 73 rfl 30 1 Tryz.underlying73 hsz w.heap.size (i) (n + 1 - i) (G - i) ⟨g, 0, none⟩ 1 1 1 rfl rfl row 30 HR.out.1 news (by simp only [Nat.min_def]; split <;> omega) HH.out.2.2.2.2.2.2 (fun j v hj => by rw [add_head, HR.out.2.2.1.cell]; simpa using hj) (by rw [HR.out.2.2.2.2.2.2.1, HH.out.2.2.2.2.2.2]; have := HR.out.2.2.2.2.1; omega) (fun v hv => HH.out.2.2.2.2.1 v (List.mem_append_right _ hv)) ?_; intro w2 e2; have H2 := Lib.hid (row_facts3 e2 HR.out.1 HR.out.2.2.1 HR.out.2.1 (by omega) (by omega)); clear e2))
 obtain ⟨C1, hC1⟩ : ∃ C1, C1 = (row.toList.take (i) ++ news ++ row.toList.drop (i + news.length)).toArray := ⟨_, rfl⟩
 have hC1s : C1.size = G * 1 := by
  rw [hC1]
  simp only [List.size_toArray, List.length_append, List.length_take, List.length_drop, Array.length_toList, HR.out.2.2.2.2.2.2.1, HH.out.2.2.2.2.2.2]
  have := HR.out.2.2.2.2.1
  omega
 rw [← hC1] at H2
 have HCE := Lib.hid hC1
 have HCS := Lib.hid hC1s
 clear hC1 hC1s
 go_region_law (go_loud (refine step_copyS (w := w2.drew) rfl (.tmp 50) (.tmp 53) 73 73 rfl 30 1 Tryz.underlying73 hsz w.heap.size ((i + 1)) (n + 1 - (i + 1)) (G - (i + 1)) ⟨b, i, none⟩ (n - i) (n - i) (n - i) (by simp [Act.eval, Act.put]) (by simp [Act.eval, Act.put]) C1 30 H2.out.1 (xs.drop (i)) (by simp only [Nat.min_def]; split <;> omega) (by rw [HN.out.2.2.2.1, Nat.mul_one]) (fun j v hj => by have h := src_at (sz := 1) (i := i) (m := n) H2.out.2.2.1.drew HH.out.2.2.1 (j := j) (v := v) (by rw [Nat.mul_one]; exact hj); rw [Nat.mul_one] at h; exact h) (by rw [HN.out.2.2.2.1, HCS.out]; have := HR.out.2.2.2.2.1; omega) (fun v hv => HH.out.2.2.2.2.1 v (List.mem_append_left _ (List.mem_of_mem_drop hv))) ?_); intro w3 e3; have H3 := Lib.hid (row_facts3 e3 H2.out.1.drew H2.out.2.1.drew H2.out.2.2.1.drew (by omega) (by omega)); clear e3)
 go_wp2_with fail
 go_ret
 have hfin := grow_row (sz := 1) (n := n) (i := i) (G := G) (row := row.toList) (xs := xs) (news := news) (by rw [HH.out.2.2.2.1, Nat.mul_one]) (by rw [Array.length_toList, HR.out.2.2.2.2.2.2.1]) HR.out.2.2.2.2.1 HR.out.2.2.2.2.2.2.2 hi HH.out.2.2.2.2.2.2
 simp only [Nat.mul_one] at hfin
 refine ⟨some ⟨w.heap.size, 0, none⟩, G, rfl, ⟨?_, .inr ⟨w.heap.size, G, _, rfl, hbase, H3.out.1, HR.out.2.2.2.2.1, HR.out.2.2.2.2.2.1, ?_, ?_⟩⟩, ?_, fun q e => .inr (by injection e with e; show w.heap.size ≤ q; have e2 : w.heap.size = q := e; omega)⟩
 · simp only [List.length_append, HN.out.2.2.2.1, HN.out.2.2.2.2, HH.out.2.2.2.2.2.2]
   have h2 := HN.out.2.2.1
   omega
 · simp only [List.size_toArray, List.length_append, List.length_take, List.length_drop, Array.length_toList, HCS.out, HN.out.2.2.2.1]
   have := HR.out.2.2.2.2.1
   omega
 · rw [List.toList_toArray, HCE.out, List.toList_toArray]
   rw [Nat.mul_one]; first | exact hfin | rw [hfin, List.append_assoc]
 · refine EvT.mono (HR.out.2.2.2.1.trans (H2.out.2.2.2.trans ((EvT.of_below (Below.drew (Below.refl _ _))).trans H3.out.2.2.2 fun q e => .inl e) fun q e => .inl e) fun q e => ?_) (fun q e => by cases e)
   subst e
   exact .inr (Nat.le_refl _)
theorem insN_any {w : World} {base n c g i : Nat} {A : Option Addr} {xs news : List Value} (ho : w.ownsRow base 30 1 (.slice A n c) n xs) (hn : n ≤ 100000) (hbase : base ≤ w.heap.size) (hi : i ≤ n) (hx : Blk w g 30 news.toArray) (hl : news.length = 1) (h1 : ∀ u ∈ xs ++ news, u.oneCell' = true) (hgb : A.map Addr.block ≠ some g) :
 Calls Tryz.prog 69 #[.slice A n c, .int .i64 (i : Int), .slice (some ⟨g, 0, none⟩) 1 1] w (RetIn w base 30 1 A n c (xs.take (i) ++ news ++ xs.drop (i))) := by
 rcases Nat.lt_or_ge i n with h | h
 · have ho' := ho
   obtain ⟨hxl, hc⟩ := ho'
   rcases hc with ⟨_, h0⟩ | ⟨b, cap, cur, e, hbb, hB, hnc, hcm, hcs, hxs⟩
   · omega
   · injection e with e1 _ e3
     subst e1
     subst e3
     have hne : g ≠ b := fun e => hgb (by rw [e]; rfl)
     by_cases hr : n + 1 ≤ c
     · exact insN_room hB hbb hr hcm (by omega) (by rw [Nat.mul_one] at hxs; exact hxs) h hn hx hl h1 hne
     · obtain rfl : c = n := by omega
       exact insN_grow hB hbb hbase (by omega) (by rw [Nat.mul_one] at hxs; exact hxs) h hn hx hl h1 hne
 · obtain rfl : i = n := by omega
   have hxl := ho.1
   have e1 : xs.take (i) = xs := List.take_of_length_le (by omega)
   have e2 : xs.drop (i) = [] := List.drop_eq_nil_of_le (by omega)
   rw [e1, e2, List.append_nil]
   exact insN_end ho hn hbase hx hl h1
end
end Go.Proofs.YtebobcbaloddaaaGreat
namespace Go.Proofs.YtebobcbaloddaaaGreat
section
set_option linter.unusedSimpArgs false
set_option linter.unusedVariables false
open Go.RowKit Go.Maps
theorem sum_next {sz : List Nat} {i k : Nat} (h : sz[i]? = some k) : (sz.take (i + 1)).sum = (sz.take i).sum + k := by
 rw [List.take_add_one, h, List.sum_append]; simp
set_option maxRecDepth 100000 in
set_option maxHeartbeats 8000000 in
theorem cutL_any (A : Option Addr) (n c : Nat) (l : List En) (w : World) (hr : Reads w w.heap.size 3 A n (vE l)) (hn : n ≤ 1000) (hnc : n ≤ c) (hcm : c ≤ maxLen) (hwn : 0 ≤ n) (hs : ∀ x ∈ l, x.s.size ≤ 9000) :
 Calls Tryz.prog 95 #[.slice A n c, .int .i64 0, .func (.func 48) #[] #[]] w (RetB w (.int .i64 (cutP 0 (lfSz l) : Nat))) := by
 have hl : l.length = n := by have := hr.1; rw [vE_len] at this; omega
 have hzl : (lfSz l).length = n := by unfold lfSz; rw [List.length_map, hl]
 have hb : (lfSz l).sum ≤ n * 9012 := by
  rw [← hzl]
  refine sum_len fun x hx => ?_
  unfold lfSz at hx
  obtain ⟨e, he, rfl⟩ := List.mem_map.1 hx
  have := hs e he
  omega
 have HS := Lib.hid fun (x : En) (hx : x ∈ l) (W : World) => entrySize_any x (hs x hx) W
 have HR := Lib.hid hr
 have HL := Lib.hid (And.intro hl (And.intro hzl hb))
 have hat : ∀ (i : Nat) (x : En), l[i]? = some x → (lfSz l)[i]? = some (8 + x.s.size) := fun i x hx => by unfold lfSz; rw [List.getElem?_map, hx]; rfl
 have HAT := Lib.hid hat
 obtain ⟨sz, hsz⟩ : ∃ sz, lfSz l = sz := ⟨_, rfl⟩
 rw [hsz] at HL HAT ⊢
 clear hl hzl hb hs hr hat hsz
 obtain ⟨S, hS⟩ : ∃ S, sz.sum = S := ⟨_, rfl⟩
 have hSb : S ≤ 9012000 := by rw [← hS]; have := HL.out.2.2; have h2 : n * 9012 ≤ 1000 * 9012 := Nat.mul_le_mul_right _ hn; omega
 have HSS := Lib.hid hS
 clear hS
 have hcI : (c : Int) ≤ 9223372036854775807 := by unfold maxLen at hcm; omega
 go_enter Tryz.func95, Tryz.ntmps95
 go_wp2_with fail
 go_loopw [7, 19] (fun v7 v19 wr => ∃ i : Nat, v19 = .int .i64 (i : Int) ∧ i ≤ n ∧ v7 = .int .i64 (((sz.take i).sum : Nat) : Int) ∧ Below w.heap.size w wr) (fun _ v19 _ => n - (intOf v19).toNat)
 case atStart => exact ⟨0, rfl, Nat.zero_le _, by simp, Below.refl _ _⟩
 case round =>
  obtain ⟨i, rfl, hin, rfl, hb⟩ := hrel
  have i0 : (0 : Int) ≤ (i : Int) := by omega
  by_cases hlt : i < n
  · have i1 : (i : Int) < (n : Int) := by omega
    obtain ⟨x, hx⟩ : ∃ x, l[i]? = some x := ⟨_, List.getElem?_eq_getElem (by rw [HL.out.1]; exact hlt)⟩
    have hns := Lib.hid (sum_next (HAT.out i x hx))
    obtain ⟨ad, rfl, hab, _, HXX⟩ := ent_of (w := w) HR.out hx
    obtain ⟨u0, u1, u2⟩ := HXX wr hb
    have HX := Lib.hid (HS.out x (List.mem_of_getElem? hx))
    have hbnd := (take_le sz i)
    obtain ⟨s1, hs1⟩ : ∃ q, (sz.take i).sum = q := ⟨_, rfl⟩
    rw [hs1] at hns hbnd ⊢
    rw [HSS.out] at hbnd
    have hbnd2 := take_le sz (i + 1)
    rw [hns.out, HSS.out] at hbnd2
    obtain ⟨s2, hs2⟩ : ∃ q, (sz.take (i + 1)).sum = q := ⟨_, rfl⟩
    rw [hs2] at hns
    have Hs2 := Lib.hid hs2
    have HB := Lib.hid (ball hb (.cells #[.string x.s, .int .u32 x.p, .int .u16 x.q] 37))
    clear hs1 hs2 hx HXX hb
    obtain ⟨xs, xp, xq⟩ := x
    unfold En.agg at HX
    simp only at u0 u1 u2 HX HB hns hbnd2
    have s0 : (0 : Int) ≤ (s1 : Int) := by omega
    have sb : (s1 : Int) ≤ 9012000 := by omega
    have x0 : (0 : Int) ≤ (xs.size : Int) := by omega
    have xb : (xs.size : Int) ≤ 9012000 := by omega
    go_wp2_with fail
    refine (HX.out _).mono ?_
    rintro e w1 ⟨rfl, hb1⟩
    have hb2 := Lib.hid (bto0 HB.out hb1)
    clear hb1
    go_wp2_with fail
    go_roundw
    case rel => exact ⟨i + 1, by go_num, by omega, by rw [Hs2.out, hns.out]; go_num, hb2.out⟩
    case measure => simp [intOf]; omega
  · have hin' : i = n := by omega
    have hfull : (sz.take i).sum = S := by rw [List.take_of_length_le (by rw [HL.out.2.1]; omega)]; exact HSS.out
    rw [hfull]
    have HB0 := Lib.hid hb
    have i1 : (n : Int) ≤ (i : Int) := by omega
    have S0 : (0 : Int) ≤ (S : Int) := by omega
    have Sb : (S : Int) ≤ 9012000 := by omega
    have nI : (n : Int) ≤ 1000 := by omega
    have n0 : (0 : Int) ≤ (n : Int) := by omega
    obtain ⟨N, hN⟩ : ∃ N : Nat, n - 0 = N := ⟨_, rfl⟩
    have hNI : (n : Int) - 0 = (N : Int) := by omega
    have hNn : N ≤ n := by omega
    have HN := Lib.hid (And.intro hN hNn)
    clear hb hfull hin hN hNn hin'
    have hdn : decide (i < n) = false := decide_eq_false hlt
    have hdI : decide ((i : Int) < (n : Int)) = false := decide_eq_false (by omega)
    go_wp2_with fail
    clear hdn hdI
    go_loopw [10, 11, 12, 35] (fun v10 v11 v12 v35 wr2 => ∃ i : Nat, v35 = .int .i64 (i : Int) ∧ i ≤ N ∧ v10 = .int .i64 (((sz.take i).sum : Nat) : Int) ∧ v11 = .int .i64 (((cutF 0 sz i).1 : Nat) : Int) ∧ v12 = .int .i64 (((cutF 0 sz i).2 : Nat) : Int) ∧ Below w.heap.size w wr2) (fun _ _ _ v35 _ => N - (intOf v35).toNat)
    case atStart => exact ⟨0, rfl, Nat.zero_le _, by simp, by simp [cutF], by simp [cutF, HSS.out], HB0.out⟩
    case round =>
     obtain ⟨i, rfl, hiN, rfl, rfl, rfl, hb⟩ := hrel
     have i0 : (0 : Int) ≤ (i : Int) := by omega
     have hFF := cutF_ok 0 sz i
     have hcF : Hid (cutF 0 sz (i + 1) = if 0 < i ∧ cutV 0 sz i < (cutF 0 sz i).2 then (i, cutV 0 sz i) else cutF 0 sz i) := Lib.hid rfl
     have hm1 : (cutF 0 sz i).2 ≤ S + 1 := by
      rcases hFF.1 with ⟨_, h⟩ | ⟨_, _, h⟩
      · rw [h, HSS.out]; exact Nat.le_refl _
      · rw [h]; have := cutV_le 0 sz (cutF 0 sz i).1; rw [HSS.out] at this; omega
     by_cases hlt : i < N
     · have i1 : (i : Int) < (N : Int) := by omega
       have hin : i < n := by have := HN.out; omega
       have iI : (i : Int) < (n : Int) := by omega
       obtain ⟨x, hx⟩ : ∃ x, l[i]? = some x := ⟨_, List.getElem?_eq_getElem (by rw [HL.out.1]; exact hin)⟩
       have hns := sum_next (HAT.out i x hx)
       obtain ⟨ad, hAd, hab, _, HXX⟩ := ent_of (w := w) HR.out hx
       have HXX := Lib.hid HXX
       have HX := Lib.hid (HS.out x (List.mem_of_getElem? hx))
       have ha := take_le sz i
       have ha2 := take_le sz (i + 1)
       rw [HSS.out] at ha ha2
       have hdr : ((sz.drop i).take 0).sum = 0 := by simp
       have hcV : cutV 0 sz i = max (sz.take i).sum (S - (sz.take i).sum - 0) := by unfold cutV; rw [hdr, HSS.out]
       rw [hns] at ha2
       obtain ⟨a, haa⟩ : ∃ q, (sz.take i).sum = q := ⟨_, rfl⟩
       obtain ⟨a2, haa2⟩ : ∃ q, (sz.take (i + 1)).sum = q := ⟨_, rfl⟩
       rw [haa2] at hns
       rw [haa] at ha ha2 hns hcV ⊢
       obtain ⟨F1, hF1⟩ : ∃ q, (cutF 0 sz i).1 = q := ⟨_, rfl⟩
       obtain ⟨F2, hF2⟩ : ∃ q, (cutF 0 sz i).2 = q := ⟨_, rfl⟩
       have hFp : cutF 0 sz i = (F1, F2) := by rw [← hF1, ← hF2]
       obtain ⟨V, hV⟩ : ∃ q, cutV 0 sz i = q := ⟨_, rfl⟩
       have hF1b : F1 ≤ n := by
        rcases hFF.1 with ⟨h, _⟩ | ⟨_, h, _⟩
        · rw [← hF1, h]; exact Nat.zero_le _
        · rw [← hF1]; omega
       have hcG : cutF 0 sz (i + 1) = if 0 < i ∧ V < F2 then (i, V) else (F1, F2) := by rw [hcF.out, hV, hF2, hFp]
       rw [hF1, hF2]
       rw [hF2] at hm1
       rw [hV] at hcV
       obtain ⟨r0, hr0⟩ : ∃ q, S - a = q := ⟨_, rfl⟩
       rw [hr0] at hcV
       have hr0I : (S : Int) - (a : Int) = (r0 : Int) := by omega
       have HH := Lib.hid (And.intro hcG (And.intro haa2 (And.intro hns (And.intro hcV (And.intro hb (And.intro hin ha))))))
       have a0 : (0 : Int) ≤ (a : Int) := by omega
       have ab : (a : Int) ≤ 9012000 := by omega
       have xb0 : (x.s.size : Int) ≤ 9012000 := by omega
       have F2b : (F2 : Int) ≤ 9012001 := by omega
       have r0b : (r0 : Int) ≤ 9012000 := by omega
       have r00 : (0 : Int) ≤ (r0 : Int) := by omega
       have Hr0 := Lib.hid hr0
       have HAX := Lib.hid (show a + (8 + x.s.size) ≤ S from ha2)
       have c2 : (i : Int) + 1 ≤ (c : Int) := by omega
       have w2 : IntKind.i64.wrap ((i : Int) + 1) = (i : Int) + 1 := IntWalk.i64_in _ (by omega)
       have i11 : (0 : Int) ≤ (i : Int) + 1 := by omega
       have hci : ¬ c = i := by omega
       have hcIi : (i : Int) ≤ (c : Int) := by omega
       clear hcF hFF hm1 hF1 hF2 hFp hV hcG haa haa2 hns hcV hb hr0 ha ha2 hdr hF1b hin hlt hx
       subst hAd
       go_wp2_with fail
       go_loopw [14, 48] (fun v14 v48 wr3 => ∃ j : Nat, v48 = .int .i64 (j : Int) ∧ j ≤ 0 ∧ v14 = .int .i64 (((r0 - (if j = 0 then 0 else 0) : Nat)) : Int) ∧ Below w.heap.size w wr3) (fun _ v48 _ => 0 - (intOf v48).toNat)
       case atStart => exact ⟨0, rfl, Nat.zero_le _, by simp, HH.out.2.2.2.2.1⟩
       case round =>
        obtain ⟨j, rfl, hj, rfl, hb3⟩ := hrel
        have HB3 := Lib.hid hb3
        obtain ⟨u0, u1, u2⟩ := HXX.out _ hb3
        have hjW : j = 0 := by omega
        subst hjW
        obtain ⟨r, hr⟩ : ∃ q, r0 - (if (0 : Nat) = 0 then 0 else 0) = q := ⟨_, rfl⟩
        rw [hr]
        have hVr : V = max a r := by rw [HH.out.2.2.2.1, ← hr]; rfl
        have rI0 : (0 : Int) ≤ (r : Int) := by omega
        have rIb : (r : Int) ≤ 9012000 := by omega
        have HVr := Lib.hid hVr
        have HXS : Hid (x.s.size ≤ 9012000) := Lib.hid (by omega)
        clear hb3 hj hr hVr
        obtain ⟨xs, xp, xq⟩ := x
        unfold En.agg at HX
        simp only at u0 u1 u2 HX HXS HH
        by_cases h0 : 0 < i
        · have h0I : (0 : Int) < (i : Int) := by omega
          by_cases hV : V < F2
          · have HCN : Hid (cutF 0 sz (i + 1) = (i, V)) := Lib.hid (by rw [HH.out.1, if_pos ⟨h0, hV⟩])
            have hVI : max (a : Int) (r : Int) < (F2 : Int) := by have := HVr.out; omega
            have eV : max (a : Int) (r : Int) = (V : Int) := by have := HVr.out; omega
            have hd : decide (max (a : Int) (r : Int) < (F2 : Int)) = true := decide_eq_true hVI
            clear hV
            go_wp2_with fail
            refine (HX.out _).mono ?_
            rintro e w5 ⟨rfl, hb5⟩
            have hb6 := Lib.hid (bto0 HB3.out hb5)
            clear hb5
            go_wp2_with fail
            go_roundw
            case rel => exact ⟨i + 1, by go_num, by omega, by rw [HH.out.2.1, HH.out.2.2.1]; go_num, by rw [HCN.out], by rw [HCN.out], hb6.out⟩
            case measure => simp [intOf]; omega
          · have HCN : Hid (cutF 0 sz (i + 1) = (F1, F2)) := Lib.hid (by rw [HH.out.1, if_neg (fun h => hV h.2)])
            have hVI : (F2 : Int) ≤ max (a : Int) (r : Int) := by have := HVr.out; omega
            have eV : max (a : Int) (r : Int) = (V : Int) := by have := HVr.out; omega
            have hVI2 : (F2 : Int) ≤ (V : Int) := by omega
            have hVN : F2 ≤ V := by omega
            clear hV
            go_wp2_with fail
            refine (HX.out _).mono ?_
            rintro e w5 ⟨rfl, hb5⟩
            have hb6 := Lib.hid (bto0 HB3.out hb5)
            clear hb5
            go_wp2_with fail
            go_roundw
            case rel => exact ⟨i + 1, by go_num, by omega, by rw [HH.out.2.1, HH.out.2.2.1]; go_num, by rw [HCN.out], by rw [HCN.out], hb6.out⟩
            case measure => simp [intOf]; omega
        · have HCN : Hid (cutF 0 sz (i + 1) = (F1, F2)) := Lib.hid (by rw [HH.out.1, if_neg (fun h => h0 h.1)])
          have h0I : (i : Int) ≤ 0 := by omega
          have h0J : decide ((0 : Int) < (i : Int)) = false := decide_eq_false (by omega)
          go_wp2_with fail
          refine (HX.out _).mono ?_
          rintro e w5 ⟨rfl, hb5⟩
          have hb6 := Lib.hid (bto0 HB3.out hb5)
          clear hb5
          go_wp2_with fail
          go_roundw
          case rel => exact ⟨i + 1, by go_num, by omega, by rw [HH.out.2.1, HH.out.2.2.1]; go_num, by rw [HCN.out], by rw [HCN.out], hb6.out⟩
          case measure => simp [intOf]; omega
     · have hiE : i = N := by omega
       have hN1 := HN.out.1
       have i1 : (N : Int) ≤ (i : Int) := by omega
       have HF := Lib.hid (show (cutF 0 sz i).1 = cutP 0 sz by unfold cutP; rw [HL.out.2.1, hiE, ← hN1])
       have HB := Lib.hid hb
       obtain ⟨F1, hF1⟩ : ∃ q, (cutF 0 sz i).1 = q := ⟨_, rfl⟩
       rw [hF1] at HF ⊢
       clear hb hiE hN1 hF1 hcF hFF hm1
       go_wp2_with fail
       go_ret
       first | exact ⟨rfl, HB.out⟩ | exact ⟨by rw [HF.out]; rfl, HB.out⟩
end
end Go.Proofs.YtebobcbaloddaaaGreat
namespace Go.Proofs.YtebobcbaloddaaaGreat
section
set_option linter.unusedSimpArgs false
set_option linter.unusedVariables false
open Go.RowKit Go.Maps
set_option maxRecDepth 100000 in
set_option maxHeartbeats 8000000 in
theorem cutI_any (A : Option Addr) (n c : Nat) (l : List En) (w : World) (hr : Reads w w.heap.size 3 A n (vE l)) (hn : n ≤ 1000) (hnc : n ≤ c) (hcm : c ≤ maxLen) (hwn : 1 ≤ n) (hs : ∀ x ∈ l, x.s.size ≤ 9000) :
 Calls Tryz.prog 95 #[.slice A n c, .int .i64 1, .func (.func 87) #[] #[]] w (RetB w (.int .i64 (cutP 1 (inSz l) : Nat))) := by
 have hl : l.length = n := by have := hr.1; rw [vE_len] at this; omega
 have hzl : (inSz l).length = n := by unfold inSz; rw [List.length_map, hl]
 have hb : (inSz l).sum ≤ n * 9012 := by
  rw [← hzl]
  refine sum_len fun x hx => ?_
  unfold inSz at hx
  obtain ⟨e, he, rfl⟩ := List.mem_map.1 hx
  have := hs e he
  omega
 have HS := Lib.hid fun (x : En) (hx : x ∈ l) (W : World) => sepSize_any x (hs x hx) W
 have HR := Lib.hid hr
 have HL := Lib.hid (And.intro hl (And.intro hzl hb))
 have hat : ∀ (i : Nat) (x : En), l[i]? = some x → (inSz l)[i]? = some (12 + x.s.size) := fun i x hx => by unfold inSz; rw [List.getElem?_map, hx]; rfl
 have HAT := Lib.hid hat
 obtain ⟨sz, hsz⟩ : ∃ sz, inSz l = sz := ⟨_, rfl⟩
 rw [hsz] at HL HAT ⊢
 clear hl hzl hb hs hr hat hsz
 obtain ⟨S, hS⟩ : ∃ S, sz.sum = S := ⟨_, rfl⟩
 have hSb : S ≤ 9012000 := by rw [← hS]; have := HL.out.2.2; have h2 : n * 9012 ≤ 1000 * 9012 := Nat.mul_le_mul_right _ hn; omega
 have HSS := Lib.hid hS
 clear hS
 have hcI : (c : Int) ≤ 9223372036854775807 := by unfold maxLen at hcm; omega
 go_enter Tryz.func95, Tryz.ntmps95
 go_wp2_with fail
 go_loopw [7, 19] (fun v7 v19 wr => ∃ i : Nat, v19 = .int .i64 (i : Int) ∧ i ≤ n ∧ v7 = .int .i64 (((sz.take i).sum : Nat) : Int) ∧ Below w.heap.size w wr) (fun _ v19 _ => n - (intOf v19).toNat)
 case atStart => exact ⟨0, rfl, Nat.zero_le _, by simp, Below.refl _ _⟩
 case round =>
  obtain ⟨i, rfl, hin, rfl, hb⟩ := hrel
  have i0 : (0 : Int) ≤ (i : Int) := by omega
  by_cases hlt : i < n
  · have i1 : (i : Int) < (n : Int) := by omega
    obtain ⟨x, hx⟩ : ∃ x, l[i]? = some x := ⟨_, List.getElem?_eq_getElem (by rw [HL.out.1]; exact hlt)⟩
    have hns := Lib.hid (sum_next (HAT.out i x hx))
    obtain ⟨ad, rfl, hab, _, HXX⟩ := ent_of (w := w) HR.out hx
    obtain ⟨u0, u1, u2⟩ := HXX wr hb
    have HX := Lib.hid (HS.out x (List.mem_of_getElem? hx))
    have hbnd := (take_le sz i)
    obtain ⟨s1, hs1⟩ : ∃ q, (sz.take i).sum = q := ⟨_, rfl⟩
    rw [hs1] at hns hbnd ⊢
    rw [HSS.out] at hbnd
    have hbnd2 := take_le sz (i + 1)
    rw [hns.out, HSS.out] at hbnd2
    obtain ⟨s2, hs2⟩ : ∃ q, (sz.take (i + 1)).sum = q := ⟨_, rfl⟩
    rw [hs2] at hns
    have Hs2 := Lib.hid hs2
    have HB := Lib.hid (ball hb (.cells #[.string x.s, .int .u32 x.p, .int .u16 x.q] 37))
    clear hs1 hs2 hx HXX hb
    obtain ⟨xs, xp, xq⟩ := x
    unfold En.agg at HX
    simp only at u0 u1 u2 HX HB hns hbnd2
    have s0 : (0 : Int) ≤ (s1 : Int) := by omega
    have sb : (s1 : Int) ≤ 9012000 := by omega
    have x0 : (0 : Int) ≤ (xs.size : Int) := by omega
    have xb : (xs.size : Int) ≤ 9012000 := by omega
    go_wp2_with fail
    refine (HX.out _).mono ?_
    rintro e w1 ⟨rfl, hb1⟩
    have hb2 := Lib.hid (bto0 HB.out hb1)
    clear hb1
    go_wp2_with fail
    go_roundw
    case rel => exact ⟨i + 1, by go_num, by omega, by rw [Hs2.out, hns.out]; go_num, hb2.out⟩
    case measure => simp [intOf]; omega
  · have hin' : i = n := by omega
    have hfull : (sz.take i).sum = S := by rw [List.take_of_length_le (by rw [HL.out.2.1]; omega)]; exact HSS.out
    rw [hfull]
    have HB0 := Lib.hid hb
    have i1 : (n : Int) ≤ (i : Int) := by omega
    have S0 : (0 : Int) ≤ (S : Int) := by omega
    have Sb : (S : Int) ≤ 9012000 := by omega
    have nI : (n : Int) ≤ 1000 := by omega
    have n0 : (0 : Int) ≤ (n : Int) := by omega
    obtain ⟨N, hN⟩ : ∃ N : Nat, n - 1 = N := ⟨_, rfl⟩
    have hNI : (n : Int) - 1 = (N : Int) := by omega
    have hNn : N ≤ n := by omega
    have HN := Lib.hid (And.intro hN hNn)
    clear hb hfull hin hN hNn hin'
    have hdn : decide (i < n) = false := decide_eq_false hlt
    have hdI : decide ((i : Int) < (n : Int)) = false := decide_eq_false (by omega)
    go_wp2_with fail
    clear hdn hdI
    go_loopw [10, 11, 12, 35] (fun v10 v11 v12 v35 wr2 => ∃ i : Nat, v35 = .int .i64 (i : Int) ∧ i ≤ N ∧ v10 = .int .i64 (((sz.take i).sum : Nat) : Int) ∧ v11 = .int .i64 (((cutF 1 sz i).1 : Nat) : Int) ∧ v12 = .int .i64 (((cutF 1 sz i).2 : Nat) : Int) ∧ Below w.heap.size w wr2) (fun _ _ _ v35 _ => N - (intOf v35).toNat)
    case atStart => exact ⟨0, rfl, Nat.zero_le _, by simp, by simp [cutF], by simp [cutF, HSS.out], HB0.out⟩
    case round =>
     obtain ⟨i, rfl, hiN, rfl, rfl, rfl, hb⟩ := hrel
     have i0 : (0 : Int) ≤ (i : Int) := by omega
     have hFF := cutF_ok 1 sz i
     have hcF : Hid (cutF 1 sz (i + 1) = if 0 < i ∧ cutV 1 sz i < (cutF 1 sz i).2 then (i, cutV 1 sz i) else cutF 1 sz i) := Lib.hid rfl
     have hm1 : (cutF 1 sz i).2 ≤ S + 1 := by
      rcases hFF.1 with ⟨_, h⟩ | ⟨_, _, h⟩
      · rw [h, HSS.out]; exact Nat.le_refl _
      · rw [h]; have := cutV_le 1 sz (cutF 1 sz i).1; rw [HSS.out] at this; omega
     by_cases hlt : i < N
     · have i1 : (i : Int) < (N : Int) := by omega
       have hin : i < n := by have := HN.out; omega
       have iI : (i : Int) < (n : Int) := by omega
       obtain ⟨x, hx⟩ : ∃ x, l[i]? = some x := ⟨_, List.getElem?_eq_getElem (by rw [HL.out.1]; exact hin)⟩
       have hns := sum_next (HAT.out i x hx)
       obtain ⟨ad, hAd, hab, _, HXX⟩ := ent_of (w := w) HR.out hx
       have HXX := Lib.hid HXX
       have HX := Lib.hid (HS.out x (List.mem_of_getElem? hx))
       have ha := take_le sz i
       have ha2 := take_le sz (i + 1)
       rw [HSS.out] at ha ha2
       have hdr : ((sz.drop i).take 1).sum = (12 + x.s.size) := by rw [List.drop_eq_getElem_cons (by rw [HL.out.2.1]; exact hin)]; have h9 := HAT.out i x hx; rw [List.getElem?_eq_getElem (by rw [HL.out.2.1]; exact hin)] at h9; injection h9 with h9; all_goals simp [h9]
       have hcV : cutV 1 sz i = max (sz.take i).sum (S - (sz.take i).sum - (12 + x.s.size)) := by unfold cutV; rw [hdr, HSS.out]
       rw [hns] at ha2
       obtain ⟨a, haa⟩ : ∃ q, (sz.take i).sum = q := ⟨_, rfl⟩
       obtain ⟨a2, haa2⟩ : ∃ q, (sz.take (i + 1)).sum = q := ⟨_, rfl⟩
       rw [haa2] at hns
       rw [haa] at ha ha2 hns hcV ⊢
       obtain ⟨F1, hF1⟩ : ∃ q, (cutF 1 sz i).1 = q := ⟨_, rfl⟩
       obtain ⟨F2, hF2⟩ : ∃ q, (cutF 1 sz i).2 = q := ⟨_, rfl⟩
       have hFp : cutF 1 sz i = (F1, F2) := by rw [← hF1, ← hF2]
       obtain ⟨V, hV⟩ : ∃ q, cutV 1 sz i = q := ⟨_, rfl⟩
       have hF1b : F1 ≤ n := by
        rcases hFF.1 with ⟨h, _⟩ | ⟨_, h, _⟩
        · rw [← hF1, h]; exact Nat.zero_le _
        · rw [← hF1]; omega
       have hcG : cutF 1 sz (i + 1) = if 0 < i ∧ V < F2 then (i, V) else (F1, F2) := by rw [hcF.out, hV, hF2, hFp]
       rw [hF1, hF2]
       rw [hF2] at hm1
       rw [hV] at hcV
       obtain ⟨r0, hr0⟩ : ∃ q, S - a = q := ⟨_, rfl⟩
       rw [hr0] at hcV
       have hr0I : (S : Int) - (a : Int) = (r0 : Int) := by omega
       have HH := Lib.hid (And.intro hcG (And.intro haa2 (And.intro hns (And.intro hcV (And.intro hb (And.intro hin ha))))))
       have a0 : (0 : Int) ≤ (a : Int) := by omega
       have ab : (a : Int) ≤ 9012000 := by omega
       have xb0 : (x.s.size : Int) ≤ 9012000 := by omega
       have F2b : (F2 : Int) ≤ 9012001 := by omega
       have r0b : (r0 : Int) ≤ 9012000 := by omega
       have r00 : (0 : Int) ≤ (r0 : Int) := by omega
       have Hr0 := Lib.hid hr0
       have HAX := Lib.hid (show a + (12 + x.s.size) ≤ S from ha2)
       have c2 : (i : Int) + 1 ≤ (c : Int) := by omega
       have w2 : IntKind.i64.wrap ((i : Int) + 1) = (i : Int) + 1 := IntWalk.i64_in _ (by omega)
       have i11 : (0 : Int) ≤ (i : Int) + 1 := by omega
       have hci : ¬ c = i := by omega
       have hcIi : (i : Int) ≤ (c : Int) := by omega
       clear hcF hFF hm1 hF1 hF2 hFp hV hcG haa haa2 hns hcV hb hr0 ha ha2 hdr hF1b hin hlt hx
       subst hAd
       go_wp2_with fail
       go_loopw [14, 48] (fun v14 v48 wr3 => ∃ j : Nat, v48 = .int .i64 (j : Int) ∧ j ≤ 1 ∧ v14 = .int .i64 (((r0 - (if j = 0 then 0 else (12 + x.s.size)) : Nat)) : Int) ∧ Below w.heap.size w wr3) (fun _ v48 _ => 1 - (intOf v48).toNat)
       case atStart => exact ⟨0, rfl, Nat.zero_le _, by simp, HH.out.2.2.2.2.1⟩
       case round =>
        obtain ⟨j, rfl, hj, rfl, hb3⟩ := hrel
        by_cases hj1 : j < 1
        · have hj0 : j = 0 := by omega
          subst hj0
          obtain ⟨u0, u1, u2⟩ := HXX.out _ hb3
          have HB3 := Lib.hid (ball hb3 (.cells #[.string x.s, .int .u32 x.p, .int .u16 x.q] 37))
          have hsz0 : r0 - (if (0 : Nat) = 0 then 0 else (12 + x.s.size)) = r0 := by simp
          rw [hsz0]
          obtain ⟨r, hr⟩ : ∃ q, r0 - (12 + x.s.size) = q := ⟨_, rfl⟩
          have hrI : (r0 : Int) - ((x.s.size : Int) + 12) = (r : Int) := by have := Hr0.out; have := HAX.out; omega
          have Hr := Lib.hid hr
          clear hb3 hsz0 hr hj hj1
          obtain ⟨xs, xp, xq⟩ := x
          unfold En.agg at HX
          simp only at u0 u1 u2 HX HB3 hrI Hr xb0
          go_wp2_with fail
          refine (HX.out _).mono ?_
          rintro e w4 ⟨rfl, hb4⟩
          have hb5 := Lib.hid (bto0 HB3.out hb4)
          clear hb4
          go_wp2_with fail
          go_roundw
          case rel => exact ⟨1, by go_num, Nat.le_refl _, by rw [← Hr.out]; rfl, hb5.out⟩
          case measure => simp [intOf]
        have HB3 := Lib.hid hb3
        obtain ⟨u0, u1, u2⟩ := HXX.out _ hb3
        have hjW : j = 1 := by omega
        subst hjW
        obtain ⟨r, hr⟩ : ∃ q, r0 - (if (1 : Nat) = 0 then 0 else (12 + x.s.size)) = q := ⟨_, rfl⟩
        rw [hr]
        have hVr : V = max a r := by rw [HH.out.2.2.2.1, ← hr]; rfl
        have rI0 : (0 : Int) ≤ (r : Int) := by omega
        have rIb : (r : Int) ≤ 9012000 := by omega
        have HVr := Lib.hid hVr
        have HXS : Hid (x.s.size ≤ 9012000) := Lib.hid (by omega)
        clear hb3 hj hr hVr
        obtain ⟨xs, xp, xq⟩ := x
        unfold En.agg at HX
        simp only at u0 u1 u2 HX HXS HH
        by_cases h0 : 0 < i
        · have h0I : (0 : Int) < (i : Int) := by omega
          by_cases hV : V < F2
          · have HCN : Hid (cutF 1 sz (i + 1) = (i, V)) := Lib.hid (by rw [HH.out.1, if_pos ⟨h0, hV⟩])
            have hVI : max (a : Int) (r : Int) < (F2 : Int) := by have := HVr.out; omega
            have eV : max (a : Int) (r : Int) = (V : Int) := by have := HVr.out; omega
            have hd : decide (max (a : Int) (r : Int) < (F2 : Int)) = true := decide_eq_true hVI
            clear hV
            go_wp2_with fail
            refine (HX.out _).mono ?_
            rintro e w5 ⟨rfl, hb5⟩
            have hb6 := Lib.hid (bto0 HB3.out hb5)
            clear hb5
            go_wp2_with fail
            go_roundw
            case rel => exact ⟨i + 1, by go_num, by omega, by rw [HH.out.2.1, HH.out.2.2.1]; go_num, by rw [HCN.out], by rw [HCN.out], hb6.out⟩
            case measure => simp [intOf]; omega
          · have HCN : Hid (cutF 1 sz (i + 1) = (F1, F2)) := Lib.hid (by rw [HH.out.1, if_neg (fun h => hV h.2)])
            have hVI : (F2 : Int) ≤ max (a : Int) (r : Int) := by have := HVr.out; omega
            have eV : max (a : Int) (r : Int) = (V : Int) := by have := HVr.out; omega
            have hVI2 : (F2 : Int) ≤ (V : Int) := by omega
            have hVN : F2 ≤ V := by omega
            clear hV
            go_wp2_with fail
            refine (HX.out _).mono ?_
            rintro e w5 ⟨rfl, hb5⟩
            have hb6 := Lib.hid (bto0 HB3.out hb5)
            clear hb5
            go_wp2_with fail
            go_roundw
            case rel => exact ⟨i + 1, by go_num, by omega, by rw [HH.out.2.1, HH.out.2.2.1]; go_num, by rw [HCN.out], by rw [HCN.out], hb6.out⟩
            case measure => simp [intOf]; omega
        · have HCN : Hid (cutF 1 sz (i + 1) = (F1, F2)) := Lib.hid (by rw [HH.out.1, if_neg (fun h => h0 h.1)])
          have h0I : (i : Int) ≤ 0 := by omega
          have h0J : decide ((0 : Int) < (i : Int)) = false := decide_eq_false (by omega)
          go_wp2_with fail
          refine (HX.out _).mono ?_
          rintro e w5 ⟨rfl, hb5⟩
          have hb6 := Lib.hid (bto0 HB3.out hb5)
          clear hb5
          go_wp2_with fail
          go_roundw
          case rel => exact ⟨i + 1, by go_num, by omega, by rw [HH.out.2.1, HH.out.2.2.1]; go_num, by rw [HCN.out], by rw [HCN.out], hb6.out⟩
          case measure => simp [intOf]; omega
     · have hiE : i = N := by omega
       have hN1 := HN.out.1
       have i1 : (N : Int) ≤ (i : Int) := by omega
       have HF := Lib.hid (show (cutF 1 sz i).1 = cutP 1 sz by unfold cutP; rw [HL.out.2.1, hiE, ← hN1])
       have HB := Lib.hid hb
       obtain ⟨F1, hF1⟩ : ∃ q, (cutF 1 sz i).1 = q := ⟨_, rfl⟩
       rw [hF1] at HF ⊢
       clear hb hiE hN1 hF1 hcF hFF hm1
       go_wp2_with fail
       go_ret
       first | exact ⟨rfl, HB.out⟩ | exact ⟨by rw [HF.out]; rfl, HB.out⟩
end
end Go.Proofs.YtebobcbaloddaaaGreat
namespace Go.Proofs.YtebobcbaloddaaaGreat
section
set_option linter.unusedSimpArgs false
set_option linter.unusedVariables false
open Go.RowKit Go.Maps
def fitP (lf : Bool) (l : List En) : Bool := if lf then decide (sumE l ≤ 504) else decide (sumE l + 4 * l.length ≤ 500)
theorem fits_any {w : World} {b o n c : Nat} {lf : Bool} {A : Option Addr} {l : List En} (h0 : w.cell? ⟨b, o, none⟩ = some (.bool lf)) (h3 : w.cell? ⟨b, o + 3, none⟩ = some (.slice A n c)) (hr : Reads w w.heap.size 3 A n (vE l)) (hs : sumE l ≤ 72000) :
 Calls Tryz.prog 64 #[.pointer (some ⟨b, o, none⟩)] w (RetB w (.bool (fitP lf l))) := by
 have hl : l.length = n := by have := hr.1; rw [vE_len] at this; omega
 have LS := Lib.hid (leafSize_any A n c l w hr hs)
 have IS := Lib.hid (innerSize_any A n c l w hr hs)
 obtain ⟨S, hS⟩ : ∃ S, sumE l = S := ⟨_, rfl⟩
 have HF : Hid (fitP lf l = if lf then decide (S ≤ 504) else decide (S + 4 * n ≤ 500)) := Lib.hid (by unfold fitP; rw [hS, hl])
 rw [hS] at LS IS
 clear hr hs hS hl
 obtain ⟨R, hR⟩ : ∃ R, fitP lf l = R := ⟨_, rfl⟩
 rw [hR] at HF ⊢
 clear hR
 go_enter Tryz.func64, Tryz.ntmps64
 cases lf
 · go_wp2_with fail
   refine IS.out.mono ?_
   rintro e w1 ⟨rfl, hb1⟩
   go_wp2
   go_ret
   refine ⟨ret_bool ?_, hb1⟩
   rw [HF.out]
   by_cases h : S + 4 * n ≤ 500
   · simp [h]; omega
   · simp [h]; omega
 · go_wp2_with fail
   refine LS.out.mono ?_
   rintro e w1 ⟨rfl, hb1⟩
   go_wp2
   go_ret
   refine ⟨ret_bool ?_, hb1⟩
   rw [HF.out]
   by_cases h : S ≤ 504
   · simp [h]; omega
   · simp [h]; omega
end
end Go.Proofs.YtebobcbaloddaaaGreat
namespace Go.Proofs.YtebobcbaloddaaaGreat
section
set_option linter.unusedSimpArgs false
set_option linter.unusedVariables false
open Go.RowKit Go.Maps
theorem sp_end {W : World} {R : Nat} {tm : Array Value} {Q : Ending → World → Prop} {x0 x1 x2 a b c d : Value} (hX : Blk W R 37 #[x0, x1, x2]) (hR : Blk W (R + 1) 75 #[a, b, c, d])
 (h4 : tm[2]? = some (.pointer (some ⟨R, 0, none⟩))) (h5 : tm[3]? = some (.pointer (some ⟨R + 1, 0, none⟩))) (h : Q (.returned (.tuple #[.agg #[x0, x1, x2], .agg #[a, b, c, d]])) W) :
 bodyPost Tryz.prog Tryz.f66 Q Exit.ret { tmps := tm, defers := [] } W := by
 have p0 : W.cell? ⟨R, 0, none⟩ = _ := hX.cell 0
 have p1 : W.cell? ⟨R, 1, none⟩ = _ := hX.cell 1
 have p2 : W.cell? ⟨R, 2, none⟩ = _ := hX.cell 2
 have q0 : W.cell? ⟨R + 1, 0, none⟩ = _ := hR.cell 0
 have q1 : W.cell? ⟨R + 1, 1, none⟩ = _ := hR.cell 1
 have q2 : W.cell? ⟨R + 1, 2, none⟩ = _ := hR.cell 2
 have q3 : W.cell? ⟨R + 1, 3, none⟩ = _ := hR.cell 3
 exact bodyPost_ret (v := .tuple #[.agg #[x0, x1, x2], .agg #[a, b, c, d]]) (by simp [results, Tryz.results66, go_sem, h4, h5, p0, p1, p2, q0, q1, q2, q3]) rfl h
theorem set3e {W : World} {R : Nat} {t : TypeId} {a b c a' b' c' : Value} (h : Blk W R t #[a, b, c]) : Blk (((W.setCell ⟨R, 0, none⟩ a').setCell ⟨R, 1, none⟩ b').setCell ⟨R, 2, none⟩ c') R t #[a', b', c'] := by
 have := ((h.set_ 0 a').set_ 1 b').set_ 2 c'
 simpa using this
theorem far3 {W : World} {R g : Nat} {t : TypeId} {cs : Array Value} {a b c : Value} (h : Blk W g t cs) (hg : R ≠ g) : Blk (((W.setCell ⟨R, 0, none⟩ a).setCell ⟨R, 1, none⟩ b).setCell ⟨R, 2, none⟩ c) g t cs :=
 ((h.far (p := ⟨R, 0, none⟩) hg.symm _).far (p := ⟨R, 1, none⟩) hg.symm _).far (p := ⟨R, 2, none⟩) hg.symm _
theorem far4 {W : World} {R g : Nat} {t : TypeId} {cs : Array Value} {a b c d : Value} (h : Blk W g t cs) (hg : R ≠ g) : Blk ((((W.setCell ⟨R, 0, none⟩ a).setCell ⟨R, 1, none⟩ b).setCell ⟨R, 2, none⟩ c).setCell ⟨R, 3, none⟩ d) g t cs :=
 (((h.far (p := ⟨R, 0, none⟩) hg.symm _).far (p := ⟨R, 1, none⟩) hg.symm _).far (p := ⟨R, 2, none⟩) hg.symm _).far (p := ⟨R, 3, none⟩) hg.symm _
theorem EvT.drew {O : Nat → Prop} {w w' : World} (h : EvT O w w') : EvT O w w'.drew := h.trans (O' := O) (EvT.of_below (Below.drew (Below.refl _ _))) fun _ e => .inl e
theorem EvT.store {O : Nat → Prop} {w w' : World} (h : EvT O w w') {p : Addr} (hp : w.heap.size ≤ p.block ∨ O p.block) (u : Value) : EvT O w (w'.setCell p u) :=
 ⟨h.os, h.tape, h.output, by simpa [World.setCell] using h.size, fun k hk ho => (Below.heap_setCell _ _ _ _ fun e => hp.elim (by omega) fun h => ho (by rw [e]; exact h)).trans (h.block k hk ho)⟩
theorem EvT.set7 {O : Nat → Prop} {w W : World} (h : EvT O w W) (a b c d e f g : Value) : EvT O w (((((((W.setCell ⟨w.heap.size, 0, none⟩ a).setCell ⟨w.heap.size, 1, none⟩ b).setCell ⟨w.heap.size, 2, none⟩ c).setCell ⟨w.heap.size + 1, 0, none⟩ d).setCell ⟨w.heap.size + 1, 1, none⟩ e).setCell ⟨w.heap.size + 1, 2, none⟩ f).setCell ⟨w.heap.size + 1, 3, none⟩ g) :=
 ((((((h.store (p := ⟨w.heap.size, 0, none⟩) (.inl (Nat.le_refl _)) a).store (p := ⟨w.heap.size, 1, none⟩) (.inl (Nat.le_refl _)) b).store (p := ⟨w.heap.size, 2, none⟩) (.inl (Nat.le_refl _)) c).store (p := ⟨w.heap.size + 1, 0, none⟩) (.inl (Nat.le_succ _)) d).store (p := ⟨w.heap.size + 1, 1, none⟩) (.inl (Nat.le_succ _)) e).store (p := ⟨w.heap.size + 1, 2, none⟩) (.inl (Nat.le_succ _)) f).store (p := ⟨w.heap.size + 1, 3, none⟩) (.inl (Nat.le_succ _)) g
def RetSpL (w : World) (b o : Nat) (ty : TypeId) (cs : Array Value) (N : Nat) (A : Addr) (n c : Nat) (l : List En) (at_ : Nat) (e : Ending) (w' : World) : Prop :=
 ∃ x, l[at_]? = some x ∧ e = .returned (.tuple #[x.agg, .agg #[.bool true, .int .u32 (N : Int), .slice none 0 0, .slice (some (A.add (at_ * 3))) (n - at_) (c - at_)]]) ∧ Blk w' b ty (cs.setIfInBounds (o + 3) (.slice (some A) at_ c)) ∧ EvT (fun k => k = b) w w'
set_option maxRecDepth 100000 in
set_option maxHeartbeats 8000000 in
theorem splitL_any {w : World} {b o n c N : Nat} {ty : TypeId} {cs : Array Value} {A : Addr} {l : List En} (hB : Blk w b ty cs) (k0 : cs[o]? = some (.bool true)) (k1 : cs[o + 1]? = some (.int .u32 (N : Int))) (k3 : cs[o + 3]? = some (.slice (some A) n c))
 (hr : Reads w w.heap.size 3 (some A) n (vE l)) (hn : n ≤ 1000) (hnc : n ≤ c) (hcm : c ≤ maxLen) (hs : ∀ x ∈ l, x.s.size ≤ 9000) (hAb : A.block ≠ b) (h1 : 0 < cutP 0 (lfSz l)) (h2 : cutP 0 (lfSz l) < n) :
 Calls Tryz.prog 66 #[.pointer (some ⟨b, o, none⟩)] w (RetSpL w b o ty cs N A n c l (cutP 0 (lfSz l))) := by
 have hl : l.length = n := by have := hr.1; rw [vE_len] at this; omega
 have hbl : b < w.heap.size := hB.lt
 have CU := Lib.hid fun (W : World) (hb : Below w.heap.size w W) => cutL_any (some A) n c l W ((hr.below hb).more hb.size) hn hnc hcm (Nat.zero_le _) hs
 obtain ⟨i, hi⟩ : ∃ i, cutP 0 (lfSz l) = i := ⟨_, rfl⟩
 rw [hi] at CU h1 h2 ⊢
 obtain ⟨x, hx⟩ : ∃ x, l[i]? = some x := ⟨_, List.getElem?_eq_getElem (by rw [hl]; exact h2)⟩
 obtain ⟨ad, hAd, hab, _, HXX⟩ := ent_of (w := w) hr hx
 injection hAd with hAd
 subst hAd
 have hb0 := ball (ball (Below.refl w.heap.size w) (.cells #[.string ⟨#[]⟩, .int .u32 0, .int .u16 0] 37)) (.cells #[.bool false, .int .u32 0, .slice none 0 0, .slice none 0 0] 75)
 have X0 := (Blk.new w 37 #[.string ⟨#[]⟩, .int .u32 0, .int .u16 0]).alloc (.cells #[.bool false, .int .u32 0, .slice none 0 0, .slice none 0 0] 75)
 have X1 := Blk.new (w.alloc (.cells #[.string ⟨#[]⟩, .int .u32 0, .int .u16 0] 37)) 75 #[.bool false, .int .u32 0, .slice none 0 0, .slice none 0 0]
 rw [alloc_size] at X1
 have H0 := Lib.hid (And.intro hB (And.intro X0 (And.intro X1 hb0)))
 have HK := Lib.hid (And.intro k0 (And.intro k1 k3))
 have HX := Lib.hid HXX
 have Hx := Lib.hid hx
 clear hB X0 X1 hb0 k0 k1 k3 HXX hx hi hr hs
 obtain ⟨xs, xp, xq⟩ := x
 have i0 : (0 : Int) ≤ (i : Int) := by omega
 have i1 : (i : Int) ≤ (c : Int) := by omega
 have i2 : (i : Int) < (n : Int) := by omega
 have i3 : (i : Int) ≤ (n : Int) := by omega
 have i4 : (n : Int) ≤ (c : Int) := by omega
 have hcI : (c : Int) ≤ 9223372036854775807 := by unfold maxLen at hcm; omega
 go_enter Tryz.func66, Tryz.ntmps66
 go_upto_region 1 with fail
 obtain ⟨WX, hWX⟩ : ∃ WX, ((w.alloc (.cells #[.string ⟨#[]⟩, .int .u32 0, .int .u16 0] 37)).alloc (.cells #[.bool false, .int .u32 0, .slice none 0 0, .slice none 0 0] 75)) = WX := ⟨_, rfl⟩
 rw [hWX] at H0 ⊢
 have hzX : WX.heap.size = w.heap.size + 1 + 1 := by rw [← hWX]; simp
 clear hWX
 have B0 := H0.out.1.below H0.out.2.2.2 hbl
 have e0 : WX.cell? ⟨b, o, none⟩ = some (.bool true) := (B0.cell o).trans HK.out.1
 have e1 : WX.cell? ⟨b, o + 1, none⟩ = some (.int .u32 (N : Int)) := (B0.cell (o + 1)).trans HK.out.2.1
 have e3 : WX.cell? ⟨b, o + 3, none⟩ = some (.slice (some A) n c) := (B0.cell (o + 3)).trans HK.out.2.2
 have C1 := Lib.hid (CU.out _ H0.out.2.2.2)
 clear B0 CU
 go_wp2_with fail
 refine C1.out.mono ?_
 rintro e w1 ⟨rfl, hb1⟩
 have B1 := (H0.out.1.below H0.out.2.2.2 hbl).below hb1 (by omega)
 have X0' := H0.out.2.1.below hb1 (by omega)
 have X1' := H0.out.2.2.1.below hb1 (by omega)
 have hbw1 := bto0 H0.out.2.2.2 hb1
 have hz1 : w.heap.size + 1 + 1 ≤ w1.heap.size := by have := hb1.size; omega
 have H1 := Lib.hid (And.intro B1 (And.intro X0' (And.intro X1' hbw1)))
 clear B1 X0' X1' hb1 hbw1 C1 e0 e1 e3
 have e1 : w1.cell? ⟨b, o + 1, none⟩ = some (.int .u32 (N : Int)) := (H1.out.1.cell (o + 1)).trans HK.out.2.1
 have e3 : w1.cell? ⟨b, o + 3, none⟩ = some (.slice (some A) n c) := (H1.out.1.cell (o + 3)).trans HK.out.2.2
 have f3 := H1.out.1.frozen (o + 3)
 have hb1l := H1.out.1.lt
 have hbne : b ≠ w1.heap.size := by omega
 go_wp2_with fail
 go_region
 go_wp2_with fail
 have E5 : EvT (fun k => k = b) w1 (w1.setCell ⟨b, o + 3, none⟩ (.slice (some A) i c)) := EvT.of_set (O := fun k => k = b) (p := ⟨b, o + 3, none⟩) (.inr rfl) _
 have B5 := (H1.out.1.set_ (o + 3) (.slice (some A) i c)).alloc (.cells #[.bool true, .int .u32 (N : Int), .slice none 0 0, .slice (some (A.add (i * 3))) (n - i) (c - i)] 75)
 have X5 := (H1.out.2.1.far (p := ⟨b, o + 3, none⟩) (show w.heap.size ≠ b by omega) (.slice (some A) i c)).alloc (.cells #[.bool true, .int .u32 (N : Int), .slice none 0 0, .slice (some (A.add (i * 3))) (n - i) (c - i)] 75)
 have Y5 := (H1.out.2.2.1.far (p := ⟨b, o + 3, none⟩) (show w.heap.size + 1 ≠ b by omega) (.slice (some A) i c)).alloc (.cells #[.bool true, .int .u32 (N : Int), .slice none 0 0, .slice (some (A.add (i * 3))) (n - i) (c - i)] 75)
 have Z5 := Blk.new (w1.setCell ⟨b, o + 3, none⟩ (.slice (some A) i c)) 75 #[.bool true, .int .u32 (N : Int), .slice none 0 0, .slice (some (A.add (i * 3))) (n - i) (c - i)]
 have hzs : (w1.setCell ⟨b, o + 3, none⟩ (.slice (some A) i c)).heap.size = w1.heap.size := by simp [World.setCell]
 rw [hzs] at Z5
 have EA : EvT (fun k => k = b) w ((w1.setCell ⟨b, o + 3, none⟩ (.slice (some A) i c)).alloc (.cells #[.bool true, .int .u32 (N : Int), .slice none 0 0, .slice (some (A.add (i * 3))) (n - i) (c - i)] 75)) :=
  ((EvT.of_below (O := fun k => k = b) H1.out.2.2.2).trans E5 fun g e => .inl e).trans (EvT.of_below (O := fun k => k = b) (ball (Below.refl _ _) _)) fun g e => .inl e
 obtain ⟨u0, u1, u2⟩ := HX.out _ H1.out.2.2.2
 have hA3 : (A.add (i * 3)).block = A.block := by rw [block_of_add]
 have V0 : ((w1.setCell ⟨b, o + 3, none⟩ (.slice (some A) i c)).alloc (.cells #[.bool true, .int .u32 (N : Int), .slice none 0 0, .slice (some (A.add (i * 3))) (n - i) (c - i)] 75)).heap[A.block]? = w1.heap[A.block]? := by
  rw [Below.heap_alloc _ _ _ (by rw [hzs]; omega), Below.heap_setCell _ _ _ _ hAb]
 obtain ⟨W5, hW5⟩ : ∃ W5, ((w1.setCell ⟨b, o + 3, none⟩ (.slice (some A) i c)).alloc (.cells #[.bool true, .int .u32 (N : Int), .slice none 0 0, .slice (some (A.add (i * 3))) (n - i) (c - i)] 75)) = W5 := ⟨_, rfl⟩
 rw [hW5] at B5 X5 Y5 Z5 EA V0 ⊢
 have q3 : W5.cell? ⟨w1.heap.size, 3, none⟩ = some (.slice (some (A.add (i * 3))) (n - i) (c - i)) := Z5.cell 3
 have q0 : W5.cell? ⟨w1.heap.size, 0, none⟩ = some (.bool true) := Z5.cell 0
 have q1 : W5.cell? ⟨w1.heap.size, 1, none⟩ = some (.int .u32 (N : Int)) := Z5.cell 1
 have q2 : W5.cell? ⟨w1.heap.size, 2, none⟩ = some (.slice none 0 0) := Z5.cell 2
 have v0 : W5.cell? (A.add (i * 3)) = some (.string xs) := (World.cell?_of_block (by rw [hA3]; exact V0)).trans u0
 have v1 : W5.cell? ⟨(A.add (i * 3)).block, (A.add (i * 3)).off + 1, none⟩ = some (.int .u32 xp) := (World.cell?_of_block (a := ⟨(A.add (i * 3)).block, _, none⟩) (by rw [hA3]; exact V0)).trans u1
 have v2 : W5.cell? ⟨(A.add (i * 3)).block, (A.add (i * 3)).off + 2, none⟩ = some (.int .u16 xq) := (World.cell?_of_block (a := ⟨(A.add (i * 3)).block, _, none⟩) (by rw [hA3]; exact V0)).trans u2
 have p0 : W5.cell? ⟨w.heap.size, 0, none⟩ = some (.string ⟨#[]⟩) := X5.cell 0
 have p1 : W5.cell? ⟨w.heap.size, 1, none⟩ = some (.int .u32 0) := X5.cell 1
 have p2 : W5.cell? ⟨w.heap.size, 2, none⟩ = some (.int .u16 0) := X5.cell 2
 have r0 : W5.cell? ⟨w.heap.size + 1, 0, none⟩ = some (.bool false) := Y5.cell 0
 have r1 : W5.cell? ⟨w.heap.size + 1, 1, none⟩ = some (.int .u32 0) := Y5.cell 1
 have r2 : W5.cell? ⟨w.heap.size + 1, 2, none⟩ = some (.slice none 0 0) := Y5.cell 2
 have r3 : W5.cell? ⟨w.heap.size + 1, 3, none⟩ = some (.slice none 0 0) := Y5.cell 3
 have fp0 := X5.frozen 0
 have fp1 := X5.frozen 1
 have fp2 := X5.frozen 2
 have fr0 := Y5.frozen 0
 have fr1 := Y5.frozen 1
 have fr2 := Y5.frozen 2
 have fr3 := Y5.frozen 3
 have lp := X5.lt
 have lr := Y5.lt
 have HH := Lib.hid (And.intro B5 (And.intro X5 (And.intro Y5 EA)))
 have n1 : w.heap.size ≠ (A.add (i * 3)).block := by omega
 have n2 : w.heap.size + 1 ≠ (A.add (i * 3)).block := by omega
 have n3 : w1.heap.size ≠ w.heap.size := by omega
 have n4 : w1.heap.size ≠ w.heap.size + 1 := by omega
 have hni : (0 : Int) < ((n - i : Nat) : Int) := by omega
 clear B5 X5 Y5 Z5 EA V0 E5 hzs hW5 e1 e3 f3
 obtain ⟨Bd, hBd⟩ : ∃ Bd, A.add (i * 3) = Bd := ⟨_, rfl⟩
 rw [hBd] at v0 v1 v2 q3 n1 n2 ⊢
 have HBd := Lib.hid hBd
 clear hBd hA3 u0 u1 u2
 go_region
 go_wp2_with fail
 have hXf := set3e HH.out.2.1 (a' := .string xs) (b' := .int .u32 xp) (c' := .int .u16 xq)
 have hYf := blk4 (far3 HH.out.2.2.1 (show w.heap.size ≠ w.heap.size + 1 by omega) (a := .string xs) (b := .int .u32 xp) (c := .int .u16 xq)) (a' := .bool true) (b' := .int .u32 (N : Int)) (c' := .slice none 0 0) (d' := .slice (some Bd) (n - i) (c - i))
 have hXg := far4 hXf (show w.heap.size + 1 ≠ w.heap.size by omega) (a := .bool true) (b := .int .u32 (N : Int)) (c := .slice none 0 0) (d := .slice (some Bd) (n - i) (c - i))
 have hBf := far4 (far3 HH.out.1 (show w.heap.size ≠ b by omega) (a := .string xs) (b := .int .u32 xp) (c := .int .u16 xq)) (show w.heap.size + 1 ≠ b by omega) (a := .bool true) (b := .int .u32 (N : Int)) (c := .slice none 0 0) (d := .slice (some Bd) (n - i) (c - i))
 have hEf := EvT.set7 HH.out.2.2.2 (.string xs) (.int .u32 xp) (.int .u16 xq) (.bool true) (.int .u32 (N : Int)) (.slice none 0 0) (.slice (some Bd) (n - i) (c - i))
 refine sp_end hXg.drew.drew hYf.drew.drew rfl rfl ⟨⟨xs, xp, xq⟩, Hx.out, ?_, hBf.drew.drew, hEf.drew.drew⟩
 rw [HBd.out]
end
end Go.Proofs.YtebobcbaloddaaaGreat
namespace Go.Proofs.YtebobcbaloddaaaGreat
section
set_option linter.unusedSimpArgs false
set_option linter.unusedVariables false
open Go.RowKit Go.Maps
theorem vE_app13 (a b : List En) : vE (a ++ b) = vE a ++ vE b := by simp [vE]
@[reducible] def wkArr (gp : Nat) (fr : ByteArray) (bound down : Bool) (y : Value) (gone : Nat) : Array Value := #[.pointer (some ⟨gp, 0, none⟩), .string fr, .bool bound, .bool down, y, .int .i64 (gone : Int)]
set_option maxHeartbeats 2000000 in
theorem in_any {w : World} {gw gp gone : Nat} {fr k : ByteArray} {bound down : Bool} {y : Value} (hB : Blk w gw 110 (wkArr gp fr bound down y gone)) :
 Calls Tryz.prog 105 #[.pointer (some ⟨gw, 0, none⟩), .string k] w (RetB w (.bool (inW down bound fr k))) := by
 have k1 : w.cell? ⟨gw, 1, none⟩ = some (.string fr) := hB.cell 1
 have k2 : w.cell? ⟨gw, 2, none⟩ = some (.bool bound) := hB.cell 2
 have k3 : w.cell? ⟨gw, 3, none⟩ = some (.bool down) := hB.cell 3
 clear hB
 obtain ⟨z, hz⟩ : ∃ z, Op.bytesLess k.toList fr.toList = z := ⟨_, rfl⟩
 unfold inW
 rw [hz]
 cases down
 · go_enter Tryz.func105, Tryz.ntmps105
   go_wp2_with fail
   go_ret
   exact ⟨ret_bool (by simp [hz]), Below.refl _ _⟩
 · cases bound
   · go_enter Tryz.func105, Tryz.ntmps105
     go_wp2_with fail
     go_ret
     exact ⟨ret_bool (by simp), Below.refl _ _⟩
   · go_enter Tryz.func105, Tryz.ntmps105
     go_wp2_with fail
     go_ret
     exact ⟨ret_bool (by simp [hz]), Below.refl _ _⟩
structure WR (w0 : World) (lo gp gd gb gt n : Nat) (ps : List (List UInt8)) (T : List Bool) (gm size : Nat) (K0 : List Fr) (c gw gl : Nat) (fr : ByteArray) (bound down : Bool) (y : Value) (gone : Nat) (acc : List En) (v : Value) (W : World) : Prop where
 pool : ∃ K D rd ht, PS W lo gp gd gb gt n ps T gm size K D rd ht ∧ rd ≤ c ∧ ht ≤ c ∧ ∀ (j : Nat) (f : Fr), K[j]? = some f → (∃ i : Nat, K0[i]? = some f) ∨ w0.heap.size ≤ f.g
 turn : Turn w0 W lo gp gm K0
 wb : Blk W gw 110 (wkArr gp fr bound down y gone)
 lb : Blk W gl 22 #[v]
 row : W.ownsRow w0.heap.size 37 3 v acc.length (vE acc)
 lo_ : lo ≤ w0.heap.size
 hw : w0.heap.size ≤ gw
 hl : w0.heap.size ≤ gl
section
variable {w0 W W' : World} {lo gp gd gb gt n : Nat} {ps : List (List UInt8)} {T : List Bool} {gm size : Nat} {K0 : List Fr} {c gw gl : Nat} {fr : ByteArray} {bound down : Bool} {y : Value} {gone : Nat} {acc : List En} {v : Value}
theorem WR.below (h : WR w0 lo gp gd gb gt n ps T gm size K0 c gw gl fr bound down y gone acc v W) (hb : Below W.heap.size W W') : WR w0 lo gp gd gb gt n ps T gm size K0 c gw gl fr bound down y gone acc v W' := by
 obtain ⟨K, D, rd, ht, h1, h2, h3, h4⟩ := h.pool
 exact ⟨⟨K, D, rd, ht, h1.below hb, h2, h3, h4⟩, h.turn.more hb h.lo_, h.wb.below hb h.wb.lt, h.lb.below hb h.lb.lt, own_below h.row hb, h.lo_, h.hw, h.hl⟩
theorem WR.ne_m (h : WR w0 lo gp gd gb gt n ps T gm size K0 c gw gl fr bound down y gone acc v W) {g : Nat} {t : TypeId} {cs : Array Value} (hb : Blk W g t cs) : g ≠ gm := by
 obtain ⟨K, D, rd, ht, h1, _⟩ := h.pool
 exact h1.mp.ne_ hb
theorem WR.get (h : WR w0 lo gp gd gb gt n ps T gm size K0 c gw gl fr bound down y gone acc v W) (hn : n ≤ 1000) (hc : c ≤ 900000) (p : Nat) (hp : p ≤ 4294967295) :
 Calls Tryz.prog 73 #[.pointer (some ⟨gp, 0, none⟩), .int .u32 p] W fun e W' => ∃ u r, e = .returned (.tuple #[u, .int .i64 r]) ∧ GetV ps n p W' W.heap.size u r ∧ WR w0 lo gp gd gb gt n ps T gm size K0 (c + 1) gw gl fr bound down y gone acc v W' ∧ Evo W W' gm gw gl v := by
 obtain ⟨K, D, rd, ht, h1, h2, h3, h4⟩ := h.pool
 have hlo : lo ≤ W.heap.size := Nat.le_trans h.lo_ h.turn.size
 refine (get_v h1 p hp hn (by omega) (by omega) hlo).mono ?_
 rintro e W' ⟨K', D', rd', ht', u, r, rfl, gv, p1, hs, tn, hk⟩
 have hs2 := stepU_small (n := n) (size := size) (s := (pgs K, rd, ht)) (p := p) (k := c) h2 h3
 rw [← hs] at hs2
 have hbk : ∀ {g : Nat} {t : TypeId} {cs : Array Value}, Blk W g t cs → t ≠ 108 → t ≠ 100 → Blk W' g t cs := fun hb a1 a2 => h1.turn_blk tn hb a1 a2
 refine ⟨u, r, rfl, gv, ⟨⟨K', D', rd', ht', p1, hs2.1, hs2.2, fun j f hj => ?_⟩, h.turn.trans tn fun j f hj => h4 j f hj, hbk h.wb (by decide) (by decide), hbk h.lb (by decide) (by decide), ?_, h.lo_, h.hw, h.hl⟩, Evo.of_turn h1 tn⟩
 · rcases hk j f hj with ⟨i, hi⟩ | hi
   · exact h4 i f hi
   · exact .inr (Nat.le_trans h.turn.size hi)
 · exact ownR_stays h.row fun g cs _ hb => tn.heap g hb.lt (hb.ne_ h1.rg.pool (by decide)) (h1.mp.ne_ hb) (fun j f hj => hb.ne_ (h1.rg.fr j f hj).1 (by decide))
theorem WR.setg (h : WR w0 lo gp gd gb gt n ps T gm size K0 c gw gl fr bound down y gone acc v W) (k : Nat) : WR w0 lo gp gd gb gt n ps T gm size K0 c gw gl fr bound down y k acc v (W.setCell ⟨gw, 5, none⟩ (.int .i64 (k : Int))) := by
 obtain ⟨K, D, rd, ht, h1, h2, h3, h4⟩ := h.pool
 have hq : gl ≠ gw := by rintro rfl; exact h.lb.ne_ h.wb (by decide) rfl
 refine ⟨⟨K, D, rd, ht, h1.far h.wb (Far.set1 W gw 5 _) (by decide) (by decide) (by decide) (by decide) (by decide), h2, h3, h4⟩, h.turn.far (Far.set1 W gw 5 _) h.hw h.lo_, ?_, h.lb.far (by simpa using hq) _, own_far h.row h.wb (by decide) 5 _, h.lo_, h.hw, h.hl⟩
 have := h.wb.set_ 5 (.int .i64 (k : Int))
 simpa [wkArr] using this
theorem WR.grown (h : WR w0 lo gp gd gb gt n ps T gm size K0 c gw gl fr bound down y gone acc v W) (hg : W.grownBy W' v.ownBlock) :
 (∃ K D rd ht, PS W' lo gp gd gb gt n ps T gm size K D rd ht ∧ rd ≤ c ∧ ht ≤ c ∧ ∀ (j : Nat) (f : Fr), K[j]? = some f → (∃ i : Nat, K0[i]? = some f) ∨ w0.heap.size ≤ f.g) ∧ Turn w0 W' lo gp gm K0 ∧ Blk W' gw 110 (wkArr gp fr bound down y gone) ∧ Blk W' gl 22 #[v] := by
 obtain ⟨K, D, rd, ht, h1, h2, h3, h4⟩ := h.pool
 have hb : ∀ {g : Nat} {ty : TypeId} {cs' : Array Value}, 37 ≠ ty → Blk W g ty cs' → Blk W' g ty cs' := fun ht hb => blk_own_ne h.row hb hg ht
 have hm : W'.heap[gm]? = W.heap[gm]? := hg.block gm h1.mp.lt fun e => by
  obtain ⟨cs, hc⟩ := own_blk17 h.row e.symm
  exact h1.mp.ne_ hc rfl
 have hlo := h.turn.size
 have hlo2 := h.lo_
 refine ⟨⟨K, D, rd, ht, ⟨⟨h1.rg.low, hb (by decide) h1.rg.pool, fun i f hi => ⟨hb (by decide) (h1.rg.fr i f hi).1, (h1.rg.fr i f hi).2⟩, h1.rg.inj⟩, h1.mp.same hm, h1.lom, fun i f hi => ⟨hb (by decide) (h1.by_ i f hi).1, (h1.by_ i f hi).2⟩, h1.pg, ⟨⟨hb (by decide) h1.dk.dk.d, hb (by decide) h1.dk.dk.b, hb (by decide) h1.dk.dk.t, h1.dk.dk.hb, h1.dk.dk.ht⟩, h1.dk.full, h1.dk.hp⟩, h1.s1, h1.sz⟩, h2, h3, h4⟩, ?_, hb (by decide) h.wb, hb (by decide) h.lb⟩
 refine ⟨Nat.le_trans h.turn.size hg.size, fun g hg' a1 a2 a3 => (hg.block g (by omega) fun e => ?_).trans (h.turn.heap g hg' a1 a2 a3), fun B w1 hB hb' => ?_⟩
 · have := (World.ownsRow.lt h.row g e.symm).1; omega
 · exact (h.turn.below B w1 hB hb').grown hg (by omega) fun k e => by have := (World.ownsRow.lt h.row k e).1; omega
theorem WR.push (h : WR w0 lo gp gd gb gt n ps T gm size K0 c gw gl fr bound down y gone acc v W) {v' : Value} {es : List En} (ho : W'.ownsRow w0.heap.size 37 3 v' (acc ++ es).length (vE (acc ++ es))) (hg : W.grownBy W' v.ownBlock) :
 WR w0 lo gp gd gb gt n ps T gm size K0 c gw gl fr bound down y gone (acc ++ es) v' (W'.setCell ⟨gl, 0, none⟩ v') := by
 obtain ⟨⟨K, D, rd, ht, h1, h2, h3, h4⟩, tn, hcb, hqb⟩ := h.grown hg
 have hq : gw ≠ gl := by rintro rfl; exact h.wb.ne_ h.lb (by decide) rfl
 refine ⟨⟨K, D, rd, ht, h1.far hqb (Far.set1 W' gl 0 v') (by decide) (by decide) (by decide) (by decide) (by decide), h2, h3, h4⟩, tn.far (Far.set1 W' gl 0 v') h.hl h.lo_, hcb.far (by simpa using hq) v', ?_, own_far ho hqb (by decide) 0 v', h.lo_, h.hw, h.hl⟩
 have := hqb.set_ 0 v'
 simpa using this
end
def ysU (ends : Bool) (hi : ByteArray) (x : En) : Bool := !ends || Op.bytesLess x.s.toList hi.toList
@[reducible] def yvU (ge gh gl : Nat) : Value := .func (.func 39) #[] #[.pointer (some ⟨ge, 0, none⟩), .pointer (some ⟨gh, 0, none⟩), .pointer (some ⟨gl, 0, none⟩)]
def RetY (w0 : World) (lo gp gd gb gt n : Nat) (ps : List (List UInt8)) (T : List Bool) (gm size : Nat) (K0 : List Fr) (c gw gl : Nat) (fr : ByteArray) (bound down : Bool) (y : Value) (gone : Nat) (acc : List En) (v : Value) (b : Bool) (W : World) (e : Ending) (W' : World) : Prop :=
 ∃ v', e = .returned (.bool b) ∧ WR w0 lo gp gd gb gt n ps T gm size K0 c gw gl fr bound down y gone acc v' W' ∧ Evo W W' gm gw gl v ∧ (v'.ownBlock = v.ownBlock ∨ ∃ k, v'.ownBlock = some k ∧ W.heap.size ≤ k)
set_option maxRecDepth 100000 in
set_option maxHeartbeats 4000000 in
theorem yU_any {w0 w : World} {lo gp gd gb gt n : Nat} {ps : List (List UInt8)} {T : List Bool} {gm size : Nat} {K0 : List Fr} {c gw gl ge gh : Nat} {fr hi : ByteArray} {bound down ends : Bool} {y : Value} {gone : Nat} {acc : List En} {v : Value} (h : WR w0 lo gp gd gb gt n ps T gm size K0 c gw gl fr bound down y gone acc v w)
 (he : Blk w ge 4 #[.bool ends]) (hh : Blk w gh 9 #[.string hi]) (x : En) (hl : acc.length ≤ 1000000) :
 Calls Tryz.prog 39 #[x.agg, .pointer (some ⟨ge, 0, none⟩), .pointer (some ⟨gh, 0, none⟩), .pointer (some ⟨gl, 0, none⟩)] w (RetY w0 lo gp gd gb gt n ps T gm size K0 c gw gl fr bound down y gone (if ysU ends hi x = true then acc ++ [x] else acc) v (ysU ends hi x) w) := by
 obtain ⟨i0, hi0, hz0, hs0, hy0⟩ := int_info8 Tryz.infoE
 have hb0 := ball (Below.refl w.heap.size w) (.cells #[.string x.s, .int .u32 x.p, .int .u16 x.q] 37)
 have X0 := Blk.new w 37 #[.string x.s, .int .u32 x.p, .int .u16 x.q]
 have h1 := h.below hb0
 have ke : w.cell? ⟨ge, 0, none⟩ = some (.bool ends) := he.cell 0
 have kh : w.cell? ⟨gh, 0, none⟩ = some (.string hi) := hh.cell 0
 have kl : w.cell? ⟨gl, 0, none⟩ = some v := h.lb.cell 0
 have le := he.lt
 have lh := hh.lt
 have ll := h.lb.lt
 have hv := h.row
 obtain ⟨A, cc, hvf, hcc⟩ := own_form hv
 have hsz : w0.heap.size ≤ w.heap.size := h.turn.size
 have H0 := Lib.hid (And.intro h1 (And.intro X0 (And.intro hb0 h)))
 have Hv := Lib.hid hvf
 have HE := Lib.hid (And.intro (he.alloc (.cells #[.string x.s, .int .u32 x.p, .int .u16 x.q] 37)) (hh.alloc (.cells #[.string x.s, .int .u32 x.p, .int .u16 x.q] 37)))
 clear h1 X0 hb0 h he hh hv
 subst hvf
 obtain ⟨z, hz⟩ : ∃ z, Op.bytesLess x.s.toList hi.toList = z := ⟨_, rfl⟩
 have hys : ysU ends hi x = (!ends || z) := by unfold ysU; rw [hz]
 rw [hys]
 clear hys
 obtain ⟨xs, xp, xq⟩ := x
 unfold En.agg
 simp only at hz H0 HE ⊢
 have PUSH : ∀ b : Bool, b = true → True := fun _ _ => trivial
 have one : ∀ u ∈ [Value.string xs, .int .u32 xp, .int .u16 xq], u.oneCell' = true := by
  intro u hu
  simp only [List.mem_cons, List.not_mem_nil, or_false] at hu
  rcases hu with rfl | rfl | rfl <;> rfl
 have hpl : acc.length + 1 ≤ 1000000000 := by omega
 have hw1 : (w.alloc (.cells #[.string xs, .int .u32 xp, .int .u16 xq] 37)).heap.size = w.heap.size + 1 := by simp
 have hcase : (ends = true ∧ z = false) ∨ ((!ends || z) = true ∧ (ends = false ∨ z = true)) := by cases ends <;> cases z <;> simp
 rcases hcase with ⟨rfl, rfl⟩ | ⟨hgo, hor⟩
 · go_enter Tryz.func39, Tryz.ntmps39
   go_wp2_with fail
   go_ret
   exact ⟨_, rfl, H0.out.1, Evo.of_below H0.out.2.2.1, .inl rfl⟩
 · rw [hgo]
   simp only [if_true]
   have Hor := Lib.hid hor
   obtain ⟨w1, hW1⟩ : ∃ x, w.alloc (.cells #[.string xs, .int .u32 xp, .int .u16 xq] 37) = x := ⟨_, rfl⟩
   have H1 := H0.out
   have HE1 := HE.out
   rw [hW1] at H1 HE1
   have ke1 : w1.cell? ⟨ge, 0, none⟩ = some (.bool ends) := HE1.1.cell 0
   have kh1 : w1.cell? ⟨gh, 0, none⟩ = some (.string hi) := HE1.2.cell 0
   clear HE1 HE ke kh kl
   have k1 : w1.cell? ⟨gl, 0, none⟩ = some (.slice A acc.length cc) := H1.1.lb.cell 0
   have x0 : w1.cell? ⟨w.heap.size, 0, none⟩ = some (.string xs) := H1.2.1.cell 0
   have x1 : w1.cell? ⟨w.heap.size, 1, none⟩ = some (.int .u32 xp) := H1.2.1.cell 1
   have x2 : w1.cell? ⟨w.heap.size, 2, none⟩ = some (.int .u16 xq) := H1.2.1.cell 2
   have hz1 : w1.heap.size = w.heap.size + 1 := by rw [← hW1]; exact hw1
   have HH := Lib.hid H1
   have hzw : w0.heap.size ≤ w1.heap.size := by omega
   have l1 : gl < w1.heap.size := by omega
   have hx1 : w.heap.size < w1.heap.size := by omega
   clear H1 hw1 hgo
   have FIN : ∀ (v6 : Value) (w6 : World) (o : Obj), w6.ownsRow w0.heap.size 37 3 v6 (acc.length + 1) (vE acc ++ [Value.string xs, .int .u32 xp, .int .u16 xq]) → (w1.alloc o).grownBy w6 (Value.slice A acc.length cc).ownBlock → (v6.ownBlock = (Value.slice A acc.length cc).ownBlock ∨ v6.ownBlock = some (w1.heap.size + 1)) →
    RetY w0 lo gp gd gb gt n ps T gm size K0 c gw gl fr bound down y gone (acc ++ [⟨xs, xp, xq⟩]) (.slice A acc.length cc) true w (.returned (.bool true)) (w6.setCell ⟨gl, 0, none⟩ v6) ∧ Blk w6 gl 22 #[.slice A acc.length cc] := fun v6 w6 o ho6 hg6 hv6 => by
    have HA := HH.out.1.below (ball (Below.refl w1.heap.size w1) o)
    have hbl := (HA.grown hg6).2.2.2
    refine ⟨⟨v6, rfl, HA.push (es := [⟨xs, xp, xq⟩]) (by rw [List.length_append, List.length_singleton, vE_app13]; exact ho6) hg6, ?_, ?_⟩, hbl⟩
    · refine (Evo.of_below (bto0 HH.out.2.2.1 (ball (Below.refl w1.heap.size w1) o))).trans (Evo.trans (v' := .slice A acc.length cc) ⟨hg6.size, fun g h1 _ _ _ _ _ h7 => hg6.block g h1 fun e => h7 e.symm⟩ (Evo.of_set (v := .slice A acc.length cc) v6 (.inr rfl)) (.inl rfl)) (.inl rfl)
    · rcases hv6 with e | e
      · exact .inl e
      · exact .inr ⟨_, e, by omega⟩
   have HF := Lib.hid FIN
   clear FIN
   have END : ∀ (v6 : Value) (w6 : World), True := fun _ _ => trivial
   go_enter Tryz.func39, Tryz.ntmps39
   rcases Hor.out with rfl | rfl
   · go_upto_region 3 with fail
     go_wp2_with (at_builtin; go_loud (refine wpList_pushR (news := [.string xs, .int .u32 xp, .int .u16 xq]) rfl (.tmp 13) (.tmp 15) 22 rfl w0.heap.size 37 i0 _ 3 24 Tryz.underlying22 hi0 hz0 hs0 hy0 rfl (by decide) _ acc.length (vE acc) rfl HH.out.1.row rfl _ rfl hz1.symm rfl one hpl (by omega) hzw ?_); intro v6 w6 ho6 hg6 hv6; obtain ⟨A6, c6, rfl, hc6⟩ := own_form ho6; have HZ := Lib.hid (HF.out _ w6 _ ho6 hg6 hv6); have d0 : w6.cell? ⟨gl, 0, none⟩ = some (.slice A acc.length cc) := HZ.out.2.cell 0; have f0 := HZ.out.2.frozen 0; have l6 := HZ.out.2.lt; clear ho6 hg6 hv6)
     go_ret
     exact HZ.out.1
   · cases ends
     all_goals (
      go_upto_region 3 with fail
      go_wp2_with (at_builtin; go_loud (refine wpList_pushR (news := [.string xs, .int .u32 xp, .int .u16 xq]) rfl (.tmp 13) (.tmp 15) 22 rfl w0.heap.size 37 i0 _ 3 24 Tryz.underlying22 hi0 hz0 hs0 hy0 rfl (by decide) _ acc.length (vE acc) rfl HH.out.1.row rfl _ rfl hz1.symm rfl one hpl (by omega) hzw ?_); intro v6 w6 ho6 hg6 hv6; obtain ⟨A6, c6, rfl, hc6⟩ := own_form ho6; have HZ := Lib.hid (HF.out _ w6 _ ho6 hg6 hv6); have d0 : w6.cell? ⟨gl, 0, none⟩ = some (.slice A acc.length cc) := HZ.out.2.cell 0; have f0 := HZ.out.2.frozen 0; have l6 := HZ.out.2.lt; clear ho6 hg6 hv6)
      go_ret
      exact HZ.out.1)
end
end Go.Proofs.YtebobcbaloddaaaGreat
namespace Go.Proofs.YtebobcbaloddaaaGreat
section
set_option linter.unusedSimpArgs false
set_option linter.unusedVariables false
open Go.RowKit Go.Maps
theorem Evo.own_ {w w' : World} {gm gc gq : Nat} {v : Value} (h : Evo w w' gm gc gq v) {base size k : Nat} {e : TypeId} {u : Value} {xs : List Value} (ho : w.ownsRow base e size u k xs) (h1 : e ≠ 108) (h2 : e ≠ 100) (h3 : ∀ g cs, Blk w g e cs → g ≠ gm ∧ g ≠ gc ∧ g ≠ gq) (h6 : ∀ g, u.ownBlock = some g → v.ownBlock ≠ some g) : w'.ownsRow base e size u k xs :=
 ownR_stays ho fun g cs e1 hb => h.heap g hb.lt (fun cs' h' => hb.ne_ h' h1 rfl) (fun cs' h' => hb.ne_ h' h2 rfl) (h3 g cs hb).1 (h3 g cs hb).2.1 (h3 g cs hb).2.2 (h6 g e1)
theorem ord_len (down : Bool) (l : List En) : (ordW down l).length = l.length := by unfold ordW; split <;> simp
theorem ord_up (l : List En) (k : Nat) : (ordW false l)[k]? = l[k]? := rfl
theorem ord_dn {l : List En} {k : Nat} (h : k < l.length) : (ordW true l)[k]? = l[l.length - 1 - k]? := by
 show l.reverse[k]? = _
 rw [List.getElem?_reverse h]
def RetLf9 (w0 : World) (lo gp gd gb gt n : Nat) (ps : List (List UInt8)) (T : List Bool) (gm size : Nat) (K0 : List Fr) (c gw gl : Nat) (fr : ByteArray) (bound down : Bool) (y : Value) (gone : Nat) (v : Value) (r : List En × Bool) (W : World) (e : Ending) (W' : World) : Prop :=
 ∃ v', e = .returned (.bool r.2) ∧ WR w0 lo gp gd gb gt n ps T gm size K0 c gw gl fr bound down y gone r.1 v' W' ∧ Evo W W' gm gw gl v ∧ (v'.ownBlock = v.ownBlock ∨ ∃ k, v'.ownBlock = some k ∧ W.heap.size ≤ k)
set_option maxRecDepth 100000 in
set_option maxHeartbeats 8000000 in
theorem leafU_any {w0 w : World} {lo gp gd gb gt n : Nat} {ps : List (List UInt8)} {T : List Bool} {gm size : Nat} {K0 : List Fr} {c gw gl ge gh : Nat} {fr hi : ByteArray} {bound down ends : Bool} {gone : Nat} {acc : List En} {v : Value} (h : WR w0 lo gp gd gb gt n ps T gm size K0 c gw gl fr bound down (yvU ge gh gl) gone acc v w)
 (he : Blk w ge 4 #[.bool ends]) (hh : Blk w gh 9 #[.string hi]) (hne : ge ≠ gm ∧ gh ≠ gm) {A : Option Addr} {m cc base : Nat} {l : List En} (ho : w.ownsRow base 37 3 (.slice A m cc) m (vE l)) (hv : ∀ g, (Value.slice A m cc).ownBlock = some g → v.ownBlock ≠ some g) (hl : acc.length + l.length ≤ 1000000) :
 Calls Tryz.prog 74 #[.pointer (some ⟨gw, 0, none⟩), .slice A m cc] w (RetLf9 w0 lo gp gd gb gt n ps T gm size K0 c gw gl fr bound down (yvU ge gh gl) gone v (runY (ysU ends hi) (vis down bound fr l) acc) w) := by
 have hlm : l.length = m := by have := ho.1; rw [vE_len] at this; omega
 obtain ⟨L, hL⟩ : ∃ L, ordW down l = L := ⟨_, rfl⟩
 have hLl : L.length = m := by rw [← hL, ord_len, hlm]
 have hvis : vis down bound fr l = L.filter (fun x => inW down bound fr x.s) := by unfold vis; rw [hL]
 rw [hvis]
 have hup : down = false → ∀ k : Nat, L[k]? = l[k]? := fun e k => by rw [← hL, e, ord_up]
 have hdn : down = true → ∀ k, k < m → L[k]? = l[m - 1 - k]? := fun e k hk => by rw [← hL, e, ord_dn (by omega), hlm]
 have HL := Lib.hid (And.intro hup (And.intro hdn (And.intro hLl hlm)))
 have H0 := Lib.hid (And.intro h (And.intro he (And.intro hh (And.intro ho (And.intro hv hne)))))
 have hm9 : m ≤ 1000000 := by omega
 have hmI : (m : Int) ≤ 1000000 := by omega
 have hacc : acc.length + m ≤ 1000000 := by omega
 clear h he hh ho hv hne hL hLl hvis hup hdn hlm hl
 go_enter Tryz.func74, Tryz.ntmps74
 go_wp2_with fail
 go_loopw [9] (fun v9 wr_ => ∃ (k : Nat) (acc' : List En) (v' : Value), v9 = .int .i64 (k : Int) ∧ k ≤ m ∧ runY (ysU ends hi) ((L.take k).filter (fun x => inW down bound fr x.s)) acc = (acc', true) ∧ WR w0 lo gp gd gb gt n ps T gm size K0 c gw gl fr bound down (yvU ge gh gl) gone acc' v' wr_ ∧ Evo w wr_ gm gw gl v ∧ (v'.ownBlock = v.ownBlock ∨ ∃ j, v'.ownBlock = some j ∧ w.heap.size ≤ j)) (fun v9 _ => m - (intOf v9).toNat)
 case atStart => exact ⟨0, acc, v, rfl, Nat.zero_le _, rfl, H0.out.1, Evo.refl _ _ _ _ _, .inl rfl⟩
 case round =>
  rename World => wo
  obtain ⟨k, acc', v', rfl, hk, hrun, R, hev, hvv⟩ := hrel
  have q0 : (0 : Int) ≤ (k : Int) := by omega
  by_cases hlt : k < m
  · have q1 : (k : Int) < (m : Int) := by omega
    obtain ⟨x, hx⟩ : ∃ x, L[k]? = some x := ⟨_, List.getElem?_eq_getElem (by rw [HL.out.2.2.1]; exact hlt)⟩
    have hrow : ∀ g cs, Blk w g 37 cs → g ≠ gm ∧ g ≠ gw ∧ g ≠ gl := fun g cs hb => ⟨H0.out.1.ne_m hb, hb.ne_ H0.out.1.wb (by decide), hb.ne_ H0.out.1.lb (by decide)⟩
    have o1 := hev.own_ H0.out.2.2.2.1 (by decide) (by decide) hrow H0.out.2.2.2.2.1
    have e1 := hev.blk H0.out.2.1 (by decide) (by decide) H0.out.2.2.2.2.2.1 (H0.out.2.1.ne_ H0.out.1.wb (by decide)) (H0.out.2.1.ne_ H0.out.1.lb (by decide)) (fun e => own_blk_ne H0.out.1.row H0.out.2.1 (by decide) e)
    have h1 := hev.blk H0.out.2.2.1 (by decide) (by decide) H0.out.2.2.2.2.2.2 (H0.out.2.2.1.ne_ H0.out.1.wb (by decide)) (H0.out.2.2.1.ne_ H0.out.1.lb (by decide)) (fun e => own_blk_ne H0.out.1.row H0.out.2.2.1 (by decide) e)
    have hal : acc'.length ≤ 1000000 := by
     have h2 := runY_len (ysU ends hi) ((L.take k).filter (fun x => inW down bound fr x.s)) acc
     rw [hrun] at h2
     have h3 := List.length_filter_le (fun x : En => inW down bound fr x.s) (L.take k)
     rw [List.length_take] at h3
     simp only at h2
     omega
    have htk : L.take (k + 1) = L.take k ++ [x] := by rw [List.take_add_one, hx]; rfl
    have hout : L = L.take (k + 1) ++ L.drop (k + 1) := (List.take_append_drop _ _).symm
    have u3 : wo.cell? ⟨gw, 3, none⟩ = some (.bool down) := R.wb.cell 3
    have lw := R.wb.lt
    have HR := Lib.hid (And.intro R (And.intro hev (And.intro hvv (And.intro hrun (And.intro o1 (And.intro e1 (And.intro h1 hal)))))))
    have Hx := Lib.hid (And.intro hx (And.intro htk hout))
    clear R hev hvv hrun o1 e1 h1 hal hx htk hout hrow
    obtain ⟨yk, hyk⟩ : ∃ y, l[k]? = some y := ⟨_, List.getElem?_eq_getElem (by rw [HL.out.2.2.2]; exact hlt)⟩
    obtain ⟨ad, hA, hab, _, HEk⟩ := ent_of (Reads.of_own HR.out.2.2.2.2.1) hyk
    obtain ⟨uk0, uk1, uk2⟩ := HEk wo (Below.refl _ _)
    have hjI : ∃ j : Nat, (m : Int) - 1 - (k : Int) = (j : Int) ∧ j = m - 1 - k := ⟨m - 1 - k, by omega, rfl⟩
    obtain ⟨j, hj, hj2⟩ := hjI
    have hjm : (j : Int) < (m : Int) := by omega
    have hj0 : (0 : Int) ≤ (j : Int) := by omega
    obtain ⟨yj, hyj⟩ : ∃ y, l[j]? = some y := ⟨_, List.getElem?_eq_getElem (by rw [HL.out.2.2.2]; omega)⟩
    have HEj : wo.cell? (ad.add (j * 3)) = some (.string yj.s) ∧ wo.cell? ⟨(ad.add (j * 3)).block, (ad.add (j * 3)).off + 1, none⟩ = some (.int .u32 yj.p) ∧ wo.cell? ⟨(ad.add (j * 3)).block, (ad.add (j * 3)).off + 2, none⟩ = some (.int .u16 yj.q) := by
     obtain ⟨ad', hA', _, _, H⟩ := ent_of (Reads.of_own HR.out.2.2.2.2.1) hyj
     rw [hA] at hA'
     injection hA' with hA'
     subst hA'
     exact H wo (Below.refl _ _)
    obtain ⟨uj0, uj1, uj2⟩ := HEj
    have hjb : (ad.add (j * 3)).block < wo.heap.size := by rw [block_of_add] at hab ⊢; exact hab
    have hxk : down = false → x = yk := fun e => by have := HL.out.1 e k; rw [Hx.out.1, hyk] at this; injection this
    have hxj : down = true → x = yj := fun e => by have := HL.out.2.1 e k hlt; rw [Hx.out.1, ← hj2, hyj] at this; injection this
    have HXX := Lib.hid (And.intro hxk hxj)
    obtain ⟨A0, hA0⟩ : ∃ A0, A = A0 := ⟨_, rfl⟩
    have hA2 : A = some ad := hA
    subst hA2
    clear hA hA0 hyk hyj HEk hxk hxj hj2
    obtain ⟨xs, xp, xq⟩ := x
    obtain ⟨ks, kp, kq⟩ := yk
    obtain ⟨js, jp, jq⟩ := yj
    simp only at uk0 uk1 uk2 uj0 uj1 uj2
    go_upto_if 19 with fail
    go_cut [] (fun wx => Blk wx wo.heap.size 37 #[.string xs, .int .u32 xp, .int .u16 xq] ∧ Below wo.heap.size wo wx)
    case first =>
     have X0 := Blk.new wo 37 #[.string ks, .int .u32 kp, .int .u16 kq]
     have b0 := ball (Below.refl wo.heap.size wo) (.cells #[.string ks, .int .u32 kp, .int .u16 kq] 37)
     cases down with
     | false =>
       have e := HXX.out.1 rfl
       injection e with e1 e2 e3
       subst e1; subst e2; subst e3
       have HXc := Lib.hid (And.intro X0 b0)
       clear X0 b0
       go_wp2_with fail
       go_meet
       exact HXc.out
     | true =>
       have e := HXX.out.2 rfl
       injection e with e1 e2 e3
       subst e1; subst e2; subst e3
       have X1 := set3e (a' := .string xs) (b' := .int .u32 xp) (c' := .int .u16 xq) X0
       have b1 : Below wo.heap.size wo ((((wo.alloc (.cells #[.string ks, .int .u32 kp, .int .u16 kq] 37)).setCell ⟨wo.heap.size, 0, none⟩ (.string xs)).setCell ⟨wo.heap.size, 1, none⟩ (.int .u32 xp)).setCell ⟨wo.heap.size, 2, none⟩ (.int .u16 xq)) := ((b0.setCell (p := ⟨wo.heap.size, 0, none⟩) (Nat.le_refl _) _).setCell (p := ⟨wo.heap.size, 1, none⟩) (Nat.le_refl _) _).setCell (p := ⟨wo.heap.size, 2, none⟩) (Nat.le_refl _) _
       have HXc := Lib.hid (And.intro X1 b1)
       have b2 := Lib.hid (ball (Below.refl wo.heap.size wo) (.cells #[.string xs, .int .u32 xp, .int .u16 xq] 37))
       have X2 := Lib.hid (Blk.new wo 37 #[.string xs, .int .u32 xp, .int .u16 xq])
       clear X0 b0 X1 b1
       go_wp2_with fail
       go_meet
       first | exact HXc.out | exact ⟨X2.out, b2.out⟩
    case rest =>
     obtain ⟨X1, b1⟩ := hcut
     rename World => w1
     have R1 := HR.out.1.below b1
     have y0 : w1.cell? ⟨wo.heap.size, 0, none⟩ = some (.string xs) := X1.cell 0
     have IN := Lib.hid (fun (W : World) (hb : Below w1.heap.size w1 W) => in_any (k := xs) (R1.below hb).wb)
     have e1 := HR.out.2.2.2.2.2.1.below b1 HR.out.2.2.2.2.2.1.lt
     have h1 := HR.out.2.2.2.2.2.2.1.below b1 HR.out.2.2.2.2.2.2.1.lt
     have YU := Lib.hid (fun (W : World) (hb : Below w1.heap.size w1 W) => yU_any (R1.below hb) (e1.below hb e1.lt) (h1.below hb h1.lt) ⟨xs, xp, xq⟩ HR.out.2.2.2.2.2.2.2)
     have KS := Lib.hid (show ∀ W, Below w1.heap.size w1 W → W.cell? ⟨wo.heap.size, 0, none⟩ = some (.string xs) ∧ W.cell? ⟨wo.heap.size, 1, none⟩ = some (.int .u32 xp) ∧ W.cell? ⟨wo.heap.size, 2, none⟩ = some (.int .u16 xq) ∧ W.cell? ⟨gw, 4, none⟩ = some (yvU ge gh gl) from fun W hb => by
      have b := X1.below hb X1.lt
      have c := (R1.below hb).wb
      exact ⟨b.cell 0, b.cell 1, b.cell 2, c.cell 4⟩)
     have H1 := Lib.hid (And.intro R1 (And.intro X1 b1))
     obtain ⟨bi, hbi⟩ : ∃ b, inW down bound fr xs = b := ⟨_, rfl⟩
     obtain ⟨by_, hby⟩ : ∃ b, ysU ends hi ⟨xs, xp, xq⟩ = b := ⟨_, rfl⟩
     rw [hbi] at IN
     rw [hby] at YU
     have HBB := Lib.hid (And.intro hbi hby)
     unfold En.agg at YU
     simp only at YU
     clear R1 X1 b1 e1 h1 hbi hby uk0 uk1 uk2 uj0 uj1 uj2 hj u3
     have hxo := HR.out.2.2.1
     have Hvv := Lib.hid hxo
     clear hxo
     cases bi with
     | false =>
       have hnx : runY (ysU ends hi) ((L.take (k + 1)).filter (fun x => inW down bound fr x.s)) acc = (acc', true) := by
        rw [Hx.out.2.1, List.filter_append]
        have : List.filter (fun x : En => inW down bound fr x.s) [⟨xs, xp, xq⟩] = [] := by simp [HBB.out.1]
        rw [this, List.append_nil]; exact HR.out.2.2.2.1
       have Hnx := Lib.hid hnx
       clear hnx
       go_upto_region 7 with fail
       refine wp_region_held_drew (S := (fun W => W.cell? ⟨wo.heap.size, 0, none⟩ = some (.string xs) ∧ W.cell? ⟨wo.heap.size, 1, none⟩ = some (.int .u32 xp) ∧ W.cell? ⟨wo.heap.size, 2, none⟩ = some (.int .u16 xq) ∧ W.cell? ⟨gw, 4, none⟩ = some (yvU ge gh gl))) (by kernel_rfl) (by exact KS.out _ (Below.drew (Below.refl _ _))) (fun hHeld => ?_)
       try dsimp only at hHeld
       refine zt 0 ?_ rfl (by kernel_rfl) (fun _ _ _ h => h) ⟨rfl, ?_⟩ hHeld ?_
       rotate_left
       focus (intro wx hSw; (try dsimp only at hSw); (try go_split_ands); go_simp; (try with_reducible rfl))
       try simp only [Act.put, za1, za2, za3, za4, za5, za6]
       refine zt 1 ?_ rfl (by kernel_rfl) (fun _ _ _ h => h) ⟨rfl, ?_⟩ hHeld ?_
       rotate_left
       focus (intro wx hSw; (try dsimp only at hSw); (try go_split_ands); go_simp; (try with_reducible rfl))
       try simp only [Act.put, za1, za2, za3, za4, za5, za6]
       refine zt 2 ?_ rfl (by kernel_rfl) (fun _ _ _ h => h) ⟨rfl, ?_⟩ hHeld ?_
       rotate_left
       focus (intro wx hSw; (try dsimp only at hSw); (try go_split_ands); go_simp; (try with_reducible rfl))
       try simp only [Act.put, za1, za2, za3, za4, za5, za6]
       refine wpAnyH_ready (rs := [3]) (by kernel_rfl) (by simp) (AllReadyH.cons rfl (fun K hK => ?_) AllReadyH.nil)
       go_simp
       refine (IN.out _ (Below.drew (Below.refl _ _))).mono ?_; rintro e2 w2 ⟨rfl, hb2⟩; have hb2' : Below w1.heap.size w1 w2 := bto0 (Below.drew (Below.refl _ _)) hb2
       go_wp2_with fail
       refine hK.out _ _ ?_ (fun hHeld => ?_)
       · ((try dsimp only); (try dsimp only at hHeld); (first | exact KS.out _ hb2'))
       clear hK K
       try dsimp only at hHeld
       try simp only [Act.put, za1, za2, za3, za4, za5, za6]
       refine zt 4 ?_ rfl (by kernel_rfl) (fun _ _ _ h => h) ⟨rfl, ?_⟩ hHeld ?_
       rotate_left
       focus (intro wx hSw; (try dsimp only at hSw); (try go_split_ands); go_simp; (try with_reducible rfl))
       try simp only [Act.put, za1, za2, za3, za4, za5, za6]
       refine wpAnyH_take (i := 5) (v := undef) rfl (by kernel_rfl) (by kernel_rfl) (by kernel_rfl) (fun _ _ _ h => h) (Or.inr ⟨rfl, rfl⟩) hHeld ?_
       try simp only [Act.put, za1, za2, za3, za4, za5, za6]
       refine wpAnyH_take (i := 6) (v := undef) rfl (by kernel_rfl) (by kernel_rfl) (by kernel_rfl) (fun _ _ _ h => h) (Or.inr ⟨rfl, rfl⟩) hHeld ?_
       try simp only [Act.put, za1, za2, za3, za4, za5, za6]
       refine wpAnyH_take (i := 7) (v := undef) rfl (by kernel_rfl) (by kernel_rfl) (by kernel_rfl) (fun _ _ _ h => h) (Or.inr ⟨rfl, rfl⟩) hHeld ?_
       try simp only [Act.put, za1, za2, za3, za4, za5, za6]
       refine wpAnyH_take (i := 8) (v := undef) rfl (by kernel_rfl) (by kernel_rfl) (by kernel_rfl) (fun _ _ _ h => h) (Or.inr ⟨rfl, rfl⟩) hHeld ?_
       try simp only [Act.put, za1, za2, za3, za4, za5, za6]
       refine wpAnyH_take (i := 9) (v := undef) rfl (by kernel_rfl) (by kernel_rfl) (by kernel_rfl) (fun _ _ _ h => h) (Or.inr ⟨rfl, rfl⟩) hHeld ?_
       try simp only [Act.put, za1, za2, za3, za4, za5, za6]
       refine wpAnyH_take (i := 10) (v := undef) rfl (by kernel_rfl) (by kernel_rfl) (by kernel_rfl) (fun _ _ _ h => h) (Or.inr ⟨rfl, rfl⟩) hHeld ?_
       try simp only [Act.put, za1, za2, za3, za4, za5, za6]
       refine wpAnyH_take (i := 11) (v := undef) rfl (by kernel_rfl) (by kernel_rfl) (by kernel_rfl) (fun _ _ _ h => h) (Or.inr ⟨rfl, rfl⟩) hHeld ?_
       try simp only [Act.put, za1, za2, za3, za4, za5, za6]
       refine zt 12 ?_ rfl (by kernel_rfl) (fun _ _ _ h => h) ⟨rfl, ?_⟩ hHeld ?_
       rotate_left
       focus (intro wx hSw; (try dsimp only at hSw); (try go_split_ands); go_simp; (try with_reducible rfl))
       try simp only [Act.put, za1, za2, za3, za4, za5, za6]
       refine wpAnyH_done (by kernel_rfl) ?_ _
       have HB2 := Lib.hid hb2'
       clear hb2 hb2'
       go_wp2_with fail
       go_roundw
       case rel => exact ⟨k + 1, acc', v', by go_num, by omega, Hnx.out, H1.out.1.below HB2.out, HR.out.2.1.trans (Evo.of_below (v := v') (bto0 H1.out.2.2 HB2.out)) Hvv.out, Hvv.out⟩
       case measure => simp [intOf]; omega
     | true =>
       have hfx : List.filter (fun x : En => inW down bound fr x.s) [⟨xs, xp, xq⟩] = [⟨xs, xp, xq⟩] := by simp [HBB.out.1]
       have hnx : runY (ysU ends hi) ((L.take (k + 1)).filter (fun x => inW down bound fr x.s)) acc = if by_ = true then (acc' ++ [⟨xs, xp, xq⟩], true) else (acc', false) := by
        rw [Hx.out.2.1, List.filter_append, hfx, runY_app, HR.out.2.2.2.1]
        simp only [if_true]
        rw [runY, HBB.out.2]
        split <;> rfl
       have hend : by_ = false → runY (ysU ends hi) (L.filter (fun x => inW down bound fr x.s)) acc = (acc', false) := fun e => by
        rw [Hx.out.2.2, List.filter_append, runY_app, hnx, e]
        simp
       have Hnx := Lib.hid (And.intro hnx hend)
       clear hnx hend hfx
       go_upto_region 7 with fail
       refine wp_region_held_drew (S := (fun W => W.cell? ⟨wo.heap.size, 0, none⟩ = some (.string xs) ∧ W.cell? ⟨wo.heap.size, 1, none⟩ = some (.int .u32 xp) ∧ W.cell? ⟨wo.heap.size, 2, none⟩ = some (.int .u16 xq) ∧ W.cell? ⟨gw, 4, none⟩ = some (yvU ge gh gl))) (by kernel_rfl) (by exact KS.out _ (Below.drew (Below.refl _ _))) (fun hHeld => ?_)
       try dsimp only at hHeld
       refine zt 0 ?_ rfl (by kernel_rfl) (fun _ _ _ h => h) ⟨rfl, ?_⟩ hHeld ?_
       rotate_left
       focus (intro wx hSw; (try dsimp only at hSw); (try go_split_ands); go_simp; (try with_reducible rfl))
       try simp only [Act.put, za1, za2, za3, za4, za5, za6]
       refine zt 1 ?_ rfl (by kernel_rfl) (fun _ _ _ h => h) ⟨rfl, ?_⟩ hHeld ?_
       rotate_left
       focus (intro wx hSw; (try dsimp only at hSw); (try go_split_ands); go_simp; (try with_reducible rfl))
       try simp only [Act.put, za1, za2, za3, za4, za5, za6]
       refine zt 2 ?_ rfl (by kernel_rfl) (fun _ _ _ h => h) ⟨rfl, ?_⟩ hHeld ?_
       rotate_left
       focus (intro wx hSw; (try dsimp only at hSw); (try go_split_ands); go_simp; (try with_reducible rfl))
       try simp only [Act.put, za1, za2, za3, za4, za5, za6]
       refine wpAnyH_ready (rs := [3]) (by kernel_rfl) (by simp) (AllReadyH.cons rfl (fun K hK => ?_) AllReadyH.nil)
       go_simp
       refine (IN.out _ (Below.drew (Below.refl _ _))).mono ?_; rintro e2 w2 ⟨rfl, hb2⟩; have hb2' : Below w1.heap.size w1 w2 := bto0 (Below.drew (Below.refl _ _)) hb2
       go_wp2_with fail
       refine hK.out _ _ ?_ (fun hHeld => ?_)
       · ((try dsimp only); (try dsimp only at hHeld); (first | exact KS3.out | exact KS.out _ hb2'))
       clear hK K
       try dsimp only at hHeld
       try simp only [Act.put, za1, za2, za3, za4, za5, za6]
       refine zt 4 ?_ rfl (by kernel_rfl) (fun _ _ _ h => h) ⟨rfl, ?_⟩ hHeld ?_
       rotate_left
       focus (intro wx hSw; (try dsimp only at hSw); (try go_split_ands); go_simp; (try with_reducible rfl))
       try simp only [Act.put, za1, za2, za3, za4, za5, za6]
       refine zt 5 ?_ rfl (by kernel_rfl) (fun _ _ _ h => h) ⟨rfl, ?_⟩ hHeld ?_
       rotate_left
       focus (intro wx hSw; (try dsimp only at hSw); (try go_split_ands); go_simp; (try with_reducible rfl))
       try simp only [Act.put, za1, za2, za3, za4, za5, za6]
       refine zt 6 ?_ rfl (by kernel_rfl) (fun _ _ _ h => h) ⟨rfl, ?_⟩ hHeld ?_
       rotate_left
       focus (intro wx hSw; (try dsimp only at hSw); (try go_split_ands); go_simp; (try with_reducible rfl))
       try simp only [Act.put, za1, za2, za3, za4, za5, za6]
       refine zt 7 ?_ rfl (by kernel_rfl) (fun _ _ _ h => h) ⟨rfl, ?_⟩ hHeld ?_
       rotate_left
       focus (intro wx hSw; (try dsimp only at hSw); (try go_split_ands); go_simp; (try with_reducible rfl))
       try simp only [Act.put, za1, za2, za3, za4, za5, za6]
       refine zt 8 ?_ rfl (by kernel_rfl) (fun _ _ _ h => h) ⟨rfl, ?_⟩ hHeld ?_
       rotate_left
       focus (intro wx hSw; (try dsimp only at hSw); (try go_split_ands); go_simp; (try with_reducible rfl))
       try simp only [Act.put, za1, za2, za3, za4, za5, za6]
       refine zt 9 ?_ rfl (by kernel_rfl) (fun _ _ _ h => h) ⟨rfl, ?_⟩ hHeld ?_
       rotate_left
       focus (intro wx hSw; (try dsimp only at hSw); (try go_split_ands); go_simp; (try with_reducible rfl))
       try simp only [Act.put, za1, za2, za3, za4, za5, za6]
       refine wpAnyH_ready (rs := [10]) (by kernel_rfl) (by simp) (AllReadyH.cons rfl (fun K hK => ?_) AllReadyH.nil)
       go_simp; go_at_call 39; refine (YU.out _ hb2').mono ?_; rintro e3 w3 ⟨v3, rfl, h3, ev3, nv3⟩; have hv2 : v'.ownBlock ≠ some wo.heap.size := (fun e => by have := (World.ownsRow.lt HR.out.1.row _ e).2; omega); have x3 := ev3.blk (H1.out.2.1.below hb2' H1.out.2.1.lt) (by decide) (by decide) (H1.out.1.ne_m H1.out.2.1) (H1.out.2.1.ne_ H1.out.1.wb (by decide)) (H1.out.2.1.ne_ H1.out.1.lb (by decide)) hv2; have KS3 := Lib.hid (And.intro (x3.cell 0) (And.intro (x3.cell 1) (And.intro (x3.cell 2) (h3.wb.cell 4)))); have H3 := Lib.hid (And.intro h3 (And.intro ev3 nv3)); clear h3 ev3 nv3 x3 hv2; go_wp2_with fail
       refine hK.out _ _ ?_ (fun hHeld => ?_)
       · ((try dsimp only); (try dsimp only at hHeld); (first | exact KS3.out | exact KS.out _ hb2'))
       clear hK K
       try dsimp only at hHeld
       try simp only [Act.put, za1, za2, za3, za4, za5, za6]
       refine zt 11 ?_ rfl (by kernel_rfl) (fun _ _ _ h => h) ⟨rfl, ?_⟩ hHeld ?_
       rotate_left
       focus (intro wx hSw; (try dsimp only at hSw); (try go_split_ands); go_simp; (try with_reducible rfl))
       try simp only [Act.put, za1, za2, za3, za4, za5, za6]
       refine zt 12 ?_ rfl (by kernel_rfl) (fun _ _ _ h => h) ⟨rfl, ?_⟩ hHeld ?_
       rotate_left
       focus (intro wx hSw; (try dsimp only at hSw); (try go_split_ands); go_simp; (try with_reducible rfl))
       try simp only [Act.put, za1, za2, za3, za4, za5, za6]
       refine wpAnyH_done (by kernel_rfl) ?_ _
       have HB2 := Lib.hid hb2'
       clear hb2 hb2'
       have hev3 : Hid (Evo w w3 gm gw gl v ∧ (v3.ownBlock = v.ownBlock ∨ ∃ j, v3.ownBlock = some j ∧ w.heap.size ≤ j)) := Lib.hid (by
        have z1 := HR.out.2.1.size
        have z2 := (bto0 H1.out.2.2 HB2.out).size
        refine ⟨HR.out.2.1.trans ((Evo.of_below (v := v') (bto0 H1.out.2.2 HB2.out)).trans H3.out.2.1 (.inl rfl)) Hvv.out, ?_⟩
        rcases H3.out.2.2 with e | ⟨q, e, hq⟩
        · rw [e]; exact Hvv.out
        · exact .inr ⟨q, e, by omega⟩)
       cases by_ with
       | true =>
         go_wp2_with fail
         go_roundw
         case rel => exact ⟨k + 1, acc' ++ [⟨xs, xp, xq⟩], v3, by go_num, by omega, Hnx.out.1, H3.out.1, hev3.out.1, hev3.out.2⟩
         case measure => simp [intOf]; omega
       | false =>
         go_wp2_with fail
         go_ret
         rw [Hnx.out.2 (by trivial)]
         exact ⟨v3, rfl, H3.out.1, hev3.out.1, hev3.out.2⟩
  · have hk' : k = m := by omega
    subst hk'
    have q1 : (k : Int) ≤ (k : Int) := Int.le_refl _
    rw [List.take_of_length_le (by rw [HL.out.2.2.1]; exact Nat.le_refl _)] at hrun
    have HR := Lib.hid (And.intro R (And.intro hev (And.intro hvv hrun)))
    clear R hev hvv hrun
    go_wp2_with fail
    go_ret
    rw [HR.out.2.2.2]
    exact ⟨v', rfl, HR.out.1, HR.out.2.1, HR.out.2.2.1⟩
end
end Go.Proofs.YtebobcbaloddaaaGreat
namespace Go.Proofs.YtebobcbaloddaaaGreat
section
set_option linter.unusedSimpArgs false
set_option linter.unusedVariables false
open Go.RowKit Go.Maps
theorem vis_up {ps : List (List UInt8)} {h nx : Nat} {ds : List Nd} {seps : List En} {fr : ByteArray} (H : InOk ps h ds seps nx) (hok : ∀ x ∈ (ds.map Nd.L).flatten, x.ok) :
 vis false true fr (ds.map Nd.L).flatten = ((ds.drop (chN seps ⟨fr, 0, 0⟩)).map fun e => vis false true fr e.L).flatten := by
 obtain ⟨m1, m2⟩ := may_parts.1 H.may
 obtain ⟨c1, c2, c3⟩ := chN_at m2 ⟨fr, 0, 0⟩
 have hlen := H.len
 have e : vis false true fr (ds.map Nd.L).flatten = (((ds.take (chN seps ⟨fr, 0, 0⟩)).map fun e => vis false true fr e.L).flatten) ++ ((ds.drop (chN seps ⟨fr, 0, 0⟩)).map fun e => vis false true fr e.L).flatten := by
  rw [vis_flat]
  simp only [Bool.false_eq_true, if_false, List.map_map]
  conv => lhs; rw [← List.take_append_drop (chN seps ⟨fr, 0, 0⟩) ds]
  rw [List.map_append, List.flatten_append]
  rfl
 rw [e]
 have hz : ((ds.take (chN seps ⟨fr, 0, 0⟩)).map fun e => vis false true fr e.L).flatten = [] := by
  rw [List.flatten_eq_nil_iff]
  intro l hl
  obtain ⟨d, hd, rfl⟩ := List.mem_map.1 hl
  obtain ⟨i, hi⟩ := List.getElem?_of_mem hd
  have hia : i < chN seps ⟨fr, 0, 0⟩ := by have := lt_of_at hi; rw [List.length_take] at this; omega
  rw [List.getElem?_take_of_lt hia] at hi
  unfold vis ordW
  simp only [Bool.false_eq_true, if_false]
  rw [List.filter_eq_nil_iff]
  intro y hy
  have hdm : d ∈ ds := List.mem_of_getElem? hi
  have hs := (sep_strong m2 H.sep (by omega) hi hy).2 i _ (List.getElem?_eq_getElem (by omega)) (Nat.le_refl _)
  have hx := c2 i _ (List.getElem?_eq_getElem (by omega)) hia
  have hsw := cmpE_swap y seps[i]
  have hlt : cmpE y ⟨fr, 0, 0⟩ < 0 := lt_le (b := seps[i]) (by omega) hx
  have := key_lt (hok y (List.mem_flatten.2 ⟨d.L, List.mem_map_of_mem hdm, hy⟩)) hlt
  unfold inW
  simp [this]
 rw [hz, List.nil_append]
def RetW9 (w0 : World) (lo gp gd gb gt n : Nat) (ps : List (List UInt8)) (T : List Bool) (gm size : Nat) (K0 : List Fr) (c gw gl : Nat) (fr : ByteArray) (bound down : Bool) (y : Value) (gone : Nat) (v : Value) (r : List En × Bool) (k : Nat) (W : World) (e : Ending) (W' : World) : Prop :=
 ∃ v' gone' c', e = .returned (.tuple #[.bool r.2, .int .i64 0]) ∧ WR w0 lo gp gd gb gt n ps T gm size K0 c' gw gl fr bound down y gone' r.1 v' W' ∧ Evo W W' gm gw gl v ∧ (v'.ownBlock = v.ownBlock ∨ ∃ j, v'.ownBlock = some j ∧ W.heap.size ≤ j) ∧ gone' ≤ gone + k ∧ c' ≤ c + k
theorem vlink {w w' : World} {v v' v'' : Value} (h : v'.ownBlock = v.ownBlock ∨ ∃ j, v'.ownBlock = some j ∧ w.heap.size ≤ j) (k : v''.ownBlock = v'.ownBlock ∨ ∃ j, v''.ownBlock = some j ∧ w'.heap.size ≤ j) (hz : w.heap.size ≤ w'.heap.size) : v''.ownBlock = v.ownBlock ∨ ∃ j, v''.ownBlock = some j ∧ w.heap.size ≤ j := by
 rcases k with e | ⟨j, e, hj⟩
 · rw [e]; exact h
 · exact .inr ⟨j, e, by omega⟩
set_option maxRecDepth 100000 in
set_option maxHeartbeats 8000000 in
theorem innerU_any {w0 w : World} {lo gp gd gb gt n : Nat} {ps : List (List UInt8)} {T : List Bool} {gm size : Nat} {K0 : List Fr} {c gw gl ge gh : Nat} {fr hi : ByteArray} {ends : Bool} {gone : Nat} {acc : List En} {v : Value} {ds : List Nd} {seps : List En} {deep : Nat} (hd : deep < 12)
 (HF : ∀ (i : Nat) (d : Nd), ds[i]? = some d → ∀ (W : World) (c gone : Nat) (acc : List En) (v : Value), WR w0 lo gp gd gb gt n ps T gm size K0 c gw gl fr true false (yvU ge gh gl) gone acc v W → Blk W ge 4 #[.bool ends] → Blk W gh 9 #[.string hi] → acc.length + d.L.length ≤ 900000 → gone + d.P.length ≤ n → c + d.P.length ≤ 800000 →
  Calls Tryz.prog 41 #[.pointer (some ⟨gw, 0, none⟩), .int .u32 (d.p : Int), .int .i64 ((deep : Int) + 1)] W (RetW9 w0 lo gp gd gb gt n ps T gm size K0 c gw gl fr true false (yvU ge gh gl) gone v (runY (ysU ends hi) (vis false true fr d.L) acc) d.P.length W))
 (h : WR w0 lo gp gd gb gt n ps T gm size K0 c gw gl fr true false (yvU ge gh gl) gone acc v w) (he : Blk w ge 4 #[.bool ends]) (hh : Blk w gh 9 #[.string hi]) (hne : ge ≠ gm ∧ gh ≠ gm)
 {A A2 : Option Addr} {cA cB b3 k : Nat} (o3 : w.ownsRow b3 30 1 (.slice A (k + 1) cA) (k + 1) (vN (ds.map Nd.p))) (r4 : Reads w w.heap.size 3 A2 k (vE seps)) (hlen : ds.length = seps.length + 1) (hk : k ≤ 1000) (hkid : ∀ d ∈ ds, d.p < 4294967296)
 (hal : acc.length + ((ds.map Nd.L).flatten).length ≤ 900000) (hg : gone + ((ds.map Nd.P).flatten).length ≤ n) (hc : c + ((ds.map Nd.P).flatten).length ≤ 800000) :
 Calls Tryz.prog 75 #[.pointer (some ⟨gw, 0, none⟩), .agg #[.bool false, .int .u32 0, .slice A (k + 1) cA, .slice A2 k cB], .int .i64 (deep : Int)] w (RetW9 w0 lo gp gd gb gt n ps T gm size K0 c gw gl fr true false (yvU ge gh gl) gone v (runY (ysU ends hi) (((ds.drop (chN seps ⟨fr, 0, 0⟩)).map fun e => vis false true fr e.L).flatten) acc) ((ds.map Nd.P).flatten).length w) := by
 have hsl : seps.length = k := by have := r4.1; rw [vE_len] at this; omega
 have hb0 := ball (Below.refl w.heap.size w) (.cells #[.bool false, .int .u32 0, .slice A (k + 1) cA, .slice A2 k cB] 75)
 have X0 := Blk.new w 75 #[.bool false, .int .u32 0, .slice A (k + 1) cA, .slice A2 k cB]
 have CH := Lib.hid (fun (W : World) (hb : Below w.heap.size w W) => child_any A2 k cB seps ⟨fr, 0, 0⟩ W ((r4.below hb).more hb.size) (by omega))
 have hcl : chN seps ⟨fr, 0, 0⟩ ≤ seps.length := List.countP_le_length
 obtain ⟨a0, ha0⟩ : ∃ x, chN seps ⟨fr, 0, 0⟩ = x := ⟨_, rfl⟩
 rw [ha0] at CH hcl ⊢
 unfold En.agg at CH
 simp only at CH
 have hcl : a0 ≤ k := by omega
 have h1 := h.below hb0
 have H0 := Lib.hid (And.intro h1 (And.intro X0 (And.intro hb0 (And.intro (he.below hb0 he.lt) (And.intro (hh.below hb0 hh.lt) (And.intro hne (And.intro (own_below o3 hb0) h)))))))
 have HS := Lib.hid (And.intro hlen (And.intro hsl (And.intro hkid (And.intro hal (And.intro hg hc)))))
 have HFh := Lib.hid HF
 clear ha0 h1 X0 hb0 he hh hne o3 r4 h hlen hsl hkid hal hg hc HF
 obtain ⟨RT, hRT⟩ : ∃ x, runY (ysU ends hi) (((ds.drop a0).map fun e => vis false true fr e.L).flatten) acc = x := ⟨_, rfl⟩
 obtain ⟨KP, hKP⟩ : ∃ x, ((ds.map Nd.P).flatten).length = x := ⟨_, rfl⟩
 rw [hRT, hKP]
 have HRT := Lib.hid (And.intro hRT hKP)
 clear hRT hKP
 go_enter Tryz.func75, Tryz.ntmps75
 obtain ⟨w1, hw1⟩ : ∃ x, w.alloc (.cells #[.bool false, .int .u32 0, .slice A (k + 1) cA, .slice A2 k cB] 75) = x := ⟨_, rfl⟩
 have H1 := H0.out
 rw [hw1] at H1
 have y2 : w1.cell? ⟨w.heap.size, 2, none⟩ = some (.slice A (k + 1) cA) := H1.2.1.cell 2
 have y3 : w1.cell? ⟨w.heap.size, 3, none⟩ = some (.slice A2 k cB) := H1.2.1.cell 3
 have u1 : w1.cell? ⟨gw, 1, none⟩ = some (.string fr) := H1.1.wb.cell 1
 have u2 : w1.cell? ⟨gw, 2, none⟩ = some (.bool true) := H1.1.wb.cell 2
 have u3 : w1.cell? ⟨gw, 3, none⟩ = some (.bool false) := H1.1.wb.cell 3
 have hz1 : w1.heap.size = w.heap.size + 1 := by rw [← hw1]; simp
 have lw := H1.1.wb.lt
 have CH1 := Lib.hid (fun (W : World) (hb : Below w1.heap.size w1 W) => CH.out W (bto0 H1.2.2.1 hb))
 have HH := Lib.hid H1
 clear H1 CH H0
 go_upto_region 3 with fail
 go_cut [8] (fun s8 wx => s8 = .int .i64 (a0 : Int) ∧ Below w1.heap.size w1 wx)
 case first =>
  go_region_with (refine (CH1.out _ (by with_reducible repeat (first | exact Below.refl _ _ | refine bdr ?_ _ | refine Below.drew ?_))).mono ?_; rintro e2 w2 ⟨rfl, hb2⟩; have HB2 := Lib.hid (bto0 (Below.drew (Below.refl w1.heap.size w1)) hb2); clear hb2)
  all_goals (
   go_wp2_with fail
   go_meet
   exact ⟨rfl, HB2.out⟩)
 case rest =>
  obtain ⟨rfl, hb2⟩ := hcut
  rename World => w2
  have R2 := HH.out.1.below hb2
  have z3 : w2.cell? ⟨gw, 3, none⟩ = some (.bool false) := R2.wb.cell 3
  have hz2 := hb2.size
  have HB := Lib.hid (And.intro R2 hb2)
  have hE12 : Hid (Evo w1 w2 gm gw gl v) := Lib.hid (Evo.of_below hb2)
  clear R2 hb2 y2 y3 u1 u2 u3
  go_wp2_with fail
  go_loopw [8] (fun v8 wr_ => ∃ (j : Nat) (acc' : List En) (v' : Value) (gone' c' : Nat), v8 = .int .i64 (j : Int) ∧ a0 ≤ j ∧ j ≤ k + 1 ∧ runY (ysU ends hi) ((((ds.take j).drop a0).map fun e => vis false true fr e.L).flatten) acc = (acc', true) ∧ WR w0 lo gp gd gb gt n ps T gm size K0 c' gw gl fr true false (yvU ge gh gl) gone' acc' v' wr_ ∧ Evo w1 wr_ gm gw gl v ∧ (v'.ownBlock = v.ownBlock ∨ ∃ q, v'.ownBlock = some q ∧ w1.heap.size ≤ q) ∧ gone' ≤ gone + (((ds.take j).map Nd.P).flatten).length ∧ c' ≤ c + (((ds.take j).map Nd.P).flatten).length ∧ acc'.length ≤ acc.length + (((ds.take j).map Nd.L).flatten).length) (fun v8 _ => k + 1 - (intOf v8).toNat)
  case atStart =>
   refine ⟨a0, acc, v, gone, c, rfl, Nat.le_refl _, by omega, ?_, HB.out.1, hE12.out, .inl rfl, by omega, by omega, by omega⟩
   rw [List.drop_eq_nil_of_le (by rw [List.length_take]; omega)]
   rfl
  case round =>
   rename World => wo
   obtain ⟨j, acc', v', gone', c', rfl, haj, hj, hrun, R, hev, hvv, hgg, hcc, hll⟩ := hrel
   have q0 : (0 : Int) ≤ (j : Int) := by omega
   have hXn := hev.size
   have hrow := HH.out.1.row
   have own32 := hev.own_ HH.out.2.2.2.2.2.2.1 (by decide) (by decide) (fun g cs hb => ⟨HH.out.1.ne_m hb, hb.ne_ HH.out.1.wb (by decide), hb.ne_ HH.out.1.lb (by decide)⟩) (fun g e e2 => by
    obtain ⟨cs, hb⟩ := own_blk17 HH.out.2.2.2.2.2.2.1 e
    exact own_blk_ne hrow hb (by decide) e2)
   have e1 := hev.blk HH.out.2.2.2.1 (by decide) (by decide) HH.out.2.2.2.2.2.1.1 (HH.out.2.2.2.1.ne_ HH.out.1.wb (by decide)) (HH.out.2.2.2.1.ne_ HH.out.1.lb (by decide)) (fun e => own_blk_ne hrow HH.out.2.2.2.1 (by decide) e)
   have h1 := hev.blk HH.out.2.2.2.2.1 (by decide) (by decide) HH.out.2.2.2.2.2.1.2 (HH.out.2.2.2.2.1.ne_ HH.out.1.wb (by decide)) (HH.out.2.2.2.2.1.ne_ HH.out.1.lb (by decide)) (fun e => own_blk_ne hrow HH.out.2.2.2.2.1 (by decide) e)
   have X1 := hev.blk HH.out.2.1 (by decide) (by decide) (HH.out.1.ne_m HH.out.2.1) (HH.out.2.1.ne_ HH.out.1.wb (by decide)) (HH.out.2.1.ne_ HH.out.1.lb (by decide)) (fun e => own_blk_ne hrow HH.out.2.1 (by decide) e)
   have y2 : wo.cell? ⟨w.heap.size, 2, none⟩ = some (.slice A (k + 1) cA) := X1.cell 2
   have lX := X1.lt
   by_cases hlt : j < k + 1
   · have q1 : (j : Int) < (k : Int) + 1 := by omega
     obtain ⟨dj, hdj⟩ : ∃ d, ds[j]? = some d := ⟨_, List.getElem?_eq_getElem (by rw [HS.out.1, HS.out.2.1]; exact hlt)⟩
     have hkj : (ds.map Nd.p)[j]? = some dj.p := by rw [List.getElem?_map, hdj]; rfl
     obtain ⟨ad, kid, hA, hab, hkk, ck⟩ := (Reads.of_own own32).num (k := j) hlt
     rw [hkj] at hkk
     injection hkk with hkk
     subst hkk
     have htk : ds.take (j + 1) = ds.take j ++ [dj] := by rw [List.take_add_one, hdj]; rfl
     have hdk : (ds.take (j + 1)).drop a0 = (ds.take j).drop a0 ++ [dj] := by
      rw [htk, List.drop_append_of_le_length (by rw [List.length_take, HS.out.1, HS.out.2.1]; omega)]
     have hout : ds.drop a0 = (ds.take (j + 1)).drop a0 ++ ds.drop (j + 1) := by
      conv => lhs; rw [← List.take_append_drop (j + 1) ds]
      rw [List.drop_append_of_le_length (by rw [List.length_take, HS.out.1, HS.out.2.1]; omega)]
     have hP1 : (((ds.take (j + 1)).map Nd.P).flatten).length = (((ds.take j).map Nd.P).flatten).length + dj.P.length := by rw [htk]; simp
     have hL1 : (((ds.take (j + 1)).map Nd.L).flatten).length = (((ds.take j).map Nd.L).flatten).length + dj.L.length := by rw [htk]; simp
     have hPt : (((ds.take (j + 1)).map Nd.P).flatten).length ≤ ((ds.map Nd.P).flatten).length := by
      conv => rhs; rw [← List.take_append_drop (j + 1) ds]
      rw [List.map_append, List.flatten_append, List.length_append]; omega
     have hLt : (((ds.take (j + 1)).map Nd.L).flatten).length ≤ ((ds.map Nd.L).flatten).length := by
      conv => rhs; rw [← List.take_append_drop (j + 1) ds]
      rw [List.map_append, List.flatten_append, List.length_append]; omega
     have PG := Lib.hid (HFh.out j dj hdj wo c' gone' acc' v' R e1 h1 (by have := HS.out; omega) (by have := HS.out; omega) (by have := HS.out; omega))
     have hrl := runY_len (ysU ends hi) (vis false true fr dj.L) acc'
     have hvl := vis_len false true fr dj.L
     have hnx : runY (ysU ends hi) ((((ds.take (j + 1)).drop a0).map fun e => vis false true fr e.L).flatten) acc = runY (ysU ends hi) (vis false true fr dj.L) acc' := by
      rw [hdk, List.map_append, List.flatten_append, runY_app, hrun]
      simp only [if_true, List.map_cons, List.map_nil, List.flatten_cons, List.flatten_nil, List.append_nil]
     have hstop : (runY (ysU ends hi) (vis false true fr dj.L) acc').2 = false → runY (ysU ends hi) (((ds.drop a0).map fun e => vis false true fr e.L).flatten) acc = runY (ysU ends hi) (vis false true fr dj.L) acc' := fun e => by
      rw [hout, List.map_append, List.flatten_append, runY_app, hnx, e]
      simp only [Bool.false_eq_true, if_false]
      exact Prod.ext rfl e.symm
     obtain ⟨⟨ra, rb⟩, hr⟩ : ∃ r, runY (ysU ends hi) (vis false true fr dj.L) acc' = r := ⟨_, rfl⟩
     rw [hr] at PG hrl hnx hstop
     have hrl : ra.length ≤ acc'.length + (vis false true fr dj.L).length := hrl
     have HZ := Lib.hid (And.intro hev (And.intro hvv (And.intro hnx (And.intro hstop (And.intro hP1 (And.intro hL1 (And.intro hPt (And.intro hgg (And.intro hcc (And.intro hll (And.intro hrl hvl)))))))))))
     obtain ⟨A0, hA0⟩ : ∃ A0, A = A0 := ⟨_, rfl⟩
     have hA2 : A = some ad := hA
     subst hA2
     clear hA hA0 hev hvv hnx hstop hP1 hL1 hPt hLt hgg hcc hll hrl hvl hr own32 e1 h1 X1 R hrun hdj hkj htk hdk hout hrow
     go_wp2_with fail
     refine PG.out.mono ?_
     rintro e3 w3 ⟨v3, g3, c3, rfl, R3, ev3, nv3, hg3, hc3⟩
     have H3 := Lib.hid (And.intro R3 (And.intro ev3 (And.intro nv3 (And.intro hg3 hc3))))
     clear R3 ev3 nv3 hg3 hc3
     simp only
     cases rb with
     | true =>
       go_wp2_with fail
       go_roundw
       case rel =>
        refine ⟨j + 1, ra, v3, g3, c3, by go_num, by omega, by omega, HZ.out.2.2.1, H3.out.1, HZ.out.1.trans H3.out.2.1 HZ.out.2.1, vlink HZ.out.2.1 H3.out.2.2.1 HZ.out.1.size, ?_, ?_, ?_⟩
        · have := HZ.out; have := H3.out; omega
        · have := HZ.out; have := H3.out; omega
        · have := HZ.out; omega
       case measure => simp [intOf]; omega
     | false =>
       go_wp2_with fail
       go_ret2
       have hfin : RT = (ra, false) := HRT.out.1.symm.trans (HZ.out.2.2.2.1 (by trivial))
       rw [hfin]
       refine ⟨v3, g3, c3, rfl, H3.out.1, (Evo.of_below (v := v) HH.out.2.2.1).trans (HZ.out.1.trans H3.out.2.1 HZ.out.2.1) (.inl rfl), vlink (v' := v) (.inl rfl) (vlink HZ.out.2.1 H3.out.2.2.1 HZ.out.1.size) (by omega), ?_, ?_⟩
       · have := HZ.out; have := H3.out; have := HRT.out.2; omega
       · have := HZ.out; have := H3.out; have := HRT.out.2; omega
   · have hk' : j = k + 1 := by omega
     have q1 : (k : Int) + 1 ≤ (j : Int) := by omega
     have hds : ds.take j = ds := List.take_of_length_le (by rw [HS.out.1, HS.out.2.1]; omega)
     rw [hds] at hrun hgg hcc
     have HZ := Lib.hid (And.intro hev (And.intro hvv (And.intro hrun (And.intro R (And.intro hgg hcc)))))
     clear hev hvv hrun R hgg hcc hll hds hk' own32 e1 h1 X1 hrow hlt
     go_wp2_with fail
     go_ret2
     have hfin : RT = (acc', true) := HRT.out.1.symm.trans HZ.out.2.2.1
     have hkp := HRT.out.2
     rw [hfin]
     exact ⟨v', gone', c', rfl, HZ.out.2.2.2.1, (Evo.of_below (v := v) HH.out.2.2.1).trans HZ.out.1 (.inl rfl), vlink (v' := v) (.inl rfl) HZ.out.2.1 (by omega), hkp ▸ HZ.out.2.2.2.2.1, hkp ▸ HZ.out.2.2.2.2.2⟩
end
end Go.Proofs.YtebobcbaloddaaaGreat
namespace Go.Proofs.YtebobcbaloddaaaGreat
section
set_option linter.unusedSimpArgs false
set_option linter.unusedVariables false
open Go.RowKit Go.Maps
theorem WR.pages {w0 W : World} {lo gp gd gb gt n : Nat} {ps : List (List UInt8)} {T : List Bool} {gm size : Nat} {K0 : List Fr} {c gw gl : Nat} {fr : ByteArray} {bound down : Bool} {y : Value} {gone : Nat} {acc : List En} {v : Value} (h : WR w0 lo gp gd gb gt n ps T gm size K0 c gw gl fr bound down y gone acc v W) :
 Calls Tryz.prog 43 #[.pointer (some ⟨gp, 0, none⟩)] W fun e w' => e = .returned (.int .i64 n) ∧ W = w' := by
 obtain ⟨K, D, rd, ht, h1, _⟩ := h.pool
 exact pages_any h1
set_option maxRecDepth 100000 in
set_option maxHeartbeats 8000000 in
theorem pageU_step {w0 w : World} {lo gp gd gb gt n : Nat} {ps : List (List UInt8)} {T : List Bool} {gm size : Nat} {K0 : List Fr} {c gw gl ge gh : Nat} {fr hi : ByteArray} {ends : Bool} {gone : Nat} {acc : List En} {v : Value} {deep p k : Nat} {q : List UInt8} {R : List En × Bool} (hn : n ≤ 1000) (hd : deep ≤ 12) (hq : ps[p]? = some q) (hgo : gone + 1 ≤ n) (hc : c ≤ 800000) (hp : p < 4294967296)
 (h : WR w0 lo gp gd gb gt n ps T gm size K0 c gw gl fr true false (yvU ge gh gl) gone acc v w) (he : Blk w ge 4 #[.bool ends]) (hh : Blk w gh 9 #[.string hi]) (hne : ge ≠ gm ∧ gh ≠ gm)
 (HN : rdPg q ≠ none) (HL : ∀ N es, rdPg q = some (.leaf N es) → R = runY (ysU ends hi) (vis false true fr es) acc ∧ k = 1 ∧ acc.length + es.length ≤ 900000)
 (HI : ∀ c0 prs, rdPg q = some (.inner c0 prs) → 1 ≤ k ∧ ∀ (W : World) (v : Value) (A A2 : Option Addr) (cA cB b3 : Nat), WR w0 lo gp gd gb gt n ps T gm size K0 (c + 1) gw gl fr true false (yvU ge gh gl) (gone + 1) acc v W → Blk W ge 4 #[.bool ends] → Blk W gh 9 #[.string hi] → W.ownsRow b3 30 1 (.slice A (prs.length + 1) cA) (prs.length + 1) (vN (c0 :: prs.map Prod.snd)) → Reads W W.heap.size 3 A2 prs.length (vE (prs.map Prod.fst)) →
  Calls Tryz.prog 75 #[.pointer (some ⟨gw, 0, none⟩), .agg #[.bool false, .int .u32 0, .slice A (prs.length + 1) cA, .slice A2 prs.length cB], .int .i64 (deep : Int)] W (RetW9 w0 lo gp gd gb gt n ps T gm size K0 (c + 1) gw gl fr true false (yvU ge gh gl) (gone + 1) v R (k - 1) W)) :
 Calls Tryz.prog 41 #[.pointer (some ⟨gw, 0, none⟩), .int .u32 (p : Int), .int .i64 (deep : Int)] w (RetW9 w0 lo gp gd gb gt n ps T gm size K0 c gw gl fr true false (yvU ge gh gl) gone v R k w) := by
 have G := Lib.hid (h.get hn (by omega) p (by omega))
 have k0 : w.cell? ⟨gw, 0, none⟩ = some (.pointer (some ⟨gp, 0, none⟩)) := h.wb.cell 0
 have hdI : (deep : Int) ≤ 12 := by omega
 have hdI0 : (0 : Int) ≤ (deep : Int) := by omega
 have H0 := Lib.hid (And.intro h (And.intro he (And.intro hh (And.intro hne hq))))
 have HC := Lib.hid (And.intro HN (And.intro HL HI))
 clear h he hh hne HN HL HI hq
 go_enter Tryz.func41, Tryz.ntmps41
 go_wp2_with fail
 refine G.out.mono ?_
 rintro e w1 ⟨u, r, rfl, gv, hR1, hE1⟩
 clear G k0
 rcases gv with ⟨hpn, A, cA, q', hq', rfl, rfl, own1, hcA⟩ | ⟨hpn, rfl, rfl⟩
 rotate_left
 · exfalso
   obtain ⟨K, D, rd, ht, h1, _⟩ := H0.out.1.pool
   have := lt_of_at H0.out.2.2.2.2
   have := h1.dk.hp
   omega
 have hqq : q' = q := by rw [H0.out.2.2.2.2] at hq'; injection hq' with hq'; exact hq'.symm
 subst hqq
 have hgI : (gone : Int) ≤ 1000 := by omega
 have hgI0 : (0 : Int) ≤ (gone : Int) := by omega
 have hgn : (gone : Int) + 1 ≤ (n : Int) := by omega
 have g0 : w1.cell? ⟨gw, 0, none⟩ = some (.pointer (some ⟨gp, 0, none⟩)) := hR1.wb.cell 0
 have g5 : w1.cell? ⟨gw, 5, none⟩ = some (.int .i64 (gone : Int)) := hR1.wb.cell 5
 have f5 := hR1.wb.frozen 5
 have lw := hR1.wb.lt
 have hrow := H0.out.1.row
 have e1 := hE1.blk H0.out.2.1 (by decide) (by decide) H0.out.2.2.2.1.1 (H0.out.2.1.ne_ H0.out.1.wb (by decide)) (H0.out.2.1.ne_ H0.out.1.lb (by decide)) (fun e => own_blk_ne hrow H0.out.2.1 (by decide) e)
 have h1 := hE1.blk H0.out.2.2.1 (by decide) (by decide) H0.out.2.2.2.1.2 (H0.out.2.2.1.ne_ H0.out.1.wb (by decide)) (H0.out.2.2.1.ne_ H0.out.1.lb (by decide)) (fun e => own_blk_ne hrow H0.out.2.2.1 (by decide) e)
 have hR2 : WR w0 lo gp gd gb gt n ps T gm size K0 (c + 1) gw gl fr true false (yvU ge gh gl) (gone + 1) acc v (w1.setCell ⟨gw, 5, none⟩ (.int .i64 ((gone : Int) + 1))) := hR1.setg (gone + 1)
 have hE2 := hE1.trans (Evo.of_set (w := w1) (gm := gm) (gc := gw) (gq := gl) (v := v) (p := ⟨gw, 5, none⟩) (.int .i64 ((gone : Int) + 1)) (.inl rfl)) (.inl rfl)
 have own2 : Own (w1.setCell ⟨gw, 5, none⟩ (.int .i64 ((gone : Int) + 1))) _ (.slice A 512 cA) q' := own1.stays fun g cs _ hb => Below.heap_setCell _ _ _ _ (hb.ne_ hR1.wb (by decide))
 have e2 := e1.far (p := ⟨gw, 5, none⟩) (e1.ne_ hR1.wb (by decide)) (.int .i64 ((gone : Int) + 1))
 have h2 := h1.far (p := ⟨gw, 5, none⟩) (h1.ne_ hR1.wb (by decide)) (.int .i64 ((gone : Int) + 1))
 have H2 := Lib.hid (And.intro hR2 (And.intro hE2 (And.intro own2 (And.intro e2 h2))))
 clear hR1 hE1 own1 e1 h1 hR2 hE2 own2 e2 h2 hrow hq'
 go_upto_region 5 with fail
 obtain ⟨w2, hw2⟩ : ∃ x, w1.setCell ⟨gw, 5, none⟩ (.int .i64 ((gone : Int) + 1)) = x := ⟨_, rfl⟩
 rw [hw2] at H2 ⊢
 clear hw2 f5 g0 g5
 have x0 : w2.cell? ⟨gw, 0, none⟩ = some (.pointer (some ⟨gp, 0, none⟩)) := H2.out.1.wb.cell 0
 have x5 : w2.cell? ⟨gw, 5, none⟩ = some (.int .i64 ((gone : Int) + 1)) := H2.out.1.wb.cell 5
 have PGS := Lib.hid (fun (W : World) (hb : Below w2.heap.size w2 W) => (H2.out.1.below hb).pages)
 have gd1 : decide ((n : Int) < (gone : Int) + 1) = false := decide_eq_false (by omega)
 have gd2 : decide ((12 : Int) < (deep : Int)) = false := decide_eq_false (by omega)
 have gd3 : decide (12 < deep) = false := decide_eq_false (by omega)
 go_cut [43] (fun s43 wx => s43 = .bool false ∧ Below w2.heap.size w2 wx)
 case first =>
  refine wp_region_held_drew (S := (fun W => W.cell? ⟨gw, 0, none⟩ = some (.pointer (some ⟨gp, 0, none⟩)) ∧ W.cell? ⟨gw, 5, none⟩ = some (.int .i64 ((gone : Int) + 1)))) (by kernel_rfl) (by exact ⟨x0, x5⟩) (fun hHeld => ?_)
  try dsimp only at hHeld
  refine zt 0 ?_ rfl (by kernel_rfl) (fun _ _ _ h => h) ⟨rfl, ?_⟩ hHeld ?_
  rotate_left
  focus (intro wx hSw; (try dsimp only at hSw); (try go_split_ands); go_simp; (try with_reducible rfl))
  try simp only [Act.put, za1, za2, za3, za4, za5, za6]
  refine zt 1 ?_ rfl (by kernel_rfl) (fun _ _ _ h => h) ⟨rfl, ?_⟩ hHeld ?_
  rotate_left
  focus (intro wx hSw; (try dsimp only at hSw); (try go_split_ands); go_simp; (try with_reducible rfl))
  try simp only [Act.put, za1, za2, za3, za4, za5, za6]
  refine zt 2 ?_ rfl (by kernel_rfl) (fun _ _ _ h => h) ⟨rfl, ?_⟩ hHeld ?_
  rotate_left
  focus (intro wx hSw; (try dsimp only at hSw); (try go_split_ands); go_simp; (try with_reducible rfl))
  try simp only [Act.put, za1, za2, za3, za4, za5, za6]
  refine zt 3 ?_ rfl (by kernel_rfl) (fun _ _ _ h => h) ⟨rfl, ?_⟩ hHeld ?_
  rotate_left
  focus (intro wx hSw; (try dsimp only at hSw); (try go_split_ands); go_simp; (try with_reducible rfl))
  try simp only [Act.put, za1, za2, za3, za4, za5, za6]
  refine zt 4 ?_ rfl (by kernel_rfl) (fun _ _ _ h => h) ⟨rfl, ?_⟩ hHeld ?_
  rotate_left
  focus (intro wx hSw; (try dsimp only at hSw); (try go_split_ands); go_simp; (try with_reducible rfl))
  try simp only [Act.put, za1, za2, za3, za4, za5, za6]
  refine zt 5 ?_ rfl (by kernel_rfl) (fun _ _ _ h => h) ⟨rfl, ?_⟩ hHeld ?_
  rotate_left
  focus (intro wx hSw; (try dsimp only at hSw); (try go_split_ands); go_simp; (try with_reducible rfl))
  try simp only [Act.put, za1, za2, za3, za4, za5, za6]
  refine zt 6 ?_ rfl (by kernel_rfl) (fun _ _ _ h => h) ⟨rfl, ?_⟩ hHeld ?_
  rotate_left
  focus (intro wx hSw; (try dsimp only at hSw); (try go_split_ands); go_simp; (try with_reducible rfl))
  try simp only [Act.put, za1, za2, za3, za4, za5, za6]
  refine zt 7 ?_ rfl (by kernel_rfl) (fun _ _ _ h => h) ⟨rfl, ?_⟩ hHeld ?_
  rotate_left
  focus (intro wx hSw; (try dsimp only at hSw); (try go_split_ands); go_simp; (try with_reducible rfl))
  try simp only [Act.put, za1, za2, za3, za4, za5, za6]
  refine wpAnyH_ready (rs := [8]) (by kernel_rfl) (by simp) (AllReadyH.cons rfl (fun K hK => ?_) AllReadyH.nil)
  go_simp
  refine (PGS.out _ (Below.drew (Below.refl _ _))).mono ?_; rintro e3 w3 ⟨rfl, rfl⟩
  go_wp2_with fail
  refine hK.out _ _ ?_ (fun hHeld => ?_)
  · ((try dsimp only); (try dsimp only at hHeld); exact ⟨x0, x5⟩)
  clear hK K
  try dsimp only at hHeld
  try simp only [Act.put, za1, za2, za3, za4, za5, za6]
  refine zt 9 ?_ rfl (by kernel_rfl) (fun _ _ _ h => h) ⟨rfl, ?_⟩ hHeld ?_
  rotate_left
  focus (intro wx hSw; (try dsimp only at hSw); (try go_split_ands); go_simp; (try with_reducible rfl))
  try simp only [Act.put, za1, za2, za3, za4, za5, za6]
  refine zt 10 ?_ rfl (by kernel_rfl) (fun _ _ _ h => h) ⟨rfl, ?_⟩ hHeld ?_
  rotate_left
  focus (intro wx hSw; (try dsimp only at hSw); (try go_split_ands); go_simp; (try with_reducible rfl))
  try simp only [Act.put, za1, za2, za3, za4, za5, za6]
  refine zt 11 ?_ rfl (by kernel_rfl) (fun _ _ _ h => h) ⟨rfl, ?_⟩ hHeld ?_
  rotate_left
  focus (intro wx hSw; (try dsimp only at hSw); (try go_split_ands); go_simp; (try with_reducible rfl))
  try simp only [Act.put, za1, za2, za3, za4, za5, za6]
  refine zt 12 ?_ rfl (by kernel_rfl) (fun _ _ _ h => h) ⟨rfl, ?_⟩ hHeld ?_
  rotate_left
  focus (intro wx hSw; (try dsimp only at hSw); (try go_split_ands); go_simp; (try with_reducible rfl))
  try simp only [Act.put, za1, za2, za3, za4, za5, za6]
  refine zt 13 ?_ rfl (by kernel_rfl) (fun _ _ _ h => h) ⟨rfl, ?_⟩ hHeld ?_
  rotate_left
  focus (intro wx hSw; (try dsimp only at hSw); (try go_split_ands); go_simp; (try with_reducible rfl))
  try simp only [Act.put, za1, za2, za3, za4, za5, za6]
  refine wpAnyH_done (by kernel_rfl) ?_ _
  go_wp2_with fail
  go_meet
  exact ⟨by first | rfl | simp [gd1, gd2, gd3], Below.drew (Below.refl _ _)⟩
 case rest =>
  obtain ⟨rfl, hb3⟩ := hcut
  rename World => w3
  have own3 := H2.out.2.2.1.below (hb3.mono (Nat.le_refl _))
  have OP := Lib.hid (open_any (triF A 512 cA q' w3 own3.reads.1 (by omega) hcA))
  have HTF := Lib.hid (triF A 512 cA q' w3 own3.reads.1 (by omega) hcA)
  unfold TriF at HTF
  have R3 := H2.out.1.below hb3
  have e3 := H2.out.2.2.2.1.below hb3 H2.out.2.2.2.1.lt
  have h3 := H2.out.2.2.2.2.below hb3 H2.out.2.2.2.2.lt
  have hE3 := H2.out.2.1.trans (Evo.of_below (v := v) hb3) (.inl rfl)
  have H3 := Lib.hid (And.intro R3 (And.intro e3 (And.intro h3 hE3)))
  have hz3 := hE3.size
  clear own3 R3 e3 h3 hE3 hb3 x0 x5 PGS gd1 gd2 gd3 hcA
  generalize rdPg q' = RQ at *
  rcases RQ with _ | ⟨N, es⟩ | ⟨c0, prs⟩
  · exact (HC.out.1 rfl).elim
  · obtain ⟨hR, hk1, hla⟩ := HC.out.2.1 N es rfl
    go_wp2_with fail
    refine OP.out.mono ?_
    rintro e4 w4 ⟨A4, c4, rfl, hc4, o4, hb4⟩
    have hb5 := ball hb4 (.cells #[.bool true, .int .u32 (N : Int), .slice none 0 0, .slice A4 es.length c4] 75)
    have X5 := Blk.new w4 75 #[.bool true, .int .u32 (N : Int), .slice none 0 0, .slice A4 es.length c4]
    have o5 := own_below o4 (ball (Below.refl w4.heap.size w4) (.cells #[.bool true, .int .u32 (N : Int), .slice none 0 0, .slice A4 es.length c4] 75))
    have hsep : ∀ g, (Value.slice A4 es.length c4).ownBlock = some g → v.ownBlock ≠ some g := fun g e e2 => by
     have h1 := (World.ownsRow.lt o4 g e).1
     have h2 := (World.ownsRow.lt H3.out.1.row g e2).2
     omega
    have LF := Lib.hid (leafU_any (H3.out.1.below hb5) (H3.out.2.1.below hb5 H3.out.2.1.lt) (H3.out.2.2.1.below hb5 H3.out.2.2.1.lt) H0.out.2.2.2.1 o5 hsep (by omega))
    have HE := Lib.hid (H3.out.2.2.2.trans (Evo.of_below (v := v) hb5) (.inl rfl))
    obtain ⟨w5, hw5⟩ : ∃ x, w4.alloc (.cells #[.bool true, .int .u32 (N : Int), .slice none 0 0, .slice A4 es.length c4] 75) = x := ⟨_, rfl⟩
    rw [hw5] at LF HE X5
    have y0 : w5.cell? ⟨w4.heap.size, 0, none⟩ = some (.bool true) := X5.cell 0
    have y3 : w5.cell? ⟨w4.heap.size, 3, none⟩ = some (.slice A4 es.length c4) := X5.cell 3
    have hz5 := hb5.size
    rw [hw5] at hz5
    have HRR := Lib.hid (And.intro hR hk1)
    clear o4 o5 hsep hb4 hb5 hc4 X5 OP HTF hR hk1 hla
    go_wp2_with fail
    refine LF.out.mono ?_
    rintro e6 w6 ⟨v6, rfl, R6, ev6, nv6⟩
    have H6 := Lib.hid (And.intro R6 (And.intro ev6 nv6))
    clear R6 ev6 nv6
    go_wp2_with fail
    go_ret2
    rw [HRR.out.1, HRR.out.2]
    have hz := HE.out.size
    exact ⟨v6, gone + 1, c + 1, rfl, H6.out.1, HE.out.trans H6.out.2.1 (.inl rfl), vlink (v' := v) (.inl rfl) H6.out.2.2 hz, Nat.le_refl _, Nat.le_refl _⟩
  · obtain ⟨hk1, HI⟩ := HC.out.2.2 c0 prs rfl
    have HIh := Lib.hid HI
    clear HI
    go_wp2_with fail
    refine OP.out.mono ?_
    rintro e4 w4 ⟨A3, c3, A4, c4, rfl, hc3, hc4, o3, o4, hb4⟩
    have hb5 := ball hb4 (.cells #[.bool false, .int .u32 0, .slice A3 (prs.length + 1) c3, .slice A4 prs.length c4] 75)
    have X5 := Blk.new w4 75 #[.bool false, .int .u32 0, .slice A3 (prs.length + 1) c3, .slice A4 prs.length c4]
    have o35 := own_below o3 (ball (Below.refl w4.heap.size w4) (.cells #[.bool false, .int .u32 0, .slice A3 (prs.length + 1) c3, .slice A4 prs.length c4] 75))
    have o45 := own_below o4 (ball (Below.refl w4.heap.size w4) (.cells #[.bool false, .int .u32 0, .slice A3 (prs.length + 1) c3, .slice A4 prs.length c4] 75))
    have IN := Lib.hid (HIh.out _ v A3 A4 c3 c4 _ (H3.out.1.below hb5) (H3.out.2.1.below hb5 H3.out.2.1.lt) (H3.out.2.2.1.below hb5 H3.out.2.2.1.lt) o35 (Reads.of_own o45))
    have HE := Lib.hid (H3.out.2.2.2.trans (Evo.of_below (v := v) hb5) (.inl rfl))
    obtain ⟨w5, hw5⟩ : ∃ x, w4.alloc (.cells #[.bool false, .int .u32 0, .slice A3 (prs.length + 1) c3, .slice A4 prs.length c4] 75) = x := ⟨_, rfl⟩
    rw [hw5] at IN HE X5
    have y0 : w5.cell? ⟨w4.heap.size, 0, none⟩ = some (.bool false) := X5.cell 0
    have y1 : w5.cell? ⟨w4.heap.size, 1, none⟩ = some (.int .u32 0) := X5.cell 1
    have y2 : w5.cell? ⟨w4.heap.size, 2, none⟩ = some (.slice A3 (prs.length + 1) c3) := X5.cell 2
    have y3 : w5.cell? ⟨w4.heap.size, 3, none⟩ = some (.slice A4 prs.length c4) := X5.cell 3
    clear o3 o4 o35 o45 hb4 hb5 hc3 hc4 X5 OP HTF
    go_wp2_with fail
    refine IN.out.mono ?_
    rintro e6 w6 ⟨v6, g6, c6, rfl, R6, ev6, nv6, hg6, hc6⟩
    have H6 := Lib.hid (And.intro R6 (And.intro ev6 (And.intro nv6 (And.intro hg6 hc6))))
    clear R6 ev6 nv6 hg6 hc6
    go_wp2_with fail
    go_ret2
    have hz := HE.out.size
    exact ⟨v6, g6, c6, rfl, H6.out.1, HE.out.trans H6.out.2.1 (.inl rfl), vlink (v' := v) (.inl rfl) H6.out.2.2.1 hz, by have := H6.out; omega, by have := H6.out; omega⟩
end
end Go.Proofs.YtebobcbaloddaaaGreat

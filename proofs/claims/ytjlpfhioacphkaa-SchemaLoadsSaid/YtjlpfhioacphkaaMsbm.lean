/-
  Several texts in one: Se Sf Sg Sh Si Sq.
-/
import Derived.Test.YtjlpfhioacphkaaMsbi
import Derived.Test.YtjlpfhioacphkaaMsbh
import Derived.Test.YtjlpfhioacphkaaMsaz
import Derived.Deep.RegionLaw
/-
  Slots of a heap page: a record, Get.
-/
namespace Go.Proofs.Ytjlpfhioacphkaa
section
set_option linter.unusedSimpArgs false
set_option linter.unusedVariables false
open Go.RowKit

section
variable {w : World} {A : Option Addr} {n c B : Nat} {l : List UInt8}
/-- What Get leaves of a record. -/
def RetGot (w : World) (l : List UInt8) (e : Ending) (w' : World) : Prop := ∃ A c, e = .returned (.tuple #[.slice A l.length c, .int .i64 0]) ∧ Own w' w.heap.size (.slice A l.length c) l ∧ l.length ≤ c ∧ Below w.heap.size w w'
end
end
end Go.Proofs.Ytjlpfhioacphkaa
/-
  Slots of a heap page: putTwo, Add, New, Link.
-/
namespace Go.Proofs.Ytjlpfhioacphkaa
section
set_option linter.unusedSimpArgs false
set_option linter.unusedVariables false
open Go.RowKit

/-- Bytes, and what else the block holds behind them. -/
def bT (l : List UInt8) (tl : List Value) : Array Value := (bL l ++ tl).toArray
theorem bT_set (l : List UInt8) (tl : List Value) (i : Nat) (b : UInt8) (h : i < l.length) : (bT l tl).setIfInBounds i (.int .u8 (b.toNat : Int)) = bT (l.set i b) tl := by
  unfold bT
  rw [List.setIfInBounds_toArray, List.set_append_left _ _ (by rw [bL_len]; exact h)]
  simp [bL, List.map_set]
theorem bT_at (l : List UInt8) (tl : List Value) (i : Nat) (h : i < l.length) : ∃ b : UInt8, (bT l tl)[i]? = some (.int .u8 (b.toNat : Int)) := by
  refine ⟨l[i], ?_⟩
  unfold bT
  rw [List.getElem?_toArray, List.getElem?_append_left (by rw [bL_len]; exact h)]
  exact bL_at (List.getElem?_eq_getElem h)
theorem Own.open_ {w : World} {base : Nat} {A : Option Addr} {n c : Nat} {l : List UInt8} (h : Own w base (.slice A n c) l) (hn : 0 < n) : ∃ g tl, A = some ⟨g, 0, none⟩ ∧ base ≤ g ∧ Blk w g 5 (bT l tl) ∧ (bL l ++ tl).length = c ∧ c ≤ maxLen := by
  have hl := h.reads.2
  rcases h.2 with ⟨e, _⟩ | ⟨g, cap, cur, e, hb, hh, hnc, hcm, hcs, ht⟩
  · injection e with _ e2 _; omega
  · injection e with e1 e2 e3
    subst e3
    have hcur : cur.toList = bL l ++ cur.toList.drop l.length := by
      have := List.take_append_drop l.length cur.toList
      rw [Nat.mul_one] at ht
      rw [ht] at this
      exact this.symm
    have hc : cur = bT l (cur.toList.drop l.length) := by unfold bT; rw [← hcur]
    refine ⟨g, cur.toList.drop l.length, e1, hb, ?_, ?_, hcm⟩
    · unfold Blk; rw [← hc]; exact hh
    · rw [← hcur, Array.length_toList, hcs, Nat.mul_one]
theorem Own.shut {w : World} {base g n c : Nat} {l : List UInt8} {tl : List Value} (h : Blk w g 5 (bT l tl)) (hc : (bL l ++ tl).length = c) (hm : c ≤ maxLen) (hb : base ≤ g) (hn : n = l.length) : Own w base (.slice (some ⟨g, 0, none⟩) n c) l := by
  subst hn
  have hl : l.length ≤ c := by rw [← hc, List.length_append, bL_len]; omega
  refine ⟨by rw [bL_len]; omega, .inr ⟨g, c, bT l tl, rfl, hb, h, hl, hm, ?_, ?_⟩⟩
  · unfold bT; rw [List.size_toArray, hc, Nat.mul_one]
  · unfold bT
    rw [Nat.mul_one]
    exact List.take_left' (bL_len l)
theorem cut_row (g n c i : Nat) (k : IntKind) (x : Int) (hx : x = i) (hi : i ≤ n) (hic : i < c) (W : World) : (Instr.slice 27 (.slice (some ⟨g, 0, none⟩) n c) (some (.int k x)) none none).run Try.prog W = .ok (.slice (some ⟨g, i, none⟩) (n - i) (c - i)) W := by
  subst hx
  rw [run_slice_l W 27 (some ⟨g, 0, none⟩) n c Try.sliceB k (i : Int) (by omega) (by omega), Try.elemB, Try.sizeB]
  have e : (⟨g, 0, none⟩ : Addr).add i = ⟨g, i, none⟩ := add_head g i
  have hne : ¬ c = i := by omega
  simp [sliced, Result.andThen, e, hne]
theorem splice_bT (l r : List UInt8) (tl : List Value) (k : Nat) (h : k + r.length ≤ l.length) : (splice (bL l ++ tl) k (bL r)).toArray = bT (splice l k r) tl := by
  unfold bT splice
  rw [List.take_append_of_le_length (by rw [bL_len]; omega), List.drop_append_of_le_length (by rw [bL_len, bL_len]; exact h), bL_len]
  simp [bL, List.map_take, List.map_drop]
def RetPut (w : World) (g : Nat) (l : List UInt8) (tl : List Value) (e : Ending) (w' : World) : Prop := e = .returned (.tuple #[]) ∧ Blk w' g 5 (bT l tl) ∧ (∀ B w0, B ≤ g → Below B w0 w → Below B w0 w')
section
variable {w : World} {A A2 : Option Addr} {n c B n2 c2 B2 : Nat} {l r : List UInt8}
def RetAdd (w : World) (C : Nat) (l : List UInt8) (e : Ending) (w' : World) : Prop := ∃ A c, e = .returned (.tuple #[.slice A 512 c, .int .i64 C, .int .i64 0]) ∧ Own w' w.heap.size (.slice A 512 c) l ∧ 512 ≤ c ∧ Below w.heap.size w w'
end
end
end Go.Proofs.Ytjlpfhioacphkaa
/-
  Slots of a heap page: New, Link.
-/
namespace Go.Proofs.Ytjlpfhioacphkaa
section
set_option linter.unusedSimpArgs false
set_option linter.unusedVariables false
open Go.RowKit

section
variable {ops : Array Oper} {o : Oper} {a : Act} {K : Act → World → Prop} {Q : Exit → Act → World → Prop} {E : Prop} {w : World}
/-- append(own, r...), r a slice of bytes, as one step of a region that draws. -/
theorem step_appR (hgd : o.guard = none) (sl x : Operand) (ho : o.op = .call { callee := .builtin .append, args := #[sl, x], argTypes := #[27, 27] })
    (base : Nat) (v : Value) (l r : List UInt8) (A : Option Addr) (m c B : Nat) (hs : a.eval sl = v) (hown : Own w base v l)
    (hx : a.eval x = .slice A m c) (hr : Reads w B 1 A m (bL r)) (h63 : l.length + r.length ≤ 1000000000) (hbase : base ≤ w.heap.size)
    (h : ∀ v' w', Own w' base v' (l ++ r) → Keeps base w w' → K (a.put o.dst v') w') :
    if Region.wanted o (yielded ops a.tmps) = true then Oper.wp Try.prog o a w K Q else E := by
  obtain ⟨i0, hi0, hz0, hs0, hy0⟩ := int_info8 Try.infoB
  have hm : r.length = m := by have := hr.1; rw [bL_len] at this; omega
  refine step_append_any w hgd sl x 27 ho base 5 i0 (.int .u8 0) 1 1 Try.underlying27 hi0 hz0 hs0 hy0 rfl (by decide) v l.length (bL l) hs hown B A m c (bL r) hx hr (bL_one r) (by unfold maxLen; omega) (by omega) hbase ?_
  intro v' w' h2 h3 _
  refine h v' w' ?_ ?_
  · unfold Own
    have e2 : bL (l ++ r) = bL l ++ bL r := by simp [bL]
    rw [List.length_append, hm, e2]
    exact h2
  · exact keeps_grown hown h3 hbase
end
theorem Own.first {w : World} {base g n c k : Nat} {l : List UInt8} (h : Own w base (.slice (some ⟨g, 0, none⟩) n c) l) (hk : k ≤ n) : Own w base (.slice (some ⟨g, 0, none⟩) k c) (l.take k) := by
  have hl := h.reads.2
  have hkl : (l.take k).length = k := by rw [List.length_take]; omega
  rcases h.2 with ⟨e, _⟩ | ⟨g', cap, cur, e, hb, hh, hnc, hcm, hcs, ht⟩
  · injection e with e _ _; cases e
  · injection e with e1 e2 e3
    injection e1 with e1
    injection e1 with e1
    subst e3; subst e1
    refine ⟨by rw [bL_len]; omega, .inr ⟨g, c, cur, by rw [hkl], hb, hh, by omega, hcm, hcs, ?_⟩⟩
    rw [hkl, Nat.mul_one]
    have e2 : bL (l.take k) = (bL l).take k := by simp [bL, List.map_take]
    rw [e2, ← ht, Nat.mul_one, List.take_take, Nat.min_eq_left (by omega)]
def RetNew (w : World) (l : List UInt8) (e : Ending) (w' : World) : Prop := ∃ A c, e = .returned (.slice A 512 c) ∧ Own w' w.heap.size (.slice A 512 c) l ∧ 512 ≤ c ∧ Below w.heap.size w w'
section
variable {w : World} {A : Option Addr} {n c B : Nat} {l : List UInt8}
def RetLink (w : World) (l : List UInt8) (e : Ending) (w' : World) : Prop := ∃ A c, e = .returned (.tuple #[.slice A 512 c, .int .i64 0]) ∧ Own w' w.heap.size (.slice A 512 c) l ∧ 512 ≤ c ∧ Below w.heap.size w w'
def linkL (l : List UInt8) (next : Nat) : List UInt8 := (headL 1 (hdC l) next).take 8 ++ l.drop 8
theorem headL8 (k : UInt8) (c n : Nat) : ((headL k c n).take 8).length = 8 := by
  rw [List.length_take]; unfold headL; rw [headP_len _ _ _ _ (by omega)]; rfl
end
end
end Go.Proofs.Ytjlpfhioacphkaa
/-
  Slots of a heap page: a family of rows, each in a block of its own.
-/
namespace Go.Proofs.Ytjlpfhioacphkaa
section
set_option linter.unusedSimpArgs false
set_option linter.unusedVariables false
open Go.RowKit

/-- The slices of a family of rows: each row's block and capacity. -/
def famV : List (List UInt8) → List (Nat × Nat) → List Value
  | r :: rs, f :: fs => Value.slice (some ⟨f.1, 0, none⟩) r.length f.2 :: famV rs fs
  | _, _ => []
theorem famV_len : ∀ (rs : List (List UInt8)) (fs : List (Nat × Nat)), fs.length ≤ rs.length → (famV rs fs).length = fs.length
  | [], [], _ => rfl
  | [], _ :: _, h => by simp at h
  | _ :: _, [], _ => rfl
  | _ :: rs, _ :: fs, h => by simp only [famV, List.length_cons]; rw [famV_len rs fs (by simpa using h)]
theorem famV_snoc : ∀ (rs : List (List UInt8)) (fs : List (Nat × Nat)) (r : List UInt8) (f : Nat × Nat), rs[fs.length]? = some r → famV rs (fs ++ [f]) = famV rs fs ++ [Value.slice (some ⟨f.1, 0, none⟩) r.length f.2]
  | [], _, _, _, h => by simp at h
  | x :: rs, [], r, f, h => by
    simp only [List.length_nil, List.getElem?_cons_zero, Option.some.injEq] at h
    subst h
    simp [famV]
  | x :: rs, y :: fs, r, f, h => by
    simp only [List.length_cons, List.getElem?_cons_succ] at h
    simp only [List.cons_append, famV]
    rw [famV_snoc rs fs r f h]
theorem famV_at : ∀ (rs : List (List UInt8)) (fs : List (Nat × Nat)) (i : Nat) (r : List UInt8) (f : Nat × Nat), rs[i]? = some r → fs[i]? = some f → (famV rs fs)[i]? = some (Value.slice (some ⟨f.1, 0, none⟩) r.length f.2)
  | [], _, _, _, _, h, _ => by simp at h
  | _ :: _, [], _, _, _, _, h => by simp at h
  | x :: rs, y :: fs, 0, r, f, h, h' => by
    simp only [List.getElem?_cons_zero, Option.some.injEq] at h h'
    subst h; subst h'
    rfl
  | x :: rs, y :: fs, i + 1, r, f, h, h' => by
    simp only [List.getElem?_cons_succ] at h h'
    simp only [famV, List.getElem?_cons_succ]
    exact famV_at rs fs i r f h h'
/-- The family while it is made. -/
def famP (rs : List (List UInt8)) (fs : List (Nat × Nat)) (m : Nat) : Array Value := (famV rs fs ++ List.replicate (m - fs.length) (Value.slice none 0 0)).toArray
theorem famP_zero (rs : List (List UInt8)) (m : Nat) : madeCells #[.slice none 0 0] m = famP rs [] m := by
  unfold famP
  have h : famV rs [] = [] := by cases rs <;> rfl
  rw [h]
  apply Array.ext
  · simp [size_madeCells]
  · intro j h1 h2
    simp [madeCells, Nat.mod_one]
theorem famP_at (rs : List (List UInt8)) (fs : List (Nat × Nat)) (m : Nat) (h : fs.length < m) (hr : fs.length ≤ rs.length) : (famP rs fs m)[fs.length]? = some (.slice none 0 0) := by
  unfold famP
  rw [List.getElem?_toArray, List.getElem?_append_right (by rw [famV_len _ _ hr]; exact Nat.le_refl _), famV_len _ _ hr, List.getElem?_replicate, if_pos (by omega)]
theorem famP_set (rs : List (List UInt8)) (fs : List (Nat × Nat)) (m : Nat) (f : Nat × Nat) (r : List UInt8) (h : fs.length < m) (hr : rs[fs.length]? = some r) : (famP rs fs m).setIfInBounds fs.length (Value.slice (some ⟨f.1, 0, none⟩) r.length f.2) = famP rs (fs ++ [f]) m := by
  unfold famP
  have hl := lt_of_at hr
  have e : m - fs.length = (m - (fs.length + 1)) + 1 := by omega
  rw [List.setIfInBounds_toArray, List.set_append_right _ _ (by rw [famV_len _ _ (by omega)]; exact Nat.le_refl _), famV_len _ _ (by omega), Nat.sub_self, e, List.replicate_succ, List.set_cons_zero, famV_snoc rs fs r f hr, List.length_append, List.append_assoc]
  rfl
theorem famP_end (rs : List (List UInt8)) (fs : List (Nat × Nat)) : famP rs fs fs.length = (famV rs fs).toArray := by simp [famP]
/-- Each row of a family lies in a block of its own, later ones in later blocks. -/
structure Fam (w : World) (base : Nat) (rs : List (List UInt8)) (fs : List (Nat × Nat)) : Prop where
  own : ∀ (i : Nat) (f : Nat × Nat) (r : List UInt8), fs[i]? = some f → rs[i]? = some r → Own w base (.slice (some ⟨f.1, 0, none⟩) r.length f.2) r
  cap : ∀ (i : Nat) (f : Nat × Nat) (r : List UInt8), fs[i]? = some f → rs[i]? = some r → r.length ≤ f.2
  lt : ∀ (i j : Nat) (f f' : Nat × Nat), i < j → fs[i]? = some f → fs[j]? = some f' → f.1 < f'.1
theorem Fam.nil (w : World) (base : Nat) (rs : List (List UInt8)) : Fam w base rs [] := ⟨by simp, by simp, by simp⟩
theorem Fam.below {w w' : World} {base : Nat} {rs : List (List UInt8)} {fs : List (Nat × Nat)} (h : Fam w base rs fs) (hb : Below w.heap.size w w') : Fam w' base rs fs :=
  ⟨fun i f r hf hr => (h.own i f r hf hr).below hb, h.cap, h.lt⟩
theorem Fam.less {w : World} {base base' : Nat} {rs : List (List UInt8)} {fs : List (Nat × Nat)} (h : Fam w base rs fs) (hb : base' ≤ base) : Fam w base' rs fs :=
  ⟨fun i f r hf hr => (h.own i f r hf hr).less hb, h.cap, h.lt⟩
theorem Own.block_lt {w : World} {base g n c : Nat} {l : List UInt8} (h : Own w base (.slice (some ⟨g, 0, none⟩) n c) l) : base ≤ g ∧ g < w.heap.size := World.ownsRow.lt h g rfl
theorem Fam.snoc {w w' : World} {base B : Nat} {rs : List (List UInt8)} {fs : List (Nat × Nat)} {r : List UInt8} {g c : Nat} (h : Fam w base rs fs) (hb : Below w.heap.size w w') (hr : rs[fs.length]? = some r)
    (ho : Own w' B (.slice (some ⟨g, 0, none⟩) r.length c) r) (hc : r.length ≤ c) (h1 : w.heap.size ≤ B) (h2 : base ≤ w.heap.size) : Fam w' base rs (fs ++ [(g, c)]) := by
  have hlt := lt_of_at hr
  refine ⟨fun i f x hf hx => ?_, fun i f x hf hx => ?_, fun i j f f' hij hf hf' => ?_⟩
  · rcases Nat.lt_or_ge i fs.length with hi | hi
    · rw [List.getElem?_append_left hi] at hf
      exact (h.own i f x hf hx).below hb
    · have hi' := lt_of_at hf
      have : i = fs.length := by simp at hi'; omega
      subst this
      rw [List.getElem?_append_right (Nat.le_refl _), Nat.sub_self] at hf
      injection hf with hf
      subst hf
      rw [hr] at hx
      injection hx with hx
      subst hx
      exact ho.less (by omega)
  · rcases Nat.lt_or_ge i fs.length with hi | hi
    · rw [List.getElem?_append_left hi] at hf
      exact h.cap i f x hf hx
    · have hi' := lt_of_at hf
      have : i = fs.length := by simp at hi'; omega
      subst this
      rw [List.getElem?_append_right (Nat.le_refl _), Nat.sub_self] at hf
      injection hf with hf
      subst hf
      rw [hr] at hx
      injection hx with hx
      subst hx
      exact hc
  · have hj' := lt_of_at hf'
    have hi : i < fs.length := by simp at hj'; omega
    rw [List.getElem?_append_left hi] at hf
    rcases Nat.lt_or_ge j fs.length with hj | hj
    · rw [List.getElem?_append_left hj] at hf'
      exact h.lt i j f f' hij hf hf'
    · have : j = fs.length := by simp at hj'; omega
      subst this
      rw [List.getElem?_append_right (Nat.le_refl _), Nat.sub_self] at hf'
      injection hf' with hf'
      subst hf'
      have hi2 : rs[i]? = some (rs[i]'(by omega)) := List.getElem?_eq_getElem (by omega)
      have := (h.own i f _ hf hi2).block_lt
      have := ho.block_lt
      show f.1 < g
      omega
theorem Own.same_ {w w' : World} {base g n c : Nat} {l : List UInt8} (h : Own w base (.slice (some ⟨g, 0, none⟩) n c) l) (e : w'.heap[g]? = w.heap[g]?) : Own w' base (.slice (some ⟨g, 0, none⟩) n c) l := by
  refine ⟨h.1, ?_⟩
  rcases h.2 with hn | ⟨g', cap, cur, hv, hb, hgg, rest⟩
  · exact .inl hn
  · refine .inr ⟨g', cap, cur, hv, hb, ?_, rest⟩
    injection hv with hv
    injection hv with hv
    injection hv with hv
    subst hv
    rw [e]; exact hgg
theorem Fam.store {w : World} {base g : Nat} {rs : List (List UInt8)} {fs : List (Nat × Nat)} {t : TypeId} {cs : Array Value} (h : Fam w base rs fs) (hb : Blk w g t cs) (ht : 5 ≠ t) (j : Nat) (u : Value) : Fam (w.setCell ⟨g, j, none⟩ u) base rs fs :=
  ⟨fun i f r hf hr => (h.own i f r hf hr).same_ (Below.heap_setCell w _ u f.1 (fun e => own_blk_ne (h.own i f r hf hr) hb ht (by show some f.1 = some g; rw [e]))), h.cap, h.lt⟩
end
end Go.Proofs.Ytjlpfhioacphkaa
/-
  Slots of a heap page: All.
-/
namespace Go.Proofs.Ytjlpfhioacphkaa
section
set_option linter.unusedSimpArgs false
set_option linter.unusedVariables false
open Go.RowKit

theorem Try.infoBs : (Try.prog.info? 27).map (fun i => (i.zero, i.size, i.bytes)) = some (some (.slice none 0 0), 1, 24) := by kernel_rfl
/-- The records of a page. -/
def recs (l : List UInt8) : List (List UInt8) := (List.range (hdC l)).map (recK l)
theorem recs_len (l : List UInt8) : (recs l).length = hdC l := by simp [recs]
theorem recs_at (l : List UInt8) {k : Nat} (h : k < hdC l) : (recs l)[k]? = some (recK l k) := by
  unfold recs
  rw [List.getElem?_map, List.getElem?_range h]; rfl
def RetAll (w : World) (rs : List (List UInt8)) (m : Nat) (e : Ending) (w' : World) : Prop := ∃ g fs, e = .returned (.tuple #[.slice (some ⟨g, 0, none⟩) m m, .int .i64 0]) ∧ fs.length = m ∧ Blk w' g 27 (famV rs fs).toArray ∧ Fam w' w.heap.size rs fs ∧ w.heap.size ≤ g ∧ Below w.heap.size w w'
section
variable {w : World} {A : Option Addr} {n c B : Nat} {l : List UInt8}
end
end
end Go.Proofs.Ytjlpfhioacphkaa
/-
  Slots of a heap page: the reference's Read.
-/
namespace Go.Proofs.Ytjlpfhioacphkaa
section
set_option linter.unusedSimpArgs false
set_option linter.unusedVariables false
set_option linter.unusedSimpArgs false
set_option linter.unusedVariables false
open Go.RowKit

theorem two_val (l : List UInt8) (i : Nat) (h : i + 1 < l.length) : beVal ((l.drop i).take 2) = two l i := by
  have e : (l.drop i).take 2 = [l[i]'(by omega), l[i + 1]'h] := by
    rw [List.drop_eq_getElem_cons (by omega), List.drop_eq_getElem_cons h]; rfl
  rw [e]
  unfold two beVal
  rw [List.getD_eq_getElem?_getD, List.getD_eq_getElem?_getD, List.getElem?_eq_getElem (by omega), List.getElem?_eq_getElem h]
  simp
theorem endK_mono (l : List UInt8) (i e : Nat) (h : endK l i = some e) : ∀ j e', i ≤ j → endK l j = some e' → e' ≤ e := by
  intro j
  induction j with
  | zero => intro e' hj he; have : i = 0 := by omega
            subst this; rw [h] at he; injection he with he; omega
  | succ j ih =>
    intro e' hj he
    by_cases hij : i = j + 1
    · subst hij; rw [h] at he; injection he with he; omega
    · rw [endK] at he
      rcases hk : endK l j with _ | f
      · rw [hk] at he; cases he
      · rw [hk, Option.bind_some] at he
        have := ih f (by omega) hk
        split at he
        · rename_i hc
          injection he with he; omega
        · cases he
def RetRd (w : World) (l : List UInt8) (e : Ending) (w' : World) : Prop :=
  (isPage l = false ∧ e = .returned (.tuple #[.agg #[.int .u32 0, .slice none 0 0], .bool false]) ∧ Below w.heap.size w w') ∨
  (isPage l = true ∧ ∃ A c, e = .returned (.tuple #[.agg #[.int .u32 (hdN l : Nat), .slice A (hdC l) c], .bool true]) ∧ Reads w' w'.heap.size 1 A (hdC l) (sL (recs l)) ∧ hdC l ≤ c ∧ (∀ ad, A = some ad → w.heap.size ≤ ad.block) ∧ Below w.heap.size w w')
theorem page_false {l : List UInt8} (h : ∀ e, hdOk l = true → hdK l = 1 → endK l (hdC l) = some e → 8 + 4 * hdC l ≤ 512 → 8 + 4 * hdC l ≤ e → False) : isPage l = false := by
  rcases hp : isPage l with _ | _
  · rfl
  · exfalso
    obtain ⟨e1, e2, e3, e4, e5⟩ := page_end hp
    unfold isPage at hp
    simp only [Bool.and_eq_true, beq_iff_eq, decide_eq_true_eq] at hp
    exact h _ hp.1 hp.2.1 e1 hp.2.2.1 e3
end
end Go.Proofs.Ytjlpfhioacphkaa

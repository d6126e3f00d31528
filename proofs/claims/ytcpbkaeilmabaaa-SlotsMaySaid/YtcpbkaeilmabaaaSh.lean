/-
  Slots of a heap page: a family of rows, each in a block of its own.
-/
import Derived.Test.YtcpbkaeilmabaaaSg
namespace Go.Proofs.Ytcpbkaeilmabaaa
open Go.RowKit

/-- The slices of a family of rows: each row's block and capacity. -/
def famV : List (List UInt8) → List (Nat × Nat) → List Value
  | r :: rs, f :: fs => Value.slice (some ⟨f.1, 0, none⟩) r.length f.2 :: famV rs fs
  | _, _ => []
theorem famV_len : ∀ (rs : List (List UInt8)) (fs : List (Nat × Nat)), fs.length ≤ rs.length → (famV rs fs).length = fs.length
  | [], [], _ => rfl
  | [], _ :: _, h => by simp at h
  | _ :: _, [], _ => rfl
  | _ :: rs, _ :: fs, h => by simp only [famV, List.length_cons]; rw [famV_len rs fs (by simpa using h)]
theorem famV_snoc : ∀ (rs : List (List UInt8)) (fs : List (Nat × Nat)) (r : List UInt8) (f : Nat × Nat), rs[fs.length]? = some r → famV rs (fs ++ [f]) = famV rs fs ++ [Value.slice (some ⟨f.1, 0, none⟩) r.length f.2]
  | [], _, _, _, h => by simp at h
  | x :: rs, [], r, f, h => by
    simp only [List.length_nil, List.getElem?_cons_zero, Option.some.injEq] at h
    subst h
    simp [famV]
  | x :: rs, y :: fs, r, f, h => by
    simp only [List.length_cons, List.getElem?_cons_succ] at h
    simp only [List.cons_append, famV]
    rw [famV_snoc rs fs r f h]
theorem famV_at : ∀ (rs : List (List UInt8)) (fs : List (Nat × Nat)) (i : Nat) (r : List UInt8) (f : Nat × Nat), rs[i]? = some r → fs[i]? = some f → (famV rs fs)[i]? = some (Value.slice (some ⟨f.1, 0, none⟩) r.length f.2)
  | [], _, _, _, _, h, _ => by simp at h
  | _ :: _, [], _, _, _, _, h => by simp at h
  | x :: rs, y :: fs, 0, r, f, h, h' => by
    simp only [List.getElem?_cons_zero, Option.some.injEq] at h h'
    subst h; subst h'
    rfl
  | x :: rs, y :: fs, i + 1, r, f, h, h' => by
    simp only [List.getElem?_cons_succ] at h h'
    simp only [famV, List.getElem?_cons_succ]
    exact famV_at rs fs i r f h h'
/-- The family while it is made. -/
def famP (rs : List (List UInt8)) (fs : List (Nat × Nat)) (m : Nat) : Array Value := (famV rs fs ++ List.replicate (m - fs.length) (Value.slice none 0 0)).toArray
theorem famP_zero (rs : List (List UInt8)) (m : Nat) : madeCells #[.slice none 0 0] m = famP rs [] m := by
  unfold famP
  have h : famV rs [] = [] := by cases rs <;> rfl
  rw [h]
  apply Array.ext
  · simp [size_madeCells]
  · intro j h1 h2
    simp [madeCells, Nat.mod_one]
theorem famP_at (rs : List (List UInt8)) (fs : List (Nat × Nat)) (m : Nat) (h : fs.length < m) (hr : fs.length ≤ rs.length) : (famP rs fs m)[fs.length]? = some (.slice none 0 0) := by
  unfold famP
  rw [List.getElem?_toArray, List.getElem?_append_right (by rw [famV_len _ _ hr]; exact Nat.le_refl _), famV_len _ _ hr, List.getElem?_replicate, if_pos (by omega)]
theorem famP_set (rs : List (List UInt8)) (fs : List (Nat × Nat)) (m : Nat) (f : Nat × Nat) (r : List UInt8) (h : fs.length < m) (hr : rs[fs.length]? = some r) : (famP rs fs m).setIfInBounds fs.length (Value.slice (some ⟨f.1, 0, none⟩) r.length f.2) = famP rs (fs ++ [f]) m := by
  unfold famP
  have hl := lt_of_at hr
  have e : m - fs.length = (m - (fs.length + 1)) + 1 := by omega
  rw [List.setIfInBounds_toArray, List.set_append_right _ _ (by rw [famV_len _ _ (by omega)]; exact Nat.le_refl _), famV_len _ _ (by omega), Nat.sub_self, e, List.replicate_succ, List.set_cons_zero, famV_snoc rs fs r f hr, List.length_append, List.append_assoc]
  rfl
theorem famP_end (rs : List (List UInt8)) (fs : List (Nat × Nat)) : famP rs fs fs.length = (famV rs fs).toArray := by simp [famP]
/-- Each row of a family lies in a block of its own, later ones in later blocks. -/
structure Fam (w : World) (base : Nat) (rs : List (List UInt8)) (fs : List (Nat × Nat)) : Prop where
  own : ∀ (i : Nat) (f : Nat × Nat) (r : List UInt8), fs[i]? = some f → rs[i]? = some r → Own w base (.slice (some ⟨f.1, 0, none⟩) r.length f.2) r
  cap : ∀ (i : Nat) (f : Nat × Nat) (r : List UInt8), fs[i]? = some f → rs[i]? = some r → r.length ≤ f.2
  lt : ∀ (i j : Nat) (f f' : Nat × Nat), i < j → fs[i]? = some f → fs[j]? = some f' → f.1 < f'.1
theorem Fam.nil (w : World) (base : Nat) (rs : List (List UInt8)) : Fam w base rs [] := ⟨by simp, by simp, by simp⟩
theorem Fam.below {w w' : World} {base : Nat} {rs : List (List UInt8)} {fs : List (Nat × Nat)} (h : Fam w base rs fs) (hb : Below w.heap.size w w') : Fam w' base rs fs :=
  ⟨fun i f r hf hr => (h.own i f r hf hr).below hb, h.cap, h.lt⟩
theorem Fam.less {w : World} {base base' : Nat} {rs : List (List UInt8)} {fs : List (Nat × Nat)} (h : Fam w base rs fs) (hb : base' ≤ base) : Fam w base' rs fs :=
  ⟨fun i f r hf hr => (h.own i f r hf hr).less hb, h.cap, h.lt⟩
theorem Own.block_lt {w : World} {base g n c : Nat} {l : List UInt8} (h : Own w base (.slice (some ⟨g, 0, none⟩) n c) l) : base ≤ g ∧ g < w.heap.size := World.ownsRow.lt h g rfl
theorem Fam.snoc {w w' : World} {base B : Nat} {rs : List (List UInt8)} {fs : List (Nat × Nat)} {r : List UInt8} {g c : Nat} (h : Fam w base rs fs) (hb : Below w.heap.size w w') (hr : rs[fs.length]? = some r)
    (ho : Own w' B (.slice (some ⟨g, 0, none⟩) r.length c) r) (hc : r.length ≤ c) (h1 : w.heap.size ≤ B) (h2 : base ≤ w.heap.size) : Fam w' base rs (fs ++ [(g, c)]) := by
  have hlt := lt_of_at hr
  refine ⟨fun i f x hf hx => ?_, fun i f x hf hx => ?_, fun i j f f' hij hf hf' => ?_⟩
  · rcases Nat.lt_or_ge i fs.length with hi | hi
    · rw [List.getElem?_append_left hi] at hf
      exact (h.own i f x hf hx).below hb
    · have hi' := lt_of_at hf
      have : i = fs.length := by simp at hi'; omega
      subst this
      rw [List.getElem?_append_right (Nat.le_refl _), Nat.sub_self] at hf
      injection hf with hf
      subst hf
      rw [hr] at hx
      injection hx with hx
      subst hx
      exact ho.less (by omega)
  · rcases Nat.lt_or_ge i fs.length with hi | hi
    · rw [List.getElem?_append_left hi] at hf
      exact h.cap i f x hf hx
    · have hi' := lt_of_at hf
      have : i = fs.length := by simp at hi'; omega
      subst this
      rw [List.getElem?_append_right (Nat.le_refl _), Nat.sub_self] at hf
      injection hf with hf
      subst hf
      rw [hr] at hx
      injection hx with hx
      subst hx
      exact hc
  · have hj' := lt_of_at hf'
    have hi : i < fs.length := by simp at hj'; omega
    rw [List.getElem?_append_left hi] at hf
    rcases Nat.lt_or_ge j fs.length with hj | hj
    · rw [List.getElem?_append_left hj] at hf'
      exact h.lt i j f f' hij hf hf'
    · have : j = fs.length := by simp at hj'; omega
      subst this
      rw [List.getElem?_append_right (Nat.le_refl _), Nat.sub_self] at hf'
      injection hf' with hf'
      subst hf'
      have hi2 : rs[i]? = some (rs[i]'(by omega)) := List.getElem?_eq_getElem (by omega)
      have := (h.own i f _ hf hi2).block_lt
      have := ho.block_lt
      show f.1 < g
      omega
theorem Own.same_ {w w' : World} {base g n c : Nat} {l : List UInt8} (h : Own w base (.slice (some ⟨g, 0, none⟩) n c) l) (e : w'.heap[g]? = w.heap[g]?) : Own w' base (.slice (some ⟨g, 0, none⟩) n c) l := by
  refine ⟨h.1, ?_⟩
  rcases h.2 with hn | ⟨g', cap, cur, hv, hb, hgg, rest⟩
  · exact .inl hn
  · refine .inr ⟨g', cap, cur, hv, hb, ?_, rest⟩
    injection hv with hv
    injection hv with hv
    injection hv with hv
    subst hv
    rw [e]; exact hgg
theorem Fam.store {w : World} {base g : Nat} {rs : List (List UInt8)} {fs : List (Nat × Nat)} {t : TypeId} {cs : Array Value} (h : Fam w base rs fs) (hb : Blk w g t cs) (ht : 5 ≠ t) (j : Nat) (u : Value) : Fam (w.setCell ⟨g, j, none⟩ u) base rs fs :=
  ⟨fun i f r hf hr => (h.own i f r hf hr).same_ (Below.heap_setCell w _ u f.1 (fun e => own_blk_ne (h.own i f r hf hr) hb ht (by show some f.1 = some g; rw [e]))), h.cap, h.lt⟩
end Go.Proofs.Ytcpbkaeilmabaaa

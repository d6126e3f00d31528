
/-
  A builder of the call's own; the program's Plan.
-/
import Derived.Test.YtblpflobpffjnaaDoorWj
import Derived.Shelf.Strings.BuilderK
set_option linter.unusedSimpArgs false
set_option linter.unusedVariables false
namespace Go.Proofs.YtblpflobpffjnaaDoor
open Go.RowKit

def Bd30 (w : World) (b : Nat) (l : List UInt8) : Prop := Lib.IsBuilderF 74 5 b b (Lib.byteCells l) w
theorem Bd30.lt {w : World} {b : Nat} {l : List UInt8} (h : Bd30 w b l) : b < w.heap.size := h.elim (fun x => x.lt) (fun x => x.lt)
theorem Bd30.below0 {w w' : World} {b : Nat} {l : List UInt8} (h : Bd30 w b l) (hb : Below w.heap.size w w') : Bd30 w' b l := by
  have key : ∀ p, Lib.BuilderAtF 74 5 b b p (Lib.byteCells l) w → Lib.BuilderAtF 74 5 b b p (Lib.byteCells l) w' := by
    intro p h
    have hlt := h.lt
    obtain ⟨hB, v, hh, hown, hne⟩ := h
    exact ⟨hB, v, (hb.block b hlt).trans hh, hown.kept (row := none) ⟨hb.os, hb.tape, hb.output, hb.size, fun i hi _ => hb.block i hi⟩ (by cases h' : v.ownBlock <;> simp), hne⟩
  exact h.elim (fun x => .inl (key _ x)) (fun x => .inr (key _ x))
theorem Bd30.new (w : World) {b : Nat} (hg : b = w.heap.size) : Bd30 (w.alloc (.cells #[.pointer none, .slice none 0 0] 74)) b [] := by
  subst hg
  exact Lib.IsBuilderF.of (Lib.fresh_isBuilder _ _ w)
theorem cells_app (l s : List UInt8) : Lib.byteCells l ++ Lib.strCells (str s) = Lib.byteCells (l ++ s) := by
  unfold Lib.byteCells Lib.strCells
  rw [str_data, List.map_append]
theorem bws_any (b : Nat) (l s : List UInt8) (w : World) (h : Bd30 w b l) (hl : l.length + s.length ≤ 140737488355328) :
    Calls Tryd.prog 19 #[.pointer (some ⟨b, 0, none⟩), .string (str s)] w fun e w' => (∃ v, e = .returned v) ∧ Bd30 w' b (l ++ s) ∧ Below b w w' ∧ Lib.OthersKept 5 (some b) w w' := by
  have hlt := h.lt
  refine (Any.Builder_WriteString_k (ρ := Tryd.lays156_ren) { Tryd.lays156 with } Tryd.Builder_Extra_156 b b (Lib.byteCells l) (str s) w h (by rw [Lib.byteCells_length, str_size]; exact hl) (Nat.le_of_lt hlt)).mono ?_
  rintro e w' ⟨rfl, h1, h2, h3⟩
  refine ⟨⟨_, rfl⟩, .inr ?_, h2, h3⟩
  rw [cells_app] at h1
  exact h1
theorem bstr_any (b : Nat) (l : List UInt8) (w : World) (h : Bd30 w b l) :
    Calls Tryd.prog 22 #[.pointer (some ⟨b, 0, none⟩)] w fun e w' => e = .returned (.string (str l)) ∧ Below b w w' := by
  refine (Tryd.Builder_String_any_k b b l w h (Nat.le_of_lt h.lt)).mono ?_
  rintro e w' ⟨rfl, h1, h2, h3⟩
  exact ⟨rfl, h2⟩
/-- The same for a string at all. -/
theorem bws_str (b : Nat) (l : List UInt8) (s : ByteArray) (w : World) (h : Bd30 w b l) (hl : l.length + s.size ≤ 140737488355328) :
    Calls Tryd.prog 19 #[.pointer (some ⟨b, 0, none⟩), .string s] w fun e w' => (∃ v, e = .returned v) ∧ Bd30 w' b (l ++ s.data.toList) ∧ Below b w w' ∧ Lib.OthersKept 5 (some b) w w' := by
  have := bws_any b l s.data.toList w h (by rw [len_size]; exact hl)
  rwa [str_of] at this

theorem join_bound (M : Nat) : ∀ xs : List (List UInt8), (∀ x ∈ xs, x.length ≤ M) → (Lib.join xs [32]).length ≤ xs.length * (M + 1)
  | [], _ => by simp [Lib.join_nil]
  | x :: r, h => by
    have h1 := h x (by simp)
    have key : ∀ r : List (List UInt8), (∀ x ∈ r, x.length ≤ M) → (Lib.joinTail [32] r).length ≤ r.length * (M + 1) := by
      intro r
      induction r with
      | nil => intro _; simp [Lib.joinTail]
      | cons y t ih =>
        intro hy
        have h2 := ih fun z hz => hy z (by simp [hz])
        have h3 := hy y (by simp)
        have e : Lib.joinTail [32] (y :: t) = 32 :: y ++ Lib.joinTail [32] t := by simp [Lib.joinTail]
        rw [e, List.length_append, List.length_cons, List.length_cons, Nat.add_mul, Nat.one_mul]
        omega
    have h2 := key r fun z hz => h z (by simp [hz])
    rw [Lib.join_cons, List.length_append, List.length_cons, Nat.add_mul, Nat.one_mul]
    omega
def stepT (tbs : List Tb) (ks : List Int) (ixs : List Ix) (x : Sp) : List UInt8 := Lib.join (stepW tbs ks ixs x) [32] ++ [10]
def planT (tbs : List Tb) (ks : List Int) (ixs : List Ix) (sps : List Sp) (srt : Bool) : List UInt8 := sps.flatMap (stepT tbs ks ixs) ++ (if srt then [115, 111, 114, 116, 10] else [])
theorem stepW_two (tbs : List Tb) (ks : List Int) (ixs : List Ix) (x : Sp) : 2 ≤ (stepW tbs ks ixs x).length ∧ (stepW tbs ks ixs x).length ≤ 9 := by
  have := pthL_len (ixs := ixs) x
  unfold stepW
  simp only [List.length_append, List.length_cons, List.length_nil]
  split <;> split <;> simp only [List.length_cons, List.length_nil] <;> omega
theorem nat_len (n : Nat) (h : n ≤ maxLen) : (Lib.itoa (n : Int)).length ≤ 21 := itoa_len ⟨by omega, by unfold maxLen at h; omega⟩
theorem stepW_each {tbs : List Tb} {ks : List Int} {ixs : List Ix} {x : Sp} (ht : ∀ t ∈ tbs, t.nm.size ≤ 1048576) (hi : ∀ t ∈ ixs, t.nm.size ≤ 1048576) (hx : x.ok) : ∀ s ∈ stepW tbs ks ixs x, s.length ≤ 1048700 := by
  intro s hs
  have a1 := mthL_len x.m
  have a2 := tabL_len ht ks x.tb
  have a3 := itoa_len hx.tb
  have a4 := idxL_len hi x.ix
  have a5 := itoa_len hx.jn
  have a6 := idxL_len hi x.pi
  have a7 := idxL_len hi x.po
  have a8 := nat_len x.rn hx.rn
  have a9 := nat_len x.an hx.an
  unfold stepW at hs
  rcases List.mem_append.1 hs with hs | hs
  · rcases List.mem_append.1 hs with hs | hs
    · simp only [List.mem_cons, List.not_mem_nil, or_false] at hs
      rcases hs with rfl | rfl
      · omega
      · rw [List.length_append, List.length_cons]; omega
    · split at hs
      · rw [List.mem_singleton.1 hs]; omega
      · unfold pthL at hs
        split at hs
        · rw [List.mem_singleton.1 hs]; decide
        · split at hs
          · simp only [List.mem_cons, List.not_mem_nil, or_false] at hs
            rcases hs with rfl | rfl | rfl
            · decide
            · omega
            · omega
          · split at hs
            · simp only [List.mem_cons, List.not_mem_nil, or_false] at hs
              rcases hs with rfl | rfl | rfl
              · decide
              · omega
              · omega
            · split at hs
              · simp only [List.mem_cons, List.not_mem_nil, or_false] at hs
                rcases hs with rfl | rfl | rfl | rfl | rfl
                · decide
                · omega
                · omega
                · omega
                · omega
              · rw [List.mem_singleton.1 hs]; decide
  · split at hs
    · simp only [List.mem_cons, List.not_mem_nil, or_false] at hs
      rcases hs with rfl | rfl
      · decide
      · omega
    · cases hs
theorem join30_bd {tbs : List Tb} {ks : List Int} {ixs : List Ix} {x : Sp} (ht : ∀ t ∈ tbs, t.nm.size ≤ 1048576) (hi : ∀ t ∈ ixs, t.nm.size ≤ 1048576) (hx : x.ok) : (Lib.join (stepW tbs ks ixs x) [32]).length ≤ 9439000 := by
  have h1 := join_bound 1048700 _ (stepW_each (ks := ks) ht hi hx)
  have h2 := (stepW_two tbs ks ixs x).2
  have h3 : (stepW tbs ks ixs x).length * (1048700 + 1) ≤ 9 * (1048700 + 1) := Nat.mul_le_mul_right _ h2
  omega
end Go.Proofs.YtblpflobpffjnaaDoor

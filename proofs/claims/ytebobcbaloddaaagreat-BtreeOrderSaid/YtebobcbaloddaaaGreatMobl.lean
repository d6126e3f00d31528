/-
  B0.
-/
import Derived.Test.YtebobcbaloddaaaGreatMobd
import Derived.Test.YtebobcbaloddaaaGreatMobh
namespace Go.Proofs.YtebobcbaloddaaaGreat
section
set_option linter.unusedSimpArgs false
set_option linter.unusedVariables false
open Go.RowKit Go.Maps
theorem ownR_stays {w w' : World} {base : Nat} {e : TypeId} {size n : Nat} {v : Value} {xs : List Value} (h : w.ownsRow base e size v n xs) (he : ∀ g cs, v.ownBlock = some g → Blk w g e cs → w'.heap[g]? = w.heap[g]?) : w'.ownsRow base e size v n xs := by
 refine ⟨h.1, ?_⟩
 rcases h.2 with hn | ⟨g, cap, cur, rfl, hb, hgg, rest⟩
 · exact .inl hn
 · refine .inr ⟨g, cap, cur, rfl, hb, ?_, rest⟩
   rw [he g cur rfl hgg]
   exact hgg
theorem blk_own_ne {w w' : World} {base : Nat} {e : TypeId} {size n : Nat} {v : Value} {xs : List Value} {g : Nat} {t : TypeId} {cs : Array Value} (h : w.ownsRow base e size v n xs) (hb : Blk w g t cs) (hg : w.grownBy w' v.ownBlock) (hne : e ≠ t) : Blk w' g t cs :=
 hb.grown hg fun e' => own_blk_ne h hb hne e'.symm
theorem own_cap {w : World} {base n c size : Nat} {e : TypeId} {A : Option Addr} {xs : List Value} (h : w.ownsRow base e size (.slice A n c) n xs) : c ≤ maxLen := by
 rcases h.2 with ⟨h1, _⟩ | ⟨g, cap, cs, h1, _, _, _, h2, _⟩
 · injection h1 with _ _ h3
   rw [h3]
   simp
 · injection h1 with _ _ h3
   rw [h3]
   exact h2
def freeI : List Bool → Option Nat
 | [] => none
 | false :: _ => some 0
 | true :: t => (freeI t).map (· + 1)
theorem freeI_cases : ∀ T : List Bool, (∃ i, freeI T = some i ∧ T[i]? = some false ∧ ∀ j : Nat, j < i → T[j]? = some true) ∨ (freeI T = none ∧ ∀ j : Nat, j < T.length → T[j]? = some true)
 | [] => .inr ⟨rfl, fun j h => absurd h (by simp)⟩
 | false :: t => .inl ⟨0, rfl, rfl, fun j h => absurd h (by omega)⟩
 | true :: t => by
   rcases freeI_cases t with ⟨i, h1, h2, h3⟩ | ⟨h1, h2⟩
   · refine .inl ⟨i + 1, by simp [freeI, h1], by simpa using h2, fun j hj => ?_⟩
     cases j with
     | zero => rfl
     | succ j => simpa using h3 j (by omega)
   · refine .inr ⟨by simp [freeI, h1], fun j hj => ?_⟩
     cases j with
     | zero => rfl
     | succ j => simpa using h2 j (by simpa using hj)
structure Lf (w w' : World) (gb gt : Nat) : Prop where
 below : ∀ B, B ≤ gb → B ≤ gt → B ≤ w.heap.size → Below B w w'
 heap : ∀ g, g < w.heap.size → g ≠ gb → g ≠ gt → w'.heap[g]? = w.heap[g]?
 size : w.heap.size ≤ w'.heap.size
section
variable {w w' w'' : World} {g gb gt n : Nat} {ps ps' : List (List UInt8)} {T T' : List Bool}
theorem Lf.refl (w : World) (gb gt : Nat) : Lf w w gb gt := ⟨fun _ _ _ _ => Below.refl _ _, fun _ _ _ _ => rfl, Nat.le_refl _⟩
theorem Lf.trans (h : Lf w w' gb gt) (k : Lf w' w'' gb gt) : Lf w w'' gb gt :=
 ⟨fun B h1 h2 h3 => (h.below B h1 h2 h3).trans (k.below B h1 h2 (Nat.le_trans h3 h.size)), fun g' h1 h2 h3 => (k.heap g' (Nat.lt_of_lt_of_le h1 h.size) h2 h3).trans (h.heap g' h1 h2 h3), Nat.le_trans h.size k.size⟩
theorem Lf.of_left (h : Left w w' g gb gt n ps T) : Lf w w' gb gt := ⟨fun B h1 h2 _ => h.2.1 B h1 h2, fun g' _ h1 h2 => h.2.2.1 g' h1 h2, by rw [h.2.2.2]; exact Nat.le_refl _⟩
theorem Lf.of_below (h : Below w.heap.size w w') : Lf w w' gb gt := ⟨fun B _ _ h3 => h.mono h3, fun g' h1 _ _ => h.block g' h1, h.size⟩
theorem Lf.own (h : Lf w w' gb gt) {base : Nat} {e : TypeId} {size k : Nat} {v : Value} {xs : List Value} (ho : w.ownsRow base e size v k xs) (h1 : gb < base) (h2 : gt < base) : w'.ownsRow base e size v k xs :=
 ownR_stays ho fun g' cs e1 hb => h.heap g' hb.lt (by have := (World.ownsRow.lt ho g' e1).1; omega) (by have := (World.ownsRow.lt ho g' e1).1; omega)
theorem DP.lower (h : DP w g gb gt n ps T) (hb : Below w.heap.size w w') : DP w' g gb gt n ps T := h.below hb h.lts.1 h.lts.2.1 h.lts.2.2
end
theorem Lf.grown {w0 w w' : World} {gb gt base size k : Nat} {e : TypeId} {v : Value} {xs : List Value} (h : Lf w0 w gb gt) (ho : w.ownsRow base e size v k xs) (hb : w0.heap.size ≤ base) (hg : w.grownBy w' v.ownBlock) : Lf w0 w' gb gt := by
 have hne : ∀ g', g' < w0.heap.size → some g' ≠ v.ownBlock := fun g' h1 e => by have := (World.ownsRow.lt ho g' e.symm).1; omega
 exact ⟨fun B h1 h2 h3 => (h.below B h1 h2 h3).grown hg (Nat.le_trans h3 h.size) (fun k e => by have := (World.ownsRow.lt ho k e).1; omega), fun g' h1 h2 h3 => (hg.block g' (Nat.lt_of_lt_of_le h1 h.size) (hne g' h1)).trans (h.heap g' h1 h2 h3), Nat.le_trans h.size hg.size⟩
theorem DP.push {w w' : World} {g gb gt n : Nat} {ps : List (List UInt8)} {T : List Bool} {o : Obj} (h : DP w g gb gt n ps T) {e : TypeId} {base size k : Nat} {v : Value} {xs : List Value} (ho : w.ownsRow base e size v k xs) (hg : (w.alloc o).grownBy w' v.ownBlock)
 (h1 : e ≠ 61) (h2 : e ≠ 5) (h3 : e ≠ 4) : DP w' g gb gt n ps T := by
 have ha := h.lower (ball (Below.refl w.heap.size w) o)
 have ho' := ho.alloc o
 exact ha.same_ ((blk_own_ne ho' ha.dk.d hg h1).trans ha.dk.d.symm) ((blk_own_ne ho' ha.dk.b hg h2).trans ha.dk.b.symm) ((blk_own_ne ho' ha.dk.t hg h3).trans ha.dk.t.symm)
theorem Lf.push {w0 w w' : World} {gb gt base size k : Nat} {e : TypeId} {v : Value} {xs : List Value} {o : Obj} (h : Lf w0 w gb gt) (ho : w.ownsRow base e size v k xs) (hb : w0.heap.size ≤ base) (hg : (w.alloc o).grownBy w' v.ownBlock) : Lf w0 w' gb gt :=
 (h.trans (Lf.of_below (ball (Below.refl w.heap.size w) o))).grown (ho.alloc o) hb hg
end
end Go.Proofs.YtebobcbaloddaaaGreat

/-
  Several texts in one: Hd2 He2 Hf Hs.
-/
import Derived.Test.YtjlpfhioacphkaaMsbt
import Derived.Test.YtjlpfhioacphkaaMsbr
import Derived.Test.YtjlpfhioacphkaaMsbm
import Derived.Test.YtjlpfhioacphkaaMsbo
/-
  Heap: what a scan has in hand: the pool, the list of items; the closure that takes an item more.
-/
namespace Go.Proofs.Ytjlpfhioacphkaa
section
set_option linter.unusedSimpArgs false
set_option linter.unusedVariables false
open Go.RowKit Go.Maps

/-- An item of the program's: the record's block and capacity. -/
structure PIt where
  it : It
  a : Nat
  c : Nat
def pV (l : List PIt) : List Value := l.flatMap fun x => [.int .u32 x.it.p, .int .u16 x.it.s, .slice (some ⟨x.a, 0, none⟩) x.it.r.length x.c]
theorem pV_snoc (l : List PIt) (x : PIt) : pV (l ++ [x]) = pV l ++ [.int .u32 x.it.p, .int .u16 x.it.s, .slice (some ⟨x.a, 0, none⟩) x.it.r.length x.c] := by simp [pV]
theorem pV_len (l : List PIt) : (pV l).length = l.length * 3 := flat_len _ 3 l (by simp)
def LOk (w : World) (base : Nat) (l : List PIt) : Prop := ∀ x ∈ l, Own w base (.slice (some ⟨x.a, 0, none⟩) x.it.r.length x.c) x.it.r ∧ x.it.r.length ≤ x.c
theorem ownR_stays {w w' : World} {base : Nat} {e : TypeId} {size n : Nat} {v : Value} {xs : List Value} (h : w.ownsRow base e size v n xs) (he : ∀ g cs, v.ownBlock = some g → Blk w g e cs → w'.heap[g]? = w.heap[g]?) : w'.ownsRow base e size v n xs := by
  refine ⟨h.1, ?_⟩
  rcases h.2 with hn | ⟨g, cap, cur, rfl, hb, hgg, rest⟩
  · exact .inl hn
  · refine .inr ⟨g, cap, cur, rfl, hb, ?_, rest⟩
    rw [he g cur rfl hgg]
    exact hgg
theorem ownR_blk {w : World} {base : Nat} {e : TypeId} {size n g : Nat} {v : Value} {xs : List Value} (h : w.ownsRow base e size v n xs) (hv : v.ownBlock = some g) : ∃ cs, Blk w g e cs := by
  rcases h.2 with ⟨rfl, _⟩ | ⟨g', cap, cur, rfl, hb, hgg, rest⟩
  · cases hv
  · injection hv with hv
    subst hv
    exact ⟨cur, hgg⟩
theorem own_cap {w : World} {base n c size : Nat} {e : TypeId} {A : Option Addr} {xs : List Value} (h : w.ownsRow base e size (.slice A n c) n xs) : c ≤ maxLen := by
  rcases h.2 with ⟨h1, _⟩ | ⟨g, cap, cs, h1, _, _, _, h2, _⟩
  · injection h1 with _ _ h3
    rw [h3]
    simp
  · injection h1 with _ _ h3
    rw [h3]
    exact h2
section
variable {w0 W W' : World} {lo gp gd gb gt n : Nat} {ps : List (List UInt8)} {T : List Bool} {gm size : Nat} {K0 : List Fr} {m gl : Nat} {acc : List PIt}
end
end
end Go.Proofs.Ytjlpfhioacphkaa
/-
  Heap: the program's Walk with Scan's closure; Scan.
-/
namespace Go.Proofs.Ytjlpfhioacphkaa
section
set_option linter.unusedSimpArgs false
set_option linter.unusedVariables false
open Go.RowKit Go.Maps

section
variable {w0 W W' : World} {lo gp gd gb gt n : Nat} {ps : List (List UInt8)} {T : List Bool} {gm size : Nat} {K0 : List Fr} {m gl : Nat} {acc : List PIt}
/-- What Scan leaves. -/
def RetSc (w : World) (lo gp gd gb gt n : Nat) (ps : List (List UInt8)) (T : List Bool) (gm size : Nat) (K : List Fr) (m : Nat) (R : List It × Nat × Int) (e : Ending) (w' : World) : Prop :=
  ∃ acc A c K' D' rd' ht', e = .returned (.tuple #[.slice A R.1.length c, .int .i64 R.2.1, .int .i64 R.2.2]) ∧ R.1 = acc.map PIt.it ∧ R.1.length ≤ maxLen ∧ Reads w' w'.heap.size 3 A R.1.length (pV acc) ∧ LOk w' w.heap.size acc ∧
    PS w' lo gp gd gb gt n ps T gm size K' D' rd' ht' ∧ rd' ≤ m ∧ ht' ≤ m ∧ (∀ (j : Nat) (f : Fr), K'[j]? = some f → (∃ i : Nat, K[i]? = some f) ∨ w.heap.size ≤ f.g) ∧ Turn w w' lo gp gm K
end
end
end Go.Proofs.Ytjlpfhioacphkaa
/-
  Heap: the program's Fetch; the example of the chapter.
-/
namespace Go.Proofs.Ytjlpfhioacphkaa
section
set_option linter.unusedSimpArgs false
set_option linter.unusedVariables false
open Go.RowKit Go.Maps

section
variable {W : World} {lo gp gd gb gt n : Nat} {ps : List (List UInt8)} {T : List Bool} {gm size : Nat} {m : Nat}
/-- What Fetch leaves. -/
def RetFc (w : World) (lo gp gd gb gt n : Nat) (ps : List (List UInt8)) (T : List Bool) (gm size : Nat) (K : List Fr) (m : Nat) (R : List UInt8 × Int) (e : Ending) (w' : World) : Prop :=
  ∃ A c K' D' rd' ht', e = .returned (.tuple #[.slice A R.1.length c, .int .i64 R.2]) ∧ Reads w' w'.heap.size 1 A R.1.length (bL R.1) ∧ R.1.length ≤ c ∧
    PS w' lo gp gd gb gt n ps T gm size K' D' rd' ht' ∧ rd' ≤ m ∧ ht' ≤ m ∧ (∀ (j : Nat) (f : Fr), K'[j]? = some f → (∃ i : Nat, K[i]? = some f) ∨ w.heap.size ≤ f.g) ∧ Turn w w' lo gp gm K
end
end
end Go.Proofs.Ytjlpfhioacphkaa
/-
  Heap: what a fill comes to, plain; what stays but a disk's blocks; the program's follow.
-/
namespace Go.Proofs.Ytjlpfhioacphkaa
section
set_option linter.unusedSimpArgs false
set_option linter.unusedVariables false
open Go.RowKit Go.Maps

/-- The first free page. -/
def freeI : List Bool → Option Nat
  | [] => none
  | false :: _ => some 0
  | true :: t => (freeI t).map (· + 1)
theorem freeI_cases : ∀ T : List Bool, (∃ i, freeI T = some i ∧ T[i]? = some false ∧ ∀ j : Nat, j < i → T[j]? = some true) ∨ (freeI T = none ∧ ∀ j : Nat, j < T.length → T[j]? = some true)
  | [] => .inr ⟨rfl, fun j h => absurd h (by simp)⟩
  | false :: t => .inl ⟨0, rfl, rfl, fun j h => absurd h (by omega)⟩
  | true :: t => by
    rcases freeI_cases t with ⟨i, h1, h2, h3⟩ | ⟨h1, h2⟩
    · refine .inl ⟨i + 1, by simp [freeI, h1], by simpa using h2, fun j hj => ?_⟩
      cases j with
      | zero => rfl
      | succ j => simpa using h3 j (by omega)
    · refine .inr ⟨by simp [freeI, h1], fun j hj => ?_⟩
      cases j with
      | zero => rfl
      | succ j => simpa using h2 j (by simpa using hj)
abbrev Fil := List (List UInt8) × List Bool × Option (List (Nat × Nat))
def roomL (rs : List (List UInt8)) : Nat := 508 - (8 + 4 * rs.length + tot rs)
def fillL : List (List UInt8) → List (List UInt8) → List Bool → Nat → List (List UInt8) → List (Nat × Nat) → Fil
  | [], ps, T, p, rs, rids => (ps.set p (layL 0 rs), T.set p true, some rids)
  | r :: t, ps, T, p, rs, rids =>
    if r.length ≤ roomL rs then fillL t ps T p (rs ++ [r]) (rids ++ [(p, rs.length)])
    else match freeI T with
      | none => (ps.set p (layL 0 rs), T.set p true, none)
      | some i => fillL t (ps.set p (layL i rs)) ((T.set i true).set p true) i [r] (rids ++ [(i, 0)])
theorem fillL_fit {r : List UInt8} {t ps : List (List UInt8)} {T : List Bool} {p : Nat} {rs : List (List UInt8)} {rids : List (Nat × Nat)} (h : r.length ≤ roomL rs) : fillL (r :: t) ps T p rs rids = fillL t ps T p (rs ++ [r]) (rids ++ [(p, rs.length)]) := by rw [fillL, if_pos h]
theorem fillL_none {r : List UInt8} {t ps : List (List UInt8)} {T : List Bool} {p : Nat} {rs : List (List UInt8)} {rids : List (Nat × Nat)} (h : ¬ r.length ≤ roomL rs) (hf : freeI T = none) : fillL (r :: t) ps T p rs rids = (ps.set p (layL 0 rs), T.set p true, none) := by rw [fillL, if_neg h, hf]
theorem fillL_some {r : List UInt8} {t ps : List (List UInt8)} {T : List Bool} {p i : Nat} {rs : List (List UInt8)} {rids : List (Nat × Nat)} (h : ¬ r.length ≤ roomL rs) (hf : freeI T = some i) : fillL (r :: t) ps T p rs rids = fillL t (ps.set p (layL i rs)) ((T.set i true).set p true) i [r] (rids ++ [(i, 0)]) := by rw [fillL, if_neg h, hf]

/-- All stays but the bytes and marks of a disk. -/
structure Lf (w w' : World) (gb gt : Nat) : Prop where
  below : ∀ B, B ≤ gb → B ≤ gt → B ≤ w.heap.size → Below B w w'
  heap : ∀ g, g < w.heap.size → g ≠ gb → g ≠ gt → w'.heap[g]? = w.heap[g]?
  size : w.heap.size ≤ w'.heap.size
section
variable {w w' w'' : World} {g gb gt n : Nat} {ps ps' : List (List UInt8)} {T T' : List Bool}
theorem Lf.refl (w : World) (gb gt : Nat) : Lf w w gb gt := ⟨fun _ _ _ _ => Below.refl _ _, fun _ _ _ _ => rfl, Nat.le_refl _⟩
theorem Lf.trans (h : Lf w w' gb gt) (k : Lf w' w'' gb gt) : Lf w w'' gb gt :=
  ⟨fun B h1 h2 h3 => (h.below B h1 h2 h3).trans (k.below B h1 h2 (Nat.le_trans h3 h.size)), fun g' h1 h2 h3 => (k.heap g' (Nat.lt_of_lt_of_le h1 h.size) h2 h3).trans (h.heap g' h1 h2 h3), Nat.le_trans h.size k.size⟩
theorem Lf.of_left (h : Left w w' g gb gt n ps T) : Lf w w' gb gt := ⟨fun B h1 h2 _ => h.2.1 B h1 h2, fun g' _ h1 h2 => h.2.2.1 g' h1 h2, by rw [h.2.2.2]; exact Nat.le_refl _⟩
theorem Lf.of_below (h : Below w.heap.size w w') : Lf w w' gb gt := ⟨fun B _ _ h3 => h.mono h3, fun g' h1 _ _ => h.block g' h1, h.size⟩
theorem Lf.own (h : Lf w w' gb gt) {base : Nat} {e : TypeId} {size k : Nat} {v : Value} {xs : List Value} (ho : w.ownsRow base e size v k xs) (h1 : gb < base) (h2 : gt < base) : w'.ownsRow base e size v k xs :=
  ownR_stays ho fun g' cs e1 hb => h.heap g' hb.lt (by have := (World.ownsRow.lt ho g' e1).1; omega) (by have := (World.ownsRow.lt ho g' e1).1; omega)
theorem DP.lower (h : DP w g gb gt n ps T) (hb : Below w.heap.size w w') : DP w' g gb gt n ps T := h.below hb h.lts.1 h.lts.2.1 h.lts.2.2
end
/-- What follow leaves. -/
def RetFo (w : World) (g gb gt n : Nat) (ps : List (List UInt8)) (T : List Bool) (p : Nat) (rs : List (List UInt8)) (e : Ending) (w' : World) : Prop :=
  Lf w w' gb gt ∧ ((∃ i, freeI T = some i ∧ i < n ∧ e = .returned (.tuple #[.int .u32 i, .int .i64 0]) ∧ DP w' g gb gt n (ps.set p (layL i rs)) ((T.set i true).set p true)) ∨
   (freeI T = none ∧ e = .returned (.tuple #[.int .u32 0, .int .i64 7]) ∧ DP w' g gb gt n (ps.set p (layL 0 rs)) (T.set p true)))
end
end Go.Proofs.Ytjlpfhioacphkaa

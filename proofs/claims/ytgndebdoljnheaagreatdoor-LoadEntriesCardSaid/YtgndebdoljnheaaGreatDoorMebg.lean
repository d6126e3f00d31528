/-
  Several texts in one: M8 Ma5.
-/
import Derived.Test.YtgndebdoljnheaaGreatDoorMeau
import Derived.Test.YtgndebdoljnheaaGreatDoorMead
import Derived.Test.YtgndebdoljnheaaGreatDoorMear
/-
  Rows of values as they come in; the two rows of numbers that Analyze fills.
-/
namespace Go.Proofs.YtgndebdoljnheaaGreatDoor
section
set_option linter.unusedSimpArgs false
set_option linter.unusedVariables false
open Go.RowKit

/-- A row as it lies in memory. -/
structure Rv where
  A : Option Addr
  n : Nat
  c : Nat
  l : List Vl
def vRv (l : List Rv) : List Value := l.map fun r => .slice r.A r.n r.c
theorem vRv_len (l : List Rv) : (vRv l).length = l.length := by simp [vRv]
theorem Reads.rv_ {w : World} {B : Nat} {A : Option Addr} {n k : Nat} {l : List Rv} (hr : Reads w B 1 A n (vRv l)) (hk : k < n) :
    ∃ ad r, A = some ad ∧ ad.block < B ∧ l[k]? = some r ∧ w.cell? (ad.add k) = some (.slice r.A r.n r.c) := by
  obtain ⟨ad, u, hA, hb, hu, hc⟩ := hr.at_ hk
  simp only [vRv, List.getElem?_map, Option.map_eq_some_iff] at hu
  obtain ⟨r, hr, rfl⟩ := hu
  exact ⟨ad, r, hA, hb, hr, hc⟩
structure RowsIn (w : World) (RA : Option Addr) (rn : Nat) (rws : List Rv) : Prop where
  r : Reads w w.heap.size 1 RA rn (vRv rws)
  e : ∀ x ∈ rws, Reads w w.heap.size 3 x.A x.n (vV x.l) ∧ x.n ≤ maxLen ∧ ∀ v ∈ x.l, v.ok
  n : rn ≤ maxLen
theorem RowsIn.below {w w' : World} {RA : Option Addr} {rn : Nat} {rws : List Rv} (h : RowsIn w RA rn rws) (hb : Below w.heap.size w w') : RowsIn w' RA rn rws :=
  ⟨(h.r.below hb).more hb.size, fun x hx => ⟨((h.e x hx).1.below hb).more hb.size, (h.e x hx).2⟩, h.n⟩
/-- What of a row counts in a column. -/
def pick13 (i : Nat) (r : Rv) : List Vl := match r.l[i]? with
  | some v => if v.k = 0 then [] else [v]
  | none => []
def col13 (i : Nat) (rws : List Rv) : List Vl := rws.flatMap (pick13 i)
theorem col13_take {i k : Nat} {rws : List Rv} {r : Rv} (h : rws[k]? = some r) : col13 i (rws.take (k + 1)) = col13 i (rws.take k) ++ pick13 i r := by
  unfold col13
  rw [List.take_add_one, h, List.flatMap_append]
  simp
theorem pick13_len (i : Nat) (r : Rv) : (pick13 i r).length ≤ 1 := by
  unfold pick13
  split
  · split <;> simp
  · simp
theorem col13_len (i : Nat) : ∀ rws : List Rv, (col13 i rws).length ≤ rws.length
  | [] => by simp [col13]
  | r :: t => by
    have h := col13_len i t
    have h2 := pick13_len i r
    unfold col13 at *
    rw [List.flatMap_cons, List.length_append, List.length_cons]
    omega
def intsA (l : List Int) : Array Value := (vI64 l).toArray
theorem intsA_set (l : List Int) (i : Nat) (x : Int) : (intsA l).setIfInBounds i (.int .i64 x) = intsA (l.set i x) := by
  unfold intsA vI64
  rw [List.setIfInBounds_toArray, List.map_set]
/-- The two rows of numbers. -/
structure An (w : World) (D N : Nat) (ds ns : List Int) (W : World) : Prop where
  bel : Below w.heap.size w W
  d : Blk W D 3 (intsA ds)
  n : Blk W N 3 (intsA ns)
  ne : D ≠ N
  hd : w.heap.size ≤ D
  hn : w.heap.size ≤ N
section
variable {w W W' : World} {D N : Nat} {ds ns : List Int}
theorem An.size (h : An w D N ds ns W) : w.heap.size ≤ W.heap.size := h.bel.size
theorem An.below (h : An w D N ds ns W) (hb : Below W.heap.size W W') : An w D N ds ns W' :=
  ⟨bto0 h.bel hb, h.d.below hb h.d.lt, h.n.below hb h.n.lt, h.ne, h.hd, h.hn⟩
theorem An.pushed (h : An w D N ds ns W) {size k base : Nat} {e : TypeId} {v : Value} {xs : List Value} {o : Obj} (ho : W.ownsRow base e size v k xs) (hne : e ≠ 3) (hbase : w.heap.size ≤ base) (hg : (W.alloc o).grownBy W' v.ownBlock) : An w D N ds ns W' := by
  have hb : ∀ g t cs, Blk W g t cs → t = 3 → Blk W' g t cs := fun g t cs hb ht => (hb.alloc o).grown hg (fun e' => own_blk_ne ho hb (by rw [ht]; exact hne) e'.symm)
  exact ⟨(h.bel.alloc h.size o).grown hg (by simp; have := h.size; omega) (fun g e => by have := (World.ownsRow.lt ho g e).1; omega), hb _ _ _ h.d rfl, hb _ _ _ h.n rfl, h.ne, h.hd, h.hn⟩
theorem An.grown (h : An w D N ds ns W) {size k base : Nat} {e : TypeId} {v : Value} {xs : List Value} (ho : W.ownsRow base e size v k xs) (hne : e ≠ 3) (hbase : w.heap.size ≤ base) (hg : W.grownBy W' v.ownBlock) : An w D N ds ns W' := by
  have hb : ∀ g t cs, Blk W g t cs → t = 3 → Blk W' g t cs := fun g t cs hb ht => hb.grown hg (fun e' => own_blk_ne ho hb (by rw [ht]; exact hne) e'.symm)
  exact ⟨h.bel.grown hg h.size (fun g e => by have := (World.ownsRow.lt ho g e).1; omega), hb _ _ _ h.d rfl, hb _ _ _ h.n rfl, h.ne, h.hd, h.hn⟩
theorem An.setD (h : An w D N ds ns W) (i : Nat) (x : Int) : An w D N (ds.set i x) ns (W.setCell ⟨D, i, none⟩ (.int .i64 x)) :=
  ⟨h.bel.setCell h.hd _, by rw [← intsA_set]; exact h.d.set_ i _, h.n.far (fun e => h.ne e.symm) _, h.ne, h.hd, h.hn⟩
theorem An.setN (h : An w D N ds ns W) (i : Nat) (x : Int) : An w D N ds (ns.set i x) (W.setCell ⟨N, i, none⟩ (.int .i64 x)) :=
  ⟨h.bel.setCell h.hn _, h.d.far h.ne _, by rw [← intsA_set]; exact h.n.set_ i _, h.ne, h.hd, h.hn⟩
end
theorem own_far13 {w : World} {base : Nat} {e : TypeId} {size n : Nat} {v : Value} {xs : List Value} {g : Nat} {t : TypeId} {cs : Array Value} (h : w.ownsRow base e size v n xs) (hb : Blk w g t cs) (hne : e ≠ t) (j : Nat) (u : Value) : (w.setCell ⟨g, j, none⟩ u).ownsRow base e size v n xs := by
  refine h.kept (row := some g) ⟨rfl, rfl, rfl, by simp [World.setCell], fun k hk hkg => Below.heap_setCell w _ u k (fun e' => hkg (by rw [e'])) ⟩ (.inr fun e' => own_blk_ne h hb hne e')
theorem Reps.perm {e : Vl → Vl → Bool} {l l' r : List Vl} (h : Reps e l r) (hp : l.Perm l') : Reps e l' r :=
  ⟨h.apart, fun x hx => hp.mem_iff.1 (h.mem x hx), fun x hx => h.all x (hp.mem_iff.2 hx)⟩
theorem intsA_at {l : List Int} {i : Nat} {x : Int} (h : l[i]? = some x) : (intsA l)[i]? = some (.int .i64 x) := by simp [intsA, vI64, h]
theorem reads_ints13 {w : World} {g n : Nat} {l : List Int} (h : Blk w g 3 (intsA l)) (hn : l.length = n) : Reads w w.heap.size 1 (some ⟨g, 0, none⟩) n (vI64 l) := by
  refine ⟨by rw [vI64_len, hn, Nat.mul_one], fun _ => ⟨_, rfl, h.lt, fun j u hj => ?_⟩⟩
  rw [add_head, h.cell j]
  simpa [intsA] using hj
/-- What the numbers of a column are. -/
def DN13 (rws : List Rv) (ds ns : List Int) (i : Nat) : Prop :=
  ns[i]? = some ((rws.length : Int) - ((col13 i rws).length : Int)) ∧ ∃ r, Reps eqV (col13 i rws) r ∧ ds[i]? = some (r.length : Int)
theorem DN13.other {rws : List Rv} {ds ns : List Int} {i j : Nat} (h : DN13 rws ds ns i) (hne : j ≠ i) (x y : Int) : DN13 rws (ds.set j x) (ns.set j y) i := by
  obtain ⟨h1, r, h2, h3⟩ := h
  exact ⟨by rw [List.getElem?_set_ne hne]; exact h1, r, h2, by rw [List.getElem?_set_ne hne]; exact h3⟩
def RetAn (w : World) (K : Nat) (rws : List Rv) (e : Ending) (w' : World) : Prop :=
  ∃ (A A2 : Option Addr) (c c2 : Nat) (ds ns : List Int), e = .returned (.tuple #[.slice A K c, .slice A2 K c2]) ∧ Reads w' w'.heap.size 1 A K (vI64 ds) ∧ Reads w' w'.heap.size 1 A2 K (vI64 ns) ∧ Below w.heap.size w w' ∧ ∀ i, i < K → DN13 rws ds ns i
theorem Tryz.infoV13 : (Tryz.prog.info? 35).map (fun i => (i.zero, i.size, i.bytes)) = some (some (.agg #[.int .u8 0, .int .i64 0, .string ⟨#[]⟩]), 3, 32) := by kernel_rfl
theorem Tryz.infoI13 : (Tryz.prog.info? 3).map (fun i => (i.zero, i.size, i.bytes)) = some (some (.int .i64 0), 1, 8) := by kernel_rfl
theorem mkI13 (n : Nat) (hn : n ≤ 100000) (W : World) : (Instr.makeSlice 30 (.int .i64 (n : Int)) (.int .i64 (n : Int))).run Tryz.prog W = .ok (.slice (some ⟨W.heap.size, 0, none⟩) n n) (W.alloc (.cells (madeCells #[.int .i64 0] n) 3)) := by
  obtain ⟨i, hi, hz, hs, hy⟩ := int_info8 Tryz.infoI13
  have h := run_make (P := Tryz.prog) W 30 3 i (.int .i64 0) Tryz.underlying30 hi hz .i64 .i64 (n : Int) (n : Int) (by omega) (by omega) (by rw [hy]; omega) (by omega)
  rw [Int.toNat_natCast, hs, Nat.mul_one] at h
  exact h
theorem made_ints (n : Nat) : madeCells #[.int .i64 0] n = intsA (List.replicate n 0) := by
  unfold intsA vI64
  apply Array.ext
  · simp [madeCells]
  · intro i h1 h2
    simp [madeCells, Nat.mod_one]
end
end Go.Proofs.YtgndebdoljnheaaGreatDoor
/-
  Rows as they come in.
-/
namespace Go.Proofs.YtgndebdoljnheaaGreatDoor
section
set_option linter.unusedSimpArgs false
set_option linter.unusedVariables false
open Go.RowKit Go.ChangeShapes Go.WideShapes Go.Deep

theorem ex_of18 {α : Type} (f : α → List Value) (Q : α → Prop) : ∀ (L : List (List Value)), (∀ c ∈ L, ∃ v : α, c = f v ∧ Q v) → ∃ l : List α, L = l.map f ∧ ∀ v ∈ l, Q v := by
  intro L
  induction L with
  | nil => intro _; exact ⟨[], rfl, by simp⟩
  | cons c r ih =>
    intro hL
    obtain ⟨v, rfl, hv⟩ := hL c (by simp)
    obtain ⟨l, rfl, hl⟩ := ih fun c hc => hL c (by simp [hc])
    exact ⟨v :: l, rfl, by intro u hu; rcases List.mem_cons.1 hu with rfl | hu; exact hv; exact hl u hu⟩
theorem flat_one18 {α : Type} (f : α → Value) : ∀ l : List α, (l.map (fun v => [f v])).flatMap id = l.map f
  | [] => rfl
  | a :: r => by rw [List.map_cons, List.flatMap_cons, flat_one18 f r]; rfl
section
variable {H : Type} {enc : TypeId × Value → H} {P : Program} {w : World} {base : Nat} {spare : Nat → Bool} {held : Bool}
structure RwTy (P : Program) (t : TypeId) where
  fv : Array Field
  tr : TypeId
  tv : TypeId
  tk : TypeId
  ti : TypeId
  ts : TypeId
  hrs : P.underlying t = some (.slice tr)
  hr : P.underlying tr = some (.slice tv) ∧ P.cellsOf tr = 1
  hv : P.underlying tv = some (.struct fv)
  hone : oneCellFields P fv = true
  hvC : P.cellsOf tv = 3
  hvf : fv.toList.map (·.type) = [tk, ti, ts]
  hk : P.underlying tk = some (.int .u8)
  hi : P.underlying ti = some (.int .i64)
  hst : P.underlying ts = some .string
theorem trod_rows {t : TypeId} (T : RwTy P t) {n : Nat} {cs : List Value} {y : DataW H × List MemPlace} (h : DataW.trod enc P w base spare held n t cs = some y) :
    ∃ (A : Option Addr) (len cap : Nat) (l : List Rv), cs = [.slice A len cap] ∧ len ≤ cap ∧ cap ≤ maxLen ∧ RowsIn w A len l := by
  obtain ⟨A1, n1, k1, L1, ha1, p1, q1, z1, h4_1, h5_1⟩ := trod_sl (fun c => ∃ r : Rv, c = [.slice r.A r.n r.c] ∧ Reads w w.heap.size 3 r.A r.n (vV r.l) ∧ r.n ≤ maxLen ∧ ∀ v ∈ r.l, v.ok) T.hrs T.hr.2 (by omega) (fun m c y hc _ => by
    obtain ⟨A, len, cap, l, hx, a1, a2, a3, a4, a5⟩ := trod_vals T.hr.1 T.hv T.hone T.hvC T.hvf T.hk T.hi T.hst hc
    exact ⟨⟨A, len, cap, l⟩, hx, a5, Nat.le_trans a1 a2, a4⟩) h
  obtain ⟨l1, rfl, hl1⟩ := ex_of18 (fun r : Rv => [Value.slice r.A r.n r.c]) (fun r => Reads w w.heap.size 3 r.A r.n (vV r.l) ∧ r.n ≤ maxLen ∧ ∀ v ∈ r.l, v.ok) L1 fun c hc => (h4_1 c hc).1
  have hfl1 : (l1.map (fun r : Rv => [Value.slice r.A r.n r.c])).flatMap id = vRv l1 := flat_one18 _ l1
  rw [hfl1] at h5_1
  exact ⟨A1, n1, k1, l1, ha1, p1, q1, h5_1, hl1, Nat.le_trans p1 q1⟩
end
def Tryz.rwTy : RwTy Tryz.prog 22 := ⟨_, 33, 35, 5, 2, 9, Tryz.underlying22, ⟨Tryz.underlying33, by kernel_rfl⟩, Tryz.underlying35, by kernel_rfl, by kernel_rfl, rfl, Tryz.underlying5, Tryz.underlying2, Tryz.underlying9⟩
end
end Go.Proofs.YtgndebdoljnheaaGreatDoor

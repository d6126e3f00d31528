/-
  Split: the state of both Splits (plain): its parts so far, and what changes them.
-/
import Derived.Test.YtbmfojeklhbocaaTk
set_option linter.unusedSimpArgs false
set_option linter.unusedVariables false
namespace Go.Proofs.Ytbmfojeklhbocaa
open Go.RowKit

theorem and_u32n (a b : Nat) (ha : a < 4294967296) (hb : b < 4294967296) : bits .and .u32 (a : Int) (b : Int) = ((a &&& b : Nat) : Int) := by
  show IntKind.u32.wrap ((BitVec.ofInt 32 (a : Int) &&& BitVec.ofInt 32 (b : Int)).toNat : Int) = _
  have e1 : (BitVec.ofInt 32 (a : Int)).toNat = a := by rw [BitVec.toNat_ofInt]; omega
  have e2 : (BitVec.ofInt 32 (b : Int)).toNat = b := by rw [BitVec.toNat_ofInt]; omega
  rw [BitVec.toNat_and, e1, e2, IntKind.wrap_u32]
  have h : a &&& b ≤ a := Nat.and_le_left
  show ((a &&& b : Nat) : Int) % 4294967296 = _
  omega
theorem own_farX {w : World} {base : Nat} {e : TypeId} {size n : Nat} {v : Value} {xs : List Value} {g : Nat} {t : TypeId} {cs : Array Value} (h : w.ownsRow base e size v n xs) (hb : Blk w g t cs) (hne : e ≠ t) (j : Nat) (u : Value) : (w.setCell ⟨g, j, none⟩ u).ownsRow base e size v n xs :=
  h.kept (row := some g) ⟨rfl, rfl, rfl, by simp [World.setCell], fun k hk hkg => Below.heap_setCell w _ u k (fun e' => hkg (by rw [e'])) ⟩ (.inr fun e' => own_blk_ne h hb hne e')
/-- Parts that nothing was said of. -/
def zP : Array Value := #[.slice none 0 0, .slice none 0 0, .slice none 0 0, .slice none 0 0]
/-- The parts so far: rows of numbers, the block of the tables' rows, the block of the parts. -/
structure PSt (w0 : World) (K gR gL gP : Nat) (w : World) (vN vM vj : Value) (iN iM : List Nat) (rl : List (Value × List Nat)) (js : List (Nat × JT)) : Prop where
  rws : Rws w w0.heap.size ((vN, iN) :: (vM, iM) :: rl)
  len : rl.length = K
  bL : Blk w gL 39 (rl.map Prod.fst).toArray
  bP : Blk w gP 43 #[vN, .slice (some ⟨gL, 0, none⟩) K K, vM, vj]
  jn : w.ownsRow w0.heap.size 64 5 vj js.length (vJ js)
  bel : Below w0.heap.size w0 w
  hL : w0.heap.size ≤ gL
  hP : w0.heap.size ≤ gP
  hRP : gR ≠ gP
  bR : Blk w gR 43 zP
  hR : w0.heap.size ≤ gR
section
variable {w0 w w' : World} {K gR gL gP : Nat} {vN vM vj v' : Value} {iN iM : List Nat} {rl : List (Value × List Nat)} {js : List (Nat × JT)}
theorem PSt.below (h : PSt w0 K gR gL gP w vN vM vj iN iM rl js) (hb : Below w.heap.size w w') : PSt w0 K gR gL gP w' vN vM vj iN iM rl js :=
  ⟨h.rws.below hb, h.len, h.bL.below hb h.bL.lt, h.bP.below hb h.bP.lt, own_below h.jn hb, bto0 h.bel hb, h.hL, h.hP, h.hRP, h.bR.below hb h.bR.lt, h.hR⟩
theorem PSt.alloc (h : PSt w0 K gR gL gP w vN vM vj iN iM rl js) (o : Obj) : PSt w0 K gR gL gP (w.alloc o) vN vM vj iN iM rl js := h.below (ball (Below.refl _ _) o)
theorem PSt.drew (h : PSt w0 K gR gL gP w vN vM vj iN iM rl js) : PSt w0 K gR gL gP w.drew vN vM vj iN iM rl js := h.below (Below.drew (Below.refl _ _))
/-- What holds in the world behind an append to a row of numbers. -/
structure PSg (w0 : World) (K gR gL gP : Nat) (w : World) (vN vM vj : Value) (rl : List (Value × List Nat)) (js : List (Nat × JT)) : Prop where
  bL : Blk w gL 39 (rl.map Prod.fst).toArray
  bP : Blk w gP 43 #[vN, .slice (some ⟨gL, 0, none⟩) K K, vM, vj]
  jn : w.ownsRow w0.heap.size 64 5 vj js.length (vJ js)
  bel : Below w0.heap.size w0 w
  bR : Blk w gR 43 zP
theorem PSt.grow (h : PSt w0 K gR gL gP w vN vM vj iN iM rl js) {v : Value} {n : Nat} {xs : List Value} {o : Obj} (hv : w.ownsRow w0.heap.size 3 1 v n xs) (hg : (w.alloc o).grownBy w' v.ownBlock) : PSg w0 K gR gL gP w' vN vM vj rl js :=
  ⟨(h.bL.alloc o).grown hg (fun e => own_blk_ne hv h.bL (by decide) e.symm), (h.bP.alloc o).grown hg (fun e => own_blk_ne hv h.bP (by decide) e.symm), ownX_grown hv h.jn (by decide) hg, belowX_grown hv (Nat.le_refl _) h.bel.size hg h.bel, (h.bR.alloc o).grown hg (fun e => own_blk_ne hv h.bR (by decide) e.symm)⟩
theorem grown_alloc {w w' : World} {o : Obj} {row : Option Nat} (hg : (w.alloc o).grownBy w' row) (k : Nat) (hk : k < w.heap.size) (hr : some k ≠ row) : w'.heap[k]? = w.heap[k]? :=
  (hg.block k (by simp; omega) hr).trans (Below.heap_alloc w o k hk)
theorem PSt.pushN (h : PSt w0 K gR gL gP w vN vM vj iN iM rl js) {o : Obj} {k : Nat} (hg : (w.alloc o).grownBy w' vN.ownBlock) (hv : w'.ownsRow w0.heap.size 3 1 v' (iN.length + 1) (vI iN ++ [.int .i64 (k : Int)])) (hB : v'.ownBlock = vN.ownBlock ∨ v'.ownBlock = some (w.heap.size + 1)) :
    PSt w0 K gR gL gP (w'.setCell ⟨gP, 0, none⟩ v') v' vM vj (iN ++ [k]) iM rl js := by
  have G := h.grow (h.rws.own 0 _ rfl) hg
  have hv2 : w'.ownsRow w0.heap.size 3 1 v' (iN ++ [k]).length (vI (iN ++ [k])) := by rw [vI_app, List.length_append]; exact hv
  have R := (h.rws.alloc o).put (m := 0) rfl vN.ownBlock (.inr rfl) hg hv2 (hB.elim (fun e => .inr (.inl e)) fun e => .inr (.inr ⟨_, e, by simp⟩))
  refine ⟨R.far G.bP (by decide) _ _, h.len, G.bL.far (Blk.ne_ G.bL G.bP (by decide)) _, ?_, ?_, G.bel.setCell h.hP _, h.hL, h.hP, h.hRP, G.bR.far h.hRP _, h.hR⟩
  · exact G.bP.set_ 0 v'
  · exact own_farX G.jn G.bP (by decide) _ _
theorem PSt.pushM (h : PSt w0 K gR gL gP w vN vM vj iN iM rl js) {o : Obj} {k : Nat} (hg : (w.alloc o).grownBy w' vM.ownBlock) (hv : w'.ownsRow w0.heap.size 3 1 v' (iM.length + 1) (vI iM ++ [.int .i64 (k : Int)])) (hB : v'.ownBlock = vM.ownBlock ∨ v'.ownBlock = some (w.heap.size + 1)) :
    PSt w0 K gR gL gP (w'.setCell ⟨gP, 2, none⟩ v') vN v' vj iN (iM ++ [k]) rl js := by
  have G := h.grow (h.rws.own 1 _ rfl) hg
  have hv2 : w'.ownsRow w0.heap.size 3 1 v' (iM ++ [k]).length (vI (iM ++ [k])) := by rw [vI_app, List.length_append]; exact hv
  have R := (h.rws.alloc o).put (m := 1) rfl vM.ownBlock (.inr rfl) hg hv2 (hB.elim (fun e => .inr (.inl e)) fun e => .inr (.inr ⟨_, e, by simp⟩))
  refine ⟨R.far G.bP (by decide) _ _, h.len, G.bL.far (Blk.ne_ G.bL G.bP (by decide)) _, ?_, ?_, G.bel.setCell h.hP _, h.hL, h.hP, h.hRP, G.bR.far h.hRP _, h.hR⟩
  · exact G.bP.set_ 2 v'
  · exact own_farX G.jn G.bP (by decide) _ _
theorem PSt.pushL (h : PSt w0 K gR gL gP w vN vM vj iN iM rl js) {o : Obj} {k j : Nat} {v : Value} {i : List Nat} (hj : rl[j]? = some (v, i)) (hg : (w.alloc o).grownBy w' v.ownBlock) (hv : w'.ownsRow w0.heap.size 3 1 v' (i.length + 1) (vI i ++ [.int .i64 (k : Int)])) (hB : v'.ownBlock = v.ownBlock ∨ v'.ownBlock = some (w.heap.size + 1)) :
    PSt w0 K gR gL gP (w'.setCell ⟨gL, j, none⟩ v') vN vM vj iN iM (rl.set j (v', i ++ [k])) js := by
  have hr := h.rws.own (j + 2) (v, i) hj
  have G := h.grow hr hg
  have hv2 : w'.ownsRow w0.heap.size 3 1 v' (i ++ [k]).length (vI (i ++ [k])) := by rw [vI_app, List.length_append]; exact hv
  have R := (h.rws.alloc o).put (m := j + 2) hj v.ownBlock (.inr rfl) hg hv2 (hB.elim (fun e => .inr (.inl e)) fun e => .inr (.inr ⟨_, e, by simp⟩))
  refine ⟨R.far G.bL (by decide) _ _, by rw [List.length_set]; exact h.len, ?_, G.bP.far (Blk.ne_ G.bP G.bL (by decide)) _, ?_, G.bel.setCell h.hL _, h.hL, h.hP, h.hRP, G.bR.far (Blk.ne_ G.bR G.bL (by decide)) _, h.hR⟩
  · have := G.bL.set_ j v'
    rw [List.map_set]
    simpa using this
  · exact own_farX G.jn G.bL (by decide) _ _
/-- A row of a table anew, in memory that was made since. -/
theorem PSt.newL (h : PSt w0 K gR gL gP w vN vM vj iN iM rl js) (hb : Below w.heap.size w w') {j : Nat} {v : Value} {i i' : List Nat} (hj : rl[j]? = some (v, i)) (hv : w'.ownsRow w.heap.size 3 1 v' i'.length (vI i')) :
    PSt w0 K gR gL gP (w'.setCell ⟨gL, j, none⟩ v') vN vM vj iN iM (rl.set j (v', i')) js := by
  have H := h.below hb
  have hB : v'.ownBlock = none ∨ v'.ownBlock = v.ownBlock ∨ ∃ k, v'.ownBlock = some k ∧ w.heap.size ≤ k := by
    cases e : v'.ownBlock with
    | none => exact .inl rfl
    | some q => exact .inr (.inr ⟨q, rfl, (hv.lt q e).1⟩)
  have R := h.rws.put (m := j + 2) (r0 := (v, i)) hj none (.inl rfl) ⟨hb.os, hb.tape, hb.output, hb.size, fun k hk _ => hb.block k hk⟩ (World.ownsRow.mono hv h.bel.size) hB
  refine ⟨R.far H.bL (by decide) _ _, by rw [List.length_set]; exact h.len, ?_, H.bP.far (Blk.ne_ H.bP H.bL (by decide)) _, ?_, H.bel.setCell h.hL _, h.hL, h.hP, h.hRP, H.bR.far (Blk.ne_ H.bR H.bL (by decide)) _, h.hR⟩
  · have := H.bL.set_ j v'
    rw [List.map_set]
    simpa using this
  · exact own_farX H.jn H.bL (by decide) _ _
theorem PSt.pushJ (h : PSt w0 K gR gL gP w vN vM vj iN iM rl js) {o : Obj} {x : Nat × JT} (hg : (w.alloc o).grownBy w' vj.ownBlock) (hv : w'.ownsRow w0.heap.size 64 5 v' (js.length + 1) (vJ js ++ jC x)) :
    PSt w0 K gR gL gP (w'.setCell ⟨gP, 3, none⟩ v') vN vM v' iN iM rl (js ++ [x]) := by
  have hr := h.jn
  have bL := (h.bL.alloc o).grown hg (fun e => own_blk_ne hr h.bL (by decide) e.symm)
  have bP := (h.bP.alloc o).grown hg (fun e => own_blk_ne hr h.bP (by decide) e.symm)
  have bR := (h.bR.alloc o).grown hg (fun e => own_blk_ne hr h.bR (by decide) e.symm)
  have R : Rws w' w0.heap.size ((vN, iN) :: (vM, iM) :: rl) := ⟨fun i r hi => ownX_grown hr (h.rws.own i r hi) (by decide) hg, h.rws.apart⟩
  have hv2 : w'.ownsRow w0.heap.size 64 5 v' (js ++ [x]).length (vJ (js ++ [x])) := by rw [vJ_app, vJ_one, List.length_append]; exact hv
  refine ⟨R.far bP (by decide) _ _, h.len, bL.far (Blk.ne_ bL bP (by decide)) _, bP.set_ 3 v', own_farX hv2 bP (by decide) _ _, (belowX_grown hr (Nat.le_refl _) h.bel.size hg h.bel).setCell h.hP _, h.hL, h.hP, h.hRP, bR.far h.hRP _, h.hR⟩
end
/-- The parts that come back. -/
structure PSr (w0 : World) (K gL : Nat) (w : World) (vN vM vj : Value) (iN iM : List Nat) (rl : List (Value × List Nat)) (js : List (Nat × JT)) : Prop where
  rws : Rws w w0.heap.size ((vN, iN) :: (vM, iM) :: rl)
  len : rl.length = K
  bL : Blk w gL 39 (rl.map Prod.fst).toArray
  jn : w.ownsRow w0.heap.size 64 5 vj js.length (vJ js)
  bel : Below w0.heap.size w0 w
theorem PSt.fin {w0 w : World} {K gR gL gP : Nat} {vN vM vj : Value} {iN iM : List Nat} {rl : List (Value × List Nat)} {js : List (Nat × JT)} (h : PSt w0 K gR gL gP w vN vM vj iN iM rl js) (a b c d : Value) :
    PSr w0 K gL ((((w.setCell ⟨gR, 0, none⟩ a).setCell ⟨gR, 1, none⟩ b).setCell ⟨gR, 2, none⟩ c).setCell ⟨gR, 3, none⟩ d) vN vM vj iN iM rl js ∧ Blk ((((w.setCell ⟨gR, 0, none⟩ a).setCell ⟨gR, 1, none⟩ b).setCell ⟨gR, 2, none⟩ c).setCell ⟨gR, 3, none⟩ d) gR 43 #[a, b, c, d] := by
  have b0 := h.bR
  have b1 := b0.set_ 0 a
  have b2 := b1.set_ 1 b
  have b3 := b2.set_ 2 c
  have b4 := b3.set_ 3 d
  have n1 := Blk.ne_ h.bL h.bR (by decide)
  exact ⟨⟨(((h.rws.far b0 (by decide) _ _).far b1 (by decide) _ _).far b2 (by decide) _ _).far b3 (by decide) _ _, h.len, (((h.bL.far n1 _).far n1 _).far n1 _).far n1 _,
    own_farX (own_farX (own_farX (own_farX h.jn b0 (by decide) _ _) b1 (by decide) _ _) b2 (by decide) _ _) b3 (by decide) _ _, (((h.bel.setCell h.hR _).setCell h.hR _).setCell h.hR _).setCell h.hR _⟩, b4⟩
def RetParts (w : World) (K : Nat) (ps : List (List Nat)) (js : List (Nat × JT)) (e : Ending) (w' : World) : Prop :=
  ∃ gL vN vM vj iN iM rl, e = .returned (.agg #[vN, .slice (some ⟨gL, 0, none⟩) K K, vM, vj]) ∧ PSr w K gL w' vN vM vj iN iM rl js ∧ ((vN, iN) :: (vM, iM) :: rl).map Prod.snd = ps
/-- Rows that have nothing. -/
def zL (K : Nat) : Array Value := (List.replicate K (Value.slice none 0 0)).toArray
theorem made_nil (K : Nat) : madeCells (Value.slice none 0 0).cells K = zL K := by
  apply Array.ext
  · simp [zL, size_madeCells]
  · intro i h1 h2
    simp [zL, madeCells, Value.cells, Nat.mod_one]
theorem Try.infoR : (Try.prog.info? 39).map (fun i => (i.zero, i.size, i.bytes)) = some (some (.slice none 0 0), 1, 24) := by kernel_rfl
theorem Try.infoJn : (Try.prog.info? 64).map (fun i => (i.zero, i.size, i.bytes)) = some (some (.agg #[.int .i64 0, .int .i64 0, .int .i64 0, .int .i64 0, .int .i64 0]), 5, 40) := by kernel_rfl
/-- At the beginning. -/
theorem PSt.start (w : World) (K : Nat) (c : Tm → Nat) (l : List Tm) :
    PSt w K w.heap.size (w.heap.size + 1) (w.heap.size + 1 + 1) (((w.alloc (.cells zP 43)).alloc (.cells (zL K) 39)).alloc (.cells #[.slice none 0 0, .slice (some ⟨w.heap.size + 1, 0, none⟩) K K, .slice none 0 0, .slice none 0 0] 43)) (.slice none 0 0) (.slice none 0 0) (.slice none 0 0) [] [] (List.replicate K (Value.slice none 0 0, [])) (jsK c l 0) ∧
      ((Value.slice none 0 0, ([] : List Nat)) :: (Value.slice none 0 0, []) :: List.replicate K (Value.slice none 0 0, [])).map Prod.snd = prt c K l 0 := by
  have b1 : Blk ((w.alloc (.cells zP 43)).alloc (.cells (zL K) 39)) (w.heap.size + 1) 39 (zL K) := by
    have h := Blk.new (w.alloc (.cells zP 43)) 39 (zL K)
    simpa using h
  have b2 : Blk (((w.alloc (.cells zP 43)).alloc (.cells (zL K) 39)).alloc (.cells #[.slice none 0 0, .slice (some ⟨w.heap.size + 1, 0, none⟩) K K, .slice none 0 0, .slice none 0 0] 43)) (w.heap.size + 1 + 1) 43 #[.slice none 0 0, .slice (some ⟨w.heap.size + 1, 0, none⟩) K K, .slice none 0 0, .slice none 0 0] := by
    have h := Blk.new ((w.alloc (.cells zP 43)).alloc (.cells (zL K) 39)) 43 #[.slice none 0 0, .slice (some ⟨w.heap.size + 1, 0, none⟩) K K, .slice none 0 0, .slice none 0 0]
    simpa using h
  have hall : ∀ (i : Nat) (r : Value × List Nat), ((Value.slice none 0 0, ([] : List Nat)) :: (Value.slice none 0 0, []) :: List.replicate K (Value.slice none 0 0, []))[i]? = some r → r = (Value.slice none 0 0, []) := by
    intro i r hi
    have hm := List.mem_of_getElem? hi
    simp only [List.mem_cons, List.mem_replicate] at hm
    rcases hm with h | h | ⟨_, h⟩ <;> exact h
  refine ⟨⟨⟨fun i r hi => ?_, fun i j r s hi hj hne => ?_⟩, by simp, ?_, b2, ⟨rfl, .inl ⟨rfl, rfl⟩⟩, ball (ball (ball (Below.refl _ _) _) _) _, by omega, by omega, by omega, ((Blk.new _ _ _).alloc _).alloc _, Nat.le_refl _⟩, ?_⟩
  · rw [hall i r hi]
    exact ⟨rfl, .inl ⟨rfl, rfl⟩⟩
  · rw [hall i r hi]; exact .inl rfl
  · have h := b1.alloc (.cells #[.slice none 0 0, .slice (some ⟨w.heap.size + 1, 0, none⟩) K K, .slice none 0 0, .slice none 0 0] 43)
    simpa [zL] using h
  · rw [prt_zero, Nat.add_comm 2 K]
    simp [List.replicate_succ]
end Go.Proofs.Ytbmfojeklhbocaa

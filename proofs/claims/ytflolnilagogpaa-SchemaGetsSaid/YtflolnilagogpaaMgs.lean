/-
  Several texts in one: Ji.
-/
import Derived.Test.YtflolnilagogpaaMgr
/-
  The reference's table.
-/
namespace Go.Proofs.Ytflolnilagogpaa
section
set_option linter.unusedSimpArgs false
set_option linter.unusedVariables false
open Go.RowKit

theorem gMany_none {α : Type} {g : List UInt8 → Got α} {l : List UInt8} {i n : Nat} (h : gMany g i l = none) (hn : i ≤ n) : gMany g n l = none := by
  induction n with
  | zero => obtain rfl : i = 0 := by omega
            exact h
  | succ n ih =>
    by_cases hi : i ≤ n
    · rw [gMany_snoc, ih hi]
    · obtain rfl : i = n + 1 := by omega
      exact h
/-- A loop that ends where the reader is short: it is as if it had gone on. -/
theorem rel_short {α : Type} {g : List UInt8 → Got α} {r r' : List UInt8} {sh : Bool} {i n : Nat} {a b : List α} (h : Rel (gMany g i) r sh a r' true) (hn : i ≤ n) : Rel (gMany g n) r sh b r' true := by
  refine ⟨fun _ => rfl, fun hs => .inl ⟨rfl, ?_⟩⟩
  rcases h.2 hs with ⟨_, h2⟩ | ⟨h1, _⟩
  · exact gMany_none h2 hn
  · cases h1
theorem own_belowR {w w' : World} {base : Nat} {e : TypeId} {size n : Nat} {v : Value} {xs : List Value} (h : w.ownsRow base e size v n xs) (hb : Below w.heap.size w w') : w'.ownsRow base e size v n xs :=
  World.ownsRow.kept h (row := none) ⟨hb.os, hb.tape, hb.output, hb.size, fun i hi _ => hb.block i hi⟩ (by cases h' : v.ownBlock <;> simp)
theorem wpList_pushR {P : Program} {w : World} {ops : Array Oper} {rest : List Oper} {o : Oper} {a : Act} {Q : Exit → Act → World → Prop} {news : List Value} {arr : Array Value} (hgd : o.guard = none) (s x : Operand) (t : TypeId)
    (ho : o.op = .call { callee := .builtin .append, args := #[s, x], argTypes := #[t, t] })
    (base : Nat) (e : TypeId) (i : TypeInfo) (z : Value) (size bytes : Nat) (ht : P.underlying t = some (.slice e)) (hi : P.info? e = some i) (hz : i.zero = some z)
    (hsize : i.size = size) (hby : i.bytes = bytes) (hzs : z.cells.size = size) (hsz : 0 < size)
    (v : Value) (n : Nat) (xs : List Value) (hs : a.eval s = v) (hown : w.ownsRow base e size v n xs)
    (harr : arr = news.toArray) (g : Nat) (hx : a.eval x = .slice (some ⟨g, 0, none⟩) 1 1) (hg : g = w.heap.size) (hl : news.length = size) (h1 : ∀ u ∈ news, u.oneCell' = true)
    (h63 : n + 1 ≤ 1000000000) (hbytes : bytes ≤ 10000) (hbase : base ≤ w.heap.size)
    (h : ∀ v' w', w'.ownsRow base e size v' (n + 1) (xs ++ news) → (w.alloc (.cells arr e)).grownBy w' v.ownBlock → (v'.ownBlock = v.ownBlock ∨ v'.ownBlock = some (w.heap.size + 1)) → wpList P ops Q rest (a.put o.dst v') w') : wpList P ops Q (o :: rest) a (w.alloc (.cells arr e)) :=
  wpList_plain hgd fun _ hK => wp_pushR s x t ho base e i z size bytes ht hi hz hsize hby hzs hsz v n xs hs hown harr g hx hg hl h1 h63 hbytes hbase fun v' w' h2 h3 h4 => hK _ _ (h v' w' h2 h3 h4)
structure RTS (w0 : World) (t1 : Nat) (ty : TypeId) (xs : List Value) (tc : Array Value) (u : Value) (k : Nat) (r : List UInt8) (s : Bool) (W : World) : Prop where
  T : Blk W t1 ty tc
  own : W.ownsRow (t1 + 1) 46 4 u k xs
  G : Blk W w0.heap.size 70 #[.string (str r), .bool s]
  b : Below w0.heap.size w0 W
  A : Blk W (w0.heap.size + 1) 44 #[.string ⟨#[]⟩, .slice none 0 0, .int .u32 0, .int .i64 0, .int .i64 0]
  R : Blk W (w0.heap.size + 1 + 1) 70 #[.string ⟨#[]⟩, .bool false]
  lt : w0.heap.size + 1 + 1 < t1
section
variable {w0 W W' : World} {t1 k : Nat} {ty : TypeId} {xs : List Value} {tc : Array Value} {u : Value} {r : List UInt8} {s : Bool}
theorem RTS.call (h : RTS w0 t1 ty xs tc u k r s W) (hb : Below W.heap.size W W') : RTS w0 t1 ty xs tc u k r s W' :=
  ⟨h.T.below hb h.T.lt, own_belowR h.own hb, h.G.below hb h.G.lt, bto0 h.b hb, h.A.below hb h.A.lt, h.R.below hb h.R.lt, h.lt⟩
theorem RTS.setG (h : RTS w0 t1 ty xs tc u k r s W) (r' : List UInt8) (s' : Bool) : RTS w0 t1 ty xs tc u k r' s' ((W.setCell ⟨w0.heap.size, 0, none⟩ (.string (str r'))).setCell ⟨w0.heap.size, 1, none⟩ (.bool s')) := by
  have hlt := h.lt
  exact ⟨(h.T.far (by simp; omega) _).far (by simp; omega) _, own_farI (own_farI h.own _ (by omega) _ _) _ (by omega) _ _, (h.G.set_ 0 _).set_ 1 _, (h.b.setCell (Nat.le_refl _) _).setCell (Nat.le_refl _) _, (h.A.far (by simp) _).far (by simp) _, (h.R.far (by simp; omega) _).far (by simp; omega) _, hlt⟩
theorem RTS.setT (h : RTS w0 t1 ty xs tc u k r s W) (i : Nat) (v : Value) : RTS w0 t1 ty xs (tc.setIfInBounds i v) u k r s (W.setCell ⟨t1, i, none⟩ v) := by
  have hlt := h.lt
  exact ⟨h.T.set_ i v, own_farI h.own _ (by omega) _ _, h.G.far (by simp; omega) _, h.b.setCell (by show w0.heap.size ≤ t1; omega) _, h.A.far (by simp; omega) _, h.R.far (by simp; omega) _, hlt⟩
theorem RTS.push (h : RTS w0 t1 ty xs tc u k r s W) {new : List Value} {v : Value} {o : Obj} (ho : W'.ownsRow (t1 + 1) 46 4 v (k + 1) (xs ++ new)) (hg : (W.alloc o).grownBy W' u.ownBlock) : RTS w0 t1 ty (xs ++ new) tc v (k + 1) r s W' := by
  have hlt := h.lt
  have hT := h.T.lt
  have oa := World.ownsRow.alloc h.own o
  exact ⟨blk_far_own oa (h.T.alloc o) hg (by omega), ho, blk_far_own oa (h.G.alloc o) hg (by omega), bgrow (ball h.b o) hg oa (by omega) (by simp; omega), blk_far_own oa (h.A.alloc o) hg (by omega), blk_far_own oa (h.R.alloc o) hg (by omega), hlt⟩
end
section
variable {w0 W W' : World} {t1 k : Nat} {ty : TypeId} {xs : List Value} {tc : Array Value} {u : Value} {r : List UInt8} {s : Bool}
theorem RTS.fin1 (h : RTS w0 t1 ty xs tc u k r s W) (a0 a1 a2 a3 a4 b0 b1 : Value) :
    Blk (((((((W.setCell ⟨w0.heap.size + 1, 0, none⟩ a0).setCell ⟨w0.heap.size + 1, 1, none⟩ a1).setCell ⟨w0.heap.size + 1, 2, none⟩ a2).setCell ⟨w0.heap.size + 1, 3, none⟩ a3).setCell ⟨w0.heap.size + 1, 4, none⟩ a4).setCell ⟨w0.heap.size + 1 + 1, 0, none⟩ b0).setCell ⟨w0.heap.size + 1 + 1, 1, none⟩ b1) (w0.heap.size + 1) 44 #[a0, a1, a2, a3, a4] ∧
    Blk (((((((W.setCell ⟨w0.heap.size + 1, 0, none⟩ a0).setCell ⟨w0.heap.size + 1, 1, none⟩ a1).setCell ⟨w0.heap.size + 1, 2, none⟩ a2).setCell ⟨w0.heap.size + 1, 3, none⟩ a3).setCell ⟨w0.heap.size + 1, 4, none⟩ a4).setCell ⟨w0.heap.size + 1 + 1, 0, none⟩ b0).setCell ⟨w0.heap.size + 1 + 1, 1, none⟩ b1) (w0.heap.size + 1 + 1) 70 #[b0, b1] ∧
    (((((((W.setCell ⟨w0.heap.size + 1, 0, none⟩ a0).setCell ⟨w0.heap.size + 1, 1, none⟩ a1).setCell ⟨w0.heap.size + 1, 2, none⟩ a2).setCell ⟨w0.heap.size + 1, 3, none⟩ a3).setCell ⟨w0.heap.size + 1, 4, none⟩ a4).setCell ⟨w0.heap.size + 1 + 1, 0, none⟩ b0).setCell ⟨w0.heap.size + 1 + 1, 1, none⟩ b1).ownsRow (t1 + 1) 46 4 u k xs ∧
    Below w0.heap.size w0 (((((((W.setCell ⟨w0.heap.size + 1, 0, none⟩ a0).setCell ⟨w0.heap.size + 1, 1, none⟩ a1).setCell ⟨w0.heap.size + 1, 2, none⟩ a2).setCell ⟨w0.heap.size + 1, 3, none⟩ a3).setCell ⟨w0.heap.size + 1, 4, none⟩ a4).setCell ⟨w0.heap.size + 1 + 1, 0, none⟩ b0).setCell ⟨w0.heap.size + 1 + 1, 1, none⟩ b1) := by
  have hlt := h.lt
  refine ⟨((((((h.A.set_ 0 a0).set_ 1 a1).set_ 2 a2).set_ 3 a3).set_ 4 a4).far (by simp) _).far (by simp) _, (((((((h.R.far (by simp) a0).far (by simp) a1).far (by simp) a2).far (by simp) a3).far (by simp) a4).set_ 0 b0).set_ 1 b1), own_farI (own_farI (own_farI (own_farI (own_farI (own_farI (own_farI h.own _ (by omega) _ _) _ (by omega) _ _) _ (by omega) _ _) _ (by omega) _ _) _ (by omega) _ _) _ (by omega) _ _) _ (by omega) _ _, ?_⟩
  have b1 : w0.heap.size ≤ w0.heap.size + 1 := by omega
  have b2 : w0.heap.size ≤ w0.heap.size + 1 + 1 := by omega
  exact ((((((h.b.setCell b1 _).setCell b1 _).setCell b1 _).setCell b1 _).setCell b1 _).setCell b2 _).setCell b2 _
theorem RTS.fin2 (h : RTS w0 t1 ty xs tc u k r s W) (a0 a1 a2 a3 a4 b0 b1 : Value) :
    Blk (((((((W.setCell ⟨w0.heap.size + 1 + 1, 0, none⟩ b0).setCell ⟨w0.heap.size + 1 + 1, 1, none⟩ b1).setCell ⟨w0.heap.size + 1, 0, none⟩ a0).setCell ⟨w0.heap.size + 1, 1, none⟩ a1).setCell ⟨w0.heap.size + 1, 2, none⟩ a2).setCell ⟨w0.heap.size + 1, 3, none⟩ a3).setCell ⟨w0.heap.size + 1, 4, none⟩ a4) (w0.heap.size + 1) 44 #[a0, a1, a2, a3, a4] ∧
    Blk (((((((W.setCell ⟨w0.heap.size + 1 + 1, 0, none⟩ b0).setCell ⟨w0.heap.size + 1 + 1, 1, none⟩ b1).setCell ⟨w0.heap.size + 1, 0, none⟩ a0).setCell ⟨w0.heap.size + 1, 1, none⟩ a1).setCell ⟨w0.heap.size + 1, 2, none⟩ a2).setCell ⟨w0.heap.size + 1, 3, none⟩ a3).setCell ⟨w0.heap.size + 1, 4, none⟩ a4) (w0.heap.size + 1 + 1) 70 #[b0, b1] ∧
    (((((((W.setCell ⟨w0.heap.size + 1 + 1, 0, none⟩ b0).setCell ⟨w0.heap.size + 1 + 1, 1, none⟩ b1).setCell ⟨w0.heap.size + 1, 0, none⟩ a0).setCell ⟨w0.heap.size + 1, 1, none⟩ a1).setCell ⟨w0.heap.size + 1, 2, none⟩ a2).setCell ⟨w0.heap.size + 1, 3, none⟩ a3).setCell ⟨w0.heap.size + 1, 4, none⟩ a4).ownsRow (t1 + 1) 46 4 u k xs ∧
    Below w0.heap.size w0 (((((((W.setCell ⟨w0.heap.size + 1 + 1, 0, none⟩ b0).setCell ⟨w0.heap.size + 1 + 1, 1, none⟩ b1).setCell ⟨w0.heap.size + 1, 0, none⟩ a0).setCell ⟨w0.heap.size + 1, 1, none⟩ a1).setCell ⟨w0.heap.size + 1, 2, none⟩ a2).setCell ⟨w0.heap.size + 1, 3, none⟩ a3).setCell ⟨w0.heap.size + 1, 4, none⟩ a4) := by
  have hlt := h.lt
  refine ⟨(((((((h.A.far (by simp) b0).far (by simp) b1).set_ 0 a0).set_ 1 a1).set_ 2 a2).set_ 3 a3).set_ 4 a4), ((((((h.R.set_ 0 b0).set_ 1 b1).far (by simp) a0).far (by simp) a1).far (by simp) a2).far (by simp) a3).far (by simp) a4, own_farI (own_farI (own_farI (own_farI (own_farI (own_farI (own_farI h.own _ (by omega) _ _) _ (by omega) _ _) _ (by omega) _ _) _ (by omega) _ _) _ (by omega) _ _) _ (by omega) _ _) _ (by omega) _ _, ?_⟩
  have b1' : w0.heap.size ≤ w0.heap.size + 1 := by omega
  have b2 : w0.heap.size ≤ w0.heap.size + 1 + 1 := by omega
  exact ((((((h.b.setCell b2 _).setCell b2 _).setCell b1' _).setCell b1' _).setCell b1' _).setCell b1' _).setCell b1' _
end
theorem stable_end {W : World} {A R : Nat} {tm : Array Value} {Q : Ending → World → Prop} {a0 a1 a2 a3 a4 b0 b1 : Value} (hA : Blk W A 44 #[a0, a1, a2, a3, a4]) (hR : Blk W R 70 #[b0, b1])
    (h2 : tm[2]? = some (.pointer (some ⟨A, 0, none⟩))) (h3 : tm[3]? = some (.pointer (some ⟨R, 0, none⟩))) (h : Q (.returned (.tuple #[.agg #[a0, a1, a2, a3, a4], .agg #[b0, b1]])) W) :
    bodyPost Try.prog Try.f36 Q Exit.ret { tmps := tm, defers := [] } W := by
  have q0 : W.cell? ⟨A, 0, none⟩ = some a0 := hA.cell 0
  have q1 : W.cell? ⟨A, 1, none⟩ = some a1 := hA.cell 1
  have q2 : W.cell? ⟨A, 2, none⟩ = some a2 := hA.cell 2
  have q3 : W.cell? ⟨A, 3, none⟩ = some a3 := hA.cell 3
  have q4 : W.cell? ⟨A, 4, none⟩ = some a4 := hA.cell 4
  have p0 : W.cell? ⟨R, 0, none⟩ = some b0 := hR.cell 0
  have p1 : W.cell? ⟨R, 1, none⟩ = some b1 := hR.cell 1
  exact bodyPost_ret (v := .tuple #[.agg #[a0, a1, a2, a3, a4], .agg #[b0, b1]]) (by simp [results, Try.results36, go_sem, h2, h3, q0, q1, q2, q3, q4, p0, p1]) rfl h
def RetRT (w : World) (r : List UInt8) (sh : Bool) (e : Ending) (w' : World) : Prop :=
  ∃ (x : Tb) (r' : List UInt8) (sh' : Bool), e = .returned (.tuple #[x.agg, .agg #[.string (str r'), .bool sh']]) ∧ TbOk w' w'.heap.size x ∧ (∀ ad, x.A = some ad → w.heap.size ≤ ad.block) ∧ St r' sh' ∧ Rel gTab r sh x.pt r' sh' ∧ Below w.heap.size w w'
set_option maxRecDepth 100000 in
set_option maxHeartbeats 32000000 in
theorem stable_any (r : List UInt8) (sh : Bool) (w : World) (h : St r sh) :
    Calls Try.prog 36 #[.agg #[.string (str r), .bool sh]] w (RetRT w r sh) := by
  have T := Lib.hid fun W => rs_text r sh W h
  obtain ⟨i0, hi0, hz0, hs0, hy0⟩ := int_info8 Try.infoC
  have HW0 : Hid (Below w.heap.size w (((w.alloc (.cells #[.string (str r), .bool sh] 70)).alloc (.cells #[.string ⟨#[]⟩, .slice none 0 0, .int .u32 0, .int .i64 0, .int .i64 0] 44)).alloc (.cells #[.string ⟨#[]⟩, .bool false] 70)) ∧ Blk (((w.alloc (.cells #[.string (str r), .bool sh] 70)).alloc (.cells #[.string ⟨#[]⟩, .slice none 0 0, .int .u32 0, .int .i64 0, .int .i64 0] 44)).alloc (.cells #[.string ⟨#[]⟩, .bool false] 70)) w.heap.size 70 #[.string (str r), .bool sh] ∧ Blk (((w.alloc (.cells #[.string (str r), .bool sh] 70)).alloc (.cells #[.string ⟨#[]⟩, .slice none 0 0, .int .u32 0, .int .i64 0, .int .i64 0] 44)).alloc (.cells #[.string ⟨#[]⟩, .bool false] 70)) (w.heap.size + 1) 44 #[.string ⟨#[]⟩, .slice none 0 0, .int .u32 0, .int .i64 0, .int .i64 0] ∧ Blk (((w.alloc (.cells #[.string (str r), .bool sh] 70)).alloc (.cells #[.string ⟨#[]⟩, .slice none 0 0, .int .u32 0, .int .i64 0, .int .i64 0] 44)).alloc (.cells #[.string ⟨#[]⟩, .bool false] 70)) (w.heap.size + 1 + 1) 70 #[.string ⟨#[]⟩, .bool false]) := Lib.hid ⟨ball (ball (ball (Below.refl _ _) _) _) _, ((Blk.newAt rfl).alloc _).alloc _, (Blk.newAt (by simp)).alloc _, Blk.newAt (by simp)⟩
  clear h
  go_enter Try.func36, Try.ntmps36
  go_wp2_with fail
  refine (T.out _).mono ?_
  rintro e w1 ⟨nm, r1, s1, rfl, hnm, st1, hl1, hb1⟩
  have G1 := HW0.out.2.1.below hb1 HW0.out.2.1.lt
  have A1 := HW0.out.2.2.1.below hb1 HW0.out.2.2.1.lt
  have R1 := HW0.out.2.2.2.below hb1 HW0.out.2.2.2.lt
  have b1 := bto0 HW0.out.1 hb1
  have c10 : w1.cell? ⟨w.heap.size, 0, none⟩ = some (.string (str r)) := G1.cell 0
  have c11 : w1.cell? ⟨w.heap.size, 1, none⟩ = some (.bool sh) := G1.cell 1
  have f10 := G1.frozen 0
  have f11 := G1.frozen 1
  have N2 := Lib.hid fun W => rs_one r1 s1 W st1
  have z1 := R1.lt
  have hsz : ((w1.setCell ⟨w.heap.size, 0, none⟩ (.string (str r1))).setCell ⟨w.heap.size, 1, none⟩ (.bool s1)).heap.size = w1.heap.size := by simp [World.setCell]
  have GE := (((G1.set_ 0 (.string (str r1))).set_ 1 (.bool s1))).alloc (.cells #[.string nm, .slice none 0 0, .int .u32 0, .int .i64 0, .int .i64 0] 44)
  have AE := (((A1.far (p := ⟨w.heap.size, 0, none⟩) (by simp) (.string (str r1))).far (p := ⟨w.heap.size, 1, none⟩) (by simp) (.bool s1))).alloc (.cells #[.string nm, .slice none 0 0, .int .u32 0, .int .i64 0, .int .i64 0] 44)
  have RE := (((R1.far (p := ⟨w.heap.size, 0, none⟩) (by simp; omega) (.string (str r1))).far (p := ⟨w.heap.size, 1, none⟩) (by simp; omega) (.bool s1))).alloc (.cells #[.string nm, .slice none 0 0, .int .u32 0, .int .i64 0, .int .i64 0] 44)
  have TE : Blk (((w1.setCell ⟨w.heap.size, 0, none⟩ (.string (str r1))).setCell ⟨w.heap.size, 1, none⟩ (.bool s1)).alloc (.cells #[.string nm, .slice none 0 0, .int .u32 0, .int .i64 0, .int .i64 0] 44)) w1.heap.size 44 #[.string nm, .slice none 0 0, .int .u32 0, .int .i64 0, .int .i64 0] := Blk.newAt hsz.symm
  have bE := ball ((b1.setCell (show w.heap.size ≤ (⟨w.heap.size, 0, none⟩ : Addr).block by simp) (.string (str r1))).setCell (show w.heap.size ≤ (⟨w.heap.size, 1, none⟩ : Addr).block by simp) (.bool s1)) (.cells #[.string nm, .slice none 0 0, .int .u32 0, .int .i64 0, .int .i64 0] 44)
  have d10 : (((w1.setCell ⟨w.heap.size, 0, none⟩ (.string (str r1))).setCell ⟨w.heap.size, 1, none⟩ (.bool s1)).alloc (.cells #[.string nm, .slice none 0 0, .int .u32 0, .int .i64 0, .int .i64 0] 44)).cell? ⟨w.heap.size, 0, none⟩ = some (.string (str r1)) := GE.cell 0
  have d11 : (((w1.setCell ⟨w.heap.size, 0, none⟩ (.string (str r1))).setCell ⟨w.heap.size, 1, none⟩ (.bool s1)).alloc (.cells #[.string nm, .slice none 0 0, .int .u32 0, .int .i64 0, .int .i64 0] 44)).cell? ⟨w.heap.size, 1, none⟩ = some (.bool s1) := GE.cell 1
  have H1 := Lib.hid (And.intro hl1 (And.intro bE (And.intro GE (And.intro AE (And.intro RE TE)))))
  clear G1 A1 R1 b1 hl1 hb1 T HW0 st1 GE AE RE TE bE hsz
  go_wp2_with fail
  refine (N2.out _).mono ?_
  rintro e w2 ⟨b2, r2, s2, rfl, st2, hl2, hb2⟩
  clear c10 c11 f10 f11 d10 d11
  have b20 : (0 : Int) ≤ (b2.toNat : Int) := by omega
  have b21 : (b2.toNat : Int) ≤ 255 := by have := b2.toNat_lt; omega
  have G2 := H1.out.2.2.1.below hb2 H1.out.2.2.1.lt
  have A2 := H1.out.2.2.2.1.below hb2 H1.out.2.2.2.1.lt
  have R2 := H1.out.2.2.2.2.1.below hb2 H1.out.2.2.2.2.1.lt
  have T2 := H1.out.2.2.2.2.2.below hb2 H1.out.2.2.2.2.2.lt
  have b2w := bto0 H1.out.2.1 hb2
  have c20 : w2.cell? ⟨w.heap.size, 0, none⟩ = some (.string (str r1)) := G2.cell 0
  have c21 : w2.cell? ⟨w.heap.size, 1, none⟩ = some (.bool s1) := G2.cell 1
  have f20 := G2.frozen 0
  have f21 := G2.frozen 1
  have z2 := T2.lt
  have H2 := Lib.hid (And.intro hl2 (And.intro b2w (And.intro G2 (And.intro A2 (And.intro R2 (And.intro T2 st2))))))
  clear G2 A2 R2 T2 b2w hl2 hb2 N2 st2
  have hsz2 : ((w2.setCell ⟨w.heap.size, 0, none⟩ (.string (str r2))).setCell ⟨w.heap.size, 1, none⟩ (.bool s2)).heap.size = w2.heap.size := by simp [World.setCell]
  have z1w : w.heap.size < w1.heap.size := by omega
  go_wp2
  go_loopw [7] (fun v wr => ∃ (k : Nat) (cs : List Cl) (u : Value) (rk : List UInt8) (sk : Bool), k ≤ b2.toNat ∧ v = .int .i64 k ∧ RTS w w1.heap.size 44 (vC cs) #[.string nm, u, .int .u32 0, .int .i64 0, .int .i64 0] u k rk sk wr ∧ cs.length = k ∧ St rk sk ∧ Rel (gMany gCol k) r2 s2 (cs.map Cl.pc) rk sk ∧ ∀ c ∈ cs, c.ok) (fun v _ => b2.toNat - (intOf v).toNat)
  case atStart =>
    exact ⟨0, [], _, r2, s2, by omega, rfl, (RTS.mk H2.out.2.2.2.2.2.1 ⟨rfl, .inl ⟨rfl, rfl⟩⟩ H2.out.2.2.1 H2.out.2.1 H2.out.2.2.2.1 H2.out.2.2.2.2.1 z1).setG r2 s2, rfl, H2.out.2.2.2.2.2.2, rel_many_nil _ _ _, by simp⟩
  case round =>
    clear c20 c21 f20 f21
    obtain ⟨wo, rfl⟩ : ∃ wo : World, wo = wr := ⟨_, rfl⟩
    obtain ⟨k, cs, u, rk, sk, hk, rfl, ⟨hT, own, hG, hbw, hA, hR, hz1⟩, hcl, hst, hl, hok⟩ := hrel
    have q0 : (0 : Int) ≤ (k : Int) := by omega
    have g0 : wo.cell? ⟨w.heap.size, 0, none⟩ = some (.string (str rk)) := hG.cell 0
    have g1 : wo.cell? ⟨w.heap.size, 1, none⟩ = some (.bool sk) := hG.cell 1
    have hzo := hT.lt
    have T4 := Lib.hid fun W => rs_text rk sk W hst
    have HQ := Lib.hid (And.intro hT (And.intro own (And.intro hcl (And.intro hG (And.intro hst (And.intro hl (And.intro hbw (And.intro hA (And.intro hR hok)))))))))
    clear hT own hcl hG hst hl hbw hA hR hok
    by_cases hlt : k < b2.toNat
    · have q1 : (k : Int) < (b2.toNat : Int) := by omega
      have q2 : k < 255 := by omega
      cases sk
      · go_wp2_with fail
        refine (T4.out _).mono ?_
        rintro e w4 ⟨cn, r4, s4, rfl, hcn, st4, hl4, hb4⟩
        have z4 : wo.heap.size ≤ w4.heap.size := hb4.size
        have X4E : Blk (w4.alloc (.cells #[.string (str r4), .bool s4] 70)) w4.heap.size 70 #[.string (str r4), .bool s4] := Blk.newAt rfl
        have B4E := ball hb4 (.cells #[.string (str r4), .bool s4] 70)
        have N5 := Lib.hid fun W => rs_one r4 s4 W st4
        clear hb4 g0 g1
        go_wp2_with fail
        refine (N5.out _).mono ?_
        rintro e w5 ⟨b5, r5, s5, rfl, st5, hl5, hb5⟩
        have b50 : (0 : Int) ≤ (b5.toNat : Int) := by omega
        have b51 : (b5.toNat : Int) ≤ 255 := by have := b5.toNat_lt; omega
        have X5 := X4E.below hb5 X4E.lt
        have B5 := bto0 B4E hb5
        have e50 : w5.cell? ⟨w4.heap.size, 0, none⟩ = _ := X5.cell 0
        have e51 : w5.cell? ⟨w4.heap.size, 1, none⟩ = _ := X5.cell 1
        have f50 := X5.frozen 0
        have f51 := X5.frozen 1
        have X5E := (X5.set_ 0 (.string (str r5))).set_ 1 (.bool s5)
        have B5E := (B5.setCell (show wo.heap.size ≤ (⟨w4.heap.size, 0, none⟩ : Addr).block from z4) (.string (str r5))).setCell (show wo.heap.size ≤ (⟨w4.heap.size, 1, none⟩ : Addr).block from z4) (.bool s5)
        have d50 : ((w5.setCell ⟨w4.heap.size, 0, none⟩ (.string (str r5))).setCell ⟨w4.heap.size, 1, none⟩ (.bool s5)).cell? ⟨w4.heap.size, 0, none⟩ = some (.string (str r5)) := X5E.cell 0
        have d51 : ((w5.setCell ⟨w4.heap.size, 0, none⟩ (.string (str r5))).setCell ⟨w4.heap.size, 1, none⟩ (.bool s5)).cell? ⟨w4.heap.size, 1, none⟩ = some (.bool s5) := X5E.cell 1
        have N6 := Lib.hid fun W => rs_four r5 s5 W st5
        clear X4E B4E hb5 X5 B5 N5
        go_wp2_with fail
        refine (N6.out _).mono ?_
        rintro e w6 ⟨U6, r6, s6, rfl, hU6, st6, hl6, hb6⟩
        clear e50 e51 f50 f51 d50 d51
        have X6 := X5E.below hb6 X5E.lt
        have B6 := bto0 B5E hb6
        have e60 : w6.cell? ⟨w4.heap.size, 0, none⟩ = _ := X6.cell 0
        have e61 : w6.cell? ⟨w4.heap.size, 1, none⟩ = _ := X6.cell 1
        have f60 := X6.frozen 0
        have f61 := X6.frozen 1
        have X6E := (X6.set_ 0 (.string (str r6))).set_ 1 (.bool s6)
        have B6E := (B6.setCell (show wo.heap.size ≤ (⟨w4.heap.size, 0, none⟩ : Addr).block from z4) (.string (str r6))).setCell (show wo.heap.size ≤ (⟨w4.heap.size, 1, none⟩ : Addr).block from z4) (.bool s6)
        have d60 : ((w6.setCell ⟨w4.heap.size, 0, none⟩ (.string (str r6))).setCell ⟨w4.heap.size, 1, none⟩ (.bool s6)).cell? ⟨w4.heap.size, 0, none⟩ = some (.string (str r6)) := X6E.cell 0
        have d61 : ((w6.setCell ⟨w4.heap.size, 0, none⟩ (.string (str r6))).setCell ⟨w4.heap.size, 1, none⟩ (.bool s6)).cell? ⟨w4.heap.size, 1, none⟩ = some (.bool s6) := X6E.cell 1
        have N7 := Lib.hid fun W => rs_four r6 s6 W st6
        clear X5E B5E hb6 X6 B6 N6
        go_wp2_with fail
        refine (N7.out _).mono ?_
        rintro e w7 ⟨U7, r7, s7, rfl, hU7, st7, hl7, hb7⟩
        clear e60 e61 f60 f61 d60 d61
        have X7 := X6E.below hb7 X6E.lt
        have B7 := bto0 B6E hb7
        have e70 : w7.cell? ⟨w4.heap.size, 0, none⟩ = _ := X7.cell 0
        have e71 : w7.cell? ⟨w4.heap.size, 1, none⟩ = _ := X7.cell 1
        have f70 := X7.frozen 0
        have f71 := X7.frozen 1
        have X7E := (X7.set_ 0 (.string (str r7))).set_ 1 (.bool s7)
        have B7E := (B7.setCell (show wo.heap.size ≤ (⟨w4.heap.size, 0, none⟩ : Addr).block from z4) (.string (str r7))).setCell (show wo.heap.size ≤ (⟨w4.heap.size, 1, none⟩ : Addr).block from z4) (.bool s7)
        have d70 : ((w7.setCell ⟨w4.heap.size, 0, none⟩ (.string (str r7))).setCell ⟨w4.heap.size, 1, none⟩ (.bool s7)).cell? ⟨w4.heap.size, 0, none⟩ = some (.string (str r7)) := X7E.cell 0
        have d71 : ((w7.setCell ⟨w4.heap.size, 0, none⟩ (.string (str r7))).setCell ⟨w4.heap.size, 1, none⟩ (.bool s7)).cell? ⟨w4.heap.size, 1, none⟩ = some (.bool s7) := X7E.cell 1
        have G7 := HQ.out.2.2.2.1.below B7E HQ.out.2.2.2.1.lt
        have g70 := G7.cell 0
        have g71 := G7.cell 1
        have h70 := G7.frozen 0
        have h71 := G7.frozen 1
        have T7 := HQ.out.1.below B7 HQ.out.1.lt
        have t7 : w7.cell? ⟨w1.heap.size, 1, none⟩ = some u := T7.cell 1
        have T7E := HQ.out.1.below B7E HQ.out.1.lt
        have G7E := ((HQ.out.2.2.2.1.below B7E HQ.out.2.2.2.1.lt).set_ 0 (.string (str r7))).set_ 1 (.bool s7)
        have T8 := (T7E.far (p := ⟨w.heap.size, 0, none⟩) (by simp; omega) (.string (str r7))).far (p := ⟨w.heap.size, 1, none⟩) (by simp; omega) (.bool s7)
        have O8 := own_farI (own_farI (own_belowR HQ.out.2.1 B7E) w.heap.size (by omega) 0 (.string (str r7))) w.heap.size (by omega) 1 (.bool s7)
        have H7 := Lib.hid (And.intro T8 (And.intro O8 G7E))
        clear X6E B6E hb7 X7 N7 T7E T8 O8 G7E T7
        go_wp2_with (at_builtin; refine wpList_pushR (news := [.string cn, .int .u8 (b5.toNat : Int), .int .i64 (U6 : Int), .int .i64 (U7 : Int)]) rfl (.tmp 60) (.tmp 67) 41 rfl (w1.heap.size + 1) 46 i0 _ 4 40 Try.underlying41 hi0 hz0 hs0 hy0 rfl (by decide) u k _ (by first | rfl | (simp [Act.eval, Act.put]; done)) H7.out.2.1 rfl _ (by first | rfl | (simp [Act.eval, Act.put]; done)) (by simp [World.setCell]) rfl (by intro u hu; simp only [List.mem_cons, List.not_mem_nil, or_false] at hu; rcases hu with rfl | rfl | rfl | rfl <;> rfl) (by omega) (by omega) (by simp [World.setCell]; have := B7E.size; simp [World.setCell] at this; omega) ?_; intro v8 w8 own8 kp8 ob8; obtain ⟨A9, cc9, rfl, hcc9⟩ := own_form own8; have T9 := blk_far_own (H7.out.2.1.alloc (.cells #[.string cn, .int .u8 (b5.toNat : Int), .int .i64 (U6 : Int), .int .i64 (U7 : Int)] 46)) (H7.out.1.alloc _) kp8 (by omega); have c9 : w8.cell? ⟨w1.heap.size, 1, none⟩ = some u := T9.cell 1; have f9 := T9.frozen 1; have z9 := T9.lt; have H8 := Lib.hid (And.intro own8 (And.intro kp8 (And.intro ob8 T9))); clear own8 kp8 ob8 T9)
        have Q0 : RTS w w1.heap.size 44 (vC cs) #[.string nm, u, .int .u32 0, .int .i64 0, .int .i64 0] u k rk false wo := ⟨HQ.out.1, HQ.out.2.1, HQ.out.2.2.2.1, HQ.out.2.2.2.2.2.2.1, HQ.out.2.2.2.2.2.2.2.1, HQ.out.2.2.2.2.2.2.2.2.1, z1⟩
        have Q1 := (Q0.call B7E).setG r7 s7
        have Q2 := Q1.push (new := [.string cn, .int .u8 (b5.toNat : Int), .int .i64 (U6 : Int), .int .i64 (U7 : Int)]) H8.out.1 H8.out.2.1
        have hcol := rel_col hl4 hl5.int hl6.int hl7.int
        refine ⟨⟨k + 1, cs ++ [⟨cn, (b5.toNat : Int), (U6 : Int), (U7 : Int)⟩], .slice A9 (k + 1) cc9, r7, s7, by omega, by go_num, ?_, by simp [HQ.out.2.2.1], st7, by rw [List.map_append]; exact HQ.out.2.2.2.2.2.1.snoc hcol, fun c hc => ?_⟩, by simp [intOf]; omega⟩
        · rw [vC_snoc]; exact Q2.setT 1 (.slice A9 (k + 1) cc9)
        · rcases List.mem_append.1 hc with h1 | h1
          · exact HQ.out.2.2.2.2.2.2.2.2.2 c h1
          · rw [List.mem_singleton] at h1
            subst h1
            exact ⟨by (unfold maxLen; show cn.size ≤ _; omega), b50, b51⟩
      · have HX : Rel (gMany gCol b2.toNat) r2 s2 (cs.map Cl.pc) rk true := rel_short HQ.out.2.2.2.2.2.1 hk
        obtain ⟨A1, c1, rfl, hc1⟩ := own_form HQ.out.2.1
        have own1 := HQ.out.2.1
        have hcap := own_cap own1
        have hadr := own_addr own1
        have N1 := Lib.hid fun W => rs_four rk true W HQ.out.2.2.2.2.1
        have Q0 : RTS w w1.heap.size 44 (vC cs) #[.string nm, .slice A1 k c1, .int .u32 0, .int .i64 0, .int .i64 0] (.slice A1 k c1) k rk true wo := ⟨HQ.out.1, HQ.out.2.1, HQ.out.2.2.2.1, HQ.out.2.2.2.2.2.2.1, HQ.out.2.2.2.2.2.2.2.1, HQ.out.2.2.2.2.2.2.2.2.1, z1⟩
        have HC := Lib.hid (And.intro hc1 (And.intro hcap (And.intro hadr (And.intro HX HQ.out.2.2.2.2.2.2.2.2.2))))
        clear hc1 hcap hadr own1 T4 HX
        go_wp2_with fail
        refine (N1.out _).mono ?_
        rintro e w4 ⟨U1, r4, s4, rfl, hU1, st4, hl4, hb4⟩
        have P4 := Q0.call hb4
        have c40 : w4.cell? ⟨w.heap.size, 0, none⟩ = _ := P4.G.cell 0
        have c41 : w4.cell? ⟨w.heap.size, 1, none⟩ = _ := P4.G.cell 1
        have f40 := P4.G.frozen 0
        have f41 := P4.G.frozen 1
        have z4 := P4.G.lt
        have P4E := P4.setG r4 s4
        have d40 : ((w4.setCell ⟨w.heap.size, 0, none⟩ (.string (str r4))).setCell ⟨w.heap.size, 1, none⟩ (.bool s4)).cell? ⟨w.heap.size, 0, none⟩ = some (.string (str r4)) := P4E.G.cell 0
        have d41 : ((w4.setCell ⟨w.heap.size, 0, none⟩ (.string (str r4))).setCell ⟨w.heap.size, 1, none⟩ (.bool s4)).cell? ⟨w.heap.size, 1, none⟩ = some (.bool s4) := P4E.G.cell 1
        have N2 := Lib.hid fun W => rs_four r4 s4 W st4
        have u10 : (0 : Int) ≤ (U1 : Int) := by omega
        have u11 : (U1 : Int) ≤ 4294967295 := by omega
        have H4 := Lib.hid (And.intro hl4 P4E)
        clear P4 P4E hb4 st4 hl4 N1 Q0 g0 g1
        go_wp2_with fail
        refine (N2.out _).mono ?_
        rintro e w5 ⟨U2, r5, s5, rfl, hU2, st5, hl5, hb5⟩
        clear c40 c41 f40 f41 d40 d41
        have P5 := H4.out.2.call hb5
        have c50 : w5.cell? ⟨w.heap.size, 0, none⟩ = _ := P5.G.cell 0
        have c51 : w5.cell? ⟨w.heap.size, 1, none⟩ = _ := P5.G.cell 1
        have f50 := P5.G.frozen 0
        have f51 := P5.G.frozen 1
        have z5 := P5.G.lt
        have P5E := P5.setG r5 s5
        have d50 : ((w5.setCell ⟨w.heap.size, 0, none⟩ (.string (str r5))).setCell ⟨w.heap.size, 1, none⟩ (.bool s5)).cell? ⟨w.heap.size, 0, none⟩ = some (.string (str r5)) := P5E.G.cell 0
        have d51 : ((w5.setCell ⟨w.heap.size, 0, none⟩ (.string (str r5))).setCell ⟨w.heap.size, 1, none⟩ (.bool s5)).cell? ⟨w.heap.size, 1, none⟩ = some (.bool s5) := P5E.G.cell 1
        have N3 := Lib.hid fun W => rs_four r5 s5 W st5
        have H5 := Lib.hid (And.intro hl5 P5E)
        clear P5 P5E hb5 st5 hl5 N2
        go_wp2_with fail
        refine (N3.out _).mono ?_
        rintro e w6 ⟨U3, r6, s6, rfl, hU3, st6, hl6, hb6⟩
        clear c50 c51 f50 f51 d50 d51
        have P6 := H5.out.2.call hb6
        have c60 : w6.cell? ⟨w.heap.size, 0, none⟩ = _ := P6.G.cell 0
        have c61 : w6.cell? ⟨w.heap.size, 1, none⟩ = _ := P6.G.cell 1
        have f60 := P6.G.frozen 0
        have f61 := P6.G.frozen 1
        have z6 := P6.G.lt
        have P6E := P6.setG r6 s6
        obtain ⟨W7, hW7⟩ : ∃ W7, ((w6.setCell ⟨w.heap.size, 0, none⟩ (.string (str r6))).setCell ⟨w.heap.size, 1, none⟩ (.bool s6)) = W7 := ⟨_, rfl⟩
        rw [hW7] at P6E
        have t2 : W7.cell? ⟨w1.heap.size, 2, none⟩ = _ := P6E.T.cell 2
        have t3 : W7.cell? ⟨w1.heap.size, 3, none⟩ = _ := P6E.T.cell 3
        have t4 : W7.cell? ⟨w1.heap.size, 4, none⟩ = _ := P6E.T.cell 4
        have k2 : W7.frozen? ⟨w1.heap.size, 2, none⟩ = _ := P6E.T.frozen 2
        have k3 : W7.frozen? ⟨w1.heap.size, 3, none⟩ = _ := P6E.T.frozen 3
        have k4 : W7.frozen? ⟨w1.heap.size, 4, none⟩ = _ := P6E.T.frozen 4
        rw [← hW7] at t2 t3 t4 k2 k3 k4
        have P7 := ((P6E.setT 2 (.int .u32 (U1 : Int))).setT 3 (.int .i64 (U2 : Int))).setT 4 (.int .i64 (U3 : Int))
        rw [← hW7] at P7
        clear hW7 P6E
        have HN := rel_nums H4.out.1.int H5.out.1.int hl6.int
        have H7 := Lib.hid (And.intro P7 (And.intro HN st6))
        clear P6 P7 hb6 hl6 HN N3 st6
        go_wp2_with fail
        obtain ⟨W8, hW8⟩ : ∃ W8, (((((w6.setCell ⟨w.heap.size, 0, none⟩ (.string (str r6))).setCell ⟨w.heap.size, 1, none⟩ (.bool s6)).setCell ⟨w1.heap.size, 2, none⟩ (.int .u32 (U1 : Int))).setCell ⟨w1.heap.size, 3, none⟩ (.int .i64 (U2 : Int))).setCell ⟨w1.heap.size, 4, none⟩ (.int .i64 (U3 : Int))) = W8 := ⟨_, rfl⟩
        have P8 := H7.out.1
        rw [hW8] at P8
        rw [hW8]
        clear hW8 c60 c61 f60 f61 t2 t3 t4 k2 k3 k4
        have e0 : W8.cell? ⟨w1.heap.size, 0, none⟩ = some (.string nm) := P8.T.cell 0
        have e1 : W8.cell? ⟨w1.heap.size, 1, none⟩ = some (.slice A1 k c1) := P8.T.cell 1
        have e2 : W8.cell? ⟨w1.heap.size, 2, none⟩ = some (.int .u32 (U1 : Int)) := P8.T.cell 2
        have e3 : W8.cell? ⟨w1.heap.size, 3, none⟩ = some (.int .i64 (U2 : Int)) := P8.T.cell 3
        have e4 : W8.cell? ⟨w1.heap.size, 4, none⟩ = some (.int .i64 (U3 : Int)) := P8.T.cell 4
        have j0 : W8.cell? ⟨w.heap.size, 0, none⟩ = some (.string (str r6)) := P8.G.cell 0
        have j1 : W8.cell? ⟨w.heap.size, 1, none⟩ = some (.bool s6) := P8.G.cell 1
        have y0 : W8.cell? ⟨w.heap.size + 1, 0, none⟩ = some (.string ⟨#[]⟩) := P8.A.cell 0
        have y1 : W8.cell? ⟨w.heap.size + 1, 1, none⟩ = some (.slice none 0 0) := P8.A.cell 1
        have y2 : W8.cell? ⟨w.heap.size + 1, 2, none⟩ = some (.int .u32 0) := P8.A.cell 2
        have y3 : W8.cell? ⟨w.heap.size + 1, 3, none⟩ = some (.int .i64 0) := P8.A.cell 3
        have y4 : W8.cell? ⟨w.heap.size + 1, 4, none⟩ = some (.int .i64 0) := P8.A.cell 4
        have v0 := P8.A.frozen 0
        have v1 := P8.A.frozen 1
        have v2 := P8.A.frozen 2
        have v3 := P8.A.frozen 3
        have v4 := P8.A.frozen 4
        have o0 : W8.cell? ⟨w.heap.size + 1 + 1, 0, none⟩ = some (.string ⟨#[]⟩) := P8.R.cell 0
        have o1 : W8.cell? ⟨w.heap.size + 1 + 1, 1, none⟩ = some (.bool false) := P8.R.cell 1
        have q0' := P8.R.frozen 0
        have q1' := P8.R.frozen 1
        have z8 := P8.T.lt
        have H8 := Lib.hid (And.intro P8 P8.lt)
        clear P8
        go_region
        all_goals (try go_wp2)
        have F := H8.out.1.fin1 (.string nm) (.slice A1 k c1) (.int .u32 (U1 : Int)) (.int .i64 (U2 : Int)) (.int .i64 (U3 : Int)) (.string (str r6)) (.bool s6)
        obtain ⟨W9, hW9⟩ : ∃ W9, (((((((W8.setCell ⟨w.heap.size + 1, 0, none⟩ (.string nm)).setCell ⟨w.heap.size + 1, 1, none⟩ (.slice A1 k c1)).setCell ⟨w.heap.size + 1, 2, none⟩ (.int .u32 (U1 : Int))).setCell ⟨w.heap.size + 1, 3, none⟩ (.int .i64 (U2 : Int))).setCell ⟨w.heap.size + 1, 4, none⟩ (.int .i64 (U3 : Int))).setCell ⟨w.heap.size + 1 + 1, 0, none⟩ (.string (str r6))).setCell ⟨w.heap.size + 1 + 1, 1, none⟩ (.bool s6)) = W9 := ⟨_, rfl⟩
        rw [hW9] at F
        rw [hW9]
        clear hW9
        exact stable_end F.1.drew F.2.1.drew (by simp) (by simp) ⟨⟨nm, A1, k, c1, (U1 : Int), (U2 : Int), (U3 : Int), cs⟩, r6, s6, rfl, ⟨⟨by (unfold maxLen; show nm.size ≤ _; omega), ⟨HC.out.1, HC.out.2.1⟩, (Reads.of_own F.2.2.1).drew, HC.out.2.2.2.2⟩, u10, u11⟩, fun ad h => by have := HC.out.2.2.1 ad h; omega, H7.out.2.2, rel_tab H1.out.1 H2.out.1 HC.out.2.2.2.1 H7.out.2.1, F.2.2.2.drew⟩
    · have hkb : k = b2.toNat := by omega
      have e9 : decide ((k : Int) < (b2.toNat : Int)) = false := by simp; omega
      have HX : Rel (gMany gCol b2.toNat) r2 s2 (cs.map Cl.pc) rk sk := hkb ▸ HQ.out.2.2.2.2.2.1
      clear hkb
      obtain ⟨A1, c1, rfl, hc1⟩ := own_form HQ.out.2.1
      have own1 := HQ.out.2.1
      have hcap := own_cap own1
      have hadr := own_addr own1
      have N1 := Lib.hid fun W => rs_four rk sk W HQ.out.2.2.2.2.1
      have Q0 : RTS w w1.heap.size 44 (vC cs) #[.string nm, .slice A1 k c1, .int .u32 0, .int .i64 0, .int .i64 0] (.slice A1 k c1) k rk sk wo := ⟨HQ.out.1, HQ.out.2.1, HQ.out.2.2.2.1, HQ.out.2.2.2.2.2.2.1, HQ.out.2.2.2.2.2.2.2.1, HQ.out.2.2.2.2.2.2.2.2.1, z1⟩
      have HC := Lib.hid (And.intro hc1 (And.intro hcap (And.intro hadr (And.intro HX HQ.out.2.2.2.2.2.2.2.2.2))))
      clear hc1 hcap hadr own1 T4 HX
      go_wp2_with fail
      refine (N1.out _).mono ?_
      rintro e w4 ⟨U1, r4, s4, rfl, hU1, st4, hl4, hb4⟩
      have P4 := Q0.call hb4
      have c40 : w4.cell? ⟨w.heap.size, 0, none⟩ = _ := P4.G.cell 0
      have c41 : w4.cell? ⟨w.heap.size, 1, none⟩ = _ := P4.G.cell 1
      have f40 := P4.G.frozen 0
      have f41 := P4.G.frozen 1
      have z4 := P4.G.lt
      have P4E := P4.setG r4 s4
      have d40 : ((w4.setCell ⟨w.heap.size, 0, none⟩ (.string (str r4))).setCell ⟨w.heap.size, 1, none⟩ (.bool s4)).cell? ⟨w.heap.size, 0, none⟩ = some (.string (str r4)) := P4E.G.cell 0
      have d41 : ((w4.setCell ⟨w.heap.size, 0, none⟩ (.string (str r4))).setCell ⟨w.heap.size, 1, none⟩ (.bool s4)).cell? ⟨w.heap.size, 1, none⟩ = some (.bool s4) := P4E.G.cell 1
      have N2 := Lib.hid fun W => rs_four r4 s4 W st4
      have u10 : (0 : Int) ≤ (U1 : Int) := by omega
      have u11 : (U1 : Int) ≤ 4294967295 := by omega
      have H4 := Lib.hid (And.intro hl4 P4E)
      clear P4 P4E hb4 st4 hl4 N1 Q0 g0 g1
      go_wp2_with fail
      refine (N2.out _).mono ?_
      rintro e w5 ⟨U2, r5, s5, rfl, hU2, st5, hl5, hb5⟩
      clear c40 c41 f40 f41 d40 d41
      have P5 := H4.out.2.call hb5
      have c50 : w5.cell? ⟨w.heap.size, 0, none⟩ = _ := P5.G.cell 0
      have c51 : w5.cell? ⟨w.heap.size, 1, none⟩ = _ := P5.G.cell 1
      have f50 := P5.G.frozen 0
      have f51 := P5.G.frozen 1
      have z5 := P5.G.lt
      have P5E := P5.setG r5 s5
      have d50 : ((w5.setCell ⟨w.heap.size, 0, none⟩ (.string (str r5))).setCell ⟨w.heap.size, 1, none⟩ (.bool s5)).cell? ⟨w.heap.size, 0, none⟩ = some (.string (str r5)) := P5E.G.cell 0
      have d51 : ((w5.setCell ⟨w.heap.size, 0, none⟩ (.string (str r5))).setCell ⟨w.heap.size, 1, none⟩ (.bool s5)).cell? ⟨w.heap.size, 1, none⟩ = some (.bool s5) := P5E.G.cell 1
      have N3 := Lib.hid fun W => rs_four r5 s5 W st5
      have H5 := Lib.hid (And.intro hl5 P5E)
      clear P5 P5E hb5 st5 hl5 N2
      go_wp2_with fail
      refine (N3.out _).mono ?_
      rintro e w6 ⟨U3, r6, s6, rfl, hU3, st6, hl6, hb6⟩
      clear c50 c51 f50 f51 d50 d51
      have P6 := H5.out.2.call hb6
      have c60 : w6.cell? ⟨w.heap.size, 0, none⟩ = _ := P6.G.cell 0
      have c61 : w6.cell? ⟨w.heap.size, 1, none⟩ = _ := P6.G.cell 1
      have f60 := P6.G.frozen 0
      have f61 := P6.G.frozen 1
      have z6 := P6.G.lt
      have P6E := P6.setG r6 s6
      obtain ⟨W7, hW7⟩ : ∃ W7, ((w6.setCell ⟨w.heap.size, 0, none⟩ (.string (str r6))).setCell ⟨w.heap.size, 1, none⟩ (.bool s6)) = W7 := ⟨_, rfl⟩
      rw [hW7] at P6E
      have t2 : W7.cell? ⟨w1.heap.size, 2, none⟩ = _ := P6E.T.cell 2
      have t3 : W7.cell? ⟨w1.heap.size, 3, none⟩ = _ := P6E.T.cell 3
      have t4 : W7.cell? ⟨w1.heap.size, 4, none⟩ = _ := P6E.T.cell 4
      have k2 : W7.frozen? ⟨w1.heap.size, 2, none⟩ = _ := P6E.T.frozen 2
      have k3 : W7.frozen? ⟨w1.heap.size, 3, none⟩ = _ := P6E.T.frozen 3
      have k4 : W7.frozen? ⟨w1.heap.size, 4, none⟩ = _ := P6E.T.frozen 4
      rw [← hW7] at t2 t3 t4 k2 k3 k4
      have P7 := ((P6E.setT 2 (.int .u32 (U1 : Int))).setT 3 (.int .i64 (U2 : Int))).setT 4 (.int .i64 (U3 : Int))
      rw [← hW7] at P7
      clear hW7 P6E
      have HN := rel_nums H4.out.1.int H5.out.1.int hl6.int
      have H7 := Lib.hid (And.intro P7 (And.intro HN st6))
      clear P6 P7 hb6 hl6 HN N3 st6
      go_wp2_with fail
      obtain ⟨W8, hW8⟩ : ∃ W8, (((((w6.setCell ⟨w.heap.size, 0, none⟩ (.string (str r6))).setCell ⟨w.heap.size, 1, none⟩ (.bool s6)).setCell ⟨w1.heap.size, 2, none⟩ (.int .u32 (U1 : Int))).setCell ⟨w1.heap.size, 3, none⟩ (.int .i64 (U2 : Int))).setCell ⟨w1.heap.size, 4, none⟩ (.int .i64 (U3 : Int))) = W8 := ⟨_, rfl⟩
      have P8 := H7.out.1
      rw [hW8] at P8
      rw [hW8]
      clear hW8 c60 c61 f60 f61 t2 t3 t4 k2 k3 k4
      have e0 : W8.cell? ⟨w1.heap.size, 0, none⟩ = some (.string nm) := P8.T.cell 0
      have e1 : W8.cell? ⟨w1.heap.size, 1, none⟩ = some (.slice A1 k c1) := P8.T.cell 1
      have e2 : W8.cell? ⟨w1.heap.size, 2, none⟩ = some (.int .u32 (U1 : Int)) := P8.T.cell 2
      have e3 : W8.cell? ⟨w1.heap.size, 3, none⟩ = some (.int .i64 (U2 : Int)) := P8.T.cell 3
      have e4 : W8.cell? ⟨w1.heap.size, 4, none⟩ = some (.int .i64 (U3 : Int)) := P8.T.cell 4
      have j0 : W8.cell? ⟨w.heap.size, 0, none⟩ = some (.string (str r6)) := P8.G.cell 0
      have j1 : W8.cell? ⟨w.heap.size, 1, none⟩ = some (.bool s6) := P8.G.cell 1
      have y0 : W8.cell? ⟨w.heap.size + 1, 0, none⟩ = some (.string ⟨#[]⟩) := P8.A.cell 0
      have y1 : W8.cell? ⟨w.heap.size + 1, 1, none⟩ = some (.slice none 0 0) := P8.A.cell 1
      have y2 : W8.cell? ⟨w.heap.size + 1, 2, none⟩ = some (.int .u32 0) := P8.A.cell 2
      have y3 : W8.cell? ⟨w.heap.size + 1, 3, none⟩ = some (.int .i64 0) := P8.A.cell 3
      have y4 : W8.cell? ⟨w.heap.size + 1, 4, none⟩ = some (.int .i64 0) := P8.A.cell 4
      have v0 := P8.A.frozen 0
      have v1 := P8.A.frozen 1
      have v2 := P8.A.frozen 2
      have v3 := P8.A.frozen 3
      have v4 := P8.A.frozen 4
      have o0 : W8.cell? ⟨w.heap.size + 1 + 1, 0, none⟩ = some (.string ⟨#[]⟩) := P8.R.cell 0
      have o1 : W8.cell? ⟨w.heap.size + 1 + 1, 1, none⟩ = some (.bool false) := P8.R.cell 1
      have q0' := P8.R.frozen 0
      have q1' := P8.R.frozen 1
      have z8 := P8.T.lt
      have H8 := Lib.hid (And.intro P8 P8.lt)
      clear P8
      go_region
      all_goals (try go_wp2)
      have F := H8.out.1.fin1 (.string nm) (.slice A1 k c1) (.int .u32 (U1 : Int)) (.int .i64 (U2 : Int)) (.int .i64 (U3 : Int)) (.string (str r6)) (.bool s6)
      obtain ⟨W9, hW9⟩ : ∃ W9, (((((((W8.setCell ⟨w.heap.size + 1, 0, none⟩ (.string nm)).setCell ⟨w.heap.size + 1, 1, none⟩ (.slice A1 k c1)).setCell ⟨w.heap.size + 1, 2, none⟩ (.int .u32 (U1 : Int))).setCell ⟨w.heap.size + 1, 3, none⟩ (.int .i64 (U2 : Int))).setCell ⟨w.heap.size + 1, 4, none⟩ (.int .i64 (U3 : Int))).setCell ⟨w.heap.size + 1 + 1, 0, none⟩ (.string (str r6))).setCell ⟨w.heap.size + 1 + 1, 1, none⟩ (.bool s6)) = W9 := ⟨_, rfl⟩
      rw [hW9] at F
      rw [hW9]
      clear hW9
      exact stable_end F.1.drew F.2.1.drew (by simp) (by simp) ⟨⟨nm, A1, k, c1, (U1 : Int), (U2 : Int), (U3 : Int), cs⟩, r6, s6, rfl, ⟨⟨by (unfold maxLen; show nm.size ≤ _; omega), ⟨HC.out.1, HC.out.2.1⟩, (Reads.of_own F.2.2.1).drew, HC.out.2.2.2.2⟩, u10, u11⟩, fun ad h => by have := HC.out.2.2.1 ad h; omega, H7.out.2.2, rel_tab H1.out.1 H2.out.1 HC.out.2.2.2.1 H7.out.2.1, F.2.2.2.drew⟩
end
end Go.Proofs.Ytflolnilagogpaa

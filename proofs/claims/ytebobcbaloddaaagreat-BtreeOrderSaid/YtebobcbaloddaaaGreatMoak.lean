/-
  Ow C2.
-/
import Derived.Test.YtebobcbaloddaaaGreatMoad
import Derived.Test.YtebobcbaloddaaaGreatProg
import Derived.Lib.AppendStr
import Derived.Deep.Onto
import Derived.Laws.MakeOwn
import Derived.WalkSpells
import Derived.WalkLawsBesides
namespace Go.Proofs.YtebobcbaloddaaaGreat
section
set_option linter.unusedSimpArgs false
set_option linter.unusedVariables false
open Go.RowKit
theorem Tryz.infoB : (Tryz.prog.info? 5).map (fun i => (i.zero, i.size, i.bytes)) = some (some (.int .u8 0), 1, 1) := by kernel_rfl
def Own (w : World) (base : Nat) (v : Value) (l : List UInt8) : Prop := w.ownsRow base 5 1 v l.length (bL l)
structure Keeps (base : Nat) (w w' : World) : Prop where
 below : ∀ B w0, B ≤ base → Below B w0 w → Below B w0 w'
 blk : ∀ g t cs, t ≠ 5 → Blk w g t cs → Blk w' g t cs
 size : w.heap.size ≤ w'.heap.size
theorem Keeps.refl (base : Nat) (w : World) : Keeps base w w := ⟨fun _ _ _ h => h, fun _ _ _ _ h => h, Nat.le_refl _⟩
theorem Keeps.trans {base : Nat} {a b c : World} (h : Keeps base a b) (k : Keeps base b c) : Keeps base a c :=
 ⟨fun B w0 hB hb => k.below B w0 hB (h.below B w0 hB hb), fun g t cs ht hb => k.blk g t cs ht (h.blk g t cs ht hb), Nat.le_trans h.size k.size⟩
theorem Keeps.alloc_ {base : Nat} {w : World} (hb : base ≤ w.heap.size) (o : Obj) : Keeps base w (w.alloc o) :=
 ⟨fun _ _ hB h => h.alloc (by omega) o, fun _ _ _ _ h => h.alloc o, by simp⟩
theorem keeps_grown {w w' : World} {base n : Nat} {v : Value} {xs : List Value} (hown : w.ownsRow base 5 1 v n xs) (hg : w.grownBy w' v.ownBlock) (hb : base ≤ w.heap.size) : Keeps base w w' :=
 ⟨fun _ _ hB h => bgrow h hg hown hB (by omega), fun _ _ _ ht h => h.grown hg (fun e => own_blk_ne hown h (fun e' => ht e'.symm) e.symm), hg.size⟩
theorem Own.alloc {w : World} {base : Nat} {v : Value} {l : List UInt8} (h : Own w base v l) (o : Obj) : Own (w.alloc o) base v l := World.ownsRow.alloc h o
theorem Own.nil (w : World) (base : Nat) : Own w base (.slice none 0 0) [] := ⟨rfl, .inl ⟨rfl, rfl⟩⟩
theorem Own.empty (w : World) {g : Nat} (hg : g = w.heap.size) : Own (w.alloc (.cells #[] 5)) w.heap.size (.slice (some ⟨g, 0, none⟩) 0 0) [] := own_empty w _ 1 hg
theorem Own.form {w : World} {base : Nat} {v : Value} {l : List UInt8} (h : Own w base v l) : ∃ A c, v = .slice A l.length c ∧ l.length ≤ c := own_form h
theorem Own.reads {w : World} {base : Nat} {A : Option Addr} {n c : Nat} {l : List UInt8} (h : Own w base (.slice A n c) l) : Reads w w.heap.size 1 A n (bL l) ∧ n = l.length := by
 obtain ⟨A', c', e, _⟩ := h.form
 injection e with e1 e2 e3
 subst e1; subst e2; subst e3
 exact ⟨Reads.of_own h, rfl⟩
theorem Own.new {w : World} {g : Nat} {l : List UInt8} (h : Blk w g 5 (bV l)) (hl : l.length ≤ maxLen) {base n : Nat} (hb : base ≤ g) (hn : n = l.length) : Own w base (.slice (some ⟨g, 0, none⟩) n n) l := by
 subst hn
 refine ⟨by rw [bL_len]; omega, .inr ⟨g, l.length, bV l, rfl, hb, h, Nat.le_refl _, hl, by rw [bV_size]; omega, ?_⟩⟩
 rw [bV_toList, Nat.mul_one, ← bL_len, List.take_length]
theorem Own.less {w : World} {base base' : Nat} {v : Value} {l : List UInt8} (h : Own w base v l) (hb : base' ≤ base) : Own w base' v l := World.ownsRow.mono h hb
theorem Own.below {w w' : World} {base : Nat} {v : Value} {l : List UInt8} (h : Own w base v l) (hb : Below w.heap.size w w') : Own w' base v l :=
 World.ownsRow.kept h (row := none) ⟨hb.os, hb.tape, hb.output, hb.size, fun i hi _ => hb.block i hi⟩ (by cases h' : v.ownBlock <;> simp)
section
variable {ops : Array Oper} {rest : List Oper} {o : Oper} {a : Act} {Q : Exit → Act → World → Prop} {w : World}
theorem wpList_pushB (hgd : o.guard = none) (s x : Operand) (ho : o.op = .call { callee := .builtin .append, args := #[s, x], argTypes := #[58, 58] })
 (base : Nat) (v : Value) (l : List UInt8) (b : UInt8) (u : Int) (hs : a.eval s = v) (hown : Own w base v l)
 (g : Nat) (hx : a.eval x = .slice (some ⟨g, 0, none⟩) 1 1) (hg : g = w.heap.size) (hu : u = (b.toNat : Int)) (h63 : l.length + 1 ≤ 1000000000) (hbase : base ≤ w.heap.size)
 (h : ∀ v' w', Own w' base v' (l ++ [b]) → Keeps base w w' → wpList Tryz.prog ops Q rest (a.put o.dst v') w') : wpList Tryz.prog ops Q (o :: rest) a (w.alloc (.cells #[.int .u8 u] 5)) := by
 subst hu hg
 obtain ⟨i0, hi0, hz0, hs0, hy0⟩ := int_info8 Tryz.infoB
 have hr : Reads (w.alloc (.cells #[.int .u8 (b.toNat : Int)] 5)) (w.heap.size + 1) 1 (some ⟨w.heap.size, 0, none⟩) 1 [.int .u8 (b.toNat : Int)] := reads_new w _ _ rfl rfl
 refine wpList_append_any _ hgd s x 58 ho base 5 i0 (.int .u8 0) 1 1 Tryz.underlying58 hi0 hz0 hs0 hy0 rfl (by decide) v l.length (bL l) hs (hown.alloc _) _ _ 1 1 [.int .u8 (b.toNat : Int)] hx hr (by intro y hy; rw [List.mem_singleton] at hy; subst hy; rfl) (by unfold maxLen; omega) (by omega) (by simp; omega) ?_
 intro v' w' hown' hk _
 refine h v' w' ?_ ((Keeps.alloc_ hbase _).trans (keeps_grown (hown.alloc _) hk (by simp; omega)))
 unfold Own
 have e1 : (l ++ [b]).length = l.length + 1 := by simp
 have e2 : bL (l ++ [b]) = bL l ++ [.int .u8 (b.toNat : Int)] := by simp [bL]
 rw [e1, e2]
 exact hown'
theorem wpList_appS (hgd : o.guard = none) (sl x : Operand) (ho : o.op = .call { callee := .builtin .append, args := #[sl, x], argTypes := #[58, 9] })
 (base : Nat) (v : Value) (l : List UInt8) (s : ByteArray) (hs : a.eval sl = v) (hown : Own w base v l)
 (hx : a.eval x = .string s) (h63 : l.length + s.size ≤ 1000000000) (hbase : base ≤ w.heap.size)
 (h : ∀ v' w', Own w' base v' (l ++ s.data.toList) → Keeps base w w' → wpList Tryz.prog ops Q rest (a.put o.dst v') w') : wpList Tryz.prog ops Q (o :: rest) a w := by
 obtain ⟨i0, hi0, hz0, hs0, hy0⟩ := int_info8 Tryz.infoB
 obtain ⟨v', w', hrun, h2, h3, _⟩ := Lib.run_append_own_string (P := Tryz.prog) w base 58 9 o.type 5 i0 Tryz.underlying58 Tryz.underlying9 hi0 hz0 hs0 hy0 v l.length (bL l) hown s (by unfold maxLen; omega) (by omega) hbase
 refine wpList_plain hgd fun K hK => ?_
 unfold Oper.wp execOp
 simp only [ho, resolve, invoke, builtin, Sem.run_bind, Sem.run_pure, Result.andThen_ok, List.map_toArray, List.map_cons, List.map_nil, hs, hx, hrun]
 refine hK _ _ (h v' w' ?_ ?_)
 · unfold Own
   have e1 : (l ++ s.data.toList).length = l.length + s.size := by rw [List.length_append, Array.length_toList]; rfl
   have e2 : bL (l ++ s.data.toList) = bL l ++ Lib.strCells s := by simp [bL, Lib.strCells]
   rw [e1, e2]
   exact h2
 · exact keeps_grown hown h3 hbase
theorem wpList_appR (hgd : o.guard = none) (sl x : Operand) (ho : o.op = .call { callee := .builtin .append, args := #[sl, x], argTypes := #[58, 58] })
 (base : Nat) (v : Value) (l r : List UInt8) (A : Option Addr) (m c B : Nat) (hs : a.eval sl = v) (hown : Own w base v l)
 (hx : a.eval x = .slice A m c) (hr : Reads w B 1 A m (bL r)) (h63 : l.length + r.length ≤ 1000000000) (hbase : base ≤ w.heap.size)
 (h : ∀ v' w', Own w' base v' (l ++ r) → Keeps base w w' → wpList Tryz.prog ops Q rest (a.put o.dst v') w') : wpList Tryz.prog ops Q (o :: rest) a w := by
 obtain ⟨i0, hi0, hz0, hs0, hy0⟩ := int_info8 Tryz.infoB
 have hm : r.length = m := by have := hr.1; rw [bL_len] at this; omega
 refine wpList_append_any w hgd sl x 58 ho base 5 i0 (.int .u8 0) 1 1 Tryz.underlying58 hi0 hz0 hs0 hy0 rfl (by decide) v l.length (bL l) hs hown B A m c (bL r) hx hr (bL_one r) (by unfold maxLen; omega) (by omega) hbase ?_
 intro v' w' h2 h3 _
 refine h v' w' ?_ ?_
 · unfold Own
   have e2 : bL (l ++ r) = bL l ++ bL r := by simp [bL]
   rw [List.length_append, hm, e2]
   exact h2
 · exact keeps_grown hown h3 hbase
end
def be : Nat → Nat → List UInt8
 | 0, _ => []
 | n + 1, u => be n (u / 256) ++ [UInt8.ofNat u]
theorem be_len : ∀ n u, (be n u).length = n
 | 0, _ => rfl
 | n + 1, u => by rw [be, List.length_append, be_len n]; rfl
theorem be_cons : ∀ n u, be (n + 1) u = UInt8.ofNat (u / 256 ^ n) :: be n u
 | 0, u => by simp [be]
 | n + 1, u => by
   rw [be, be_cons n (u / 256), be, List.cons_append]
   congr 2
   rw [Nat.div_div_eq_div_mul, Nat.pow_succ, Nat.mul_comm]
theorem be_at (n u k : Nat) (hk : k < n) : (be n u)[k]? = some (UInt8.ofNat (u / 256 ^ (n - 1 - k))) := by
 induction n generalizing k with
 | zero => omega
 | succ n ih =>
   rw [be_cons]
   cases k with
   | zero => simp
   | succ k => rw [List.getElem?_cons_succ, ih k (by omega)]; congr 4; omega
theorem be_take (n u k : Nat) (hk : k < n) : (be n u).take (k + 1) = (be n u).take k ++ [UInt8.ofNat (u / 256 ^ (n - 1 - k))] := by
 rw [List.take_add_one, be_at n u k hk]; rfl
theorem u8_nat (n : Nat) : ((UInt8.ofNat n).toNat : Int) = (n : Int) % 256 := by simp
end
end Go.Proofs.YtebobcbaloddaaaGreat
namespace Go.Proofs.YtebobcbaloddaaaGreat
section
set_option linter.unusedSimpArgs false
set_option linter.unusedVariables false
open Go.RowKit
def bT (l : List UInt8) (tl : List Value) : Array Value := (bL l ++ tl).toArray
theorem Own.open_ {w : World} {base : Nat} {A : Option Addr} {n c : Nat} {l : List UInt8} (h : Own w base (.slice A n c) l) (hn : 0 < n) : ∃ g tl, A = some ⟨g, 0, none⟩ ∧ base ≤ g ∧ Blk w g 5 (bT l tl) ∧ (bL l ++ tl).length = c ∧ c ≤ maxLen := by
 have hl := h.reads.2
 rcases h.2 with ⟨e, _⟩ | ⟨g, cap, cur, e, hb, hh, hnc, hcm, hcs, ht⟩
 · injection e with _ e2 _; omega
 · injection e with e1 e2 e3
   subst e3
   have hcur : cur.toList = bL l ++ cur.toList.drop l.length := by
    have := List.take_append_drop l.length cur.toList
    rw [Nat.mul_one] at ht
    rw [ht] at this
    exact this.symm
   have hc : cur = bT l (cur.toList.drop l.length) := by unfold bT; rw [← hcur]
   refine ⟨g, cur.toList.drop l.length, e1, hb, ?_, ?_, hcm⟩
   · unfold Blk; rw [← hc]; exact hh
   · rw [← hcur, Array.length_toList, hcs, Nat.mul_one]
end
end Go.Proofs.YtebobcbaloddaaaGreat

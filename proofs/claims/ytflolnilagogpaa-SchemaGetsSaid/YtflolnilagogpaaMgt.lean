/-
  Several texts in one: Jk.
-/
import Derived.Test.YtflolnilagogpaaMgs
/-
  The reference's index.
-/
namespace Go.Proofs.Ytflolnilagogpaa
section
set_option linter.unusedSimpArgs false
set_option linter.unusedVariables false
open Go.RowKit

structure R0 (w0 : World) (r : List UInt8) (s : Bool) (W : World) : Prop where
  G : Blk W w0.heap.size 70 #[.string (str r), .bool s]
  b : Below w0.heap.size w0 W
  A : Blk W (w0.heap.size + 1) 49 #[.string ⟨#[]⟩, .int .i64 0, .slice none 0 0, .int .u32 0, .int .i64 0, .int .i64 0, .slice none 0 0]
  R : Blk W (w0.heap.size + 1 + 1) 70 #[.string ⟨#[]⟩, .bool false]
structure RIS (w0 : World) (t1 base : Nat) (tc : Array Value) (u' : Value) (k' : Nat) (xs' : List Value) (u : Value) (k : Nat) (xs : List Value) (r : List UInt8) (s : Bool) (W : World) : Prop where
  T : Blk W t1 49 tc
  oth : W.ownsRow (t1 + 1) 3 1 u' k' xs'
  low : ∀ kk, u'.ownBlock = some kk → kk < base
  own : W.ownsRow base 3 1 u k xs
  z : R0 w0 r s W
  lt : w0.heap.size + 1 + 1 < t1
  lb : t1 < base
  sz : base ≤ W.heap.size
section
variable {w0 W W' : World} {t1 base k k' : Nat} {xs xs' : List Value} {tc : Array Value} {u u' : Value} {r : List UInt8} {s : Bool}
theorem R0.call (h : R0 w0 r s W) (hb : Below W.heap.size W W') : R0 w0 r s W' :=
  ⟨h.G.below hb h.G.lt, bto0 h.b hb, h.A.below hb h.A.lt, h.R.below hb h.R.lt⟩
theorem R0.setG (h : R0 w0 r s W) (r' : List UInt8) (s' : Bool) : R0 w0 r' s' ((W.setCell ⟨w0.heap.size, 0, none⟩ (.string (str r'))).setCell ⟨w0.heap.size, 1, none⟩ (.bool s')) :=
  ⟨(h.G.set_ 0 _).set_ 1 _, (h.b.setCell (Nat.le_refl _) _).setCell (Nat.le_refl _) _, (h.A.far (by simp) _).far (by simp) _, (h.R.far (by simp; omega) _).far (by simp; omega) _⟩
theorem R0.start (h : R0 w0 r s W) {t1 : Nat} (ht : t1 = W.heap.size) (tc : Array Value) : RIS w0 t1 (t1 + 1) tc (.slice none 0 0) 0 [] (.slice none 0 0) 0 [] r s (W.alloc (.cells tc 49)) := by
  have h1 := h.R.lt
  exact ⟨Blk.newAt ht, ⟨rfl, .inl ⟨rfl, rfl⟩⟩, fun kk e => (by cases e), ⟨rfl, .inl ⟨rfl, rfl⟩⟩, ⟨h.G.alloc _, ball h.b _, h.A.alloc _, h.R.alloc _⟩, by omega, by omega, by simp; omega⟩
theorem RIS.call (h : RIS w0 t1 base tc u' k' xs' u k xs r s W) (hb : Below W.heap.size W W') : RIS w0 t1 base tc u' k' xs' u k xs r s W' :=
  ⟨h.T.below hb h.T.lt, own_belowR h.oth hb, h.low, own_belowR h.own hb, h.z.call hb, h.lt, h.lb, Nat.le_trans h.sz hb.size⟩
theorem RIS.setG (h : RIS w0 t1 base tc u' k' xs' u k xs r s W) (r' : List UInt8) (s' : Bool) : RIS w0 t1 base tc u' k' xs' u k xs r' s' ((W.setCell ⟨w0.heap.size, 0, none⟩ (.string (str r'))).setCell ⟨w0.heap.size, 1, none⟩ (.bool s')) := by
  have hlt := h.lt
  have hlb := h.lb
  exact ⟨(h.T.far (by simp; omega) _).far (by simp; omega) _, own_farI (own_farI h.oth _ (by omega) _ _) _ (by omega) _ _, h.low, own_farI (own_farI h.own _ (by omega) _ _) _ (by omega) _ _, h.z.setG r' s', hlt, hlb, by have := h.sz; simp [World.setCell]; exact this⟩
theorem RIS.setT (h : RIS w0 t1 base tc u' k' xs' u k xs r s W) (i : Nat) (v : Value) : RIS w0 t1 base (tc.setIfInBounds i v) u' k' xs' u k xs r s (W.setCell ⟨t1, i, none⟩ v) := by
  have hlt := h.lt
  have hlb := h.lb
  exact ⟨h.T.set_ i v, own_farI h.oth _ (by omega) _ _, h.low, own_farI h.own _ (by omega) _ _, ⟨h.z.G.far (by simp; omega) _, h.z.b.setCell (by show w0.heap.size ≤ t1; omega) _, h.z.A.far (by simp; omega) _, h.z.R.far (by simp; omega) _⟩, hlt, hlb, by have := h.sz; simp [World.setCell]; exact this⟩
theorem RIS.push (h : RIS w0 t1 base tc u' k' xs' u k xs r s W) {new : List Value} {v : Value} {o : Obj} (ho : W'.ownsRow base 3 1 v (k + 1) (xs ++ new)) (hg : (W.alloc o).grownBy W' u.ownBlock) : RIS w0 t1 base tc u' k' xs' v (k + 1) (xs ++ new) r s W' := by
  have hlt := h.lt
  have hlb := h.lb
  have hsz := h.sz
  have oa := World.ownsRow.alloc h.own o
  exact ⟨blk_far_own oa (h.T.alloc o) hg (by omega), kept_low (World.ownsRow.alloc h.oth o) hg oa h.low, h.low, ho, ⟨blk_far_own oa (h.z.G.alloc o) hg (by omega), bgrow (ball h.z.b o) hg oa (by omega) (by simp; omega), blk_far_own oa (h.z.A.alloc o) hg (by omega), blk_far_own oa (h.z.R.alloc o) hg (by omega)⟩, hlt, hlb, by have := hg.size; simp at this; omega⟩
/-- The first row is whole: the second begins. -/
theorem RIS.turn (h : RIS w0 t1 (t1 + 1) tc u' k' xs' u k xs r s W) {B : Nat} (hB : B = W.heap.size) : RIS w0 t1 B tc u k xs (.slice none 0 0) 0 [] r s W := by
  have hlb := h.T.lt
  exact ⟨h.T, h.own, fun kk e => by have := (World.ownsRow.lt h.own kk e).2; omega, ⟨rfl, .inl ⟨rfl, rfl⟩⟩, h.z, h.lt, by omega, by omega⟩
theorem RIS.fin1 (h : RIS w0 t1 base tc u' k' xs' u k xs r s W) (a0 a1 a2 a3 a4 a5 a6 b0 b1 : Value) :
    Blk (((((((((W.setCell ⟨w0.heap.size + 1, 0, none⟩ a0).setCell ⟨w0.heap.size + 1, 1, none⟩ a1).setCell ⟨w0.heap.size + 1, 2, none⟩ a2).setCell ⟨w0.heap.size + 1, 3, none⟩ a3).setCell ⟨w0.heap.size + 1, 4, none⟩ a4).setCell ⟨w0.heap.size + 1, 5, none⟩ a5).setCell ⟨w0.heap.size + 1, 6, none⟩ a6).setCell ⟨w0.heap.size + 1 + 1, 0, none⟩ b0).setCell ⟨w0.heap.size + 1 + 1, 1, none⟩ b1) (w0.heap.size + 1) 49 #[a0, a1, a2, a3, a4, a5, a6] ∧
    Blk (((((((((W.setCell ⟨w0.heap.size + 1, 0, none⟩ a0).setCell ⟨w0.heap.size + 1, 1, none⟩ a1).setCell ⟨w0.heap.size + 1, 2, none⟩ a2).setCell ⟨w0.heap.size + 1, 3, none⟩ a3).setCell ⟨w0.heap.size + 1, 4, none⟩ a4).setCell ⟨w0.heap.size + 1, 5, none⟩ a5).setCell ⟨w0.heap.size + 1, 6, none⟩ a6).setCell ⟨w0.heap.size + 1 + 1, 0, none⟩ b0).setCell ⟨w0.heap.size + 1 + 1, 1, none⟩ b1) (w0.heap.size + 1 + 1) 70 #[b0, b1] ∧
    (((((((((W.setCell ⟨w0.heap.size + 1, 0, none⟩ a0).setCell ⟨w0.heap.size + 1, 1, none⟩ a1).setCell ⟨w0.heap.size + 1, 2, none⟩ a2).setCell ⟨w0.heap.size + 1, 3, none⟩ a3).setCell ⟨w0.heap.size + 1, 4, none⟩ a4).setCell ⟨w0.heap.size + 1, 5, none⟩ a5).setCell ⟨w0.heap.size + 1, 6, none⟩ a6).setCell ⟨w0.heap.size + 1 + 1, 0, none⟩ b0).setCell ⟨w0.heap.size + 1 + 1, 1, none⟩ b1).ownsRow (t1 + 1) 3 1 u' k' xs' ∧
    (((((((((W.setCell ⟨w0.heap.size + 1, 0, none⟩ a0).setCell ⟨w0.heap.size + 1, 1, none⟩ a1).setCell ⟨w0.heap.size + 1, 2, none⟩ a2).setCell ⟨w0.heap.size + 1, 3, none⟩ a3).setCell ⟨w0.heap.size + 1, 4, none⟩ a4).setCell ⟨w0.heap.size + 1, 5, none⟩ a5).setCell ⟨w0.heap.size + 1, 6, none⟩ a6).setCell ⟨w0.heap.size + 1 + 1, 0, none⟩ b0).setCell ⟨w0.heap.size + 1 + 1, 1, none⟩ b1).ownsRow base 3 1 u k xs ∧
    Below w0.heap.size w0 (((((((((W.setCell ⟨w0.heap.size + 1, 0, none⟩ a0).setCell ⟨w0.heap.size + 1, 1, none⟩ a1).setCell ⟨w0.heap.size + 1, 2, none⟩ a2).setCell ⟨w0.heap.size + 1, 3, none⟩ a3).setCell ⟨w0.heap.size + 1, 4, none⟩ a4).setCell ⟨w0.heap.size + 1, 5, none⟩ a5).setCell ⟨w0.heap.size + 1, 6, none⟩ a6).setCell ⟨w0.heap.size + 1 + 1, 0, none⟩ b0).setCell ⟨w0.heap.size + 1 + 1, 1, none⟩ b1) := by
  have hlt := h.lt
  have hlb := h.lb
  refine ⟨((((((((h.z.A.set_ 0 a0).set_ 1 a1).set_ 2 a2).set_ 3 a3).set_ 4 a4).set_ 5 a5).set_ 6 a6).far (by simp) _).far (by simp) _, (((((((((h.z.R.far (by simp) a0).far (by simp) a1).far (by simp) a2).far (by simp) a3).far (by simp) a4).far (by simp) a5).far (by simp) a6).set_ 0 b0).set_ 1 b1), ?_, ?_, ?_⟩
  · exact own_farI (own_farI (own_farI (own_farI (own_farI (own_farI (own_farI (own_farI (own_farI h.oth _ (by omega) _ _) _ (by omega) _ _) _ (by omega) _ _) _ (by omega) _ _) _ (by omega) _ _) _ (by omega) _ _) _ (by omega) _ _) _ (by omega) _ _) _ (by omega) _ _
  · exact own_farI (own_farI (own_farI (own_farI (own_farI (own_farI (own_farI (own_farI (own_farI h.own _ (by omega) _ _) _ (by omega) _ _) _ (by omega) _ _) _ (by omega) _ _) _ (by omega) _ _) _ (by omega) _ _) _ (by omega) _ _) _ (by omega) _ _) _ (by omega) _ _
  · have b1' : w0.heap.size ≤ w0.heap.size + 1 := by omega
    have b2 : w0.heap.size ≤ w0.heap.size + 1 + 1 := by omega
    exact ((((((((h.z.b.setCell b1' _).setCell b1' _).setCell b1' _).setCell b1' _).setCell b1' _).setCell b1' _).setCell b1' _).setCell b2 _).setCell b2 _
end
theorem sindex_end {W : World} {A R : Nat} {tm : Array Value} {Q : Ending → World → Prop} {a0 a1 a2 a3 a4 a5 a6 b0 b1 : Value} (hA : Blk W A 49 #[a0, a1, a2, a3, a4, a5, a6]) (hR : Blk W R 70 #[b0, b1])
    (h2 : tm[2]? = some (.pointer (some ⟨A, 0, none⟩))) (h3 : tm[3]? = some (.pointer (some ⟨R, 0, none⟩))) (h : Q (.returned (.tuple #[.agg #[a0, a1, a2, a3, a4, a5, a6], .agg #[b0, b1]])) W) :
    bodyPost Try.prog Try.f37 Q Exit.ret { tmps := tm, defers := [] } W := by
  have q0 : W.cell? ⟨A, 0, none⟩ = some a0 := hA.cell 0
  have q1 : W.cell? ⟨A, 1, none⟩ = some a1 := hA.cell 1
  have q2 : W.cell? ⟨A, 2, none⟩ = some a2 := hA.cell 2
  have q3 : W.cell? ⟨A, 3, none⟩ = some a3 := hA.cell 3
  have q4 : W.cell? ⟨A, 4, none⟩ = some a4 := hA.cell 4
  have q5 : W.cell? ⟨A, 5, none⟩ = some a5 := hA.cell 5
  have q6 : W.cell? ⟨A, 6, none⟩ = some a6 := hA.cell 6
  have p0 : W.cell? ⟨R, 0, none⟩ = some b0 := hR.cell 0
  have p1 : W.cell? ⟨R, 1, none⟩ = some b1 := hR.cell 1
  exact bodyPost_ret (v := .tuple #[.agg #[a0, a1, a2, a3, a4, a5, a6], .agg #[b0, b1]]) (by simp [results, Try.results37, go_sem, h2, h3, q0, q1, q2, q3, q4, q5, q6, p0, p1]) rfl h
def RetRX (w : World) (r : List UInt8) (sh : Bool) (e : Ending) (w' : World) : Prop :=
  ∃ (x : Ix) (r' : List UInt8) (sh' : Bool), e = .returned (.tuple #[x.agg, .agg #[.string (str r'), .bool sh']]) ∧ IxIn w' w'.heap.size x ∧ (∀ ad, x.A = some ad → w.heap.size ≤ ad.block) ∧ (∀ ad, x.B = some ad → w.heap.size ≤ ad.block) ∧ St r' sh' ∧ Rel gIdx r sh x.px r' sh' ∧ Below w.heap.size w w'
set_option maxRecDepth 100000 in
set_option maxHeartbeats 32000000 in
theorem sindex_any (r : List UInt8) (sh : Bool) (w : World) (h : St r sh) :
    Calls Try.prog 37 #[.agg #[.string (str r), .bool sh]] w (RetRX w r sh) := by
  have N0 := Lib.hid fun W => rs_text r sh W h
  obtain ⟨i0, hi0, hz0, hs0, hy0⟩ := int_info8 Try.infoI
  have HZ0 : Hid (R0 w r sh (((w.alloc (.cells #[.string (str r), .bool sh] 70)).alloc (.cells #[.string ⟨#[]⟩, .int .i64 0, .slice none 0 0, .int .u32 0, .int .i64 0, .int .i64 0, .slice none 0 0] 49)).alloc (.cells #[.string ⟨#[]⟩, .bool false] 70))) := Lib.hid ⟨((Blk.newAt rfl).alloc _).alloc _, ball (ball (ball (Below.refl _ _) _) _) _, (Blk.newAt (by simp)).alloc _, Blk.newAt (by simp)⟩
  clear h
  go_enter Try.func37, Try.ntmps37
  go_wp2_with fail
  refine (N0.out _).mono ?_
  rintro e w1 ⟨nm, r1, s1, rfl, hnm, st1, hl1, hb1⟩
  have P1 := (HZ0.out).call hb1
  have c10 : w1.cell? ⟨w.heap.size, 0, none⟩ = _ := P1.G.cell 0
  have c11 : w1.cell? ⟨w.heap.size, 1, none⟩ = _ := P1.G.cell 1
  have f10 := P1.G.frozen 0
  have f11 := P1.G.frozen 1
  have z1 := P1.R.lt
  have Q1 := P1.setG r1 s1
  have d10 : ((w1.setCell ⟨w.heap.size, 0, none⟩ (.string (str r1))).setCell ⟨w.heap.size, 1, none⟩ (.bool s1)).cell? ⟨w.heap.size, 0, none⟩ = some (.string (str r1)) := Q1.G.cell 0
  have d11 : ((w1.setCell ⟨w.heap.size, 0, none⟩ (.string (str r1))).setCell ⟨w.heap.size, 1, none⟩ (.bool s1)).cell? ⟨w.heap.size, 1, none⟩ = some (.bool s1) := Q1.G.cell 1
  have N1 := Lib.hid fun W => rs_one r1 s1 W st1
  have H1 := Lib.hid (And.intro hl1 (And.intro Q1 st1))
  clear P1 Q1 hb1 st1 hl1 N0 
  go_wp2_with fail
  refine (N1.out _).mono ?_
  rintro e w2 ⟨b2, r2, s2, rfl, st2, hl2, hb2⟩
  clear c10 c11 f10 f11 d10 d11
  have P2 := (H1.out.2.1).call hb2
  have c20 : w2.cell? ⟨w.heap.size, 0, none⟩ = _ := P2.G.cell 0
  have c21 : w2.cell? ⟨w.heap.size, 1, none⟩ = _ := P2.G.cell 1
  have f20 := P2.G.frozen 0
  have f21 := P2.G.frozen 1
  have z2 := P2.R.lt
  have Q2 := P2.setG r2 s2
  have hsz : ((w2.setCell ⟨w.heap.size, 0, none⟩ (.string (str r2))).setCell ⟨w.heap.size, 1, none⟩ (.bool s2)).heap.size = w2.heap.size := by simp [World.setCell]
  have Q2 := Q2.start (t1 := w2.heap.size) hsz.symm #[.string nm, .int .i64 (b2.toNat : Int), .slice none 0 0, .int .u32 0, .int .i64 0, .int .i64 0, .slice none 0 0]
  have d20 : (((w2.setCell ⟨w.heap.size, 0, none⟩ (.string (str r2))).setCell ⟨w.heap.size, 1, none⟩ (.bool s2)).alloc (.cells #[.string nm, .int .i64 (b2.toNat : Int), .slice none 0 0, .int .u32 0, .int .i64 0, .int .i64 0, .slice none 0 0] 49)).cell? ⟨w.heap.size, 0, none⟩ = some (.string (str r2)) := Q2.z.G.cell 0
  have d21 : (((w2.setCell ⟨w.heap.size, 0, none⟩ (.string (str r2))).setCell ⟨w.heap.size, 1, none⟩ (.bool s2)).alloc (.cells #[.string nm, .int .i64 (b2.toNat : Int), .slice none 0 0, .int .u32 0, .int .i64 0, .int .i64 0, .slice none 0 0] 49)).cell? ⟨w.heap.size, 1, none⟩ = some (.bool s2) := Q2.z.G.cell 1
  have N2 := Lib.hid fun W => rs_one r2 s2 W st2
  have b20 : (0 : Int) ≤ (b2.toNat : Int) := by omega
  have b21 : (b2.toNat : Int) ≤ 255 := by have := b2.toNat_lt; omega
  have H2 := Lib.hid (And.intro hl2 (And.intro Q2 st2))
  clear P2 Q2 hb2 st2 hl2 N1 
  clear hsz
  go_wp2_with fail
  refine (N2.out _).mono ?_
  rintro e w3 ⟨b3, r3, s3, rfl, st3, hl3, hb3⟩
  clear c20 c21 f20 f21 d20 d21
  have P3 := (H2.out.2.1).call hb3
  have c30 : w3.cell? ⟨w.heap.size, 0, none⟩ = _ := P3.z.G.cell 0
  have c31 : w3.cell? ⟨w.heap.size, 1, none⟩ = _ := P3.z.G.cell 1
  have f30 := P3.z.G.frozen 0
  have f31 := P3.z.G.frozen 1
  have z3 := P3.z.R.lt
  have Q3 := P3.setG r3 s3
  have d30 : ((w3.setCell ⟨w.heap.size, 0, none⟩ (.string (str r3))).setCell ⟨w.heap.size, 1, none⟩ (.bool s3)).cell? ⟨w.heap.size, 0, none⟩ = some (.string (str r3)) := Q3.z.G.cell 0
  have d31 : ((w3.setCell ⟨w.heap.size, 0, none⟩ (.string (str r3))).setCell ⟨w.heap.size, 1, none⟩ (.bool s3)).cell? ⟨w.heap.size, 1, none⟩ = some (.bool s3) := Q3.z.G.cell 1
  have b30 : (0 : Int) ≤ (b3.toNat : Int) := by omega
  have b31 : (b3.toNat : Int) ≤ 255 := by have := b3.toNat_lt; omega
  have H3 := Lib.hid (And.intro hl3 (And.intro Q3 st3))
  clear P3 Q3 hb3 st3 hl3 N2 
  go_wp2
  go_loopw [8] (fun v wr => ∃ (k : Nat) (cs : List Int) (u : Value) (rk : List UInt8) (sk : Bool), k ≤ b3.toNat ∧ v = .int .i64 k ∧ RIS w w2.heap.size (w2.heap.size + 1) #[.string nm, .int .i64 (b2.toNat : Int), u, .int .u32 0, .int .i64 0, .int .i64 0, .slice none 0 0] (.slice none 0 0) 0 [] u k (vI64 cs) rk sk wr ∧ cs.length = k ∧ St rk sk ∧ Rel (gMany (gInt gOne) k) r3 s3 cs rk sk) (fun v _ => b3.toNat - (intOf v).toNat)
  case atStart => exact ⟨0, [], _, r3, s3, by omega, rfl, H3.out.2.1, rfl, H3.out.2.2, rel_many_nil _ _ _⟩
  case round =>
    clear c30 c31 f30 f31 d30 d31
    obtain ⟨wo, rfl⟩ : ∃ wo : World, wo = wr := ⟨_, rfl⟩
    obtain ⟨k, cs, u, rk, sk, hk, rfl, hq, hcl, hst, hl⟩ := hrel
    have q0 : (0 : Int) ≤ (k : Int) := by omega
    have g0 : wo.cell? ⟨w.heap.size, 0, none⟩ = some (.string (str rk)) := hq.z.G.cell 0
    have g1 : wo.cell? ⟨w.heap.size, 1, none⟩ = some (.bool sk) := hq.z.G.cell 1
    have hzo := hq.T.lt
    have hzl := hq.lt
    have HQ := Lib.hid (And.intro hq (And.intro hcl (And.intro hst hl)))
    clear hq hcl hst hl
    by_cases hlt : k < b3.toNat
    · have q1 : (k : Int) < (b3.toNat : Int) := by omega
      have q2 : k < 255 := by omega
      cases sk
      · have N4 := Lib.hid fun W => rs_one rk false W HQ.out.2.2.1
        go_wp2_with fail
        refine (N4.out _).mono ?_
        rintro e w4 ⟨b4, r4, s4, rfl, st4, hl4, hb4⟩
        have P4 := (HQ.out.1.call hb4).call (ball (Below.refl _ _) (.cells #[.string (str r4), .bool s4] 70))
        have c40 : (w4.alloc (.cells #[.string (str r4), .bool s4] 70)).cell? ⟨w.heap.size, 0, none⟩ = _ := P4.z.G.cell 0
        have c41 : (w4.alloc (.cells #[.string (str r4), .bool s4] 70)).cell? ⟨w.heap.size, 1, none⟩ = _ := P4.z.G.cell 1
        have f40 := P4.z.G.frozen 0
        have f41 := P4.z.G.frozen 1
        have z40 := P4.z.R.lt
        have z41 := HQ.out.1.call hb4
        have z42 := z41.T.lt
        have z43 := z41.sz
        have z44 := z41.z.R.lt
        have P5 := P4.setG r4 s4
        have t5 : (((w4.alloc (.cells #[.string (str r4), .bool s4] 70)).setCell ⟨w.heap.size, 0, none⟩ (.string (str r4))).setCell ⟨w.heap.size, 1, none⟩ (.bool s4)).cell? ⟨w2.heap.size, 2, none⟩ = some u := P5.T.cell 2
        have b40 : (0 : Int) ≤ (b4.toNat : Int) := by omega
        have b41 : (b4.toNat : Int) ≤ 255 := by have := b4.toNat_lt; omega
        have H5 := Lib.hid (And.intro hl4 (And.intro P5 st4))
        clear P4 P5 hb4 st4 hl4 N4 z41 g0 g1
        go_wp2_with (at_builtin; refine wpList_pushR (news := [.int .i64 (b4.toNat : Int)]) rfl (.tmp 52) (.tmp 54) 47 rfl (w2.heap.size + 1) 3 i0 _ 1 8 Try.underlying47 hi0 hz0 hs0 hy0 rfl (by decide) u k _ (by first | rfl | (simp [Act.eval, Act.put]; done)) H5.out.2.1.own rfl _ (by first | rfl | (simp [Act.eval, Act.put]; done)) (by simp [World.setCell]) rfl (by intro u hu; rw [List.mem_singleton] at hu; subst hu; rfl) (by omega) (by omega) H5.out.2.1.sz ?_; intro v8 w8 own8 kp8 ob8; obtain ⟨A9, cc9, rfl, hcc9⟩ := own_form own8; have T9 := H5.out.2.1.push own8 kp8; have c9 : w8.cell? ⟨w2.heap.size, 2, none⟩ = some u := T9.T.cell 2; have f9 := T9.T.frozen 2; have z9 := T9.T.lt; have H8 := Lib.hid T9; clear own8 kp8 ob8 T9)
        refine ⟨⟨k + 1, cs ++ [(b4.toNat : Int)], .slice A9 (k + 1) cc9, r4, s4, by omega, by go_num, ?_, by simp [HQ.out.2.1], H5.out.2.2, HQ.out.2.2.2.snoc H5.out.1.int⟩, by simp [intOf]; omega⟩
        rw [vI64_snoc]; exact H8.out.setT 2 (.slice A9 (k + 1) cc9)
      · have HX : Rel (gMany (gInt gOne) b3.toNat) r3 s3 cs rk true := rel_short HQ.out.2.2.2 hk
        have N4 := True.intro
        obtain ⟨A1, c1, rfl, hc1⟩ := own_form HQ.out.1.own
        have HC := Lib.hid (And.intro hc1 (And.intro (own_cap HQ.out.1.own) (And.intro (own_addr HQ.out.1.own) HX)))
        have N3 := Lib.hid fun W => rs_four rk true W HQ.out.2.2.1
        clear hc1 HX N4
        obtain ⟨k1, rfl⟩ : ∃ k1 : Nat, k1 = k := ⟨_, rfl⟩
        go_wp2_with fail
        refine (N3.out _).mono ?_
        rintro e w4 ⟨U4, r4, s4, rfl, hU4, st4, hl4, hb4⟩
        have P4 := (HQ.out.1).call hb4
        have c40 : w4.cell? ⟨w.heap.size, 0, none⟩ = _ := P4.z.G.cell 0
        have c41 : w4.cell? ⟨w.heap.size, 1, none⟩ = _ := P4.z.G.cell 1
        have f40 := P4.z.G.frozen 0
        have f41 := P4.z.G.frozen 1
        have z4 := P4.z.R.lt
        have Q4 := P4.setG r4 s4
        have d40 : ((w4.setCell ⟨w.heap.size, 0, none⟩ (.string (str r4))).setCell ⟨w.heap.size, 1, none⟩ (.bool s4)).cell? ⟨w.heap.size, 0, none⟩ = some (.string (str r4)) := Q4.z.G.cell 0
        have d41 : ((w4.setCell ⟨w.heap.size, 0, none⟩ (.string (str r4))).setCell ⟨w.heap.size, 1, none⟩ (.bool s4)).cell? ⟨w.heap.size, 1, none⟩ = some (.bool s4) := Q4.z.G.cell 1
        have N4 := Lib.hid fun W => rs_four r4 s4 W st4
        have u40 : (0 : Int) ≤ (U4 : Int) := by omega
        have u41 : (U4 : Int) ≤ 4294967295 := by omega
        have H4 := Lib.hid (And.intro hl4 (And.intro Q4 st4))
        clear P4 Q4 hb4 st4 hl4 N3 g0 g1
        go_wp2_with fail
        refine (N4.out _).mono ?_
        rintro e w5 ⟨U5, r5, s5, rfl, hU5, st5, hl5, hb5⟩
        clear c40 c41 f40 f41 d40 d41
        have P5 := (H4.out.2.1).call hb5
        have c50 : w5.cell? ⟨w.heap.size, 0, none⟩ = _ := P5.z.G.cell 0
        have c51 : w5.cell? ⟨w.heap.size, 1, none⟩ = _ := P5.z.G.cell 1
        have f50 := P5.z.G.frozen 0
        have f51 := P5.z.G.frozen 1
        have z5 := P5.z.R.lt
        have Q5 := P5.setG r5 s5
        have d50 : ((w5.setCell ⟨w.heap.size, 0, none⟩ (.string (str r5))).setCell ⟨w.heap.size, 1, none⟩ (.bool s5)).cell? ⟨w.heap.size, 0, none⟩ = some (.string (str r5)) := Q5.z.G.cell 0
        have d51 : ((w5.setCell ⟨w.heap.size, 0, none⟩ (.string (str r5))).setCell ⟨w.heap.size, 1, none⟩ (.bool s5)).cell? ⟨w.heap.size, 1, none⟩ = some (.bool s5) := Q5.z.G.cell 1
        have N5 := Lib.hid fun W => rs_four r5 s5 W st5
        have u50 : (0 : Int) ≤ (U5 : Int) := by omega
        have u51 : (U5 : Int) ≤ 4294967295 := by omega
        have H5 := Lib.hid (And.intro hl5 (And.intro Q5 st5))
        clear P5 Q5 hb5 st5 hl5 N4 
        go_wp2_with fail
        refine (N5.out _).mono ?_
        rintro e w6 ⟨U6, r6, s6, rfl, hU6, st6, hl6, hb6⟩
        clear c50 c51 f50 f51 d50 d51
        have P6 := (H5.out.2.1).call hb6
        have c60 : w6.cell? ⟨w.heap.size, 0, none⟩ = _ := P6.z.G.cell 0
        have c61 : w6.cell? ⟨w.heap.size, 1, none⟩ = _ := P6.z.G.cell 1
        have f60 := P6.z.G.frozen 0
        have f61 := P6.z.G.frozen 1
        have z6 := P6.z.R.lt
        have Q6 := P6.setG r6 s6
        have d60 : ((w6.setCell ⟨w.heap.size, 0, none⟩ (.string (str r6))).setCell ⟨w.heap.size, 1, none⟩ (.bool s6)).cell? ⟨w.heap.size, 0, none⟩ = some (.string (str r6)) := Q6.z.G.cell 0
        have d61 : ((w6.setCell ⟨w.heap.size, 0, none⟩ (.string (str r6))).setCell ⟨w.heap.size, 1, none⟩ (.bool s6)).cell? ⟨w.heap.size, 1, none⟩ = some (.bool s6) := Q6.z.G.cell 1
        have u60 : (0 : Int) ≤ (U6 : Int) := by omega
        have u61 : (U6 : Int) ≤ 4294967295 := by omega
        have H6 := Lib.hid (And.intro hl6 (And.intro Q6 st6))
        clear P6 Q6 hb6 st6 hl6 N5 
        have HN := rel_nums H4.out.1.int H5.out.1.int H6.out.1.int
        have P6 := H6.out.2.1
        have st6 := H6.out.2.2
        obtain ⟨W7, hW7⟩ : ∃ W7, ((w6.setCell ⟨w.heap.size, 0, none⟩ (.string (str r6))).setCell ⟨w.heap.size, 1, none⟩ (.bool s6)) = W7 := ⟨_, rfl⟩
        rw [hW7] at P6
        have t2 : W7.cell? ⟨w2.heap.size, 3, none⟩ = some (.int .u32 0) := P6.T.cell 3
        have t3 : W7.cell? ⟨w2.heap.size, 4, none⟩ = some (.int .i64 0) := P6.T.cell 4
        have t4 : W7.cell? ⟨w2.heap.size, 5, none⟩ = some (.int .i64 0) := P6.T.cell 5
        have k2 : W7.frozen? ⟨w2.heap.size, 3, none⟩ = _ := P6.T.frozen 3
        have k3 : W7.frozen? ⟨w2.heap.size, 4, none⟩ = _ := P6.T.frozen 4
        have k4 : W7.frozen? ⟨w2.heap.size, 5, none⟩ = _ := P6.T.frozen 5
        rw [← hW7] at t2 t3 t4 k2 k3 k4
        have P7 := ((P6.setT 3 (.int .u32 (U4 : Int))).setT 4 (.int .i64 (U5 : Int))).setT 5 (.int .i64 (U6 : Int))
        rw [← hW7] at P7
        clear hW7
        have P7 := P7.turn rfl
        have H6 := Lib.hid (And.intro HN (And.intro P7 st6))
        clear HN P7 P6 st6 H4 H5
        clear d60 d61
        go_wp2
        obtain ⟨WB, hWB⟩ : ∃ WB, (((((w6.setCell ⟨w.heap.size, 0, none⟩ (.string (str r6))).setCell ⟨w.heap.size, 1, none⟩ (.bool s6)).setCell ⟨w2.heap.size, 3, none⟩ (.int .u32 (U4 : Int))).setCell ⟨w2.heap.size, 4, none⟩ (.int .i64 (U5 : Int))).setCell ⟨w2.heap.size, 5, none⟩ (.int .i64 (U6 : Int))).heap.size = WB := ⟨_, rfl⟩
        have P7 := H6.out.2.1
        rw [hWB] at P7
        clear hWB
        go_loopw [14] (fun v wr => ∃ (k : Nat) (ds : List Int) (u : Value) (rk : List UInt8) (sk : Bool), k ≤ b3.toNat ∧ v = .int .i64 k ∧ RIS w w2.heap.size WB #[.string nm, .int .i64 (b2.toNat : Int), .slice A1 k1 c1, .int .u32 (U4 : Int), .int .i64 (U5 : Int), .int .i64 (U6 : Int), u] (.slice A1 k1 c1) k1 (vI64 cs) u k (vI64 ds) rk sk wr ∧ ds.length = k ∧ St rk sk ∧ Rel (gMany (gInt gFour) k) r6 s6 ds rk sk) (fun v _ => b3.toNat - (intOf v).toNat)
        case atStart => exact ⟨0, [], _, r6, s6, by omega, rfl, P7, rfl, H6.out.2.2, rel_many_nil _ _ _⟩
        case round =>
          clear c60 c61 f60 f61 t2 t3 t4 k2 k3 k4 P7
          obtain ⟨wq, rfl⟩ : ∃ wq : World, wq = wo := ⟨_, rfl⟩
          obtain ⟨wo, rfl⟩ : ∃ wo : World, wo = wr := ⟨_, rfl⟩
          obtain ⟨k, ds, u, rk, sk, hk, rfl, hq, hcl, hst, hl⟩ := hrel
          have q0 : (0 : Int) ≤ (k : Int) := by omega
          have g0 : wo.cell? ⟨w.heap.size, 0, none⟩ = some (.string (str rk)) := hq.z.G.cell 0
          have g1 : wo.cell? ⟨w.heap.size, 1, none⟩ = some (.bool sk) := hq.z.G.cell 1
          have hzo := hq.T.lt
          have hzl := hq.lt
          have HK := Lib.hid (And.intro hq (And.intro hcl (And.intro hst hl)))
          clear hq hcl hst hl
          by_cases hlt : k < b3.toNat
          · have q1 : (k : Int) < (b3.toNat : Int) := by omega
            have q2 : k < 255 := by omega
            cases sk
            · have HQ := HK
              have N4 := Lib.hid fun W => rs_four rk false W HK.out.2.2.1
              go_wp2_with fail
              refine (N4.out _).mono ?_
              rintro e w4 ⟨U4, r4, s4, rfl, hU4, st4, hl4, hb4⟩
              have P4 := (HQ.out.1.call hb4).call (ball (Below.refl _ _) (.cells #[.string (str r4), .bool s4] 70))
              have c40 : (w4.alloc (.cells #[.string (str r4), .bool s4] 70)).cell? ⟨w.heap.size, 0, none⟩ = _ := P4.z.G.cell 0
              have c41 : (w4.alloc (.cells #[.string (str r4), .bool s4] 70)).cell? ⟨w.heap.size, 1, none⟩ = _ := P4.z.G.cell 1
              have f40 := P4.z.G.frozen 0
              have f41 := P4.z.G.frozen 1
              have z40 := P4.z.R.lt
              have z41 := HQ.out.1.call hb4
              have z42 := z41.T.lt
              have z43 := z41.sz
              have z44 := z41.z.R.lt
              have P5 := P4.setG r4 s4
              have t5 : (((w4.alloc (.cells #[.string (str r4), .bool s4] 70)).setCell ⟨w.heap.size, 0, none⟩ (.string (str r4))).setCell ⟨w.heap.size, 1, none⟩ (.bool s4)).cell? ⟨w2.heap.size, 6, none⟩ = some u := P5.T.cell 6
              have H5 := Lib.hid (And.intro hl4 (And.intro P5 st4))
              clear P4 P5 hb4 st4 hl4 N4 z41 g0 g1
              go_wp2_with (at_builtin; refine wpList_pushR (news := [.int .i64 (U4 : Int)]) rfl (.tmp 96) (.tmp 98) 47 rfl WB 3 i0 _ 1 8 Try.underlying47 hi0 hz0 hs0 hy0 rfl (by decide) u k _ (by first | rfl | (simp [Act.eval, Act.put]; done)) H5.out.2.1.own rfl _ (by first | rfl | (simp [Act.eval, Act.put]; done)) (by simp [World.setCell]) rfl (by intro u hu; rw [List.mem_singleton] at hu; subst hu; rfl) (by omega) (by omega) H5.out.2.1.sz ?_; intro v8 w8 own8 kp8 ob8; obtain ⟨A9, cc9, rfl, hcc9⟩ := own_form own8; have T9 := H5.out.2.1.push own8 kp8; have c9 : w8.cell? ⟨w2.heap.size, 6, none⟩ = some u := T9.T.cell 6; have f9 := T9.T.frozen 6; have z9 := T9.T.lt; have H8 := Lib.hid T9; clear own8 kp8 ob8 T9)
              refine ⟨⟨k + 1, ds ++ [(U4 : Int)], .slice A9 (k + 1) cc9, r4, s4, by omega, by go_num, ?_, by simp [HQ.out.2.1], H5.out.2.2, HQ.out.2.2.2.snoc H5.out.1.int⟩, by simp [intOf]; omega⟩
              rw [vI64_snoc]; exact H8.out.setT 6 (.slice A9 (k + 1) cc9)
            · have HY : Rel (gMany (gInt gFour) b3.toNat) r6 s6 ds rk true := rel_short HK.out.2.2.2 hk
              obtain ⟨A2, c2', rfl, hc2⟩ := own_form HK.out.1.own
              have P8 := HK.out.1
              have e0 : wo.cell? ⟨w2.heap.size, 0, none⟩ = some (.string nm) := P8.T.cell 0
              have e1 : wo.cell? ⟨w2.heap.size, 1, none⟩ = some (.int .i64 (b2.toNat : Int)) := P8.T.cell 1
              have e2 : wo.cell? ⟨w2.heap.size, 2, none⟩ = some (.slice A1 k1 c1) := P8.T.cell 2
              have e3 : wo.cell? ⟨w2.heap.size, 3, none⟩ = some (.int .u32 (U4 : Int)) := P8.T.cell 3
              have e4 : wo.cell? ⟨w2.heap.size, 4, none⟩ = some (.int .i64 (U5 : Int)) := P8.T.cell 4
              have e5 : wo.cell? ⟨w2.heap.size, 5, none⟩ = some (.int .i64 (U6 : Int)) := P8.T.cell 5
              have e6 : wo.cell? ⟨w2.heap.size, 6, none⟩ = some (.slice A2 k c2') := P8.T.cell 6
              have y0 : wo.cell? ⟨w.heap.size + 1, 0, none⟩ = some (.string ⟨#[]⟩) := P8.z.A.cell 0
              have v0 := P8.z.A.frozen 0
              have y1 : wo.cell? ⟨w.heap.size + 1, 1, none⟩ = some (.int .i64 0) := P8.z.A.cell 1
              have v1 := P8.z.A.frozen 1
              have y2 : wo.cell? ⟨w.heap.size + 1, 2, none⟩ = some (.slice none 0 0) := P8.z.A.cell 2
              have v2 := P8.z.A.frozen 2
              have y3 : wo.cell? ⟨w.heap.size + 1, 3, none⟩ = some (.int .u32 0) := P8.z.A.cell 3
              have v3 := P8.z.A.frozen 3
              have y4 : wo.cell? ⟨w.heap.size + 1, 4, none⟩ = some (.int .i64 0) := P8.z.A.cell 4
              have v4 := P8.z.A.frozen 4
              have y5 : wo.cell? ⟨w.heap.size + 1, 5, none⟩ = some (.int .i64 0) := P8.z.A.cell 5
              have v5 := P8.z.A.frozen 5
              have y6 : wo.cell? ⟨w.heap.size + 1, 6, none⟩ = some (.slice none 0 0) := P8.z.A.cell 6
              have v6 := P8.z.A.frozen 6
              have o0 : wo.cell? ⟨w.heap.size + 1 + 1, 0, none⟩ = some (.string ⟨#[]⟩) := P8.z.R.cell 0
              have o1 : wo.cell? ⟨w.heap.size + 1 + 1, 1, none⟩ = some (.bool false) := P8.z.R.cell 1
              have q0' := P8.z.R.frozen 0
              have q1' := P8.z.R.frozen 1
              have z8 := P8.T.lt
              have zl8 := P8.lt
              have HC2 := Lib.hid (And.intro hc2 (And.intro (own_cap P8.own) (And.intro (own_addr P8.own) P8.lb)))
              have H8 := Lib.hid P8
              clear P8
              go_wp2_with fail
              go_region
              all_goals (try go_wp2)
              have F := H8.out.fin1 (.string nm) (.int .i64 (b2.toNat : Int)) (.slice A1 k1 c1) (.int .u32 (U4 : Int)) (.int .i64 (U5 : Int)) (.int .i64 (U6 : Int)) (.slice A2 k c2') (.string (str rk)) (.bool true)
              obtain ⟨W9, hW9⟩ : ∃ W9, (((((((((wo.setCell ⟨w.heap.size + 1, 0, none⟩ (.string nm)).setCell ⟨w.heap.size + 1, 1, none⟩ (.int .i64 (b2.toNat : Int))).setCell ⟨w.heap.size + 1, 2, none⟩ (.slice A1 k1 c1)).setCell ⟨w.heap.size + 1, 3, none⟩ (.int .u32 (U4 : Int))).setCell ⟨w.heap.size + 1, 4, none⟩ (.int .i64 (U5 : Int))).setCell ⟨w.heap.size + 1, 5, none⟩ (.int .i64 (U6 : Int))).setCell ⟨w.heap.size + 1, 6, none⟩ (.slice A2 k c2')).setCell ⟨w.heap.size + 1 + 1, 0, none⟩ (.string (str rk))).setCell ⟨w.heap.size + 1 + 1, 1, none⟩ (.bool true)) = W9 := ⟨_, rfl⟩
              rw [hW9] at F
              rw [hW9]
              clear hW9
              exact sindex_end F.1.drew F.2.1.drew (by simp) (by simp) ⟨⟨nm, (b2.toNat : Int), A1, k1, c1, (U4 : Int), (U5 : Int), (U6 : Int), A2, k, c2', cs, ds⟩, rk, true, rfl, ⟨⟨by (unfold maxLen; show nm.size ≤ _; omega), ⟨HC.out.1, HC.out.2.1⟩, ⟨HC2.out.1, HC2.out.2.1⟩⟩, (Reads.of_own F.2.2.1).drew, (Reads.of_own F.2.2.2.1).drew, u40, u41⟩, fun ad h => by have := HC.out.2.2.1 ad h; omega, fun ad h => by have := HC2.out.2.2.1 ad h; have := HC2.out.2.2.2; omega, HK.out.2.2.1, rel_idx H1.out.1 H2.out.1.int H3.out.1 HC.out.2.2.2 H6.out.1 HY, F.2.2.2.2.drew⟩
          · have hkb : k = b3.toNat := by omega
            have e9 : decide ((k : Int) < (b3.toNat : Int)) = false := by simp; omega
            have HY : Rel (gMany (gInt gFour) b3.toNat) r6 s6 ds rk sk := hkb ▸ HK.out.2.2.2
            clear hkb
            obtain ⟨A2, c2', rfl, hc2⟩ := own_form HK.out.1.own
            have P8 := HK.out.1
            have e0 : wo.cell? ⟨w2.heap.size, 0, none⟩ = some (.string nm) := P8.T.cell 0
            have e1 : wo.cell? ⟨w2.heap.size, 1, none⟩ = some (.int .i64 (b2.toNat : Int)) := P8.T.cell 1
            have e2 : wo.cell? ⟨w2.heap.size, 2, none⟩ = some (.slice A1 k1 c1) := P8.T.cell 2
            have e3 : wo.cell? ⟨w2.heap.size, 3, none⟩ = some (.int .u32 (U4 : Int)) := P8.T.cell 3
            have e4 : wo.cell? ⟨w2.heap.size, 4, none⟩ = some (.int .i64 (U5 : Int)) := P8.T.cell 4
            have e5 : wo.cell? ⟨w2.heap.size, 5, none⟩ = some (.int .i64 (U6 : Int)) := P8.T.cell 5
            have e6 : wo.cell? ⟨w2.heap.size, 6, none⟩ = some (.slice A2 k c2') := P8.T.cell 6
            have y0 : wo.cell? ⟨w.heap.size + 1, 0, none⟩ = some (.string ⟨#[]⟩) := P8.z.A.cell 0
            have v0 := P8.z.A.frozen 0
            have y1 : wo.cell? ⟨w.heap.size + 1, 1, none⟩ = some (.int .i64 0) := P8.z.A.cell 1
            have v1 := P8.z.A.frozen 1
            have y2 : wo.cell? ⟨w.heap.size + 1, 2, none⟩ = some (.slice none 0 0) := P8.z.A.cell 2
            have v2 := P8.z.A.frozen 2
            have y3 : wo.cell? ⟨w.heap.size + 1, 3, none⟩ = some (.int .u32 0) := P8.z.A.cell 3
            have v3 := P8.z.A.frozen 3
            have y4 : wo.cell? ⟨w.heap.size + 1, 4, none⟩ = some (.int .i64 0) := P8.z.A.cell 4
            have v4 := P8.z.A.frozen 4
            have y5 : wo.cell? ⟨w.heap.size + 1, 5, none⟩ = some (.int .i64 0) := P8.z.A.cell 5
            have v5 := P8.z.A.frozen 5
            have y6 : wo.cell? ⟨w.heap.size + 1, 6, none⟩ = some (.slice none 0 0) := P8.z.A.cell 6
            have v6 := P8.z.A.frozen 6
            have o0 : wo.cell? ⟨w.heap.size + 1 + 1, 0, none⟩ = some (.string ⟨#[]⟩) := P8.z.R.cell 0
            have o1 : wo.cell? ⟨w.heap.size + 1 + 1, 1, none⟩ = some (.bool false) := P8.z.R.cell 1
            have q0' := P8.z.R.frozen 0
            have q1' := P8.z.R.frozen 1
            have z8 := P8.T.lt
            have zl8 := P8.lt
            have HC2 := Lib.hid (And.intro hc2 (And.intro (own_cap P8.own) (And.intro (own_addr P8.own) P8.lb)))
            have H8 := Lib.hid P8
            clear P8
            go_wp2_with fail
            go_region
            all_goals (try go_wp2)
            have F := H8.out.fin1 (.string nm) (.int .i64 (b2.toNat : Int)) (.slice A1 k1 c1) (.int .u32 (U4 : Int)) (.int .i64 (U5 : Int)) (.int .i64 (U6 : Int)) (.slice A2 k c2') (.string (str rk)) (.bool sk)
            obtain ⟨W9, hW9⟩ : ∃ W9, (((((((((wo.setCell ⟨w.heap.size + 1, 0, none⟩ (.string nm)).setCell ⟨w.heap.size + 1, 1, none⟩ (.int .i64 (b2.toNat : Int))).setCell ⟨w.heap.size + 1, 2, none⟩ (.slice A1 k1 c1)).setCell ⟨w.heap.size + 1, 3, none⟩ (.int .u32 (U4 : Int))).setCell ⟨w.heap.size + 1, 4, none⟩ (.int .i64 (U5 : Int))).setCell ⟨w.heap.size + 1, 5, none⟩ (.int .i64 (U6 : Int))).setCell ⟨w.heap.size + 1, 6, none⟩ (.slice A2 k c2')).setCell ⟨w.heap.size + 1 + 1, 0, none⟩ (.string (str rk))).setCell ⟨w.heap.size + 1 + 1, 1, none⟩ (.bool sk)) = W9 := ⟨_, rfl⟩
            rw [hW9] at F
            rw [hW9]
            clear hW9
            exact sindex_end F.1.drew F.2.1.drew (by simp) (by simp) ⟨⟨nm, (b2.toNat : Int), A1, k1, c1, (U4 : Int), (U5 : Int), (U6 : Int), A2, k, c2', cs, ds⟩, rk, sk, rfl, ⟨⟨by (unfold maxLen; show nm.size ≤ _; omega), ⟨HC.out.1, HC.out.2.1⟩, ⟨HC2.out.1, HC2.out.2.1⟩⟩, (Reads.of_own F.2.2.1).drew, (Reads.of_own F.2.2.2.1).drew, u40, u41⟩, fun ad h => by have := HC.out.2.2.1 ad h; omega, fun ad h => by have := HC2.out.2.2.1 ad h; have := HC2.out.2.2.2; omega, HK.out.2.2.1, rel_idx H1.out.1 H2.out.1.int H3.out.1 HC.out.2.2.2 H6.out.1 HY, F.2.2.2.2.drew⟩
    · have hkb : k = b3.toNat := by omega
      have e9 : decide ((k : Int) < (b3.toNat : Int)) = false := by simp; omega
      have HX : Rel (gMany (gInt gOne) b3.toNat) r3 s3 cs rk sk := hkb ▸ HQ.out.2.2.2
      have N4 := True.intro
      clear hkb
      obtain ⟨A1, c1, rfl, hc1⟩ := own_form HQ.out.1.own
      have HC := Lib.hid (And.intro hc1 (And.intro (own_cap HQ.out.1.own) (And.intro (own_addr HQ.out.1.own) HX)))
      have N3 := Lib.hid fun W => rs_four rk sk W HQ.out.2.2.1
      clear hc1 HX N4
      obtain ⟨k1, rfl⟩ : ∃ k1 : Nat, k1 = k := ⟨_, rfl⟩
      go_wp2_with fail
      refine (N3.out _).mono ?_
      rintro e w4 ⟨U4, r4, s4, rfl, hU4, st4, hl4, hb4⟩
      have P4 := (HQ.out.1).call hb4
      have c40 : w4.cell? ⟨w.heap.size, 0, none⟩ = _ := P4.z.G.cell 0
      have c41 : w4.cell? ⟨w.heap.size, 1, none⟩ = _ := P4.z.G.cell 1
      have f40 := P4.z.G.frozen 0
      have f41 := P4.z.G.frozen 1
      have z4 := P4.z.R.lt
      have Q4 := P4.setG r4 s4
      have d40 : ((w4.setCell ⟨w.heap.size, 0, none⟩ (.string (str r4))).setCell ⟨w.heap.size, 1, none⟩ (.bool s4)).cell? ⟨w.heap.size, 0, none⟩ = some (.string (str r4)) := Q4.z.G.cell 0
      have d41 : ((w4.setCell ⟨w.heap.size, 0, none⟩ (.string (str r4))).setCell ⟨w.heap.size, 1, none⟩ (.bool s4)).cell? ⟨w.heap.size, 1, none⟩ = some (.bool s4) := Q4.z.G.cell 1
      have N4 := Lib.hid fun W => rs_four r4 s4 W st4
      have u40 : (0 : Int) ≤ (U4 : Int) := by omega
      have u41 : (U4 : Int) ≤ 4294967295 := by omega
      have H4 := Lib.hid (And.intro hl4 (And.intro Q4 st4))
      clear P4 Q4 hb4 st4 hl4 N3 g0 g1
      go_wp2_with fail
      refine (N4.out _).mono ?_
      rintro e w5 ⟨U5, r5, s5, rfl, hU5, st5, hl5, hb5⟩
      clear c40 c41 f40 f41 d40 d41
      have P5 := (H4.out.2.1).call hb5
      have c50 : w5.cell? ⟨w.heap.size, 0, none⟩ = _ := P5.z.G.cell 0
      have c51 : w5.cell? ⟨w.heap.size, 1, none⟩ = _ := P5.z.G.cell 1
      have f50 := P5.z.G.frozen 0
      have f51 := P5.z.G.frozen 1
      have z5 := P5.z.R.lt
      have Q5 := P5.setG r5 s5
      have d50 : ((w5.setCell ⟨w.heap.size, 0, none⟩ (.string (str r5))).setCell ⟨w.heap.size, 1, none⟩ (.bool s5)).cell? ⟨w.heap.size, 0, none⟩ = some (.string (str r5)) := Q5.z.G.cell 0
      have d51 : ((w5.setCell ⟨w.heap.size, 0, none⟩ (.string (str r5))).setCell ⟨w.heap.size, 1, none⟩ (.bool s5)).cell? ⟨w.heap.size, 1, none⟩ = some (.bool s5) := Q5.z.G.cell 1
      have N5 := Lib.hid fun W => rs_four r5 s5 W st5
      have u50 : (0 : Int) ≤ (U5 : Int) := by omega
      have u51 : (U5 : Int) ≤ 4294967295 := by omega
      have H5 := Lib.hid (And.intro hl5 (And.intro Q5 st5))
      clear P5 Q5 hb5 st5 hl5 N4 
      go_wp2_with fail
      refine (N5.out _).mono ?_
      rintro e w6 ⟨U6, r6, s6, rfl, hU6, st6, hl6, hb6⟩
      clear c50 c51 f50 f51 d50 d51
      have P6 := (H5.out.2.1).call hb6
      have c60 : w6.cell? ⟨w.heap.size, 0, none⟩ = _ := P6.z.G.cell 0
      have c61 : w6.cell? ⟨w.heap.size, 1, none⟩ = _ := P6.z.G.cell 1
      have f60 := P6.z.G.frozen 0
      have f61 := P6.z.G.frozen 1
      have z6 := P6.z.R.lt
      have Q6 := P6.setG r6 s6
      have d60 : ((w6.setCell ⟨w.heap.size, 0, none⟩ (.string (str r6))).setCell ⟨w.heap.size, 1, none⟩ (.bool s6)).cell? ⟨w.heap.size, 0, none⟩ = some (.string (str r6)) := Q6.z.G.cell 0
      have d61 : ((w6.setCell ⟨w.heap.size, 0, none⟩ (.string (str r6))).setCell ⟨w.heap.size, 1, none⟩ (.bool s6)).cell? ⟨w.heap.size, 1, none⟩ = some (.bool s6) := Q6.z.G.cell 1
      have u60 : (0 : Int) ≤ (U6 : Int) := by omega
      have u61 : (U6 : Int) ≤ 4294967295 := by omega
      have H6 := Lib.hid (And.intro hl6 (And.intro Q6 st6))
      clear P6 Q6 hb6 st6 hl6 N5 
      have HN := rel_nums H4.out.1.int H5.out.1.int H6.out.1.int
      have P6 := H6.out.2.1
      have st6 := H6.out.2.2
      obtain ⟨W7, hW7⟩ : ∃ W7, ((w6.setCell ⟨w.heap.size, 0, none⟩ (.string (str r6))).setCell ⟨w.heap.size, 1, none⟩ (.bool s6)) = W7 := ⟨_, rfl⟩
      rw [hW7] at P6
      have t2 : W7.cell? ⟨w2.heap.size, 3, none⟩ = some (.int .u32 0) := P6.T.cell 3
      have t3 : W7.cell? ⟨w2.heap.size, 4, none⟩ = some (.int .i64 0) := P6.T.cell 4
      have t4 : W7.cell? ⟨w2.heap.size, 5, none⟩ = some (.int .i64 0) := P6.T.cell 5
      have k2 : W7.frozen? ⟨w2.heap.size, 3, none⟩ = _ := P6.T.frozen 3
      have k3 : W7.frozen? ⟨w2.heap.size, 4, none⟩ = _ := P6.T.frozen 4
      have k4 : W7.frozen? ⟨w2.heap.size, 5, none⟩ = _ := P6.T.frozen 5
      rw [← hW7] at t2 t3 t4 k2 k3 k4
      have P7 := ((P6.setT 3 (.int .u32 (U4 : Int))).setT 4 (.int .i64 (U5 : Int))).setT 5 (.int .i64 (U6 : Int))
      rw [← hW7] at P7
      clear hW7
      have P7 := P7.turn rfl
      have H6 := Lib.hid (And.intro HN (And.intro P7 st6))
      clear HN P7 P6 st6 H4 H5
      clear d60 d61
      go_wp2
      obtain ⟨WB, hWB⟩ : ∃ WB, (((((w6.setCell ⟨w.heap.size, 0, none⟩ (.string (str r6))).setCell ⟨w.heap.size, 1, none⟩ (.bool s6)).setCell ⟨w2.heap.size, 3, none⟩ (.int .u32 (U4 : Int))).setCell ⟨w2.heap.size, 4, none⟩ (.int .i64 (U5 : Int))).setCell ⟨w2.heap.size, 5, none⟩ (.int .i64 (U6 : Int))).heap.size = WB := ⟨_, rfl⟩
      have P7 := H6.out.2.1
      rw [hWB] at P7
      clear hWB
      go_loopw [14] (fun v wr => ∃ (k : Nat) (ds : List Int) (u : Value) (rk : List UInt8) (sk : Bool), k ≤ b3.toNat ∧ v = .int .i64 k ∧ RIS w w2.heap.size WB #[.string nm, .int .i64 (b2.toNat : Int), .slice A1 k1 c1, .int .u32 (U4 : Int), .int .i64 (U5 : Int), .int .i64 (U6 : Int), u] (.slice A1 k1 c1) k1 (vI64 cs) u k (vI64 ds) rk sk wr ∧ ds.length = k ∧ St rk sk ∧ Rel (gMany (gInt gFour) k) r6 s6 ds rk sk) (fun v _ => b3.toNat - (intOf v).toNat)
      case atStart => exact ⟨0, [], _, r6, s6, by omega, rfl, P7, rfl, H6.out.2.2, rel_many_nil _ _ _⟩
      case round =>
        clear c60 c61 f60 f61 t2 t3 t4 k2 k3 k4 P7
        obtain ⟨wq, rfl⟩ : ∃ wq : World, wq = wo := ⟨_, rfl⟩
        obtain ⟨wo, rfl⟩ : ∃ wo : World, wo = wr := ⟨_, rfl⟩
        obtain ⟨k, ds, u, rk, sk, hk, rfl, hq, hcl, hst, hl⟩ := hrel
        have q0 : (0 : Int) ≤ (k : Int) := by omega
        have g0 : wo.cell? ⟨w.heap.size, 0, none⟩ = some (.string (str rk)) := hq.z.G.cell 0
        have g1 : wo.cell? ⟨w.heap.size, 1, none⟩ = some (.bool sk) := hq.z.G.cell 1
        have hzo := hq.T.lt
        have hzl := hq.lt
        have HK := Lib.hid (And.intro hq (And.intro hcl (And.intro hst hl)))
        clear hq hcl hst hl
        by_cases hlt : k < b3.toNat
        · have q1 : (k : Int) < (b3.toNat : Int) := by omega
          have q2 : k < 255 := by omega
          cases sk
          · have HQ := HK
            have N4 := Lib.hid fun W => rs_four rk false W HK.out.2.2.1
            go_wp2_with fail
            refine (N4.out _).mono ?_
            rintro e w4 ⟨U4, r4, s4, rfl, hU4, st4, hl4, hb4⟩
            have P4 := (HQ.out.1.call hb4).call (ball (Below.refl _ _) (.cells #[.string (str r4), .bool s4] 70))
            have c40 : (w4.alloc (.cells #[.string (str r4), .bool s4] 70)).cell? ⟨w.heap.size, 0, none⟩ = _ := P4.z.G.cell 0
            have c41 : (w4.alloc (.cells #[.string (str r4), .bool s4] 70)).cell? ⟨w.heap.size, 1, none⟩ = _ := P4.z.G.cell 1
            have f40 := P4.z.G.frozen 0
            have f41 := P4.z.G.frozen 1
            have z40 := P4.z.R.lt
            have z41 := HQ.out.1.call hb4
            have z42 := z41.T.lt
            have z43 := z41.sz
            have z44 := z41.z.R.lt
            have P5 := P4.setG r4 s4
            have t5 : (((w4.alloc (.cells #[.string (str r4), .bool s4] 70)).setCell ⟨w.heap.size, 0, none⟩ (.string (str r4))).setCell ⟨w.heap.size, 1, none⟩ (.bool s4)).cell? ⟨w2.heap.size, 6, none⟩ = some u := P5.T.cell 6
            have H5 := Lib.hid (And.intro hl4 (And.intro P5 st4))
            clear P4 P5 hb4 st4 hl4 N4 z41 g0 g1
            go_wp2_with (at_builtin; refine wpList_pushR (news := [.int .i64 (U4 : Int)]) rfl (.tmp 96) (.tmp 98) 47 rfl WB 3 i0 _ 1 8 Try.underlying47 hi0 hz0 hs0 hy0 rfl (by decide) u k _ (by first | rfl | (simp [Act.eval, Act.put]; done)) H5.out.2.1.own rfl _ (by first | rfl | (simp [Act.eval, Act.put]; done)) (by simp [World.setCell]) rfl (by intro u hu; rw [List.mem_singleton] at hu; subst hu; rfl) (by omega) (by omega) H5.out.2.1.sz ?_; intro v8 w8 own8 kp8 ob8; obtain ⟨A9, cc9, rfl, hcc9⟩ := own_form own8; have T9 := H5.out.2.1.push own8 kp8; have c9 : w8.cell? ⟨w2.heap.size, 6, none⟩ = some u := T9.T.cell 6; have f9 := T9.T.frozen 6; have z9 := T9.T.lt; have H8 := Lib.hid T9; clear own8 kp8 ob8 T9)
            refine ⟨⟨k + 1, ds ++ [(U4 : Int)], .slice A9 (k + 1) cc9, r4, s4, by omega, by go_num, ?_, by simp [HQ.out.2.1], H5.out.2.2, HQ.out.2.2.2.snoc H5.out.1.int⟩, by simp [intOf]; omega⟩
            rw [vI64_snoc]; exact H8.out.setT 6 (.slice A9 (k + 1) cc9)
          · have HY : Rel (gMany (gInt gFour) b3.toNat) r6 s6 ds rk true := rel_short HK.out.2.2.2 hk
            obtain ⟨A2, c2', rfl, hc2⟩ := own_form HK.out.1.own
            have P8 := HK.out.1
            have e0 : wo.cell? ⟨w2.heap.size, 0, none⟩ = some (.string nm) := P8.T.cell 0
            have e1 : wo.cell? ⟨w2.heap.size, 1, none⟩ = some (.int .i64 (b2.toNat : Int)) := P8.T.cell 1
            have e2 : wo.cell? ⟨w2.heap.size, 2, none⟩ = some (.slice A1 k1 c1) := P8.T.cell 2
            have e3 : wo.cell? ⟨w2.heap.size, 3, none⟩ = some (.int .u32 (U4 : Int)) := P8.T.cell 3
            have e4 : wo.cell? ⟨w2.heap.size, 4, none⟩ = some (.int .i64 (U5 : Int)) := P8.T.cell 4
            have e5 : wo.cell? ⟨w2.heap.size, 5, none⟩ = some (.int .i64 (U6 : Int)) := P8.T.cell 5
            have e6 : wo.cell? ⟨w2.heap.size, 6, none⟩ = some (.slice A2 k c2') := P8.T.cell 6
            have y0 : wo.cell? ⟨w.heap.size + 1, 0, none⟩ = some (.string ⟨#[]⟩) := P8.z.A.cell 0
            have v0 := P8.z.A.frozen 0
            have y1 : wo.cell? ⟨w.heap.size + 1, 1, none⟩ = some (.int .i64 0) := P8.z.A.cell 1
            have v1 := P8.z.A.frozen 1
            have y2 : wo.cell? ⟨w.heap.size + 1, 2, none⟩ = some (.slice none 0 0) := P8.z.A.cell 2
            have v2 := P8.z.A.frozen 2
            have y3 : wo.cell? ⟨w.heap.size + 1, 3, none⟩ = some (.int .u32 0) := P8.z.A.cell 3
            have v3 := P8.z.A.frozen 3
            have y4 : wo.cell? ⟨w.heap.size + 1, 4, none⟩ = some (.int .i64 0) := P8.z.A.cell 4
            have v4 := P8.z.A.frozen 4
            have y5 : wo.cell? ⟨w.heap.size + 1, 5, none⟩ = some (.int .i64 0) := P8.z.A.cell 5
            have v5 := P8.z.A.frozen 5
            have y6 : wo.cell? ⟨w.heap.size + 1, 6, none⟩ = some (.slice none 0 0) := P8.z.A.cell 6
            have v6 := P8.z.A.frozen 6
            have o0 : wo.cell? ⟨w.heap.size + 1 + 1, 0, none⟩ = some (.string ⟨#[]⟩) := P8.z.R.cell 0
            have o1 : wo.cell? ⟨w.heap.size + 1 + 1, 1, none⟩ = some (.bool false) := P8.z.R.cell 1
            have q0' := P8.z.R.frozen 0
            have q1' := P8.z.R.frozen 1
            have z8 := P8.T.lt
            have zl8 := P8.lt
            have HC2 := Lib.hid (And.intro hc2 (And.intro (own_cap P8.own) (And.intro (own_addr P8.own) P8.lb)))
            have H8 := Lib.hid P8
            clear P8
            go_wp2_with fail
            go_region
            all_goals (try go_wp2)
            have F := H8.out.fin1 (.string nm) (.int .i64 (b2.toNat : Int)) (.slice A1 k1 c1) (.int .u32 (U4 : Int)) (.int .i64 (U5 : Int)) (.int .i64 (U6 : Int)) (.slice A2 k c2') (.string (str rk)) (.bool true)
            obtain ⟨W9, hW9⟩ : ∃ W9, (((((((((wo.setCell ⟨w.heap.size + 1, 0, none⟩ (.string nm)).setCell ⟨w.heap.size + 1, 1, none⟩ (.int .i64 (b2.toNat : Int))).setCell ⟨w.heap.size + 1, 2, none⟩ (.slice A1 k1 c1)).setCell ⟨w.heap.size + 1, 3, none⟩ (.int .u32 (U4 : Int))).setCell ⟨w.heap.size + 1, 4, none⟩ (.int .i64 (U5 : Int))).setCell ⟨w.heap.size + 1, 5, none⟩ (.int .i64 (U6 : Int))).setCell ⟨w.heap.size + 1, 6, none⟩ (.slice A2 k c2')).setCell ⟨w.heap.size + 1 + 1, 0, none⟩ (.string (str rk))).setCell ⟨w.heap.size + 1 + 1, 1, none⟩ (.bool true)) = W9 := ⟨_, rfl⟩
            rw [hW9] at F
            rw [hW9]
            clear hW9
            exact sindex_end F.1.drew F.2.1.drew (by simp) (by simp) ⟨⟨nm, (b2.toNat : Int), A1, k1, c1, (U4 : Int), (U5 : Int), (U6 : Int), A2, k, c2', cs, ds⟩, rk, true, rfl, ⟨⟨by (unfold maxLen; show nm.size ≤ _; omega), ⟨HC.out.1, HC.out.2.1⟩, ⟨HC2.out.1, HC2.out.2.1⟩⟩, (Reads.of_own F.2.2.1).drew, (Reads.of_own F.2.2.2.1).drew, u40, u41⟩, fun ad h => by have := HC.out.2.2.1 ad h; omega, fun ad h => by have := HC2.out.2.2.1 ad h; have := HC2.out.2.2.2; omega, HK.out.2.2.1, rel_idx H1.out.1 H2.out.1.int H3.out.1 HC.out.2.2.2 H6.out.1 HY, F.2.2.2.2.drew⟩
        · have hkb : k = b3.toNat := by omega
          have e9 : decide ((k : Int) < (b3.toNat : Int)) = false := by simp; omega
          have HY : Rel (gMany (gInt gFour) b3.toNat) r6 s6 ds rk sk := hkb ▸ HK.out.2.2.2
          clear hkb
          obtain ⟨A2, c2', rfl, hc2⟩ := own_form HK.out.1.own
          have P8 := HK.out.1
          have e0 : wo.cell? ⟨w2.heap.size, 0, none⟩ = some (.string nm) := P8.T.cell 0
          have e1 : wo.cell? ⟨w2.heap.size, 1, none⟩ = some (.int .i64 (b2.toNat : Int)) := P8.T.cell 1
          have e2 : wo.cell? ⟨w2.heap.size, 2, none⟩ = some (.slice A1 k1 c1) := P8.T.cell 2
          have e3 : wo.cell? ⟨w2.heap.size, 3, none⟩ = some (.int .u32 (U4 : Int)) := P8.T.cell 3
          have e4 : wo.cell? ⟨w2.heap.size, 4, none⟩ = some (.int .i64 (U5 : Int)) := P8.T.cell 4
          have e5 : wo.cell? ⟨w2.heap.size, 5, none⟩ = some (.int .i64 (U6 : Int)) := P8.T.cell 5
          have e6 : wo.cell? ⟨w2.heap.size, 6, none⟩ = some (.slice A2 k c2') := P8.T.cell 6
          have y0 : wo.cell? ⟨w.heap.size + 1, 0, none⟩ = some (.string ⟨#[]⟩) := P8.z.A.cell 0
          have v0 := P8.z.A.frozen 0
          have y1 : wo.cell? ⟨w.heap.size + 1, 1, none⟩ = some (.int .i64 0) := P8.z.A.cell 1
          have v1 := P8.z.A.frozen 1
          have y2 : wo.cell? ⟨w.heap.size + 1, 2, none⟩ = some (.slice none 0 0) := P8.z.A.cell 2
          have v2 := P8.z.A.frozen 2
          have y3 : wo.cell? ⟨w.heap.size + 1, 3, none⟩ = some (.int .u32 0) := P8.z.A.cell 3
          have v3 := P8.z.A.frozen 3
          have y4 : wo.cell? ⟨w.heap.size + 1, 4, none⟩ = some (.int .i64 0) := P8.z.A.cell 4
          have v4 := P8.z.A.frozen 4
          have y5 : wo.cell? ⟨w.heap.size + 1, 5, none⟩ = some (.int .i64 0) := P8.z.A.cell 5
          have v5 := P8.z.A.frozen 5
          have y6 : wo.cell? ⟨w.heap.size + 1, 6, none⟩ = some (.slice none 0 0) := P8.z.A.cell 6
          have v6 := P8.z.A.frozen 6
          have o0 : wo.cell? ⟨w.heap.size + 1 + 1, 0, none⟩ = some (.string ⟨#[]⟩) := P8.z.R.cell 0
          have o1 : wo.cell? ⟨w.heap.size + 1 + 1, 1, none⟩ = some (.bool false) := P8.z.R.cell 1
          have q0' := P8.z.R.frozen 0
          have q1' := P8.z.R.frozen 1
          have z8 := P8.T.lt
          have zl8 := P8.lt
          have HC2 := Lib.hid (And.intro hc2 (And.intro (own_cap P8.own) (And.intro (own_addr P8.own) P8.lb)))
          have H8 := Lib.hid P8
          clear P8
          go_wp2_with fail
          go_region
          all_goals (try go_wp2)
          have F := H8.out.fin1 (.string nm) (.int .i64 (b2.toNat : Int)) (.slice A1 k1 c1) (.int .u32 (U4 : Int)) (.int .i64 (U5 : Int)) (.int .i64 (U6 : Int)) (.slice A2 k c2') (.string (str rk)) (.bool sk)
          obtain ⟨W9, hW9⟩ : ∃ W9, (((((((((wo.setCell ⟨w.heap.size + 1, 0, none⟩ (.string nm)).setCell ⟨w.heap.size + 1, 1, none⟩ (.int .i64 (b2.toNat : Int))).setCell ⟨w.heap.size + 1, 2, none⟩ (.slice A1 k1 c1)).setCell ⟨w.heap.size + 1, 3, none⟩ (.int .u32 (U4 : Int))).setCell ⟨w.heap.size + 1, 4, none⟩ (.int .i64 (U5 : Int))).setCell ⟨w.heap.size + 1, 5, none⟩ (.int .i64 (U6 : Int))).setCell ⟨w.heap.size + 1, 6, none⟩ (.slice A2 k c2')).setCell ⟨w.heap.size + 1 + 1, 0, none⟩ (.string (str rk))).setCell ⟨w.heap.size + 1 + 1, 1, none⟩ (.bool sk)) = W9 := ⟨_, rfl⟩
          rw [hW9] at F
          rw [hW9]
          clear hW9
          exact sindex_end F.1.drew F.2.1.drew (by simp) (by simp) ⟨⟨nm, (b2.toNat : Int), A1, k1, c1, (U4 : Int), (U5 : Int), (U6 : Int), A2, k, c2', cs, ds⟩, rk, sk, rfl, ⟨⟨by (unfold maxLen; show nm.size ≤ _; omega), ⟨HC.out.1, HC.out.2.1⟩, ⟨HC2.out.1, HC2.out.2.1⟩⟩, (Reads.of_own F.2.2.1).drew, (Reads.of_own F.2.2.2.1).drew, u40, u41⟩, fun ad h => by have := HC.out.2.2.1 ad h; omega, fun ad h => by have := HC2.out.2.2.1 ad h; have := HC2.out.2.2.2; omega, HK.out.2.2.1, rel_idx H1.out.1 H2.out.1.int H3.out.1 HC.out.2.2.2 H6.out.1 HY, F.2.2.2.2.drew⟩
end
end Go.Proofs.Ytflolnilagogpaa

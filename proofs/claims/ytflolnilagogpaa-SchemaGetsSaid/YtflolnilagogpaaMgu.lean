/-
  Several texts in one: Jc.
-/
import Derived.Test.YtflolnilagogpaaMgr
/-
  The program's Get.
-/
namespace Go.Proofs.Ytflolnilagogpaa
section
set_option linter.unusedSimpArgs false
set_option linter.unusedVariables false
open Go.RowKit

theorem Try.infoT : (Try.prog.info? 44).map (fun i => (i.zero, i.size, i.bytes)) = some (some (.agg #[.string ⟨#[]⟩, .slice none 0 0, .int .u32 0, .int .i64 0, .int .i64 0]), 5, 64) := by kernel_rfl
theorem Try.infoX : (Try.prog.info? 49).map (fun i => (i.zero, i.size, i.bytes)) = some (some (.agg #[.string ⟨#[]⟩, .int .i64 0, .slice none 0 0, .int .u32 0, .int .i64 0, .int .i64 0, .slice none 0 0]), 7, 96) := by kernel_rfl
theorem vTb_snoc (l : List Tb) (c : Tb) : vTb (l ++ [c]) = vTb l ++ c.cells := by simp [vTb]
theorem vIx_snoc (l : List Ix) (c : Ix) : vIx (l ++ [c]) = vIx l ++ c.cells := by simp [vIx]
theorem reads_stay {w w' : World} {sz n : Nat} {A : Option Addr} {xs : List Value} (h : Reads w w.heap.size sz A n xs) (hs : w.heap.size ≤ w'.heap.size) (hb : 0 < n → ∀ ad, A = some ad → w'.heap[ad.block]? = w.heap[ad.block]?) : Reads w' w'.heap.size sz A n xs := by
  refine ⟨h.1, fun hn => ?_⟩
  obtain ⟨ad, e, hlt, hc⟩ := h.2 hn
  refine ⟨ad, e, by omega, fun k u hu => ?_⟩
  have h1 := hc k u hu
  have h2 := hb hn ad e
  unfold World.cell? at h1 ⊢
  rw [block_of_add] at h1 ⊢
  rw [h2]
  exact h1
theorem TbOk.stay {w w' : World} {t : Tb} (h : TbOk w w.heap.size t) (hs : w.heap.size ≤ w'.heap.size) (hb : 0 < t.n → ∀ ad, t.A = some ad → w'.heap[ad.block]? = w.heap[ad.block]?) : TbOk w' w'.heap.size t :=
  ⟨⟨h.1.1, h.1.2.1, reads_stay h.1.2.2.1 hs hb, h.1.2.2.2⟩, h.2⟩
theorem IxIn.stay {w w' : World} {x : Ix} (h : IxIn w w.heap.size x) (hs : w.heap.size ≤ w'.heap.size) (hb : 0 < x.n → ∀ ad, x.A = some ad → w'.heap[ad.block]? = w.heap[ad.block]?) (hb2 : 0 < x.m → ∀ ad, x.B = some ad → w'.heap[ad.block]? = w.heap[ad.block]?) : IxIn w' w'.heap.size x :=
  ⟨h.1, reads_stay h.2.1 hs hb, reads_stay h.2.2.1 hs hb2, h.2.2.2⟩
/-- Where a row of an element lies: not in the reader's block, not in the book's, not in the own row. -/
def Ap (u : Value) (G T : Nat) (A : Option Addr) (n : Nat) : Prop := 0 < n → ∀ ad, A = some ad → ad.block ≠ G ∧ T < ad.block ∧ u.ownBlock ≠ some ad.block
theorem reads_lt {w : World} {B sz n : Nat} {A : Option Addr} {xs : List Value} (h : Reads w B sz A n xs) (hn : 0 < n) : ∀ ad, A = some ad → ad.block < B := by
  rintro ad rfl
  obtain ⟨ad', e, hlt, _⟩ := h.2 hn
  cases e
  exact hlt
section
variable {wo w4 w5 : World} {G T j : Nat} {u x : Value} {ob : Obj}
theorem stayN (h3 : (w4.alloc ob).grownBy w5 u.ownBlock) {b : Nat} (hb : b < w4.heap.size) (h1 : u.ownBlock ≠ some b) (h2 : b ≠ T) : (w5.setCell ⟨T, j, none⟩ x).heap[b]? = w4.heap[b]? :=
  (Below.heap_setCell _ _ _ _ (fun e => h2 (by rw [e]))).trans ((h3.block b (by simp; omega) (fun e => h1 e.symm)).trans (Below.heap_alloc w4 ob b hb))
theorem stayO (h1 : wo.grownBy w4 (some G)) (h3 : (w4.alloc ob).grownBy w5 u.ownBlock) {b : Nat} (hb : b < wo.heap.size) (hg : b ≠ G) (hu : u.ownBlock ≠ some b) (ht : b ≠ T) : (w5.setCell ⟨T, j, none⟩ x).heap[b]? = wo.heap[b]? :=
  (stayN h3 (Nat.lt_of_lt_of_le hb h1.size) hu ht).trans (h1.block b hb (by simpa using hg))
end
theorem low_but {B : Nat} {w a b : World} {g : Nat} (h : Below B w a) (k : a.grownBy b (some g)) (hg : B ≤ g) (hB : B ≤ a.heap.size) : Below B w b :=
  ⟨k.os.trans h.os, k.tape.trans h.tape, k.output.trans h.output, Nat.le_trans h.size k.size, fun i hi => (k.block i (by omega) (by simp; omega)).trans (h.block i hi)⟩
theorem low_own {B base n size : Nat} {w a b : World} {e : TypeId} {v : Value} {xs : List Value} (h : Below B w a) (ho : a.ownsRow base e size v n xs) (k : a.grownBy b v.ownBlock) (hg : B ≤ base) (hB : B ≤ a.heap.size) : Below B w b :=
  ⟨k.os.trans h.os, k.tape.trans h.tape, k.output.trans h.output, Nat.le_trans h.size k.size, fun i hi => (k.block i (by omega) (fun e' => by have := (ho.lt i e'.symm).1; omega)).trans (h.block i hi)⟩
theorem rel_book {r r1 r2 r3 r4 : List UInt8} {sh s1 s2 s3 s4 : Bool} {n m : Nat} {ts : List PT} {xs : List PX} (h1 : Rel gOne r sh n r1 s1) (h2 : Rel (gMany gTab n) r1 s1 ts r2 s2) (h3 : Rel gOne r2 s2 m r3 s3) (h4 : Rel (gMany gIdx m) r3 s3 xs r4 s4) : Rel gBook r sh ⟨ts, xs⟩ r4 s4 := by
  refine ⟨fun h => h4.1 (h3.1 (h2.1 (h1.1 h))), fun h => ?_⟩
  unfold gBook
  rcases h1.2 h with ⟨e1, e2⟩ | ⟨e1, e2⟩ <;> rw [e2]
  · exact .inl ⟨h4.1 (h3.1 (h2.1 e1)), rfl⟩
  simp only
  rcases h2.2 e1 with ⟨e3, e4⟩ | ⟨e3, e4⟩ <;> rw [e4]
  · exact .inl ⟨h4.1 (h3.1 e3), rfl⟩
  simp only
  rcases h3.2 e3 with ⟨e5, e6⟩ | ⟨e5, e6⟩ <;> rw [e6]
  · exact .inl ⟨h4.1 e5, rfl⟩
  simp only
  rcases h4.2 e5 with ⟨e7, e8⟩ | ⟨e7, e8⟩ <;> rw [e8]
  · exact .inl ⟨e7, rfl⟩
  · exact .inr ⟨e7, rfl⟩
/-- What Get answers: the book that is written, or an error and an empty one. -/
def RetGet (w : World) (bs : List UInt8) (e : Ending) (w' : World) : Prop :=
  ∃ (A1 : Option Addr) (n1 c1 : Nat) (l : List Tb) (A2 : Option Addr) (n2 c2 : Nat) (r : List Ix) (e0 : Int), e = .returned (.tuple #[.agg #[.slice A1 n1 c1, .slice A2 n2 c2], .int .i64 e0]) ∧ BkIn w' A1 n1 c1 l A2 n2 c2 r ∧ Below w.heap.size w w' ∧
    ((e0 = 0 ∧ gBook bs = some (pbk l r, []) ∧ MayB (pbk l r)) ∨ (e0 = 2 ∧ l = [] ∧ r = [] ∧ ¬ ∃ b, gBook bs = some (b, []) ∧ MayB b))
theorem get_end {W : World} {R : Nat} {tm : Array Value} {Q : Ending → World → Prop} {A1 : Option Addr} {n1 c1 : Nat} {A2 : Option Addr} {n2 c2 : Nat} {e0 : Int} (hR : Blk W R 25 #[.slice A1 n1 c1, .slice A2 n2 c2])
    (h2 : tm[2]? = some (.pointer (some ⟨R, 0, none⟩))) (h3 : tm[3]? = some (.int .i64 e0)) (h : Q (.returned (.tuple #[.agg #[.slice A1 n1 c1, .slice A2 n2 c2], .int .i64 e0])) W) :
    bodyPost Try.prog Try.f13 Q Exit.ret { tmps := tm, defers := [] } W := by
  have q0 : W.cell? ⟨R, 0, none⟩ = _ := hR.cell 0
  have q1 : W.cell? ⟨R, 1, none⟩ = _ := hR.cell 1
  exact bodyPost_ret (v := .tuple #[.agg #[.slice A1 n1 c1, .slice A2 n2 c2], .int .i64 e0]) (by simp [results, Try.results13, go_sem, h2, h3, q0, q1]) rfl h
theorem bk_nil (w : World) : BkIn w none 0 0 [] none 0 0 [] := ⟨Reads.none_, by simp, Reads.none_, by simp, ⟨Nat.le_refl _, by simp⟩, ⟨Nat.le_refl _, by simp⟩⟩
theorem BkIn.far {w : World} {A B : Option Addr} {n c m d : Nat} {l : List Tb} {r : List Ix} (h : BkIn w A n c l B m d r) {R : Nat} (hA : ∀ ad, A = some ad → R < ad.block) (hl : ∀ t ∈ l, 0 < t.n → ∀ ad, t.A = some ad → R < ad.block) (hB : ∀ ad, B = some ad → R < ad.block)
    (hx : ∀ x ∈ r, (0 < x.n → ∀ ad, x.A = some ad → R < ad.block) ∧ (0 < x.m → ∀ ad, x.B = some ad → R < ad.block)) (j : Nat) (v : Value) : BkIn (w.setCell ⟨R, j, none⟩ v) A n c l B m d r := by
  have hs : w.heap.size ≤ (w.setCell ⟨R, j, none⟩ v).heap.size := by simp [World.setCell]
  have hh : ∀ ad : Addr, R < ad.block → (w.setCell ⟨R, j, none⟩ v).heap[ad.block]? = w.heap[ad.block]? := fun ad ha => Below.heap_setCell _ _ _ _ (fun e => by rw [e] at ha; exact absurd ha (Nat.lt_irrefl _))
  exact ⟨reads_stay h.hr hs fun _ ad ha => hh ad (hA ad ha), fun t ht => (h.hl t ht).stay hs fun hn ad ha => hh ad (hl t ht hn ad ha), reads_stay h.hx hs fun _ ad ha => hh ad (hB ad ha), fun x hx' => (h.hix x hx').stay hs (fun hn ad ha => hh ad ((hx x hx').1 hn ad ha)) (fun hn ad ha => hh ad ((hx x hx').2 hn ad ha)), h.hn, h.hm⟩
theorem RetGet.no {w w' : World} {bs : List UInt8} (hb : Below w.heap.size w w') (h : ¬ ∃ b, gBook bs = some (b, []) ∧ MayB b) : RetGet w bs (.returned (.tuple #[.agg #[.slice none 0 0, .slice none 0 0], .int .i64 2])) w' :=
  ⟨none, 0, 0, [], none, 0, 0, [], 2, rfl, bk_nil w', hb, .inr ⟨rfl, rfl, rfl, h⟩⟩
set_option maxRecDepth 100000 in
set_option maxHeartbeats 16000000 in
theorem get_any (A : Option Addr) (n c : Nat) (bs : List UInt8) (w : World) (hr : Reads w w.heap.size 1 A n (bL bs)) (hnc : n ≤ c) :
    Calls Try.prog 13 #[.slice A n c] w (RetGet w bs) := by
  obtain ⟨i0, hi0, hz0, hs0, hy0⟩ := int_info8 Try.infoT
  obtain ⟨i1, hi1, hz1, hs1, hy1⟩ := int_info8 Try.infoX
  have HR : Hid (Rd (((w.alloc (.cells #[.slice none 0 0, .slice none 0 0] 25)).alloc (.cells #[.slice A n c, .bool false] 59)).alloc (.cells #[.slice none 0 0, .slice none 0 0] 25)) (w.heap.size + 1) w.heap.size bs false ∧ Below w.heap.size w (((w.alloc (.cells #[.slice none 0 0, .slice none 0 0] 25)).alloc (.cells #[.slice A n c, .bool false] 59)).alloc (.cells #[.slice none 0 0, .slice none 0 0] 25)) ∧ Blk (((w.alloc (.cells #[.slice none 0 0, .slice none 0 0] 25)).alloc (.cells #[.slice A n c, .bool false] 59)).alloc (.cells #[.slice none 0 0, .slice none 0 0] 25)) w.heap.size 25 #[.slice none 0 0, .slice none 0 0] ∧ Blk (((w.alloc (.cells #[.slice none 0 0, .slice none 0 0] 25)).alloc (.cells #[.slice A n c, .bool false] 59)).alloc (.cells #[.slice none 0 0, .slice none 0 0] 25)) (w.heap.size + 1 + 1) 25 #[.slice none 0 0, .slice none 0 0]) := by
    have hb : Below w.heap.size w (((w.alloc (.cells #[.slice none 0 0, .slice none 0 0] 25)).alloc (.cells #[.slice A n c, .bool false] 59)).alloc (.cells #[.slice none 0 0, .slice none 0 0] 25)) := ball (ball (ball (Below.refl _ _) _) _) _
    exact Lib.hid ⟨⟨A, n, c, (newAtI (by simp) : Blk ((w.alloc (.cells #[.slice none 0 0, .slice none 0 0] 25)).alloc (.cells #[.slice A n c, .bool false] 59)) (w.heap.size + 1) _ _).alloc _, hr.below hb, hnc, by omega⟩, hb, ((Blk.new _ _ _).alloc _).alloc _, newAtI (by simp)⟩
  have C1 := Lib.hid (count_rel (w.heap.size + 1) w.heap.size _ _ _ HR.out.1)
  clear hr
  go_enter Try.func13, Try.ntmps13
  go_wp2_with fail
  refine C1.out.mono ?_
  rintro e w3 ⟨b3, r3, s3, rfl, hrd3, hl3, hbt3⟩
  have b30 : (0 : Int) ≤ (b3.toNat : Int) := by omega
  have b31 : (b3.toNat : Int) ≤ 255 := by have := b3.toNat_lt; omega
  have R3 := HR.out.2.2.1.grown hbt3 (by simp)
  have T3 := HR.out.2.2.2.grown hbt3 (by simp)
  have L3 := low_but HR.out.2.1 hbt3 (by omega) (by simp; omega)
  have z3 := T3.lt
  have H3 := Lib.hid (And.intro hl3 (And.intro L3 (And.intro R3 (And.intro T3 hrd3))))
  clear hrd3 hl3 hbt3 R3 T3 L3 C1
  go_wp2
  go_loopw [11] (fun v wr => ∃ (k : Nat) (l : List Tb) (u : Value) (rk : List UInt8) (sk : Bool), k ≤ b3.toNat ∧ v = .int .i64 k ∧ Blk wr (w.heap.size + 1 + 1) 25 #[u, .slice none 0 0] ∧ wr.ownsRow (w.heap.size + 1 + 1 + 1) 44 5 u k (vTb l) ∧ l.length = k ∧ Rd wr (w.heap.size + 1) w.heap.size rk sk ∧ Rel (gMany gTab k) r3 s3 (l.map Tb.pt) rk sk ∧ Below w.heap.size w wr ∧ Blk wr w.heap.size 25 #[.slice none 0 0, .slice none 0 0] ∧ ∀ t ∈ l, TbOk wr wr.heap.size t ∧ Ap u (w.heap.size + 1) (w.heap.size + 1 + 1) t.A t.n) (fun v _ => b3.toNat - (intOf v).toNat)
  case atStart => exact ⟨0, [], _, r3, s3, by omega, rfl, H3.out.2.2.2.1, ⟨rfl, .inl ⟨rfl, rfl⟩⟩, rfl, H3.out.2.2.2.2, rel_many_nil _ _ _, H3.out.2.1, H3.out.2.2.1, by simp⟩
  case round =>
    obtain ⟨wo, rfl⟩ : ∃ wo : World, wo = wr := ⟨_, rfl⟩
    obtain ⟨k, l, u, rk, sk, hk, rfl, hT, own, hcl, hrd, hl, hbt, hR, hel⟩ := hrel
    have q0 : (0 : Int) ≤ (k : Int) := by omega
    have t0 : wo.cell? ⟨w.heap.size + 1 + 1, 0, none⟩ = some u := hT.cell 0
    have hzo := hT.lt
    by_cases hlt : k < b3.toNat
    · have q1 : (k : Int) < (b3.toNat : Int) := by omega
      have q2 : k < 255 := by omega
      have CK := Lib.hid (rtable2_any (w.heap.size + 1) w.heap.size _ _ wo.drew hrd.drew)
      have HQ := Lib.hid (And.intro hT (And.intro own (And.intro hcl (And.intro hl (And.intro hbt (And.intro hR hel))))))
      clear hT own hcl hrd hl hbt hR hel
      go_wp2_with fail
      go_region_law (first
        | (refine step_go rfl ?_; go_simp; go_at_call 26; refine CK.out.mono ?_; rintro e w4 ⟨q, r4, s4, rfl, hq4, hqA, hrd4, hl4, hbt4⟩; have B4 := but_trans (but_drew (but_refl wo (w.heap.size + 1))) hbt4; have T4 := HQ.out.1.grown B4 (by simp); have c4 : w4.cell? ⟨w.heap.size + 1 + 1, 0, none⟩ = some u := T4.cell 0; have z4 := T4.lt; have O4 := own_but HQ.out.2.1 B4 (by omega); have zz4 := B4.size; have H4 := Lib.hid (And.intro T4 (And.intro O4 (And.intro hrd4 (And.intro hl4 (And.intro B4 (And.intro hq4 hqA)))))); clear T4 O4 hrd4 hl4 hbt4 B4 hq4 hqA)
        | (refine step_pushR (news := [.string q.nm, .slice q.A q.n q.c, .int .u32 q.f, .int .i64 q.r, .int .i64 q.p]) rfl (.tmp 14) (.tmp 17) 22 rfl (w.heap.size + 1 + 1 + 1) 44 i0 _ 5 64 Try.underlying22 hi0 hz0 hs0 hy0 rfl (by decide) u k _ (by simp [Act.eval, Act.put]) H4.out.2.1 rfl _ (by simp [Act.eval, Act.put]) rfl rfl (by intro u hu; simp only [List.mem_cons, List.not_mem_nil, or_false] at hu; rcases hu with rfl | rfl | rfl | rfl | rfl <;> rfl) (by omega) (by omega) (by omega) ?_; intro v5 w5 own5 hg5 hB5; obtain ⟨A5, cc5, rfl, hcc5⟩ := own_form own5; have T5 := blk_far_own (H4.out.2.1.alloc _) (H4.out.1.alloc _) hg5 (by omega); have c5 : w5.cell? ⟨w.heap.size + 1 + 1, 0, none⟩ = some u := T5.cell 0; have f5 : w5.frozen? ⟨w.heap.size + 1 + 1, 0, none⟩ = false := T5.frozen 0; have z5 := T5.lt; have zz5 := hg5.size; have H5 := Lib.hid (And.intro own5 (And.intro hg5 (And.intro T5 hB5))); clear own5 hg5 T5 hB5))
      all_goals (try go_wp2)
      all_goals
        have O4a := H4.out.2.1.alloc (.cells #[.string q.nm, .slice q.A q.n q.c, .int .u32 q.f, .int .i64 q.r, .int .i64 q.p] 44)
        have hL5 : Below w.heap.size w w5 := low_own ((low_but HQ.out.2.2.2.2.1 H4.out.2.2.2.2.1 (by omega) (by omega)).alloc (by omega) (.cells #[.string q.nm, .slice q.A q.n q.c, .int .u32 q.f, .int .i64 q.r, .int .i64 q.p] 44)) O4a H5.out.2.1 (by omega) (by simp; omega)
        have hrd5 := ((H4.out.2.2.1.alloc (.cells #[.string q.nm, .slice q.A q.n q.c, .int .u32 q.f, .int .i64 q.r, .int .i64 q.p] 44)).own O4a H5.out.2.1 (by omega))
        have hR5 := blk_far_own O4a ((HQ.out.2.2.2.2.2.1.grown H4.out.2.2.2.2.1 (by simp)).alloc (.cells #[.string q.nm, .slice q.A q.n q.c, .int .u32 q.f, .int .i64 q.r, .int .i64 q.p] 44)) H5.out.2.1 (by omega)
        have hsz5 : w4.heap.size ≤ (w5.setCell ⟨w.heap.size + 1 + 1, 0, none⟩ (.slice A5 (k + 1) cc5)).heap.size := by simp [World.setCell] at zz5 ⊢; omega
        have hown5 : ∀ b, b < w4.heap.size → u.ownBlock ≠ some b → (Value.slice A5 (k + 1) cc5).ownBlock ≠ some b := fun b hb hu e' => by
          rcases H5.out.2.2.2 with h1 | h1
          · rw [h1] at e'; exact hu e'
          · rw [h1] at e'
            injection e' with e'
            omega
        exact ⟨⟨k + 1, l ++ [q], .slice A5 (k + 1) cc5, r4, s4, by omega, by go_num, H5.out.2.2.1.set_ 0 _, by rw [vTb_snoc]; exact own_farI H5.out.1 _ (by omega) _ _, by simp [HQ.out.2.2.1], hrd5.far (by simp) _, by rw [List.map_append]; exact HQ.out.2.2.2.1.snoc H4.out.2.2.2.1, hL5.setCell (by simp; omega) _, hR5.far (by simp; omega) _, fun t ht => by
          rcases List.mem_append.1 ht with h1 | h1
          · obtain ⟨g1, g2⟩ := HQ.out.2.2.2.2.2.2 t h1
            refine ⟨g1.stay (Nat.le_trans zz4 hsz5) (fun hn ad ha => ?_), fun hn ad ha => ?_⟩
            · obtain ⟨k1, k2, k3⟩ := g2 hn ad ha
              exact stayO H4.out.2.2.2.2.1 H5.out.2.1 (reads_lt g1.1.2.2.1 hn ad ha) k1 k3 (by omega)
            · obtain ⟨k1, k2, k3⟩ := g2 hn ad ha
              have k4 := reads_lt g1.1.2.2.1 hn ad ha
              exact ⟨k1, k2, hown5 _ (by omega) k3⟩
          · rw [List.mem_singleton] at h1
            subst h1
            have g1 := H4.out.2.2.2.2.2.1
            have gu : ∀ ad, t.A = some ad → u.ownBlock ≠ some ad.block := fun ad ha e' => by
              have h2 := (HQ.out.2.1.lt ad.block e').2
              have h3 := H4.out.2.2.2.2.2.2 ad ha
              change wo.heap.size ≤ ad.block at h3
              omega
            refine ⟨g1.stay hsz5 (fun hn ad ha => ?_), fun hn ad ha => ?_⟩
            · have h3 := H4.out.2.2.2.2.2.2 ad ha
              change wo.heap.size ≤ ad.block at h3
              exact stayN H5.out.2.1 (reads_lt g1.1.2.2.1 hn ad ha) (gu ad ha) (by omega)
            · have h3 := H4.out.2.2.2.2.2.2 ad ha
              change wo.heap.size ≤ ad.block at h3
              exact ⟨by omega, by omega, hown5 _ (reads_lt g1.1.2.2.1 hn ad ha) (gu ad ha)⟩⟩, by simp [intOf]; omega⟩
    · obtain rfl : b3.toNat = k := by omega
      obtain ⟨A1, c1, rfl, hc1⟩ := own_form own
      have C2 := Lib.hid (count_rel (w.heap.size + 1) w.heap.size _ _ wo hrd)
      have HQ := Lib.hid (And.intro hT (And.intro own (And.intro hcl (And.intro hl (And.intro hbt (And.intro hR hel))))))
      clear hT own hcl hrd hl hbt hR hel
      go_wp2_with fail
      refine C2.out.mono ?_
      rintro e w4 ⟨b4, r4, s4, rfl, hrd4, hl4, hbt4⟩
      have b40 : (0 : Int) ≤ (b4.toNat : Int) := by omega
      have b41 : (b4.toNat : Int) ≤ 255 := by have := b4.toNat_lt; omega
      have T4 := HQ.out.1.grown hbt4 (by simp)
      have c4 : w4.cell? ⟨w.heap.size + 1 + 1, 1, none⟩ = some (.slice none 0 0) := T4.cell 1
      have z4 := T4.lt
      have zz4 := hbt4.size
      have O4 := own_but HQ.out.2.1 hbt4 (by omega)
      have K4 : ∀ t ∈ l, TbOk w4 w4.heap.size t ∧ (0 < t.n → ∀ ad, t.A = some ad → ad.block ≠ w.heap.size + 1 ∧ w.heap.size + 1 + 1 < ad.block ∧ ad.block < w4.heap.size) := fun t ht => by
        obtain ⟨g1, g2⟩ := HQ.out.2.2.2.2.2.2 t ht
        refine ⟨g1.stay zz4 (fun hn ad ha => hbt4.block _ (reads_lt g1.1.2.2.1 hn ad ha) (by have := (g2 hn ad ha).1; simpa using this)), fun hn ad ha => ?_⟩
        have k4 := reads_lt g1.1.2.2.1 hn ad ha
        exact ⟨(g2 hn ad ha).1, (g2 hn ad ha).2.1, by omega⟩
      have H4 := Lib.hid (And.intro hl4 (And.intro T4 (And.intro O4 (And.intro (low_but HQ.out.2.2.2.2.1 hbt4 (by omega) (by omega)) (And.intro (HQ.out.2.2.2.2.2.1.grown hbt4 (by simp)) (And.intro hrd4 (And.intro K4 (O4.lt))))))))
      clear hl4 T4 O4 hbt4 hrd4 K4 C2 t0
      go_wp2
      go_loopw [23] (fun v wr => ∃ (k : Nat) (xs : List Ix) (u : Value) (rk : List UInt8) (sk : Bool), k ≤ b4.toNat ∧ v = .int .i64 k ∧ Blk wr (w.heap.size + 1 + 1) 25 #[.slice A1 b3.toNat c1, u] ∧ wr.ownsRow w4.heap.size 49 7 u k (vIx xs) ∧ xs.length = k ∧ wr.ownsRow (w.heap.size + 1 + 1 + 1) 44 5 (.slice A1 b3.toNat c1) b3.toNat (vTb l) ∧ Rd wr (w.heap.size + 1) w.heap.size rk sk ∧ Rel (gMany gIdx k) r4 s4 (xs.map Ix.px) rk sk ∧ Below w.heap.size w wr ∧ Blk wr w.heap.size 25 #[.slice none 0 0, .slice none 0 0] ∧ (∀ t ∈ l, TbOk wr wr.heap.size t) ∧ (∀ x ∈ xs, IxIn wr wr.heap.size x ∧ Ap u (w.heap.size + 1) (w.heap.size + 1 + 1) x.A x.n ∧ Ap u (w.heap.size + 1) (w.heap.size + 1 + 1) x.B x.m) ∧ w4.heap.size ≤ wr.heap.size) (fun v _ => b4.toNat - (intOf v).toNat)
      case atStart => exact ⟨0, [], _, r4, s4, by omega, rfl, H4.out.2.1, ⟨rfl, .inl ⟨rfl, rfl⟩⟩, rfl, H4.out.2.2.1, H4.out.2.2.2.2.2.1, rel_many_nil _ _ _, H4.out.2.2.2.1, H4.out.2.2.2.2.1, fun t ht => (H4.out.2.2.2.2.2.2.1 t ht).1, by simp, Nat.le_refl _⟩
      case round =>
        clear c4
        obtain ⟨w9, rfl⟩ : ∃ w9 : World, w9 = wo := ⟨_, rfl⟩
        obtain ⟨wo, rfl⟩ : ∃ wo : World, wo = wr := ⟨_, rfl⟩
        obtain ⟨k, xs, u, rk, sk, hk, rfl, hT, own, hcl, own1, hrd, hl, hbt, hR, hel, hex, hsz⟩ := hrel
        have q0 : (0 : Int) ≤ (k : Int) := by omega
        have t1 : wo.cell? ⟨w.heap.size + 1 + 1, 1, none⟩ = some u := hT.cell 1
        have hzo := hT.lt
        by_cases hlt : k < b4.toNat
        · have q1 : (k : Int) < (b4.toNat : Int) := by omega
          have q2 : k < 255 := by omega
          have CK := Lib.hid (rindex2_any (w.heap.size + 1) w.heap.size _ _ wo.drew hrd.drew)
          have HK := Lib.hid (And.intro hT (And.intro own (And.intro hcl (And.intro hl (And.intro hbt (And.intro hR (And.intro hel (And.intro hex own1))))))))
          clear hT own hcl hrd hl hbt hR hel hex own1
          go_wp2_with fail
          go_region_law (first
            | (refine step_go rfl ?_; go_simp; go_at_call 27; refine CK.out.mono ?_; rintro e w6 ⟨q, r6, s6, rfl, hq6, hqA, hqB, hrd6, hl6, hbt6⟩; have B6 := but_trans (but_drew (but_refl wo (w.heap.size + 1))) hbt6; have T6 := HK.out.1.grown B6 (by simp); have c6 : w6.cell? ⟨w.heap.size + 1 + 1, 1, none⟩ = some u := T6.cell 1; have z6 := T6.lt; have O6 := own_but HK.out.2.1 B6 (by omega); have zz6 := B6.size; have H6 := Lib.hid (And.intro T6 (And.intro O6 (And.intro hrd6 (And.intro hl6 (And.intro B6 (And.intro hq6 (And.intro hqA hqB))))))); clear T6 O6 hrd6 hl6 hbt6 B6 hq6 hqA hqB)
            | (refine step_pushR (news := [.string q.nm, .int .i64 q.tb, .slice q.A q.n q.c, .int .u32 q.root, .int .i64 q.lv, .int .i64 q.hi, .slice q.B q.m q.e]) rfl (.tmp 26) (.tmp 29) 23 rfl w4.heap.size 49 i1 _ 7 96 Try.underlying23 hi1 hz1 hs1 hy1 rfl (by decide) u k _ (by simp [Act.eval, Act.put]) H6.out.2.1 rfl _ (by simp [Act.eval, Act.put]) rfl rfl (by intro u hu; simp only [List.mem_cons, List.not_mem_nil, or_false] at hu; rcases hu with rfl | rfl | rfl | rfl | rfl | rfl | rfl <;> rfl) (by omega) (by omega) (by omega) ?_; intro v5 w5 own5 hg5 hB5; obtain ⟨A5, cc5, rfl, hcc5⟩ := own_form own5; have T5 := blk_far_own (H6.out.2.1.alloc _) (H6.out.1.alloc _) hg5 (by omega); have c5 : w5.cell? ⟨w.heap.size + 1 + 1, 1, none⟩ = some u := T5.cell 1; have f5 : w5.frozen? ⟨w.heap.size + 1 + 1, 1, none⟩ = false := T5.frozen 1; have z5 := T5.lt; have zz5 := hg5.size; have H5 := Lib.hid (And.intro own5 (And.intro hg5 (And.intro T5 hB5))); clear own5 hg5 T5 hB5))
          all_goals (try go_wp2)
          all_goals
            have O6a := H6.out.2.1.alloc (.cells #[.string q.nm, .int .i64 q.tb, .slice q.A q.n q.c, .int .u32 q.root, .int .i64 q.lv, .int .i64 q.hi, .slice q.B q.m q.e] 49)
            have hL5 : Below w.heap.size w w5 := low_own ((low_but HK.out.2.2.2.2.1 H6.out.2.2.2.2.1 (by omega) (by omega)).alloc (by omega) (.cells #[.string q.nm, .int .i64 q.tb, .slice q.A q.n q.c, .int .u32 q.root, .int .i64 q.lv, .int .i64 q.hi, .slice q.B q.m q.e] 49)) O6a H5.out.2.1 (by omega) (by simp; omega)
            have hrd5 := ((H6.out.2.2.1.alloc (.cells #[.string q.nm, .int .i64 q.tb, .slice q.A q.n q.c, .int .u32 q.root, .int .i64 q.lv, .int .i64 q.hi, .slice q.B q.m q.e] 49)).own O6a H5.out.2.1 (by omega))
            have hR5 := blk_far_own O6a ((HK.out.2.2.2.2.2.1.grown H6.out.2.2.2.2.1 (by simp)).alloc (.cells #[.string q.nm, .int .i64 q.tb, .slice q.A q.n q.c, .int .u32 q.root, .int .i64 q.lv, .int .i64 q.hi, .slice q.B q.m q.e] 49)) H5.out.2.1 (by omega)
            have hsz5 : w6.heap.size ≤ (w5.setCell ⟨w.heap.size + 1 + 1, 1, none⟩ (.slice A5 (k + 1) cc5)).heap.size := by simp [World.setCell] at zz5 ⊢; omega
            have P5 := own_farI (kept_low ((own_but HK.out.2.2.2.2.2.2.2.2 H6.out.2.2.2.2.1 (by omega)).alloc (.cells #[.string q.nm, .int .i64 q.tb, .slice q.A q.n q.c, .int .u32 q.root, .int .i64 q.lv, .int .i64 q.hi, .slice q.B q.m q.e] 49)) H5.out.2.1 O6a (fun kk h9 => (H4.out.2.2.2.2.2.2.2 kk h9).2)) (w.heap.size + 1 + 1) (by omega) 1 (.slice A5 (k + 1) cc5)
            have hown5 : ∀ b, b < w6.heap.size → u.ownBlock ≠ some b → (Value.slice A5 (k + 1) cc5).ownBlock ≠ some b := fun b hb hu e' => by
              rcases H5.out.2.2.2 with h1 | h1
              · rw [h1] at e'; exact hu e'
              · rw [h1] at e'
                injection e' with e'
                omega
            have hnew : ∀ (AA : Option Addr) (nn : Nat) (zs : List Value), Reads w6 w6.heap.size 1 AA nn zs → (∀ ad, AA = some ad → wo.drew.heap.size ≤ ad.block) → (0 < nn → ∀ ad, AA = some ad → (w5.setCell ⟨w.heap.size + 1 + 1, 1, none⟩ (.slice A5 (k + 1) cc5)).heap[ad.block]? = w6.heap[ad.block]?) ∧ Ap (.slice A5 (k + 1) cc5) (w.heap.size + 1) (w.heap.size + 1 + 1) AA nn := fun AA nn zs h1 h2 => by
              have gu : ∀ ad, AA = some ad → u.ownBlock ≠ some ad.block := fun ad ha e' => by
                have h4 := (HK.out.2.1.lt ad.block e').2
                have h3 := h2 ad ha
                change wo.heap.size ≤ ad.block at h3
                omega
              refine ⟨fun hn ad ha => ?_, fun hn ad ha => ?_⟩
              · have h3 := h2 ad ha
                change wo.heap.size ≤ ad.block at h3
                exact stayN H5.out.2.1 (reads_lt h1 hn ad ha) (gu ad ha) (by omega)
              · have h3 := h2 ad ha
                change wo.heap.size ≤ ad.block at h3
                exact ⟨by omega, by omega, hown5 _ (reads_lt h1 hn ad ha) (gu ad ha)⟩
            have hold : ∀ (AA : Option Addr) (nn : Nat) (zs : List Value), Reads wo wo.heap.size 1 AA nn zs → Ap u (w.heap.size + 1) (w.heap.size + 1 + 1) AA nn → (0 < nn → ∀ ad, AA = some ad → (w5.setCell ⟨w.heap.size + 1 + 1, 1, none⟩ (.slice A5 (k + 1) cc5)).heap[ad.block]? = wo.heap[ad.block]?) ∧ Ap (.slice A5 (k + 1) cc5) (w.heap.size + 1) (w.heap.size + 1 + 1) AA nn := fun AA nn zs h1 h2 => by
              refine ⟨fun hn ad ha => ?_, fun hn ad ha => ?_⟩
              · obtain ⟨k1, k2, k3⟩ := h2 hn ad ha
                exact stayO H6.out.2.2.2.2.1 H5.out.2.1 (reads_lt h1 hn ad ha) k1 k3 (by omega)
              · obtain ⟨k1, k2, k3⟩ := h2 hn ad ha
                have k4 := reads_lt h1 hn ad ha
                exact ⟨k1, k2, hown5 _ (by omega) k3⟩
            exact ⟨⟨k + 1, xs ++ [q], .slice A5 (k + 1) cc5, r6, s6, by omega, by go_num, H5.out.2.2.1.set_ 1 _, by rw [vIx_snoc]; exact own_farI H5.out.1 _ (by omega) _ _, by simp [HK.out.2.2.1], P5, hrd5.far (by simp) _, by rw [List.map_append]; exact HK.out.2.2.2.1.snoc H6.out.2.2.2.1, hL5.setCell (by simp; omega) _, hR5.far (by simp; omega) _, fun t ht => by
              have g1 := HK.out.2.2.2.2.2.2.1 t ht
              have g2 := (H4.out.2.2.2.2.2.2.1 t ht).2
              refine g1.stay (Nat.le_trans zz6 hsz5) (fun hn ad ha => ?_)
              obtain ⟨k1, k2, k3⟩ := g2 hn ad ha
              exact stayO H6.out.2.2.2.2.1 H5.out.2.1 (reads_lt g1.1.2.2.1 hn ad ha) k1 (fun e' => by have := (HK.out.2.1.lt ad.block e').1; omega) (by omega), fun x hx => by
              rcases List.mem_append.1 hx with h1 | h1
              · obtain ⟨g1, g2, g3⟩ := HK.out.2.2.2.2.2.2.2.1 x h1
                have o1 := hold _ _ _ g1.2.1 g2
                have o2 := hold _ _ _ g1.2.2.1 g3
                exact ⟨g1.stay (Nat.le_trans zz6 hsz5) o1.1 o2.1, o1.2, o2.2⟩
              · rw [List.mem_singleton] at h1
                subst h1
                have g1 := H6.out.2.2.2.2.2.1
                have o1 := hnew _ _ _ g1.2.1 H6.out.2.2.2.2.2.2.1
                have o2 := hnew _ _ _ g1.2.2.1 H6.out.2.2.2.2.2.2.2
                exact ⟨g1.stay hsz5 o1.1 o2.1, o1.2, o2.2⟩, Nat.le_trans (Nat.le_trans hsz zz6) hsz5⟩, by simp [intOf]; omega⟩
        · obtain rfl : b4.toNat = k := by omega
          obtain ⟨A2, c2, rfl, hc2⟩ := own_form own
          obtain ⟨A3, m3, c3, hG, hrr, hmc, _⟩ := hrd
          have hm3 : rk.length = m3 := by have := hrr.1; rw [bL_len] at this; omega
          have BK : BkIn wo A1 b3.toNat c1 l A2 b4.toNat c2 xs := ⟨Reads.of_own own1, hel, Reads.of_own own, fun x hx => (hex x hx).1, ⟨hc1, own_cap own1⟩, ⟨hc2, own_cap own⟩⟩
          have HF : Hid ((∀ ad, A1 = some ad → w.heap.size < ad.block) ∧ (∀ t ∈ l, 0 < t.n → ∀ ad, t.A = some ad → w.heap.size < ad.block) ∧ (∀ ad, A2 = some ad → w.heap.size < ad.block) ∧ ∀ x ∈ xs, (0 < x.n → ∀ ad, x.A = some ad → w.heap.size < ad.block) ∧ (0 < x.m → ∀ ad, x.B = some ad → w.heap.size < ad.block)) := Lib.hid ⟨fun ad ha => by have := own_addr own1 ad ha; omega, fun t ht hn ad ha => by have := ((H4.out.2.2.2.2.2.2.1 t ht).2 hn ad ha).2.1; omega, fun ad ha => by have := own_addr own ad ha; omega, fun x hx => ⟨fun hn ad ha => by have := ((hex x hx).2.1 hn ad ha).2.1; omega, fun hn ad ha => by have := ((hex x hx).2.2 hn ad ha).2.1; omega⟩⟩
          have hBook := rel_book H3.out.1 HQ.out.2.2.2.1 H4.out.1 hl
          have hB := hBook.2 rfl
          have m30 : (0 : Int) ≤ (m3 : Int) := by omega
          have x0 : wo.cell? ⟨w.heap.size + 1, 0, none⟩ = some (.slice A3 m3 c3) := hG.cell 0
          have x1 : wo.cell? ⟨w.heap.size + 1, 1, none⟩ = some (.bool sk) := hG.cell 1
          have t0 : wo.cell? ⟨w.heap.size + 1 + 1, 0, none⟩ = some (.slice A1 b3.toNat c1) := hT.cell 0
          have y0 : wo.cell? ⟨w.heap.size, 0, none⟩ = some (.slice none 0 0) := hR.cell 0
          have y1 : wo.cell? ⟨w.heap.size, 1, none⟩ = some (.slice none 0 0) := hR.cell 1
          have g0 := hR.frozen 0
          have g1 := hR.frozen 1
          have zR := hR.lt
          have HZ := Lib.hid (And.intro hbt (And.intro hR (And.intro hT BK)))
          have NO : (sk = true ∨ 0 < m3) → ¬ ∃ b, gBook bs = some (b, []) ∧ MayB b := fun h => by
            rintro ⟨b, e1, _⟩
            rcases hB with ⟨e2, e3⟩ | ⟨e2, e3⟩
            · rw [e3] at e1; cases e1
            · rw [e3] at e1
              injection e1 with e1
              injection e1 with _ e4
              rcases h with h | h
              · rw [h] at e2; cases e2
              · rw [e4] at hm3; simp at hm3; omega
          have HNO := Lib.hid NO
          have HBO := Lib.hid hB
          have HM3 := Lib.hid hm3
          clear NO hB hBook own own1 hel hex hl hbt hR hT hG hrr BK hcl hm3
          cases sk with
          | true =>
            clear HBO
            go_wp2
            exact get_end ((HZ.out.2.1.set_ 0 (.slice none 0 0)).set_ 1 (.slice none 0 0)) (by simp) (by simp) (RetGet.no ((HZ.out.1.setCell (Nat.le_refl _) _).setCell (Nat.le_refl _) _) (HNO.out (.inl (by first | rfl | trivial))))
          | false =>
            by_cases hm : 0 < m3
            · have hmI : (0 : Int) < (m3 : Int) := by omega
              clear HBO
              go_wp2
              exact get_end ((HZ.out.2.1.set_ 0 (.slice none 0 0)).set_ 1 (.slice none 0 0)) (by simp) (by simp) (RetGet.no ((HZ.out.1.setCell (Nat.le_refl _) _).setCell (Nat.le_refl _) _) (HNO.out (.inr hm)))
            · obtain rfl : m3 = 0 := by omega
              have hrk : rk = [] := List.eq_nil_of_length_eq_zero HM3.out
              have hgb : gBook bs = some (pbk l xs, []) := by
                rcases HBO.out with ⟨e2, e3⟩ | ⟨e2, e3⟩
                · cases e2
                · rw [e3, hrk]; rfl
              have HGB := Lib.hid hgb
              have MY := Lib.hid (may_any A1 b3.toNat c1 l A2 b4.toNat c2 xs wo HZ.out.2.2.2)
              clear hrk hgb HBO HNO hm
              go_wp2_with fail
              refine MY.out.mono ?_
              rintro e w7 ⟨b, rfl, hbm, hb7⟩
              have R7 := HZ.out.2.1.below hb7 zR
              have T7 := HZ.out.2.2.1.below hb7 hzo
              have p0 : w7.cell? ⟨w.heap.size, 0, none⟩ = some (.slice none 0 0) := R7.cell 0
              have p1 : w7.cell? ⟨w.heap.size, 1, none⟩ = some (.slice none 0 0) := R7.cell 1
              have h0 := R7.frozen 0
              have h1 := R7.frozen 1
              have o0 : w7.cell? ⟨w.heap.size + 1 + 1, 0, none⟩ = some (.slice A1 b3.toNat c1) := T7.cell 0
              have o1 : w7.cell? ⟨w.heap.size + 1 + 1, 1, none⟩ = some (.slice A2 b4.toNat c2) := T7.cell 1
              have z7 := R7.lt
              have H7 := Lib.hid (And.intro hbm (And.intro (HZ.out.1.trans (hb7.mono (by omega))) (And.intro R7 (HZ.out.2.2.2.below hb7))))
              clear hbm hb7 R7 T7 y0 y1 g0 g1 x0 x1 t0 t1
              cases b with
              | false =>
                go_wp2
                refine get_end ((H7.out.2.2.1.set_ 0 (.slice none 0 0)).set_ 1 (.slice none 0 0)) (by simp) (by simp) (RetGet.no ((H7.out.2.1.setCell (Nat.le_refl _) _).setCell (Nat.le_refl _) _) ?_)
                rintro ⟨b, e1, e2⟩
                rw [HGB.out] at e1
                injection e1 with e1
                injection e1 with e1 _
                subst e1
                exact absurd (H7.out.1.2 e2) (by decide)
              | true =>
                go_wp2
                refine get_end ((H7.out.2.2.1.set_ 0 (.slice A1 b3.toNat c1)).set_ 1 (.slice A2 b4.toNat c2)) (by simp) (by simp) ⟨A1, b3.toNat, c1, l, A2, b4.toNat, c2, xs, 0, rfl, ?_, (H7.out.2.1.setCell (Nat.le_refl _) _).setCell (Nat.le_refl _) _, .inl ⟨rfl, HGB.out, H7.out.1.1 (by first | rfl | trivial)⟩⟩
                exact (H7.out.2.2.2.far HF.out.1 HF.out.2.1 HF.out.2.2.1 HF.out.2.2.2 0 _).far HF.out.1 HF.out.2.1 HF.out.2.2.1 HF.out.2.2.2 1 _
end
end Go.Proofs.Ytflolnilagogpaa

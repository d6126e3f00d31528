/-
  Several texts in one: B32 B33 B34 B35 B21 B29.
-/
import Derived.Test.YtebobcbaloddaaaMubs
import Derived.Test.YtebobcbaloddaaaMubd
import Derived.Deep.DeepCutAuto
import Derived.KernelRfl
import Derived.BigGuardPart
/-
  The reference's below: what grows (plain); its pages.
-/
namespace Go.Proofs.Ytebobcbaloddaaa
section
set_option linter.unusedSimpArgs false
set_option linter.unusedVariables false
open Go.RowKit Go.Maps

def RS.le (a b : RS) : Prop := a.L.length ≤ b.L.length ∧ a.F.length ≤ b.F.length ∧ a.X.length ≤ b.X.length ∧ a.P.length ≤ b.P.length
theorem RS.le.refl (a : RS) : a.le a := ⟨Nat.le_refl _, Nat.le_refl _, Nat.le_refl _, Nat.le_refl _⟩
theorem RS.le.trans {a b c : RS} (h : a.le b) (k : b.le c) : a.le c := ⟨Nat.le_trans h.1 k.1, Nat.le_trans h.2.1 k.2.1, Nat.le_trans h.2.2.1 k.2.2.1, Nat.le_trans h.2.2.2 k.2.2.2⟩
theorem rbKids_le {G : Nat → RS → Option RS} {seps : List En} (HG : ∀ c st s, G c st = some s → st.le s) : ∀ (l : List Nat) (i : Nat) (st s : RS), rbKids G seps l i st = some s → st.le s
  | [], i, st, s, h => by injection h with h; rw [← h]; exact RS.le.refl _
  | c :: r, i, st, s, h => by
    unfold rbKids at h
    cases hG : G c st with
    | none => rw [hG] at h; cases h
    | some s1 =>
      rw [hG] at h
      simp only [Option.bind_some] at h
      split at h
      · cases h
      · exact (HG _ _ _ hG).trans (rbKids_le HG r (i + 1) s1 s h)
theorem rb_le {ps : List (List UInt8)} : ∀ (f page deep : Nat) (st s : RS), rbP ps f page deep st = some s → st.le s
  | 0, _, _, _, _, h => by cases h
  | f + 1, page, deep, st, s, h => by
    unfold rbP at h
    split at h
    · cases h
    · split at h
      · cases h
      · split at h
        · cases h
        · split at h
          · cases h
          · injection h with h; rw [← h]
            exact ⟨by simp, by simp, by simp, by simp⟩
        · exact RS.le.trans (b := { st with P := st.P ++ [page] }) ⟨Nat.le_refl _, Nat.le_refl _, Nat.le_refl _, by simp⟩ (rbKids_le (fun c st' s' h' => rb_le f c (deep + 1) st' s' h') _ _ _ _ h)
/-- What a result may be as large as. -/
def RS.ok (s : RS) : Prop := s.L.length ≤ 1000000 ∧ s.F.length ≤ 1000000 ∧ s.X.length ≤ 1000000 ∧ s.P.length ≤ 1000000
theorem RS.ok.of_le {a b : RS} (h : a.le b) (k : b.ok) : a.ok := ⟨Nat.le_trans h.1 k.1, Nat.le_trans h.2.1 k.2.1, Nat.le_trans h.2.2.1 k.2.2.1, Nat.le_trans h.2.2.2 k.2.2.2⟩
theorem rpg_leaf {L : List UInt8} {N : Nat} {es : List En} (h : rdPg L = some (.leaf N es)) (W : World) : Calls Try.prog 62 #[.string (str L)] W (RetPg11 W 0 N [] es true) ∧ N < 4294967296 := by
  unfold rdPg at h
  split at h
  · rename_i hc
    split at h
    · rename_i hok
      injection h with h
      injection h with h1 h2
      have PG := page_leaf L hc.1 hc.2 W
      rw [hok, h1, h2] at PG
      refine ⟨PG, ?_⟩
      rw [← h1]
      unfold hdN
      exact beVal_lt_of (n := 4) (by rw [List.length_take]; omega)
    · cases h
  · split at h
    · split at h
      · injection h with h; cases h
      · cases h
    · cases h
theorem rpg_inner {L : List UInt8} {c0 : Nat} {prs : List (En × Nat)} (h : rdPg L = some (.inner c0 prs)) (W : World) : Calls Try.prog 62 #[.string (str L)] W (RetPg11 W 1 0 (c0 :: prs.map Prod.snd) (prs.map Prod.fst) true) ∧ prs.length ≠ 0 ∧ prs.length ≤ 65535 ∧ (∀ x ∈ c0 :: prs.map Prod.snd, x < 4294967296) := by
  unfold rdPg at h
  split at h
  · split at h
    · injection h with h; cases h
    · cases h
  · split at h
    · rename_i hn hc
      split at h
      · rename_i hok
        injection h with h
        injection h with h1 h2
        have PG := page_inner L hc.1 hc.2.1 hc.2.2.1 hc.2.2.2 W
        rw [hok, h1, h2] at PG
        refine ⟨PG, ?_, ?_, ?_⟩
        · rw [← h2, riMany_len]; exact hc.2.2.2
        · rw [← h2, riMany_len]
          have := beVal_lt_of (l := (L.drop 2).take 2) (n := 2) (by rw [List.length_take]; omega)
          unfold hdC; omega
        · intro x hx
          rcases List.mem_cons.1 hx with rfl | hx
          · rw [← h1]; exact beVal_lt_of (n := 4) (by rw [tk_len]; exact Nat.le_refl _)
          · obtain ⟨pr, hpr, rfl⟩ := List.mem_map.1 hx
            rw [← h2] at hpr
            exact (riMany_ok _ _ pr hpr).2
      · cases h
    · cases h
/-- The pages stay while a T grows. -/
theorem RD.ev {w w' : World} {base n : Nat} {vd : Value} {ps : List (List UInt8)} {T : List Bool} {O : Nat → Prop} (h : RD w base n vd ps T) (he : EvT O w w') (hb : base ≤ w.heap.size) (hO : ∀ g, O g → base ≤ g) : RD w' base n vd ps T := by
  obtain ⟨A, c, A2, c2, rfl, h1, h2, h3⟩ := h
  have k : ∀ {xs : List Value} {A : Option Addr}, Reads w base 1 A n xs → Reads w' base 1 A n xs := fun hr => hr.same_ fun ad e hb' => he.block _ (by omega) fun ho => by have := hO _ ho; omega
  exact ⟨A, c, A2, c2, rfl, k h1, k h2, h3⟩
/-- Appends. -/
theorem TS.push1P {w w' : World} {base : Nat} {q : Q4} {st : RS} {o : Obj} {v' : Value} (h : TS w base q st) (k : Nat) (ho : w'.ownsRow base 31 1 v' (q.p.n + 1) (vN st.P ++ [.int .u32 (k : Int)])) (hg : (w.alloc o).grownBy w' q.p.v.ownBlock) (hv : v'.ownBlock = q.p.v.ownBlock ∨ v'.ownBlock = some (w.heap.size + 1)) :
    ∃ A c, v' = .slice A (q.p.n + 1) c ∧ TS w' base { q with p := ⟨A, q.p.n + 1, c⟩ } { st with P := st.P ++ [k] } ∧ EvT q.own w w' ∧ NxT w q { q with p := ⟨A, q.p.n + 1, c⟩ } := by
  obtain ⟨A, c, rfl, hc⟩ := own_form ho
  rw [← vN_snoc] at ho
  exact ⟨A, c, rfl, h.pushP (ball (Below.refl _ _) _) hg ho (hv.imp id fun e => ⟨_, e, by omega⟩)⟩
theorem TS.push1F {w w' : World} {base : Nat} {q : Q4} {st : RS} {o : Obj} {v' : Value} (h : TS w base q st) (k : Nat) (ho : w'.ownsRow base 31 1 v' (q.f.n + 1) (vN st.F ++ [.int .u32 (k : Int)])) (hg : (w.alloc o).grownBy w' q.f.v.ownBlock) (hv : v'.ownBlock = q.f.v.ownBlock ∨ v'.ownBlock = some (w.heap.size + 1)) :
    ∃ A c, v' = .slice A (q.f.n + 1) c ∧ TS w' base { q with f := ⟨A, q.f.n + 1, c⟩ } { st with F := st.F ++ [k] } ∧ EvT q.own w w' ∧ NxT w q { q with f := ⟨A, q.f.n + 1, c⟩ } := by
  obtain ⟨A, c, rfl, hc⟩ := own_form ho
  rw [← vN_snoc] at ho
  exact ⟨A, c, rfl, h.pushF (ball (Below.refl _ _) _) hg ho (hv.imp id fun e => ⟨_, e, by omega⟩)⟩
theorem TS.push1X {w w' : World} {base : Nat} {q : Q4} {st : RS} {o : Obj} {v' : Value} (h : TS w base q st) (k : Nat) (ho : w'.ownsRow base 31 1 v' (q.x.n + 1) (vN st.X ++ [.int .u32 (k : Int)])) (hg : (w.alloc o).grownBy w' q.x.v.ownBlock) (hv : v'.ownBlock = q.x.v.ownBlock ∨ v'.ownBlock = some (w.heap.size + 1)) :
    ∃ A c, v' = .slice A (q.x.n + 1) c ∧ TS w' base { q with x := ⟨A, q.x.n + 1, c⟩ } { st with X := st.X ++ [k] } ∧ EvT q.own w w' ∧ NxT w q { q with x := ⟨A, q.x.n + 1, c⟩ } := by
  obtain ⟨A, c, rfl, hc⟩ := own_form ho
  rw [← vN_snoc] at ho
  exact ⟨A, c, rfl, h.pushX (ball (Below.refl _ _) _) hg ho (hv.imp id fun e => ⟨_, e, by omega⟩)⟩
theorem TS.moreL {w w' : World} {base : Nat} {q : Q4} {st : RS} {v' : Value} (h : TS w base q st) (es : List En) {m : Nat} (hm : m = es.length) (ho : w'.ownsRow base 38 3 v' (q.l.n + m) (vE st.L ++ vE es)) (hg : w.grownBy w' q.l.v.ownBlock) (hv : v'.ownBlock = q.l.v.ownBlock ∨ v'.ownBlock = some w.heap.size) :
    ∃ A c, v' = .slice A (q.l.n + m) c ∧ TS w' base { q with l := ⟨A, q.l.n + m, c⟩ } { st with L := st.L ++ es } ∧ EvT q.own w w' ∧ NxT w q { q with l := ⟨A, q.l.n + m, c⟩ } := by
  obtain ⟨A, c, rfl, hc⟩ := own_form ho
  have e : vE st.L ++ vE es = vE (st.L ++ es) := by simp [vE, List.flatMap_append]
  rw [e] at ho
  exact ⟨A, c, rfl, h.pushL (Below.refl _ _) hg ho (hv.imp id fun e => ⟨_, e, by omega⟩)⟩
/-- Within below: the box of T, the box of the result, the rows, what has changed since. -/
structure BX (w W : World) (base : Nat) (dk : Array Value) (qi q : Q4) (st : RS) : Prop where
  t : Blk W w.heap.size 71 (q.arr st.hi false)
  r : Blk W (w.heap.size + 1 + 1) 71 #[.slice none 0 0, .slice none 0 0, .slice none 0 0, .slice none 0 0, .int .i64 0, .bool false]
  k : Blk W (w.heap.size + 1) 65 dk
  ts : TS W base q st
  ev : EvT qi.own w W
  nx : NxT w qi q
section
variable {w W W' : World} {base : Nat} {dk : Array Value} {qi q q' : Q4} {st st' : RS} {o : Obj} {v' : Value}
theorem BX.after (h : BX w W base dk qi q st) (k1 : TS W' base q' st') (k2 : EvT q.own W W') (k3 : NxT W q q') (i : Nat) (u : Value) (he : (q.arr st.hi false).setIfInBounds i u = q'.arr st'.hi false) :
    BX w (W'.setCell ⟨w.heap.size, i, none⟩ u) base dk qi q' st' ∧ EvT (fun g => q.own g ∨ g = w.heap.size) W (W'.setCell ⟨w.heap.size, i, none⟩ u) := by
  have t1 := k2.blk h.t (h.ts.ne_ h.t (by decide) (by decide))
  have r1 := k2.blk h.r (h.ts.ne_ h.r (by decide) (by decide))
  have d1 := k2.blk h.k (h.ts.ne_ h.k (by decide) (by decide))
  have hz := h.ev.size
  refine ⟨⟨by have := t1.set_ i u; rw [he] at this; exact this, r1.far (by simp; omega) u, d1.far (by simp) u, k1.far t1 (by decide) (by decide) i u, ?_, fun g e => (k3 g e).elim (fun e => h.nx g e) fun e => .inr (by omega)⟩, ?_⟩
  · exact (h.ev.trans k2 fun g e => h.nx g e).trans (EvT.of_set (w := W') (O := fun g => g = w.heap.size) (p := ⟨w.heap.size, i, none⟩) (.inr rfl) u) fun g e => .inr (by omega)
  · exact (k2.mono (O' := fun g => q.own g ∨ g = w.heap.size) fun g e => .inl (.inl e)).trans (EvT.of_set (w := W') (O := fun g => g = w.heap.size) (p := ⟨w.heap.size, i, none⟩) (.inr rfl) u) fun g e => .inl (.inr e)
theorem BX.below (h : BX w W base dk qi q st) (hb : Below W.heap.size W W') : BX w W' base dk qi q st :=
  ⟨h.t.below hb h.t.lt, h.r.below hb h.r.lt, h.k.below hb h.k.lt, h.ts.below hb, (h.ev.trans (EvT.of_below (O := qi.own) hb) fun g e => .inl e), h.nx⟩
theorem BX.push1P (h : BX w W base dk qi q st) (k : Nat) (ho : W'.ownsRow base 31 1 v' (q.p.n + 1) (vN st.P ++ [.int .u32 (k : Int)])) (hg : (W.alloc o).grownBy W' q.p.v.ownBlock) (hv : v'.ownBlock = q.p.v.ownBlock ∨ v'.ownBlock = some (W.heap.size + 1)) :
    ∃ A c, v' = .slice A (q.p.n + 1) c ∧ Blk W' w.heap.size 71 (q.arr st.hi false) ∧ BX w (W'.setCell ⟨w.heap.size, 3, none⟩ (.slice A (q.p.n + 1) c)) base dk qi { q with p := ⟨A, q.p.n + 1, c⟩ } { st with P := st.P ++ [k] } ∧ EvT (fun g => q.own g ∨ g = w.heap.size) W (W'.setCell ⟨w.heap.size, 3, none⟩ (.slice A (q.p.n + 1) c)) ∧ NxT W q { q with p := ⟨A, q.p.n + 1, c⟩ } := by
  obtain ⟨A, c, rfl, k1, k2, k3⟩ := h.ts.push1P k ho hg hv
  exact ⟨A, c, rfl, k2.blk h.t (h.ts.ne_ h.t (by decide) (by decide)), (h.after k1 k2 k3 3 _ (by simp)).1, (h.after k1 k2 k3 3 _ (by simp)).2, k3⟩
theorem BX.push1F (h : BX w W base dk qi q st) (k : Nat) (ho : W'.ownsRow base 31 1 v' (q.f.n + 1) (vN st.F ++ [.int .u32 (k : Int)])) (hg : (W.alloc o).grownBy W' q.f.v.ownBlock) (hv : v'.ownBlock = q.f.v.ownBlock ∨ v'.ownBlock = some (W.heap.size + 1)) :
    ∃ A c, v' = .slice A (q.f.n + 1) c ∧ Blk W' w.heap.size 71 (q.arr st.hi false) ∧ BX w (W'.setCell ⟨w.heap.size, 1, none⟩ (.slice A (q.f.n + 1) c)) base dk qi { q with f := ⟨A, q.f.n + 1, c⟩ } { st with F := st.F ++ [k] } ∧ EvT (fun g => q.own g ∨ g = w.heap.size) W (W'.setCell ⟨w.heap.size, 1, none⟩ (.slice A (q.f.n + 1) c)) ∧ NxT W q { q with f := ⟨A, q.f.n + 1, c⟩ } := by
  obtain ⟨A, c, rfl, k1, k2, k3⟩ := h.ts.push1F k ho hg hv
  exact ⟨A, c, rfl, k2.blk h.t (h.ts.ne_ h.t (by decide) (by decide)), (h.after k1 k2 k3 1 _ (by simp)).1, (h.after k1 k2 k3 1 _ (by simp)).2, k3⟩
theorem BX.push1X (h : BX w W base dk qi q st) (k : Nat) (ho : W'.ownsRow base 31 1 v' (q.x.n + 1) (vN st.X ++ [.int .u32 (k : Int)])) (hg : (W.alloc o).grownBy W' q.x.v.ownBlock) (hv : v'.ownBlock = q.x.v.ownBlock ∨ v'.ownBlock = some (W.heap.size + 1)) :
    ∃ A c, v' = .slice A (q.x.n + 1) c ∧ Blk W' w.heap.size 71 (q.arr st.hi false) ∧ BX w (W'.setCell ⟨w.heap.size, 2, none⟩ (.slice A (q.x.n + 1) c)) base dk qi { q with x := ⟨A, q.x.n + 1, c⟩ } { st with X := st.X ++ [k] } ∧ EvT (fun g => q.own g ∨ g = w.heap.size) W (W'.setCell ⟨w.heap.size, 2, none⟩ (.slice A (q.x.n + 1) c)) ∧ NxT W q { q with x := ⟨A, q.x.n + 1, c⟩ } := by
  obtain ⟨A, c, rfl, k1, k2, k3⟩ := h.ts.push1X k ho hg hv
  exact ⟨A, c, rfl, k2.blk h.t (h.ts.ne_ h.t (by decide) (by decide)), (h.after k1 k2 k3 2 _ (by simp)).1, (h.after k1 k2 k3 2 _ (by simp)).2, k3⟩
theorem BX.moreL (h : BX w W base dk qi q st) (es : List En) {m : Nat} (hm : m = es.length) (ho : W'.ownsRow base 38 3 v' (q.l.n + m) (vE st.L ++ vE es)) (hg : W.grownBy W' q.l.v.ownBlock) (hv : v'.ownBlock = q.l.v.ownBlock ∨ v'.ownBlock = some W.heap.size) :
    ∃ A c, v' = .slice A (q.l.n + m) c ∧ Blk W' w.heap.size 71 (q.arr st.hi false) ∧ BX w (W'.setCell ⟨w.heap.size, 0, none⟩ (.slice A (q.l.n + m) c)) base dk qi { q with l := ⟨A, q.l.n + m, c⟩ } { st with L := st.L ++ es } ∧ EvT (fun g => q.own g ∨ g = w.heap.size) W (W'.setCell ⟨w.heap.size, 0, none⟩ (.slice A (q.l.n + m) c)) ∧ NxT W q { q with l := ⟨A, q.l.n + m, c⟩ } := by
  obtain ⟨A, c, rfl, k1, k2, k3⟩ := h.ts.moreL es hm ho hg hv
  exact ⟨A, c, rfl, k2.blk h.t (h.ts.ne_ h.t (by decide) (by decide)), (h.after k1 k2 k3 0 _ (by simp)).1, (h.after k1 k2 k3 0 _ (by simp)).2, k3⟩
theorem BX.high (h : BX w W base dk qi q st) (k : Nat) :
    BX w (W.setCell ⟨w.heap.size, 4, none⟩ (.int .i64 (k : Int))) base dk qi q { st with hi := k } ∧ EvT (fun g => q.own g ∨ g = w.heap.size) W (W.setCell ⟨w.heap.size, 4, none⟩ (.int .i64 (k : Int))) :=
  h.after (h.ts.hi_ k) (EvT.refl _ _) (NxT.refl _ _) 4 _ (by simp)
/-- A child's answer, stored. -/
theorem BX.child (h : BX w W base dk qi q st) (ts : TS W' base q' st') (ev : EvT q.own W W') (nx : NxT W q q') (u0 u1 u2 u3 u4 u5 : Value) (hu : #[u0, u1, u2, u3, u4, u5] = q'.arr st'.hi false) :
    BX w ((((((W'.setCell ⟨w.heap.size, 0, none⟩ u0).setCell ⟨w.heap.size, 1, none⟩ u1).setCell ⟨w.heap.size, 2, none⟩ u2).setCell ⟨w.heap.size, 3, none⟩ u3).setCell ⟨w.heap.size, 4, none⟩ u4).setCell ⟨w.heap.size, 5, none⟩ u5) base dk qi q' st' ∧
    EvT (fun g => q.own g ∨ g = w.heap.size) W ((((((W'.setCell ⟨w.heap.size, 0, none⟩ u0).setCell ⟨w.heap.size, 1, none⟩ u1).setCell ⟨w.heap.size, 2, none⟩ u2).setCell ⟨w.heap.size, 3, none⟩ u3).setCell ⟨w.heap.size, 4, none⟩ u4).setCell ⟨w.heap.size, 5, none⟩ u5) := by
  have t1 := ev.blk h.t (h.ts.ne_ h.t (by decide) (by decide))
  have r1 := ev.blk h.r (h.ts.ne_ h.r (by decide) (by decide))
  have d1 := ev.blk h.k (h.ts.ne_ h.k (by decide) (by decide))
  have hz := h.ev.size
  have t2 := set6 (a' := u0) (b' := u1) (c' := u2) (d' := u3) (e' := u4) (f' := u5) t1
  rw [hu] at t2
  have far : ∀ {V : World} {g : Nat} {t : TypeId} {cs : Array Value} (i : Nat) (u : Value), g ≠ w.heap.size → Blk V g t cs → Blk (V.setCell ⟨w.heap.size, i, none⟩ u) g t cs := fun i u hne hb => hb.far (by simpa using hne) u
  have s : ∀ {V : World} {cs : Array Value} (i : Nat) (u : Value), TS V base q' st' → Blk V w.heap.size 71 cs → TS (V.setCell ⟨w.heap.size, i, none⟩ u) base q' st' := fun i u hts hb => hts.far hb (by decide) (by decide) i u
  have ev2 : ∀ {O : Nat → Prop} {V V0 : World} (i : Nat) (u : Value), (∀ g, g = w.heap.size → O g ∨ V0.heap.size ≤ g) → EvT O V0 V → EvT O V0 (V.setCell ⟨w.heap.size, i, none⟩ u) := fun {O V V0} i u ho he => he.trans (EvT.of_set (w := V) (O := fun g => g = w.heap.size) (p := ⟨w.heap.size, i, none⟩) (.inr rfl) u) ho
  have hA : ∀ g, g = w.heap.size → qi.own g ∨ w.heap.size ≤ g := fun g e => .inr (by omega)
  have hC : ∀ g, g = w.heap.size → (fun g => q.own g ∨ g = w.heap.size) g ∨ W.heap.size ≤ g := fun g e => .inl (.inr e)
  have ea := h.ev.trans ev fun g e => h.nx g e
  have eb := ev.mono (O' := fun g => q.own g ∨ g = w.heap.size) fun g e => .inl (.inl e)
  have n1 : w.heap.size + 1 + 1 ≠ w.heap.size := by omega
  have n2 : w.heap.size + 1 ≠ w.heap.size := by omega
  refine ⟨⟨t2, far 5 u5 n1 (far 4 u4 n1 (far 3 u3 n1 (far 2 u2 n1 (far 1 u1 n1 (far 0 u0 n1 r1))))), far 5 u5 n2 (far 4 u4 n2 (far 3 u3 n2 (far 2 u2 n2 (far 1 u1 n2 (far 0 u0 n2 d1))))), ?_, ?_, fun g e => (nx g e).elim (fun e => h.nx g e) fun e => .inr (by omega)⟩, ?_⟩
  · exact s 5 u5 (s 4 u4 (s 3 u3 (s 2 u2 (s 1 u1 (s 0 u0 ts t1) (t1.set_ 0 u0)) ((t1.set_ 0 u0).set_ 1 u1)) (((t1.set_ 0 u0).set_ 1 u1).set_ 2 u2)) ((((t1.set_ 0 u0).set_ 1 u1).set_ 2 u2).set_ 3 u3)) (((((t1.set_ 0 u0).set_ 1 u1).set_ 2 u2).set_ 3 u3).set_ 4 u4)
  · exact ev2 5 u5 hA (ev2 4 u4 hA (ev2 3 u3 hA (ev2 2 u2 hA (ev2 1 u1 hA (ev2 0 u0 hA ea)))))
  · exact ev2 5 u5 hC (ev2 4 u4 hC (ev2 3 u3 hC (ev2 2 u2 hC (ev2 1 u1 hC (ev2 0 u0 hC eb)))))
/-- A row of another's, while a T grows. -/
structure FR (w W : World) (B size : Nat) (q : Q4) (A : Option Addr) (n : Nat) (xs : List Value) : Prop where
  r : Reads W B size A n xs
  hB : B ≤ W.heap.size
  f : ∀ ad, A = some ad → w.heap.size < ad.block ∧ (ad.block < B → ¬ q.own ad.block)
theorem FR.step {B size n : Nat} {A : Option Addr} {xs : List Value} (h : FR w W B size q A n xs) (he : EvT (fun g => q.own g ∨ g = w.heap.size) W W') (hn : NxT W q q') : FR w W' B size q' A n xs :=
  ⟨h.r.same_ fun ad e hb => he.block _ (by have := h.hB; omega) fun ho => ho.elim ((h.f ad e).2 hb) fun e2 => by have := (h.f ad e).1; omega, Nat.le_trans h.hB he.size, fun ad e => ⟨(h.f ad e).1, fun hb ho => (hn _ ho).elim ((h.f ad e).2 hb) fun k => by have := h.hB; omega⟩⟩
theorem FR.below {B size n : Nat} {A : Option Addr} {xs : List Value} (h : FR w W B size q A n xs) (hb : Below W.heap.size W W') : FR w W' B size q A n xs :=
  ⟨h.r.below (hb.mono h.hB), Nat.le_trans h.hB hb.size, h.f⟩
theorem FR.rd {B size n : Nat} {A : Option Addr} {xs : List Value} (h : FR w W B size q A n xs) : Reads W W.heap.size size A n xs := h.r.more h.hB
/-- Its answer. -/
theorem BX.end_ (h : BX w W base dk qi q st) : RetT base qi w st (.returned (q.v st.hi false)) W := ⟨q, rfl, h.ts, h.ev, h.nx⟩
theorem BX.fin (h : BX w W base dk qi q st) (u0 u1 u2 u3 u4 u5 : Value) (W2 : World) (hW : W2 = ((((((W.setCell ⟨w.heap.size + 1 + 1, 0, none⟩ u0).setCell ⟨w.heap.size + 1 + 1, 1, none⟩ u1).setCell ⟨w.heap.size + 1 + 1, 2, none⟩ u2).setCell ⟨w.heap.size + 1 + 1, 3, none⟩ u3).setCell ⟨w.heap.size + 1 + 1, 4, none⟩ u4).setCell ⟨w.heap.size + 1 + 1, 5, none⟩ u5)) :
    Blk W2 (w.heap.size + 1 + 1) 71 #[u0, u1, u2, u3, u4, u5] ∧ RetT base qi w st (.returned (q.v st.hi false)) W2 := by
  subst hW
  refine ⟨set6 h.r, q, rfl, ?_, ?_, h.nx⟩
  · have s : ∀ {V : World} {cs : Array Value} (i : Nat) (u : Value), TS V base q st → Blk V (w.heap.size + 1 + 1) 71 cs → TS (V.setCell ⟨w.heap.size + 1 + 1, i, none⟩ u) base q st := fun i u hts hb => hts.far hb (by decide) (by decide) i u
    exact s 5 u5 (s 4 u4 (s 3 u3 (s 2 u2 (s 1 u1 (s 0 u0 h.ts h.r) (h.r.set_ 0 u0)) ((h.r.set_ 0 u0).set_ 1 u1)) (((h.r.set_ 0 u0).set_ 1 u1).set_ 2 u2)) ((((h.r.set_ 0 u0).set_ 1 u1).set_ 2 u2).set_ 3 u3)) (((((h.r.set_ 0 u0).set_ 1 u1).set_ 2 u2).set_ 3 u3).set_ 4 u4)
  · have s : ∀ {V : World} (i : Nat) (u : Value), EvT qi.own w V → EvT qi.own w (V.setCell ⟨w.heap.size + 1 + 1, i, none⟩ u) := fun {V} i u he => he.trans (EvT.of_set (w := V) (O := fun g => g = w.heap.size + 1 + 1) (p := ⟨w.heap.size + 1 + 1, i, none⟩) (.inr rfl) u) fun g e => .inr (by omega)
    exact s 5 u5 (s 4 u4 (s 3 u3 (s 2 u2 (s 1 u1 (s 0 u0 h.ev)))))
end
/-- A call of a Go function, in a region that draws. -/
theorem step_go11 {P : Program} {w : World} {ops : Array Oper} {o : Oper} {a : Act} {K : Act → World → Prop} {Q : Exit → Act → World → Prop} {E : Prop} (hgd : o.guard = none) (h : Oper.wp P o a w K Q) : if Region.wanted o (yielded ops a.tmps) = true then Oper.wp P o a w K Q else E := by
  have hw : Region.wanted o (yielded ops a.tmps) = true := by simp [Region.wanted, hgd]
  rw [if_pos hw]
  exact h
theorem off_at {l : List En} {n k : Nat} {x : En} {p : En → Bool} (h : ¬ (l.drop n).any p = true) (hk : n ≤ k) (hx : l[k]? = some x) : p x = false := by
  rw [Bool.eq_false_iff]
  intro hp
  refine h (List.any_eq_true.2 ⟨x, List.mem_of_getElem? (i := k - n) ?_, hp⟩)
  rw [List.getElem?_drop, show n + (k - n) = k from by omega]
  exact hx
theorem off_lo {seps : List En} {j i : Nat} {x y : En} (h : offE seps j x = false) (hi : j = i + 1) (hy : seps[i]? = some y) : lessE x y = false := by
  unfold offE at h
  rw [Bool.or_eq_false_iff] at h
  have h1 := h.1
  subst hi
  rw [show i + 1 - 1 = i from rfl, hy] at h1
  simpa using h1
theorem off_hi {seps : List En} {j : Nat} {x z : En} (h : offE seps j x = false) (hz : seps[j]? = some z) : lessE x z = true := by
  unfold offE at h
  rw [Bool.or_eq_false_iff, hz] at h
  simpa using h.2
/-- The results of below. -/
theorem tb_end {W : World} {R : Nat} {tm : Array Value} {Q : Ending → World → Prop} {q : Q4} {hi : Nat} {b : Bool} (hR : Blk W R 71 (q.arr hi b))
    (h8 : tm[8]? = some (.pointer (some ⟨R, 0, none⟩))) (h : Q (.returned (q.v hi b)) W) :
    bodyPost Try.prog Try.f40 Q Exit.ret { tmps := tm, defers := [] } W := by
  have q0 : W.cell? ⟨R, 0, none⟩ = _ := hR.cell 0
  have q1 : W.cell? ⟨R, 1, none⟩ = _ := hR.cell 1
  have q2 : W.cell? ⟨R, 2, none⟩ = _ := hR.cell 2
  have q3 : W.cell? ⟨R, 3, none⟩ = _ := hR.cell 3
  have q4 : W.cell? ⟨R, 4, none⟩ = _ := hR.cell 4
  have q5 : W.cell? ⟨R, 5, none⟩ = _ := hR.cell 5
  exact bodyPost_ret (v := q.v hi b) (by simp [results, Try.results40, go_sem, h8, q0, q1, q2, q3, q4, q5]) rfl h
end
end Go.Proofs.Ytebobcbaloddaaa
/-
  The reference's below at a leaf's page.
-/
namespace Go.Proofs.Ytebobcbaloddaaa
section
set_option linter.unusedSimpArgs false
set_option linter.unusedVariables false
open Go.RowKit Go.Maps

section
variable {w : World} {base n : Nat} {vd : Value} {ps : List (List UInt8)} {T : List Bool} {q : Q4} {st s : RS}
set_option maxRecDepth 100000 in
set_option maxHeartbeats 8000000 in
theorem rbelow_leaf (f deep : Nat) (hn : n ≤ 5000) (hB : base ≤ w.heap.size) {L : List UInt8} {N : Nat} {es : List En}
    (h : TS w base q st) (hd : RD w base n vd ps T) (page : Nat) (hp : page < 4294967296) (hpg : ps[page]? = some L) (hpc : rdPg L = some (.leaf N es)) (hs : rbP ps (f + 1) page deep st = some s) (hok : s.ok) :
    Calls Try.prog 40 #[q.v st.hi false, vd, .int .u32 page, .int .i64 deep] w (RetT base q w s) := by
  have hle := rb_le _ _ _ _ _ hs
  have hok0 := RS.ok.of_le hle hok
  obtain ⟨hT, hpl⟩ := hd.hT
  have hlens := h.lens
  rw [rbP] at hs
  split at hs
  · cases hs
  rename_i hg
  have hdeep : deep ≤ 12 := by omega
  have hmem : decide (page ∈ st.P) = false := by rw [decide_eq_false_iff_not]; exact fun e => hg (.inr e)
  clear hg
  rw [hpg] at hs
  simp only at hs
  have hpn : page < n := by rw [← hpl]; exact lt_of_at hpg
  rw [hpc] at hs
  simp only at hs
  obtain ⟨A, c, A', c', rfl, hr, hr', hc, hc'⟩ := hd
  have hd : RD w base n (.agg #[.slice A n c, .slice A' n c']) ps T := ⟨A, c, A', c', rfl, hr, hr', hc, hc'⟩
  clear hr'
  obtain ⟨⟨A0, n0, c0⟩, ⟨A1, n1, c1⟩, ⟨A2, n2, c2⟩, ⟨A3, n3, c3⟩⟩ := q
  simp only at hlens
  obtain ⟨ln0, ln1, ln2, ln3⟩ := hlens
  obtain ⟨hi, hhi⟩ : ∃ hi, st.hi = hi := ⟨_, rfl⟩
  rw [hhi]
  have hpI : (page : Int) < (n : Int) := by omega
  have hpI0 : (0 : Int) ≤ (page : Int) := by omega
  have hdI : (deep : Int) ≤ 12 := by omega
  have hdI0 : (0 : Int) ≤ (deep : Int) := by omega
  have hbT := ball (ball (ball (Below.refl w.heap.size w) (.cells #[.slice A0 n0 c0, .slice A1 n1 c1, .slice A2 n2 c2, .slice A3 n3 c3, .int .i64 (hi : Int), .bool false] 71)) (.cells #[.slice A n c, .slice A' n c'] 65)) (.cells #[.slice none 0 0, .slice none 0 0, .slice none 0 0, .slice none 0 0, .int .i64 0, .bool false] 71)
  have X0 := ((Blk.new w 71 #[.slice A0 n0 c0, .slice A1 n1 c1, .slice A2 n2 c2, .slice A3 n3 c3, .int .i64 (hi : Int), .bool false]).alloc (.cells #[.slice A n c, .slice A' n c'] 65)).alloc (.cells #[.slice none 0 0, .slice none 0 0, .slice none 0 0, .slice none 0 0, .int .i64 0, .bool false] 71)
  have X1 := (Blk.newAt (w := w.alloc (.cells #[.slice A0 n0 c0, .slice A1 n1 c1, .slice A2 n2 c2, .slice A3 n3 c3, .int .i64 (hi : Int), .bool false] 71)) (t := 65) (cs := #[.slice A n c, .slice A' n c']) (g := w.heap.size + 1) (by simp)).alloc (.cells #[.slice none 0 0, .slice none 0 0, .slice none 0 0, .slice none 0 0, .int .i64 0, .bool false] 71)
  have X2 := Blk.newAt (w := (w.alloc (.cells #[.slice A0 n0 c0, .slice A1 n1 c1, .slice A2 n2 c2, .slice A3 n3 c3, .int .i64 (hi : Int), .bool false] 71)).alloc (.cells #[.slice A n c, .slice A' n c'] 65)) (t := 71) (cs := #[.slice none 0 0, .slice none 0 0, .slice none 0 0, .slice none 0 0, .int .i64 0, .bool false]) (g := w.heap.size + 1 + 1) (by simp)
  have hT1 := h.below hbT
  have hrT := (hr.below (hbT.mono hB))
  have hdT := hd.below (hbT.mono hB) (Nat.le_refl _)
  have hzT : (((w.alloc (.cells #[.slice A0 n0 c0, .slice A1 n1 c1, .slice A2 n2 c2, .slice A3 n3 c3, .int .i64 (hi : Int), .bool false] 71)).alloc (.cells #[.slice A n c, .slice A' n c'] 65)).alloc (.cells #[.slice none 0 0, .slice none 0 0, .slice none 0 0, .slice none 0 0, .int .i64 0, .bool false] 71)).heap.size = w.heap.size + 1 + 1 + 1 := by simp
  obtain ⟨i0, hi0, hz0, hs0, hy0⟩ := int_info8 Try.infoE
  obtain ⟨i1, hi1, hz1, hs1, hy1⟩ := int_info8 Try.infoN
  have HI := Lib.hid (And.intro hn (And.intro hle (And.intro hok0 (And.intro hok (And.intro hs hhi)))))
  have HL := Lib.hid (And.intro ln0 (And.intro ln1 (And.intro ln2 ln3)))
  have HPc := Lib.hid hpc
  have Hpg := Lib.hid hpg
  clear hle hok0 hok hs hhi ln0 ln1 ln2 ln3 h hr hd hpc hT hpl hn
  go_enter Try.func40, Try.ntmps40
  go_upto_region 1 with fail
  obtain ⟨WX, hWX⟩ : ∃ WX, (((w.alloc (.cells #[.slice A0 n0 c0, .slice A1 n1 c1, .slice A2 n2 c2, .slice A3 n3 c3, .int .i64 (hi : Int), .bool false] 71)).alloc (.cells #[.slice A n c, .slice A' n c'] 65)).alloc (.cells #[.slice none 0 0, .slice none 0 0, .slice none 0 0, .slice none 0 0, .int .i64 0, .bool false] 71)) = WX := ⟨_, rfl⟩
  rw [hWX] at hbT X0 X1 X2 hT1 hrT hdT hzT ⊢
  clear hWX
  have HAS := Lib.hid (rhas_any11 A3 n3 c3 st.P page WX (Reads.of_own hT1.p) (by have := HL.out.2.2.2; have := HI.out.2.2.1.2.2.2; omega))
  rw [hmem] at HAS
  have a0 : WX.cell? ⟨w.heap.size, 0, none⟩ = some (.slice A0 n0 c0) := X0.cell 0
  have a3 : WX.cell? ⟨w.heap.size, 3, none⟩ = some (.slice A3 n3 c3) := X0.cell 3
  have a5 : WX.cell? ⟨w.heap.size, 5, none⟩ = some (.bool false) := X0.cell 5
  have b0 : WX.cell? ⟨w.heap.size + 1, 0, none⟩ = some (.slice A n c) := X1.cell 0
  have HX : BX w WX base #[.slice A n c, .slice A' n c'] ⟨⟨A0, n0, c0⟩, ⟨A1, n1, c1⟩, ⟨A2, n2, c2⟩, ⟨A3, n3, c3⟩⟩ ⟨⟨A0, n0, c0⟩, ⟨A1, n1, c1⟩, ⟨A2, n2, c2⟩, ⟨A3, n3, c3⟩⟩ st := ⟨by rw [HI.out.2.2.2.2.2]; exact X0, X2, X1, hT1, EvT.of_below hbT, NxT.refl _ _⟩
  have wP : IntKind.i64.wrap (page : Int) = (page : Int) := IntWalk.i64_in _ (by omega)
  have H0 := Lib.hid (And.intro HX (And.intro hrT hdT))
  clear HX hbT X0 X1 X2 hT1 hrT hdT hmem
  go_wp2_with fail
  refine HAS.out.mono ?_
  rintro e w1 ⟨rfl, hb1⟩
  have hrw1 := H0.out.2.1.below (hb1.mono (by omega))
  obtain ⟨ad, L', rfl, hadb, hL', p0⟩ := hrw1.text hpn
  have hLL : L' = L := by have := Hpg.out; rw [hL'] at this; injection this
  subst hLL
  have B1 := H0.out.1.below hb1
  have b1 : w1.cell? ⟨w.heap.size + 1, 0, none⟩ = some (.slice (some ad) n c) := B1.k.cell 0
  have hzw1 := hb1.size
  clear hrw1 hL' a0 a3 a5 b0
  obtain ⟨PG, hN⟩ := rpg_leaf HPc.out w1
  have PG := Lib.hid PG
  have B1 := Lib.hid B1
  go_wp2_with fail
  refine PG.out.mono ?_
  rintro e w2 ⟨A5, c5, A6, c6, rfl, r5, r6, hb2, -, f6⟩
  have B2 := B1.out.below hb2
  have d3 : w2.cell? ⟨w.heap.size, 3, none⟩ = some (.slice A3 n3 c3) := B2.t.cell 3
  have hzw2 := hb2.size
  have hzb : base ≤ w2.heap.size := by omega
  have l3 : n3 + 1 ≤ 1000000000 := by have := HL.out.2.2.2; have := HI.out.2.2.1.2.2.2; omega
  have l1 : n1 + 1 ≤ 1000000000 := by have := HL.out.2.1; have := HI.out.2.2.1.2.1; omega
  have l2 : n2 + 1 ≤ 1000000000 := by have := HL.out.2.2.1; have := HI.out.2.2.1.2.2.1; omega
  have R2 : FR w w2 w2.heap.size 3 ⟨⟨A0, n0, c0⟩, ⟨A1, n1, c1⟩, ⟨A2, n2, c2⟩, ⟨A3, n3, c3⟩⟩ A6 es.length (vE es) := ⟨r6, Nat.le_refl _, fun ad e => ⟨by have := f6 ad e; omega, fun _ ho => by have := f6 ad e; have := (B1.out.ts.lt ho).2; omega⟩⟩
  have H2 := Lib.hid (And.intro B2 R2)
  have hcase : n1 = 0 ∨ (n1 ≠ 0 ∧ hi = deep) := by
    rcases Nat.eq_zero_or_pos n1 with h0 | h0
    · exact .inl h0
    · have h1 := HI.out.2.2.2.2.1
      split at h1
      · cases h1
      · rename_i hne
        refine .inr ⟨by omega, ?_⟩
        rw [← HI.out.2.2.2.2.2]
        by_cases he : st.hi = deep
        · exact he
        · exact absurd ⟨fun e => by have := HL.out.2.1; rw [e] at this; simp at this; omega, he⟩ hne
  have hs : s = ⟨st.L ++ es, st.F ++ [page], st.X ++ [N], st.P ++ [page], deep⟩ := by
    have h1 := HI.out.2.2.2.2.1
    split at h1
    · cases h1
    · injection h1 with h1; exact h1.symm
  have HC := Lib.hid hcase
  have HS := Lib.hid hs
  have lL : n0 + es.length ≤ 1000000 := by
    have h1 := HI.out.2.2.2.1.1
    have h2 := HL.out.1
    rw [hs] at h1
    simp only [List.length_append] at h1
    omega
  clear B2 R2 B1 r6 r5 f6 p0 b1 hcase hs
  go_upto_region 7 with (at_builtin; refine wpList_pushR (news := [.int .u32 (page : Int)]) rfl (.tmp 54) (.tmp 56) 69 rfl base 31 i1 _ 1 4 Try.underlying69 hi1 hz1 hs1 hy1 rfl (by decide) _ n3 (vN st.P) rfl H2.out.1.ts.p rfl _ rfl rfl rfl (by intro u hu; rw [List.mem_singleton] at hu; subst hu; rfl) l3 (by omega) hzb ?_; intro v6 w6 ho6 hg6 hv6; obtain ⟨A7, c7, rfl, X6, B7, e7, n7⟩ := H2.out.1.push1P page ho6 hg6 hv6; have d3 : w6.cell? ⟨w.heap.size, 3, none⟩ = some (.slice A3 n3 c3) := X6.cell 3; have g3 := X6.frozen 3; have m3 := X6.lt; have R7 := H2.out.2.step e7 n7; have H7 := Lib.hid (And.intro B7 (And.intro R7 e7.size)); clear ho6 hg6 hv6 X6 B7 e7 n7 R7)
  obtain ⟨w7, hw7⟩ : ∃ x, w6.setCell ⟨w.heap.size, 3, none⟩ (.slice A7 (n3 + 1) c7) = x := ⟨_, rfl⟩
  rw [hw7] at H7 ⊢
  clear hw7 d3 g3 m3
  have d0 : w7.cell? ⟨w.heap.size, 0, none⟩ = some (.slice A0 n0 c0) := H7.out.1.t.cell 0
  have d1 : w7.cell? ⟨w.heap.size, 1, none⟩ = some (.slice A1 n1 c1) := H7.out.1.t.cell 1
  have d4 : w7.cell? ⟨w.heap.size, 4, none⟩ = some (.int .i64 (hi : Int)) := by rw [← HI.out.2.2.2.2.2]; exact H7.out.1.t.cell 4
  have g4 := H7.out.1.t.frozen 4
  have m4 := H7.out.1.t.lt
  have hz7 := H7.out.2.2
  have B8 := H7.out.1.high deep
  have R8 := H7.out.2.1.step B8.2 (NxT.refl _ _)
  have H8 := Lib.hid (And.intro B8.1 (And.intro R8 B8.2.size))
  have hN0 := hN
  clear B8 R8
  rcases HC.out with h0 | ⟨h0, h0'⟩
  have e1 : (n1 : Int) ≤ 0 := by omega
  clear h0
  rotate_left 1
  have e1 : (0 : Int) < (n1 : Int) := by omega
  have e1n : 0 < n1 := by omega
  have e2 : ((hi : Int) != (deep : Int)) = false := by rw [h0']; simp
  clear h0 h0'
  go_upto_region 11 with fail
  all_goals (
    obtain ⟨w8, hw8⟩ : ∃ x, w7.setCell ⟨w.heap.size, 4, none⟩ (.int .i64 (deep : Int)) = x := ⟨_, rfl⟩
    rw [hw8] at H8 ⊢
    clear hw8 d0 d1 d4 g4 m4
    have d0 : w8.cell? ⟨w.heap.size, 0, none⟩ = some (.slice A0 n0 c0) := H8.out.1.t.cell 0
    have hz8 := H8.out.2.2
    have hb8 : base ≤ w8.heap.size := by omega
    go_upto_region 12 with (at_builtin; go_loud (refine wpList_append_any _ rfl (.tmp 76) (.tmp 77) 22 rfl base 38 i0 _ 3 24 Try.underlying22 hi0 hz0 hs0 hy0 rfl (by decide) _ n0 (vE st.L) rfl H8.out.1.ts.l _ A6 es.length c6 (vE es) rfl H8.out.2.1.r (cells_oneVE es) (by unfold maxLen; omega) (by omega) hb8 ?_); intro v9 w9 ho9 hg9 hv9; go_loud (obtain ⟨A9, c9, rfl, X9, B9, e9, n9⟩ := H8.out.1.moreL es rfl ho9 hg9 hv9; have d0 : w9.cell? ⟨w.heap.size, 0, none⟩ = some (.slice A0 n0 c0) := X9.cell 0; have g0 := X9.frozen 0; have m0 := X9.lt; have H9 := Lib.hid (And.intro B9 e9.size); clear ho9 hg9 hv9 X9 B9 e9 n9))
    obtain ⟨wa, hwa⟩ : ∃ x, w9.setCell ⟨w.heap.size, 0, none⟩ (.slice A9 (n0 + es.length) c9) = x := ⟨_, rfl⟩
    rw [hwa] at H9 ⊢
    clear hwa d0 g0 m0
    have d1 : wa.cell? ⟨w.heap.size, 1, none⟩ = some (.slice A1 n1 c1) := H9.out.1.t.cell 1
    have hz9 := H9.out.2
    have hb9 : base ≤ wa.heap.size := by omega
    go_upto_region 13 with (at_builtin; go_loud (refine wpList_pushR (news := [.int .u32 (page : Int)]) rfl (.tmp 81) (.tmp 83) 69 rfl base 31 i1 _ 1 4 Try.underlying69 hi1 hz1 hs1 hy1 rfl (by decide) _ n1 (vN st.F) rfl H9.out.1.ts.f rfl _ rfl rfl rfl (by intro u hu; rw [List.mem_singleton] at hu; subst hu; rfl) l1 (by omega) hb9 ?_); intro vb wb hob hgb hvb; go_loud (obtain ⟨Ab, cb, rfl, Xb, Bb, eb, nb⟩ := H9.out.1.push1F page hob hgb hvb; have d1 : wb.cell? ⟨w.heap.size, 1, none⟩ = some (.slice A1 n1 c1) := Xb.cell 1; have g1 := Xb.frozen 1; have m1 := Xb.lt; have Hb := Lib.hid (And.intro Bb eb.size); clear hob hgb hvb Xb Bb eb nb))
    obtain ⟨wc, hwc⟩ : ∃ x, wb.setCell ⟨w.heap.size, 1, none⟩ (.slice Ab (n1 + 1) cb) = x := ⟨_, rfl⟩
    rw [hwc] at Hb ⊢
    clear hwc d1 g1 m1
    have d2 : wc.cell? ⟨w.heap.size, 2, none⟩ = some (.slice A2 n2 c2) := Hb.out.1.t.cell 2
    have hzc := Hb.out.2
    have hbc : base ≤ wc.heap.size := by omega
    go_upto_region 14 with (at_builtin; go_loud (refine wpList_pushR (news := [.int .u32 (N : Int)]) rfl (.tmp 87) (.tmp 89) 69 rfl base 31 i1 _ 1 4 Try.underlying69 hi1 hz1 hs1 hy1 rfl (by decide) _ n2 (vN st.X) rfl Hb.out.1.ts.x rfl _ rfl rfl rfl (by intro u hu; rw [List.mem_singleton] at hu; subst hu; rfl) l2 (by omega) hbc ?_); intro vd wd hod hgd hvd; go_loud (obtain ⟨Ad, cd, rfl, Xd, Bd, ed, nd⟩ := Hb.out.1.push1X N hod hgd hvd; have d2 : wd.cell? ⟨w.heap.size, 2, none⟩ = some (.slice A2 n2 c2) := Xd.cell 2; have g2 := Xd.frozen 2; have m2 := Xd.lt; have Hd := Lib.hid (And.intro Bd ed.size); clear hod hgd hvd Xd Bd ed nd))
    obtain ⟨we, hwe⟩ : ∃ x, wd.setCell ⟨w.heap.size, 2, none⟩ (.slice Ad (n2 + 1) cd) = x := ⟨_, rfl⟩
    rw [hwe] at Hd ⊢
    clear hwe d2 g2 m2
    have a0 : we.cell? ⟨w.heap.size, 0, none⟩ = some (.slice A9 (n0 + es.length) c9) := Hd.out.1.t.cell 0
    have a1 : we.cell? ⟨w.heap.size, 1, none⟩ = some (.slice Ab (n1 + 1) cb) := Hd.out.1.t.cell 1
    have a2 : we.cell? ⟨w.heap.size, 2, none⟩ = some (.slice Ad (n2 + 1) cd) := Hd.out.1.t.cell 2
    have a3 : we.cell? ⟨w.heap.size, 3, none⟩ = some (.slice A7 (n3 + 1) c7) := Hd.out.1.t.cell 3
    have a4 : we.cell? ⟨w.heap.size, 4, none⟩ = some (.int .i64 (deep : Int)) := Hd.out.1.t.cell 4
    have a5 : we.cell? ⟨w.heap.size, 5, none⟩ = some (.bool false) := Hd.out.1.t.cell 5
    have F0 := Hd.out.1.r.frozen 0
    have F1 := Hd.out.1.r.frozen 1
    have F2 := Hd.out.1.r.frozen 2
    have F3 := Hd.out.1.r.frozen 3
    have F4 := Hd.out.1.r.frozen 4
    have F5 := Hd.out.1.r.frozen 5
    have r0 : we.cell? ⟨w.heap.size + 1 + 1, 0, none⟩ = some (.slice none 0 0) := Hd.out.1.r.cell 0
    have r1 : we.cell? ⟨w.heap.size + 1 + 1, 1, none⟩ = some (.slice none 0 0) := Hd.out.1.r.cell 1
    have r2 : we.cell? ⟨w.heap.size + 1 + 1, 2, none⟩ = some (.slice none 0 0) := Hd.out.1.r.cell 2
    have r3 : we.cell? ⟨w.heap.size + 1 + 1, 3, none⟩ = some (.slice none 0 0) := Hd.out.1.r.cell 3
    have r4 : we.cell? ⟨w.heap.size + 1 + 1, 4, none⟩ = some (.int .i64 0) := Hd.out.1.r.cell 4
    have r5 : we.cell? ⟨w.heap.size + 1 + 1, 5, none⟩ = some (.bool false) := Hd.out.1.r.cell 5
    have mr := Hd.out.1.r.lt
    go_wp2_with fail
    obtain ⟨kk, kr⟩ := Hd.out.1.fin (.slice A9 (n0 + es.length) c9) (.slice Ab (n1 + 1) cb) (.slice Ad (n2 + 1) cd) (.slice A7 (n3 + 1) c7) (.int .i64 (deep : Int)) (.bool false) _ rfl
    refine tb_end (q := ⟨⟨A9, n0 + es.length, c9⟩, ⟨Ab, n1 + 1, cb⟩, ⟨Ad, n2 + 1, cd⟩, ⟨A7, n3 + 1, c7⟩⟩) (hi := deep) (b := false) kk rfl ?_
    rw [HS.out]
    exact kr)
end
end
end Go.Proofs.Ytebobcbaloddaaa
/-
  The reference's below at an inner page.
-/
namespace Go.Proofs.Ytebobcbaloddaaa
section
set_option linter.unusedSimpArgs false
set_option linter.unusedVariables false
open Go.RowKit Go.Maps

section
variable {w : World} {base n : Nat} {vd : Value} {ps : List (List UInt8)} {T : List Bool} {q : Q4} {st s : RS}
set_option maxRecDepth 100000 in
set_option maxHeartbeats 8000000 in
theorem rbelow_inner (f deep : Nat) (hn : n ≤ 5000) (hB : base ≤ w.heap.size) {L : List UInt8} {cc : Nat} {prs : List (En × Nat)}
    (HF : ∀ (W : World) (q : Q4) (st s : RS) (page : Nat), base ≤ W.heap.size → TS W base q st → RD W base n vd ps T → page < 4294967296 → rbP ps f page (deep + 1) st = some s → s.ok →
      Calls Try.prog 40 #[q.v st.hi false, vd, .int .u32 page, .int .i64 (deep + 1 : Nat)] W (RetT base q W s))
    (h : TS w base q st) (hd : RD w base n vd ps T) (page : Nat) (hp : page < 4294967296) (hpg : ps[page]? = some L) (hpc : rdPg L = some (.inner cc prs)) (hs : rbP ps (f + 1) page deep st = some s) (hok : s.ok) :
    Calls Try.prog 40 #[q.v st.hi false, vd, .int .u32 page, .int .i64 deep] w (RetT base q w s) := by
  have hle := rb_le _ _ _ _ _ hs
  have hok0 := RS.ok.of_le hle hok
  obtain ⟨hT, hpl⟩ := hd.hT
  have hlens := h.lens
  rw [rbP] at hs
  split at hs
  · cases hs
  rename_i hg
  have hdeep : deep ≤ 12 := by omega
  have hmem : decide (page ∈ st.P) = false := by rw [decide_eq_false_iff_not]; exact fun e => hg (.inr e)
  clear hg
  rw [hpg] at hs
  simp only at hs
  have hpn : page < n := by rw [← hpl]; exact lt_of_at hpg
  rw [hpc] at hs
  simp only at hs
  obtain ⟨A, c, A', c', rfl, hr, hr', hc, hc'⟩ := hd
  have hd : RD w base n (.agg #[.slice A n c, .slice A' n c']) ps T := ⟨A, c, A', c', rfl, hr, hr', hc, hc'⟩
  clear hr'
  obtain ⟨⟨A0, n0, c0⟩, ⟨A1, n1, c1⟩, ⟨A2, n2, c2⟩, ⟨A3, n3, c3⟩⟩ := q
  simp only at hlens
  obtain ⟨ln0, ln1, ln2, ln3⟩ := hlens
  obtain ⟨hi, hhi⟩ : ∃ hi, st.hi = hi := ⟨_, rfl⟩
  rw [hhi]
  have hpI : (page : Int) < (n : Int) := by omega
  have hpI0 : (0 : Int) ≤ (page : Int) := by omega
  have hdI : (deep : Int) ≤ 12 := by omega
  have hdI0 : (0 : Int) ≤ (deep : Int) := by omega
  have hbT := ball (ball (ball (Below.refl w.heap.size w) (.cells #[.slice A0 n0 c0, .slice A1 n1 c1, .slice A2 n2 c2, .slice A3 n3 c3, .int .i64 (hi : Int), .bool false] 71)) (.cells #[.slice A n c, .slice A' n c'] 65)) (.cells #[.slice none 0 0, .slice none 0 0, .slice none 0 0, .slice none 0 0, .int .i64 0, .bool false] 71)
  have X0 := ((Blk.new w 71 #[.slice A0 n0 c0, .slice A1 n1 c1, .slice A2 n2 c2, .slice A3 n3 c3, .int .i64 (hi : Int), .bool false]).alloc (.cells #[.slice A n c, .slice A' n c'] 65)).alloc (.cells #[.slice none 0 0, .slice none 0 0, .slice none 0 0, .slice none 0 0, .int .i64 0, .bool false] 71)
  have X1 := (Blk.newAt (w := w.alloc (.cells #[.slice A0 n0 c0, .slice A1 n1 c1, .slice A2 n2 c2, .slice A3 n3 c3, .int .i64 (hi : Int), .bool false] 71)) (t := 65) (cs := #[.slice A n c, .slice A' n c']) (g := w.heap.size + 1) (by simp)).alloc (.cells #[.slice none 0 0, .slice none 0 0, .slice none 0 0, .slice none 0 0, .int .i64 0, .bool false] 71)
  have X2 := Blk.newAt (w := (w.alloc (.cells #[.slice A0 n0 c0, .slice A1 n1 c1, .slice A2 n2 c2, .slice A3 n3 c3, .int .i64 (hi : Int), .bool false] 71)).alloc (.cells #[.slice A n c, .slice A' n c'] 65)) (t := 71) (cs := #[.slice none 0 0, .slice none 0 0, .slice none 0 0, .slice none 0 0, .int .i64 0, .bool false]) (g := w.heap.size + 1 + 1) (by simp)
  have hT1 := h.below hbT
  have hrT := (hr.below (hbT.mono hB))
  have hdT := hd.below (hbT.mono hB) (Nat.le_refl _)
  have hzT : (((w.alloc (.cells #[.slice A0 n0 c0, .slice A1 n1 c1, .slice A2 n2 c2, .slice A3 n3 c3, .int .i64 (hi : Int), .bool false] 71)).alloc (.cells #[.slice A n c, .slice A' n c'] 65)).alloc (.cells #[.slice none 0 0, .slice none 0 0, .slice none 0 0, .slice none 0 0, .int .i64 0, .bool false] 71)).heap.size = w.heap.size + 1 + 1 + 1 := by simp
  obtain ⟨i0, hi0, hz0, hs0, hy0⟩ := int_info8 Try.infoE
  obtain ⟨i1, hi1, hz1, hs1, hy1⟩ := int_info8 Try.infoN
  have HI := Lib.hid (And.intro hn (And.intro hle (And.intro hok0 (And.intro hok (And.intro hs hhi)))))
  have HL := Lib.hid (And.intro ln0 (And.intro ln1 (And.intro ln2 ln3)))
  have HFh := Lib.hid HF
  have HPc := Lib.hid hpc
  have HD := Lib.hid hd
  have hkl : (cc :: prs.map Prod.snd).length = prs.length + 1 := by simp
  have hsl : (prs.map Prod.fst).length = prs.length := by simp
  have Hpg := Lib.hid hpg
  clear HF hle hok0 hok hs hhi ln0 ln1 ln2 ln3 h hr hd hpc hT hpl hn
  go_enter Try.func40, Try.ntmps40
  go_upto_region 1 with fail
  obtain ⟨WX, hWX⟩ : ∃ WX, (((w.alloc (.cells #[.slice A0 n0 c0, .slice A1 n1 c1, .slice A2 n2 c2, .slice A3 n3 c3, .int .i64 (hi : Int), .bool false] 71)).alloc (.cells #[.slice A n c, .slice A' n c'] 65)).alloc (.cells #[.slice none 0 0, .slice none 0 0, .slice none 0 0, .slice none 0 0, .int .i64 0, .bool false] 71)) = WX := ⟨_, rfl⟩
  rw [hWX] at hbT X0 X1 X2 hT1 hrT hdT hzT ⊢
  clear hWX
  have HAS := Lib.hid (rhas_any11 A3 n3 c3 st.P page WX (Reads.of_own hT1.p) (by have := HL.out.2.2.2; have := HI.out.2.2.1.2.2.2; omega))
  rw [hmem] at HAS
  have a0 : WX.cell? ⟨w.heap.size, 0, none⟩ = some (.slice A0 n0 c0) := X0.cell 0
  have a3 : WX.cell? ⟨w.heap.size, 3, none⟩ = some (.slice A3 n3 c3) := X0.cell 3
  have a5 : WX.cell? ⟨w.heap.size, 5, none⟩ = some (.bool false) := X0.cell 5
  have b0 : WX.cell? ⟨w.heap.size + 1, 0, none⟩ = some (.slice A n c) := X1.cell 0
  have HX : BX w WX base #[.slice A n c, .slice A' n c'] ⟨⟨A0, n0, c0⟩, ⟨A1, n1, c1⟩, ⟨A2, n2, c2⟩, ⟨A3, n3, c3⟩⟩ ⟨⟨A0, n0, c0⟩, ⟨A1, n1, c1⟩, ⟨A2, n2, c2⟩, ⟨A3, n3, c3⟩⟩ st := ⟨by rw [HI.out.2.2.2.2.2]; exact X0, X2, X1, hT1, EvT.of_below hbT, NxT.refl _ _⟩
  have wP : IntKind.i64.wrap (page : Int) = (page : Int) := IntWalk.i64_in _ (by omega)
  have H0 := Lib.hid (And.intro HX (And.intro hrT hdT))
  clear HX hbT X0 X1 X2 hT1 hrT hdT hmem
  go_wp2_with fail
  refine HAS.out.mono ?_
  rintro e w1 ⟨rfl, hb1⟩
  have hrw1 := H0.out.2.1.below (hb1.mono (by omega))
  obtain ⟨ad, L', rfl, hadb, hL', p0⟩ := hrw1.text hpn
  have hLL : L' = L := by have := Hpg.out; rw [hL'] at this; injection this
  subst hLL
  have B1 := H0.out.1.below hb1
  have b1 : w1.cell? ⟨w.heap.size + 1, 0, none⟩ = some (.slice (some ad) n c) := B1.k.cell 0
  have hzw1 := hb1.size
  clear hrw1 hL' a0 a3 a5 b0
  obtain ⟨PG, hne, hmle, hkid⟩ := rpg_inner HPc.out w1
  generalize hkids : cc :: prs.map Prod.snd = kids at *
  generalize hseps : prs.map Prod.fst = seps at *
  generalize hm : prs.length = m at *
  have PG := Lib.hid PG
  have B1 := Lib.hid B1
  have Hkid := Lib.hid hkid
  have hmS := Lib.hid (And.intro hkl hsl)
  clear hkid
  unfold RetPg11 at PG
  rw [hkl, hsl] at PG
  clear hkl hsl
  go_wp2_with fail
  refine PG.out.mono ?_
  rintro e w2 ⟨A5, c5, A6, c6, rfl, r5, r6, hb2, f5, f6⟩
  have B2 := B1.out.below hb2
  have d3 : w2.cell? ⟨w.heap.size, 3, none⟩ = some (.slice A3 n3 c3) := B2.t.cell 3
  have hzw2 := hb2.size
  have hzb : base ≤ w2.heap.size := by omega
  have l3 : n3 + 1 ≤ 1000000000 := by have := HL.out.2.2.2; have := HI.out.2.2.1.2.2.2; omega
  have R2 : FR w w2 w2.heap.size 3 ⟨⟨A0, n0, c0⟩, ⟨A1, n1, c1⟩, ⟨A2, n2, c2⟩, ⟨A3, n3, c3⟩⟩ A6 m (vE seps) := ⟨r6, Nat.le_refl _, fun ad e => ⟨by have := f6 ad e; omega, fun _ ho => by have := f6 ad e; have := (B1.out.ts.lt ho).2; omega⟩⟩
  have Q2 : FR w w2 w2.heap.size 1 ⟨⟨A0, n0, c0⟩, ⟨A1, n1, c1⟩, ⟨A2, n2, c2⟩, ⟨A3, n3, c3⟩⟩ A5 (m + 1) (vN kids) := ⟨r5, Nat.le_refl _, fun ad e => ⟨by have := f5 ad e; omega, fun _ ho => by have := f5 ad e; have := (B1.out.ts.lt ho).2; omega⟩⟩
  have H2 := Lib.hid (And.intro B2 (And.intro R2 Q2))
  clear B2 R2 Q2 B1 r6 r5 f5 f6 p0 b1
  go_upto_region 7 with (at_builtin; refine wpList_pushR (news := [.int .u32 (page : Int)]) rfl (.tmp 54) (.tmp 56) 69 rfl base 31 i1 _ 1 4 Try.underlying69 hi1 hz1 hs1 hy1 rfl (by decide) _ n3 (vN st.P) rfl H2.out.1.ts.p rfl _ rfl rfl rfl (by intro u hu; rw [List.mem_singleton] at hu; subst hu; rfl) l3 (by omega) hzb ?_; intro v6 w6 ho6 hg6 hv6; obtain ⟨A7, c7, rfl, X6, B7, e7, n7⟩ := H2.out.1.push1P page ho6 hg6 hv6; have d3 : w6.cell? ⟨w.heap.size, 3, none⟩ = some (.slice A3 n3 c3) := X6.cell 3; have g3 := X6.frozen 3; have m3 := X6.lt; have R7 := H2.out.2.1.step e7 n7; have Q7 := H2.out.2.2.step e7 n7; have H7 := Lib.hid (And.intro B7 (And.intro R7 (And.intro Q7 e7.size))); clear ho6 hg6 hv6 X6 B7 e7 n7 R7 Q7)
  obtain ⟨w7, hw7⟩ : ∃ x, w6.setCell ⟨w.heap.size, 3, none⟩ (.slice A7 (n3 + 1) c7) = x := ⟨_, rfl⟩
  rw [hw7] at H7 ⊢
  clear hw7 d3 g3 m3
  have hmI : (m : Int) ≤ 65535 := by omega
  go_wp2_with fail
  have hkS : kids.length = m + 1 := hmS.out.1
  have HKS := Lib.hid hkS
  clear hkS
  go_loopw [95] (fun v wr => ∃ (j : Nat) (q' : Q4) (st' : RS), v = .int .i64 j ∧ j ≤ m + 1 ∧ BX w wr base #[.slice (some ad) n c, .slice A' n c'] ⟨⟨A0, n0, c0⟩, ⟨A1, n1, c1⟩, ⟨A2, n2, c2⟩, ⟨A3, n3, c3⟩⟩ q' st' ∧ FR w wr w2.heap.size 3 q' A6 m (vE seps) ∧ FR w wr w2.heap.size 1 q' A5 (m + 1) (vN kids) ∧ rbKids (fun c st' => rbP ps f c (deep + 1) st') seps (kids.drop j) j st' = some s) (fun v _ => m + 1 - (intOf v).toNat)
  case atStart => exact ⟨0, _, _, rfl, by omega, H7.out.1, H7.out.2.1, H7.out.2.2.1, HI.out.2.2.2.2.1⟩
  case round =>
    obtain ⟨j, q', st', rfl, hj, hB', hR6, hR5, hres⟩ := hrel
    have j0 : (0 : Int) ≤ (j : Int) := by omega
    obtain ⟨⟨Al, nl, cl⟩, ⟨Af, nf, cf⟩, ⟨Ax, nx, cx⟩, ⟨Ap, np, cp⟩⟩ := q'
    obtain ⟨hi', hhi'⟩ : ∃ hi', st'.hi = hi' := ⟨_, rfl⟩
    by_cases hlt : j < m + 1
    · have j1 : (j : Int) < (m : Int) + 1 := by omega
      obtain ⟨a5, x, rfl, _, hx, u0⟩ := hR5.rd.num hlt
      have hx32 := Lib.hid (Hkid.out x (List.mem_of_getElem? hx))
      have hkd : kids.drop j = x :: kids.drop (j + 1) := by
        have hjl := lt_of_at hx
        rw [List.drop_eq_getElem_cons hjl]
        have : kids[j] = x := by rw [List.getElem?_eq_getElem hjl] at hx; injection hx
        rw [this]
      rw [hkd, rbKids] at hres
      cases hG : rbP ps f x (deep + 1) st' with
      | none => rw [hG] at hres; cases hres
      | some s1 =>
      rw [hG] at hres
      simp only [Option.bind_some] at hres
      split at hres
      · cases hres
      rename_i hany
      have hgd := HFh.out
      have k0 : wr.cell? ⟨w.heap.size, 0, none⟩ = some (.slice Al nl cl) := hB'.t.cell 0
      have k1 : wr.cell? ⟨w.heap.size, 1, none⟩ = some (.slice Af nf cf) := hB'.t.cell 1
      have k2 : wr.cell? ⟨w.heap.size, 2, none⟩ = some (.slice Ax nx cx) := hB'.t.cell 2
      have k3 : wr.cell? ⟨w.heap.size, 3, none⟩ = some (.slice Ap np cp) := hB'.t.cell 3
      have k4 : wr.cell? ⟨w.heap.size, 4, none⟩ = some (.int .i64 (hi' : Int)) := by rw [← hhi']; exact hB'.t.cell 4
      have k5 : wr.cell? ⟨w.heap.size, 5, none⟩ = some (.bool false) := hB'.t.cell 5
      have b0 : wr.cell? ⟨w.heap.size + 1, 0, none⟩ = some (.slice (some ad) n c) := hB'.k.cell 0
      have b1 : wr.cell? ⟨w.heap.size + 1, 1, none⟩ = some (.slice A' n c') := hB'.k.cell 1
      have HG := Lib.hid (And.intro hG (And.intro hany (And.intro hres (And.intro hx (And.intro hkd hhi')))))
      have HB := Lib.hid (And.intro hB' (And.intro hR6 hR5))
      clear hgd hG hany hres hx hkd hB' hR6 hR5 hhi'
      go_upto_region 19 with fail
      have hs1 : s1.ok := RS.ok.of_le (rbKids_le (fun c st' s' h' => rb_le f c (deep + 1) st' s' h') _ _ _ _ HG.out.2.2.1) HI.out.2.2.2.1
      have hzr : base ≤ wr.drew.heap.size := by have h1 := HB.out.1.ev.size; show base ≤ wr.heap.size; omega
      have CK := HFh.out wr.drew _ st' s1 x hzr (HB.out.1.ts.below (Below.drew (Below.refl _ _))) ((HD.out.ev HB.out.1.ev hB fun g e => (H0.out.1.ts.lt e).1).below (B' := base) (Below.drew (Below.refl _ _)) (Nat.le_refl _)) hx32.out HG.out.1 hs1
      have dd1 : ((deep + 1 : Nat) : Int) = (deep : Int) + 1 := by omega
      have wD : IntKind.i64.wrap ((deep : Int) + 1) = (deep : Int) + 1 := IntWalk.i64_in _ (by omega)
      rw [dd1, HG.out.2.2.2.2.2] at CK
      have CK := Lib.hid CK
      have HS1 := Lib.hid hs1
      clear dd1 hs1
      have HBd := Lib.hid (HB.out.1.below (Below.drew (Below.refl wr.heap.size wr)))
      go_cut [] (fun wx => ∃ q1 : Q4, BX w wx base #[.slice (some ad) n c, .slice A' n c'] ⟨⟨A0, n0, c0⟩, ⟨A1, n1, c1⟩, ⟨A2, n2, c2⟩, ⟨A3, n3, c3⟩⟩ q1 s1 ∧ FR w wx w2.heap.size 3 q1 A6 m (vE seps) ∧ FR w wx w2.heap.size 1 q1 (some a5) (m + 1) (vN kids))
      case first =>
        go_region_law (
          (refine step_go11 rfl ?_; go_simp; go_at_call 40; refine CK.out.mono ?_; rintro e w4 ⟨⟨⟨Bl, ml, el⟩, ⟨Bf, mf, ef⟩, ⟨Bx, mx, ex⟩, ⟨Bp, mp, ep⟩⟩, rfl, ts1, ev1, nx1⟩; have X4 := ev1.blk HBd.out.t (HBd.out.ts.ne_ HBd.out.t (by decide) (by decide)); have z0 := X4.cell 0; have z1 := X4.cell 1; have z2 := X4.cell 2; have z3 := X4.cell 3; have z4 := X4.cell 4; have z5 := X4.cell 5; have y0 := X4.frozen 0; have y1 := X4.frozen 1; have y2 := X4.frozen 2; have y3 := X4.frozen 3; have y4 := X4.frozen 4; have y5 := X4.frozen 5; have yl := X4.lt; have H4 := Lib.hid (And.intro ts1 (And.intro ev1 nx1)); clear ts1 ev1 nx1 X4))
        all_goals (
          have KK := Lib.hid (HBd.out.child H4.out.1 H4.out.2.1 H4.out.2.2 (.slice Bl ml el) (.slice Bf mf ef) (.slice Bx mx ex) (.slice Bp mp ep) (.int .i64 (s1.hi : Int)) (.bool false) rfl)
          go_wp2_with fail
          go_meet
          case rel => exact ⟨_, KK.out.1, (HB.out.2.1.below (Below.drew (Below.refl _ _))).step KK.out.2 H4.out.2.2, (HB.out.2.2.below (Below.drew (Below.refl _ _))).step KK.out.2 H4.out.2.2⟩)
      case rest =>
        obtain ⟨⟨⟨Bl, ml, el⟩, ⟨Bf, mf, ef⟩, ⟨Bx, mx, ex⟩, ⟨Bp, mp, ep⟩⟩, hB1, hR6, hR5⟩ := hcut
        rename World => wc
        have hls := hB1.ts.lens
        have hls0 := HB.out.1.ts.lens
        simp only at hls hls0
        have v0 : wc.cell? ⟨w.heap.size, 0, none⟩ = some (.slice Bl ml el) := hB1.t.cell 0
        have v5 : wc.cell? ⟨w.heap.size, 5, none⟩ = some (.bool false) := hB1.t.cell 5
        have hle1 := rb_le _ _ _ _ _ HG.out.1
        have nl0 : nl ≤ ml := by rw [hls.1, hls0.1]; exact hle1.1
        have ml0 : ml ≤ 1000000 := by rw [hls.1]; exact HS1.out.1
        have HR6 := Lib.hid hR6
        have HL1 := Lib.hid (And.intro hls.1 hls0.1)
        have HB1 := Lib.hid (And.intro hB1 hR5)
        clear hls hls0 hle1 hB1 hR6 hR5 k0 k1 k2 k3 k4 k5 b0 b1 u0 CK HBd hb1 hb2
        go_wp2_with fail
        go_loopw [15] (fun v wr => ∃ k : Nat, v = .int .i64 k ∧ nl ≤ k ∧ k ≤ ml ∧ Below wc.heap.size wc wr) (fun v _ => ml - (intOf v).toNat)
        case atStart => exact ⟨nl, rfl, Nat.le_refl _, nl0, Below.refl _ _⟩
        case round =>
          obtain ⟨k, rfl, hk0, hk1, hbk⟩ := hrel
          have hBk := HB1.out.1.below hbk
          have HR6 := Lib.hid (HR6.out.below hbk)
          have q0 : wr.cell? ⟨w.heap.size, 0, none⟩ = some (.slice Bl ml el) := hBk.t.cell 0
          have kI0 : (0 : Int) ≤ (k : Int) := by omega
          have hHQ := Lib.hid (And.intro hBk hbk)
          by_cases hkm : k < ml
          · have kI1 : (k : Int) < (ml : Int) := by omega
            go_upto_region 25 with fail
            obtain ⟨x, hx⟩ : ∃ x, s1.L[k]? = some x := ⟨_, List.getElem?_eq_getElem (by rw [← HL1.out.1]; exact hkm)⟩
            obtain ⟨al, rfl, hab, hak, HXX⟩ := ent_of (Reads.of_own hBk.ts.l) hx
            have hoff := off_at HG.out.2.1 (by rw [← HL1.out.2]; exact hk0) hx
            have HOF := Lib.hid hoff
            have HX := Lib.hid HXX
            have HQ := hHQ
            have g4 : (al.add (k * 3)).block < wr.heap.size := hab
            clear hoff HXX hx hBk hHQ q0
            obtain ⟨xs, xp, xq⟩ := x
            by_cases hj0 : j = 0
            ·
              have g0 : decide ((0 : Int) < (j : Int)) = false := decide_eq_false (by omega)
              have g0n : decide (0 < j) = false := decide_eq_false (by omega)
              obtain ⟨z, hz⟩ : ∃ z, seps[j]? = some z := ⟨_, List.getElem?_eq_getElem (by rw [hmS.out.2]; omega)⟩
              obtain ⟨sa, rfl, hsb, hsi, HZZ⟩ := ent_of HR6.out.rd hz
              have hlz := off_hi HOF.out hz
              obtain ⟨zs, zp, zq⟩ := z
              have HZ := Lib.hid HZZ
              have C2 := Lib.hid fun W => lessE_any ⟨xs, xp, xq⟩ ⟨zs, zp, zq⟩ W
              rw [hlz] at C2
              have d1 : decide ((j : Int) < (m : Int)) = true := decide_eq_true (by omega)
              have d1n : decide (j < m) = true := decide_eq_true (by omega)
              have jm : (j : Int) < (m : Int) := by omega
              have hkI : k < ml := hkm
              have hS : Hid (∀ W, Below wr.heap.size wr W → W.cell? ⟨w.heap.size, 0, none⟩ = some (.slice (some al) ml el) ∧ W.cell? (al.add (k * 3)) = some (.string xs) ∧ W.cell? ⟨(al.add (k * 3)).block, (al.add (k * 3)).off + 1, none⟩ = some (.int .u32 xp) ∧ W.cell? ⟨(al.add (k * 3)).block, (al.add (k * 3)).off + 2, none⟩ = some (.int .u16 xq) ∧ W.cell? (sa.add (j * 3)) = some (.string zs) ∧ W.cell? ⟨(sa.add (j * 3)).block, (sa.add (j * 3)).off + 1, none⟩ = some (.int .u32 zp) ∧ W.cell? ⟨(sa.add (j * 3)).block, (sa.add (j * 3)).off + 2, none⟩ = some (.int .u16 zq) ∧ Below wr.heap.size wr W) := Lib.hid fun W hW => ⟨(hW.cell (p := ⟨w.heap.size, 0, none⟩) HQ.out.1.t.lt).trans (HQ.out.1.t.cell 0), (HX.out W hW).1, (HX.out W hW).2.1, (HX.out W hW).2.2, (HZ.out W hW).1, (HZ.out W hW).2.1, (HZ.out W hW).2.2, hW⟩
              clear hz HZZ hlz hj0
              refine wp_region_held_drew (S := (fun W => W.cell? ⟨w.heap.size, 0, none⟩ = some (.slice (some al) ml el) ∧ W.cell? (al.add (k * 3)) = some (.string xs) ∧ W.cell? ⟨(al.add (k * 3)).block, (al.add (k * 3)).off + 1, none⟩ = some (.int .u32 xp) ∧ W.cell? ⟨(al.add (k * 3)).block, (al.add (k * 3)).off + 2, none⟩ = some (.int .u16 xq) ∧ W.cell? (sa.add (j * 3)) = some (.string zs) ∧ W.cell? ⟨(sa.add (j * 3)).block, (sa.add (j * 3)).off + 1, none⟩ = some (.int .u32 zp) ∧ W.cell? ⟨(sa.add (j * 3)).block, (sa.add (j * 3)).off + 2, none⟩ = some (.int .u16 zq) ∧ Below wr.heap.size wr W)) (by kernel_rfl) (by exact hS.out _ (Below.drew (Below.refl _ _))) (fun hHeld => ?_)
              try dsimp only at hHeld
              refine wpAnyH_take (i := 0) (v := ?_) rfl (by kernel_rfl) (by kernel_rfl) (by kernel_rfl) (fun _ _ _ h => h) (Or.inl ⟨rfl, ?_⟩) hHeld ?_
              rotate_left
              focus (intro wx hSw; (try dsimp only at hSw); (try go_split_ands); go_simp; (try with_reducible rfl))
              try simp only [Act.put, List.getElem_toArray, List.getElem_cons_succ, List.getElem_cons_zero, List.setIfInBounds_toArray, List.set_cons_zero, List.set_cons_succ]
              refine wpAnyH_take (i := 1) (v := ?_) rfl (by kernel_rfl) (by kernel_rfl) (by kernel_rfl) (fun _ _ _ h => h) (Or.inl ⟨rfl, ?_⟩) hHeld ?_
              rotate_left
              focus (intro wx hSw; (try dsimp only at hSw); (try go_split_ands); go_simp; (try with_reducible rfl))
              try simp only [Act.put, List.getElem_toArray, List.getElem_cons_succ, List.getElem_cons_zero, List.setIfInBounds_toArray, List.set_cons_zero, List.set_cons_succ]
              refine wpAnyH_take (i := 2) (v := ?_) rfl (by kernel_rfl) (by kernel_rfl) (by kernel_rfl) (fun _ _ _ h => h) (Or.inl ⟨rfl, ?_⟩) hHeld ?_
              rotate_left
              focus (intro wx hSw; (try dsimp only at hSw); (try go_split_ands); go_simp; (try with_reducible rfl))
              try simp only [Act.put, List.getElem_toArray, List.getElem_cons_succ, List.getElem_cons_zero, List.setIfInBounds_toArray, List.set_cons_zero, List.set_cons_succ]
              refine wpAnyH_take (i := 3) (v := undef) rfl (by kernel_rfl) (by kernel_rfl) (by kernel_rfl) (fun _ _ _ h => h) (Or.inr ⟨rfl, rfl⟩) hHeld ?_
              try simp only [Act.put, List.getElem_toArray, List.getElem_cons_succ, List.getElem_cons_zero, List.setIfInBounds_toArray, List.set_cons_zero, List.set_cons_succ]
              refine wpAnyH_take (i := 4) (v := undef) rfl (by kernel_rfl) (by kernel_rfl) (by kernel_rfl) (fun _ _ _ h => h) (Or.inr ⟨rfl, rfl⟩) hHeld ?_
              try simp only [Act.put, List.getElem_toArray, List.getElem_cons_succ, List.getElem_cons_zero, List.setIfInBounds_toArray, List.set_cons_zero, List.set_cons_succ]
              refine wpAnyH_take (i := 5) (v := undef) rfl (by kernel_rfl) (by kernel_rfl) (by kernel_rfl) (fun _ _ _ h => h) (Or.inr ⟨rfl, rfl⟩) hHeld ?_
              try simp only [Act.put, List.getElem_toArray, List.getElem_cons_succ, List.getElem_cons_zero, List.setIfInBounds_toArray, List.set_cons_zero, List.set_cons_succ]
              refine wpAnyH_take (i := 6) (v := undef) rfl (by kernel_rfl) (by kernel_rfl) (by kernel_rfl) (fun _ _ _ h => h) (Or.inr ⟨rfl, rfl⟩) hHeld ?_
              try simp only [Act.put, List.getElem_toArray, List.getElem_cons_succ, List.getElem_cons_zero, List.setIfInBounds_toArray, List.set_cons_zero, List.set_cons_succ]
              refine wpAnyH_take (i := 7) (v := undef) rfl (by kernel_rfl) (by kernel_rfl) (by kernel_rfl) (fun _ _ _ h => h) (Or.inr ⟨rfl, rfl⟩) hHeld ?_
              try simp only [Act.put, List.getElem_toArray, List.getElem_cons_succ, List.getElem_cons_zero, List.setIfInBounds_toArray, List.set_cons_zero, List.set_cons_succ]
              refine wpAnyH_take (i := 8) (v := undef) rfl (by kernel_rfl) (by kernel_rfl) (by kernel_rfl) (fun _ _ _ h => h) (Or.inr ⟨rfl, rfl⟩) hHeld ?_
              try simp only [Act.put, List.getElem_toArray, List.getElem_cons_succ, List.getElem_cons_zero, List.setIfInBounds_toArray, List.set_cons_zero, List.set_cons_succ]
              refine wpAnyH_take (i := 9) (v := undef) rfl (by kernel_rfl) (by kernel_rfl) (by kernel_rfl) (fun _ _ _ h => h) (Or.inr ⟨rfl, rfl⟩) hHeld ?_
              try simp only [Act.put, List.getElem_toArray, List.getElem_cons_succ, List.getElem_cons_zero, List.setIfInBounds_toArray, List.set_cons_zero, List.set_cons_succ]
              refine wpAnyH_take (i := 10) (v := undef) rfl (by kernel_rfl) (by kernel_rfl) (by kernel_rfl) (fun _ _ _ h => h) (Or.inr ⟨rfl, rfl⟩) hHeld ?_
              try simp only [Act.put, List.getElem_toArray, List.getElem_cons_succ, List.getElem_cons_zero, List.setIfInBounds_toArray, List.set_cons_zero, List.set_cons_succ]
              refine wpAnyH_take (i := 11) (v := undef) rfl (by kernel_rfl) (by kernel_rfl) (by kernel_rfl) (fun _ _ _ h => h) (Or.inr ⟨rfl, rfl⟩) hHeld ?_
              try simp only [Act.put, List.getElem_toArray, List.getElem_cons_succ, List.getElem_cons_zero, List.setIfInBounds_toArray, List.set_cons_zero, List.set_cons_succ]
              refine wpAnyH_take (i := 12) (v := undef) rfl (by kernel_rfl) (by kernel_rfl) (by kernel_rfl) (fun _ _ _ h => h) (Or.inr ⟨rfl, rfl⟩) hHeld ?_
              try simp only [Act.put, List.getElem_toArray, List.getElem_cons_succ, List.getElem_cons_zero, List.setIfInBounds_toArray, List.set_cons_zero, List.set_cons_succ]
              refine wpAnyH_take (i := 13) (v := undef) rfl (by kernel_rfl) (by kernel_rfl) (by kernel_rfl) (fun _ _ _ h => h) (Or.inr ⟨rfl, rfl⟩) hHeld ?_
              try simp only [Act.put, List.getElem_toArray, List.getElem_cons_succ, List.getElem_cons_zero, List.setIfInBounds_toArray, List.set_cons_zero, List.set_cons_succ]
              refine wpAnyH_take (i := 14) (v := ?_) rfl (by kernel_rfl) (by kernel_rfl) (by kernel_rfl) (fun _ _ _ h => h) (Or.inl ⟨rfl, ?_⟩) hHeld ?_
              rotate_left
              focus (intro wx hSw; (try dsimp only at hSw); (try go_split_ands); go_simp; (try with_reducible rfl))
              try simp only [Act.put, List.getElem_toArray, List.getElem_cons_succ, List.getElem_cons_zero, List.setIfInBounds_toArray, List.set_cons_zero, List.set_cons_succ]
              refine wpAnyH_take (i := 15) (v := ?_) rfl (by kernel_rfl) (by kernel_rfl) (by kernel_rfl) (fun _ _ _ h => h) (Or.inl ⟨rfl, ?_⟩) hHeld ?_
              rotate_left
              focus (intro wx hSw; (try dsimp only at hSw); (try go_split_ands); go_simp; (try with_reducible rfl))
              try simp only [Act.put, List.getElem_toArray, List.getElem_cons_succ, List.getElem_cons_zero, List.setIfInBounds_toArray, List.set_cons_zero, List.set_cons_succ]
              refine wpAnyH_take (i := 16) (v := ?_) rfl (by kernel_rfl) (by kernel_rfl) (by kernel_rfl) (fun _ _ _ h => h) (Or.inl ⟨rfl, ?_⟩) hHeld ?_
              rotate_left
              focus (intro wx hSw; (try dsimp only at hSw); (try go_split_ands); go_simp; (try with_reducible rfl))
              try simp only [Act.put, List.getElem_toArray, List.getElem_cons_succ, List.getElem_cons_zero, List.setIfInBounds_toArray, List.set_cons_zero, List.set_cons_succ]
              refine wpAnyH_take (i := 17) (v := ?_) rfl (by kernel_rfl) (by kernel_rfl) (by kernel_rfl) (fun _ _ _ h => h) (Or.inl ⟨rfl, ?_⟩) hHeld ?_
              rotate_left
              focus (intro wx hSw; (try dsimp only at hSw); (try go_split_ands); go_simp; (try with_reducible rfl))
              try simp only [Act.put, List.getElem_toArray, List.getElem_cons_succ, List.getElem_cons_zero, List.setIfInBounds_toArray, List.set_cons_zero, List.set_cons_succ]
              refine wpAnyH_take (i := 18) (v := ?_) rfl (by kernel_rfl) (by kernel_rfl) (by kernel_rfl) (fun _ _ _ h => h) (Or.inl ⟨rfl, ?_⟩) hHeld ?_
              rotate_left
              focus (intro wx hSw; (try dsimp only at hSw); (try go_split_ands); go_simp; (try with_reducible rfl))
              try simp only [Act.put, List.getElem_toArray, List.getElem_cons_succ, List.getElem_cons_zero, List.setIfInBounds_toArray, List.set_cons_zero, List.set_cons_succ]
              refine wpAnyH_take (i := 19) (v := ?_) rfl (by kernel_rfl) (by kernel_rfl) (by kernel_rfl) (fun _ _ _ h => h) (Or.inl ⟨rfl, ?_⟩) hHeld ?_
              rotate_left
              focus (intro wx hSw; (try dsimp only at hSw); (try go_split_ands); go_simp; (try with_reducible rfl))
              try simp only [Act.put, List.getElem_toArray, List.getElem_cons_succ, List.getElem_cons_zero, List.setIfInBounds_toArray, List.set_cons_zero, List.set_cons_succ]
              refine wpAnyH_take (i := 20) (v := ?_) rfl (by kernel_rfl) (by kernel_rfl) (by kernel_rfl) (fun _ _ _ h => h) (Or.inl ⟨rfl, ?_⟩) hHeld ?_
              rotate_left
              focus (intro wx hSw; (try dsimp only at hSw); (try go_split_ands); go_simp; (try with_reducible rfl))
              try simp only [Act.put, List.getElem_toArray, List.getElem_cons_succ, List.getElem_cons_zero, List.setIfInBounds_toArray, List.set_cons_zero, List.set_cons_succ]
              refine wpAnyH_take (i := 21) (v := ?_) rfl (by kernel_rfl) (by kernel_rfl) (by kernel_rfl) (fun _ _ _ h => h) (Or.inl ⟨rfl, ?_⟩) hHeld ?_
              rotate_left
              focus (intro wx hSw; (try dsimp only at hSw); (try go_split_ands); go_simp; (try with_reducible rfl))
              try simp only [Act.put, List.getElem_toArray, List.getElem_cons_succ, List.getElem_cons_zero, List.setIfInBounds_toArray, List.set_cons_zero, List.set_cons_succ]
              refine wpAnyH_take (i := 22) (v := ?_) rfl (by kernel_rfl) (by kernel_rfl) (by kernel_rfl) (fun _ _ _ h => h) (Or.inl ⟨rfl, ?_⟩) hHeld ?_
              rotate_left
              focus (intro wx hSw; (try dsimp only at hSw); (try go_split_ands); go_simp; (try with_reducible rfl))
              try simp only [Act.put, List.getElem_toArray, List.getElem_cons_succ, List.getElem_cons_zero, List.setIfInBounds_toArray, List.set_cons_zero, List.set_cons_succ]
              refine wpAnyH_take (i := 23) (v := ?_) rfl (by kernel_rfl) (by kernel_rfl) (by kernel_rfl) (fun _ _ _ h => h) (Or.inl ⟨rfl, ?_⟩) hHeld ?_
              rotate_left
              focus (intro wx hSw; (try dsimp only at hSw); (try go_split_ands); go_simp; (try with_reducible rfl))
              try simp only [Act.put, List.getElem_toArray, List.getElem_cons_succ, List.getElem_cons_zero, List.setIfInBounds_toArray, List.set_cons_zero, List.set_cons_succ]
              refine wpAnyH_take (i := 24) (v := ?_) rfl (by kernel_rfl) (by kernel_rfl) (by kernel_rfl) (fun _ _ _ h => h) (Or.inl ⟨rfl, ?_⟩) hHeld ?_
              rotate_left
              focus (intro wx hSw; (try dsimp only at hSw); (try go_split_ands); go_simp; (try with_reducible rfl))
              try simp only [Act.put, List.getElem_toArray, List.getElem_cons_succ, List.getElem_cons_zero, List.setIfInBounds_toArray, List.set_cons_zero, List.set_cons_succ]
              refine wpAnyH_take (i := 25) (v := ?_) rfl (by kernel_rfl) (by kernel_rfl) (by kernel_rfl) (fun _ _ _ h => h) (Or.inl ⟨rfl, ?_⟩) hHeld ?_
              rotate_left
              focus (intro wx hSw; (try dsimp only at hSw); (try go_split_ands); go_simp; (try with_reducible rfl))
              try simp only [Act.put, List.getElem_toArray, List.getElem_cons_succ, List.getElem_cons_zero, List.setIfInBounds_toArray, List.set_cons_zero, List.set_cons_succ]
              refine wpAnyH_take (i := 26) (v := ?_) rfl (by kernel_rfl) (by kernel_rfl) (by kernel_rfl) (fun _ _ _ h => h) (Or.inl ⟨rfl, ?_⟩) hHeld ?_
              rotate_left
              focus (intro wx hSw; (try dsimp only at hSw); (try go_split_ands); go_simp; (try with_reducible rfl))
              try simp only [Act.put, List.getElem_toArray, List.getElem_cons_succ, List.getElem_cons_zero, List.setIfInBounds_toArray, List.set_cons_zero, List.set_cons_succ]
              refine wpAnyH_take (i := 27) (v := ?_) rfl (by kernel_rfl) (by kernel_rfl) (by kernel_rfl) (fun _ _ _ h => h) (Or.inl ⟨rfl, ?_⟩) hHeld ?_
              rotate_left
              focus (intro wx hSw; (try dsimp only at hSw); (try go_split_ands); go_simp; (try with_reducible rfl))
              try simp only [Act.put, List.getElem_toArray, List.getElem_cons_succ, List.getElem_cons_zero, List.setIfInBounds_toArray, List.set_cons_zero, List.set_cons_succ]
              refine wpAnyH_take (i := 28) (v := ?_) rfl (by kernel_rfl) (by kernel_rfl) (by kernel_rfl) (fun _ _ _ h => h) (Or.inl ⟨rfl, ?_⟩) hHeld ?_
              rotate_left
              focus (intro wx hSw; (try dsimp only at hSw); (try go_split_ands); go_simp; (try with_reducible rfl))
              try simp only [Act.put, List.getElem_toArray, List.getElem_cons_succ, List.getElem_cons_zero, List.setIfInBounds_toArray, List.set_cons_zero, List.set_cons_succ]
              refine wpAnyH_take (i := 29) (v := ?_) rfl (by kernel_rfl) (by kernel_rfl) (by kernel_rfl) (fun _ _ _ h => h) (Or.inl ⟨rfl, ?_⟩) hHeld ?_
              rotate_left
              focus (intro wx hSw; (try dsimp only at hSw); (try go_split_ands); go_simp; (try with_reducible rfl))
              try simp only [Act.put, List.getElem_toArray, List.getElem_cons_succ, List.getElem_cons_zero, List.setIfInBounds_toArray, List.set_cons_zero, List.set_cons_succ]
              refine wpAnyH_ready (rs := [30]) (by kernel_rfl) (by simp) (AllReadyH.cons rfl (fun K hK => ?_) AllReadyH.nil)
              go_simp
              ((with_reducible refine (C2.out _).mono ?_); rintro e w1 ⟨rfl, hb1⟩)
              go_wp2_with fail
              refine hK.out _ _ ?_ (fun hHeld => ?_)
              · ((try dsimp only); (try dsimp only at hHeld); (first | exact hS.out _ (by (with_reducible repeat (first | exact Below.refl _ _ | exact hb1 | refine bto0 ?_ hb1 | refine bdr ?_ _ | refine Below.drew ?_ | refine ball ?_ _))) | assumption))
              clear hK K
              try dsimp only at hHeld
              try simp only [Act.put, List.getElem_toArray, List.getElem_cons_succ, List.getElem_cons_zero, List.setIfInBounds_toArray, List.set_cons_zero, List.set_cons_succ]
              refine wpAnyH_take (i := 31) (v := ?_) rfl (by kernel_rfl) (by kernel_rfl) (by kernel_rfl) (fun _ _ _ h => h) (Or.inl ⟨rfl, ?_⟩) hHeld ?_
              rotate_left
              focus (intro wx hSw; (try dsimp only at hSw); (try go_split_ands); go_simp; (try with_reducible rfl))
              try simp only [Act.put, List.getElem_toArray, List.getElem_cons_succ, List.getElem_cons_zero, List.setIfInBounds_toArray, List.set_cons_zero, List.set_cons_succ]
              refine wpAnyH_take (i := 32) (v := ?_) rfl (by kernel_rfl) (by kernel_rfl) (by kernel_rfl) (fun _ _ _ h => h) (Or.inl ⟨rfl, ?_⟩) hHeld ?_
              rotate_left
              focus (intro wx hSw; (try dsimp only at hSw); (try go_split_ands); go_simp; (try with_reducible rfl))
              try simp only [Act.put, List.getElem_toArray, List.getElem_cons_succ, List.getElem_cons_zero, List.setIfInBounds_toArray, List.set_cons_zero, List.set_cons_succ]
              refine wpAnyH_take (i := 33) (v := ?_) rfl (by kernel_rfl) (by kernel_rfl) (by kernel_rfl) (fun _ _ _ h => h) (Or.inl ⟨rfl, ?_⟩) hHeld ?_
              rotate_left
              focus (intro wx hSw; (try dsimp only at hSw); (try go_split_ands); go_simp; (try with_reducible rfl))
              try simp only [Act.put, List.getElem_toArray, List.getElem_cons_succ, List.getElem_cons_zero, List.setIfInBounds_toArray, List.set_cons_zero, List.set_cons_succ]
              refine wpAnyH_done (by kernel_rfl) ?_ _
              go_wp2_with fail
              go_roundw
              case rel => exact ⟨k + 1, by go_num, by omega, by omega, HQ.out.2.trans ((show Below wr.heap.size wr _ from by (with_reducible repeat (first | exact Below.refl _ _ | exact hb1 | refine bto0 ?_ hb1 | refine bdr ?_ _ | refine Below.drew ?_ | refine ball ?_ _))).mono HQ.out.2.size)⟩
              case measure => simp [intOf]; omega
            · obtain ⟨i, hji⟩ : ∃ i, j = i + 1 := ⟨j - 1, by omega⟩
              obtain ⟨y, hy⟩ : ∃ y, seps[i]? = some y := ⟨_, List.getElem?_eq_getElem (by rw [hmS.out.2]; omega)⟩
              obtain ⟨sa, rfl, hsb, hsi, HYY⟩ := ent_of HR6.out.rd hy
              by_cases hjm : j < m
              ·
                have g0 : decide ((0 : Int) < (j : Int)) = true := decide_eq_true (by omega)
                have g0n : decide (0 < j) = true := decide_eq_true (by omega)
                have hly := off_lo HOF.out hji hy
                obtain ⟨ys, yp, yq⟩ := y
                have HY := Lib.hid HYY
                have C1 := Lib.hid fun W => lessE_any ⟨xs, xp, xq⟩ ⟨ys, yp, yq⟩ W
                rw [hly] at C1
                have g1' : (j : Int) - 1 = (i : Int) := by omega
                have g1w : IntKind.i64.wrap ((j : Int) - 1) = (i : Int) := by rw [g1']; exact IntWalk.i64_in _ (by omega)
                have g1x : IntKind.i64.wrap (i : Int) = (i : Int) := IntWalk.i64_in _ (by omega)
                have g2 : (0 : Int) ≤ (i : Int) := by omega
                have g3 : (i : Int) < (m : Int) := by omega
                have g3n : i < m := by omega
                have hkI : k < ml := hkm
                obtain ⟨z, hz⟩ : ∃ z, seps[j]? = some z := ⟨_, List.getElem?_eq_getElem (by rw [hmS.out.2]; omega)⟩
                obtain ⟨sa', e', hsb', hsi', HZZ⟩ := ent_of HR6.out.rd hz
                injection e' with e'
                subst e'
                have hlz := off_hi HOF.out hz
                obtain ⟨zs, zp, zq⟩ := z
                have HZ := Lib.hid HZZ
                have C2 := Lib.hid fun W => lessE_any ⟨xs, xp, xq⟩ ⟨zs, zp, zq⟩ W
                rw [hlz] at C2
                have d1 : decide ((j : Int) < (m : Int)) = true := decide_eq_true (by omega)
                have d1n : decide (j < m) = true := decide_eq_true (by omega)
                have jm : (j : Int) < (m : Int) := by omega
                have hS : Hid (∀ W, Below wr.heap.size wr W → W.cell? ⟨w.heap.size, 0, none⟩ = some (.slice (some al) ml el) ∧ W.cell? (al.add (k * 3)) = some (.string xs) ∧ W.cell? ⟨(al.add (k * 3)).block, (al.add (k * 3)).off + 1, none⟩ = some (.int .u32 xp) ∧ W.cell? ⟨(al.add (k * 3)).block, (al.add (k * 3)).off + 2, none⟩ = some (.int .u16 xq) ∧ W.cell? (sa.add (i * 3)) = some (.string ys) ∧ W.cell? ⟨(sa.add (i * 3)).block, (sa.add (i * 3)).off + 1, none⟩ = some (.int .u32 yp) ∧ W.cell? ⟨(sa.add (i * 3)).block, (sa.add (i * 3)).off + 2, none⟩ = some (.int .u16 yq) ∧ W.cell? (sa.add (j * 3)) = some (.string zs) ∧ W.cell? ⟨(sa.add (j * 3)).block, (sa.add (j * 3)).off + 1, none⟩ = some (.int .u32 zp) ∧ W.cell? ⟨(sa.add (j * 3)).block, (sa.add (j * 3)).off + 2, none⟩ = some (.int .u16 zq) ∧ Below wr.heap.size wr W) := Lib.hid fun W hW => ⟨(hW.cell (p := ⟨w.heap.size, 0, none⟩) HQ.out.1.t.lt).trans (HQ.out.1.t.cell 0), (HX.out W hW).1, (HX.out W hW).2.1, (HX.out W hW).2.2, (HY.out W hW).1, (HY.out W hW).2.1, (HY.out W hW).2.2, (HZ.out W hW).1, (HZ.out W hW).2.1, (HZ.out W hW).2.2, hW⟩
                clear hz HZZ hlz hly HYY hy hji hj0 hjm
                refine wp_region_held_drew (S := (fun W => W.cell? ⟨w.heap.size, 0, none⟩ = some (.slice (some al) ml el) ∧ W.cell? (al.add (k * 3)) = some (.string xs) ∧ W.cell? ⟨(al.add (k * 3)).block, (al.add (k * 3)).off + 1, none⟩ = some (.int .u32 xp) ∧ W.cell? ⟨(al.add (k * 3)).block, (al.add (k * 3)).off + 2, none⟩ = some (.int .u16 xq) ∧ W.cell? (sa.add (i * 3)) = some (.string ys) ∧ W.cell? ⟨(sa.add (i * 3)).block, (sa.add (i * 3)).off + 1, none⟩ = some (.int .u32 yp) ∧ W.cell? ⟨(sa.add (i * 3)).block, (sa.add (i * 3)).off + 2, none⟩ = some (.int .u16 yq) ∧ W.cell? (sa.add (j * 3)) = some (.string zs) ∧ W.cell? ⟨(sa.add (j * 3)).block, (sa.add (j * 3)).off + 1, none⟩ = some (.int .u32 zp) ∧ W.cell? ⟨(sa.add (j * 3)).block, (sa.add (j * 3)).off + 2, none⟩ = some (.int .u16 zq) ∧ Below wr.heap.size wr W)) (by kernel_rfl) (by exact hS.out _ (Below.drew (Below.refl _ _))) (fun hHeld => ?_)
                try dsimp only at hHeld
                refine wpAnyH_take (i := 0) (v := ?_) rfl (by kernel_rfl) (by kernel_rfl) (by kernel_rfl) (fun _ _ _ h => h) (Or.inl ⟨rfl, ?_⟩) hHeld ?_
                rotate_left
                focus (intro wx hSw; (try dsimp only at hSw); (try go_split_ands); go_simp; (try with_reducible rfl))
                try simp only [Act.put, List.getElem_toArray, List.getElem_cons_succ, List.getElem_cons_zero, List.setIfInBounds_toArray, List.set_cons_zero, List.set_cons_succ]
                refine wpAnyH_take (i := 1) (v := ?_) rfl (by kernel_rfl) (by kernel_rfl) (by kernel_rfl) (fun _ _ _ h => h) (Or.inl ⟨rfl, ?_⟩) hHeld ?_
                rotate_left
                focus (intro wx hSw; (try dsimp only at hSw); (try go_split_ands); go_simp; (try with_reducible rfl))
                try simp only [Act.put, List.getElem_toArray, List.getElem_cons_succ, List.getElem_cons_zero, List.setIfInBounds_toArray, List.set_cons_zero, List.set_cons_succ]
                refine wpAnyH_take (i := 2) (v := ?_) rfl (by kernel_rfl) (by kernel_rfl) (by kernel_rfl) (fun _ _ _ h => h) (Or.inl ⟨rfl, ?_⟩) hHeld ?_
                rotate_left
                focus (intro wx hSw; (try dsimp only at hSw); (try go_split_ands); go_simp; (try with_reducible rfl))
                try simp only [Act.put, List.getElem_toArray, List.getElem_cons_succ, List.getElem_cons_zero, List.setIfInBounds_toArray, List.set_cons_zero, List.set_cons_succ]
                refine wpAnyH_take (i := 3) (v := ?_) rfl (by kernel_rfl) (by kernel_rfl) (by kernel_rfl) (fun _ _ _ h => h) (Or.inl ⟨rfl, ?_⟩) hHeld ?_
                rotate_left
                focus (intro wx hSw; (try dsimp only at hSw); (try go_split_ands); go_simp; (try with_reducible rfl))
                try simp only [Act.put, List.getElem_toArray, List.getElem_cons_succ, List.getElem_cons_zero, List.setIfInBounds_toArray, List.set_cons_zero, List.set_cons_succ]
                refine wpAnyH_take (i := 4) (v := ?_) rfl (by kernel_rfl) (by kernel_rfl) (by kernel_rfl) (fun _ _ _ h => h) (Or.inl ⟨rfl, ?_⟩) hHeld ?_
                rotate_left
                focus (intro wx hSw; (try dsimp only at hSw); (try go_split_ands); go_simp; (try with_reducible rfl))
                try simp only [Act.put, List.getElem_toArray, List.getElem_cons_succ, List.getElem_cons_zero, List.setIfInBounds_toArray, List.set_cons_zero, List.set_cons_succ]
                refine wpAnyH_take (i := 5) (v := ?_) rfl (by kernel_rfl) (by kernel_rfl) (by kernel_rfl) (fun _ _ _ h => h) (Or.inl ⟨rfl, ?_⟩) hHeld ?_
                rotate_left
                focus (intro wx hSw; (try dsimp only at hSw); (try go_split_ands); go_simp; (try with_reducible rfl))
                try simp only [Act.put, List.getElem_toArray, List.getElem_cons_succ, List.getElem_cons_zero, List.setIfInBounds_toArray, List.set_cons_zero, List.set_cons_succ]
                refine wpAnyH_take (i := 6) (v := ?_) rfl (by kernel_rfl) (by kernel_rfl) (by kernel_rfl) (fun _ _ _ h => h) (Or.inl ⟨rfl, ?_⟩) hHeld ?_
                rotate_left
                focus (intro wx hSw; (try dsimp only at hSw); (try go_split_ands); go_simp; (try with_reducible rfl))
                try simp only [Act.put, List.getElem_toArray, List.getElem_cons_succ, List.getElem_cons_zero, List.setIfInBounds_toArray, List.set_cons_zero, List.set_cons_succ]
                refine wpAnyH_take (i := 7) (v := ?_) rfl (by kernel_rfl) (by kernel_rfl) (by kernel_rfl) (fun _ _ _ h => h) (Or.inl ⟨rfl, ?_⟩) hHeld ?_
                rotate_left
                focus (intro wx hSw; (try dsimp only at hSw); (try go_split_ands); go_simp; (try with_reducible rfl))
                try simp only [Act.put, List.getElem_toArray, List.getElem_cons_succ, List.getElem_cons_zero, List.setIfInBounds_toArray, List.set_cons_zero, List.set_cons_succ]
                refine wpAnyH_take (i := 8) (v := ?_) rfl (by kernel_rfl) (by kernel_rfl) (by kernel_rfl) (fun _ _ _ h => h) (Or.inl ⟨rfl, ?_⟩) hHeld ?_
                rotate_left
                focus (intro wx hSw; (try dsimp only at hSw); (try go_split_ands); go_simp; (try with_reducible rfl))
                try simp only [Act.put, List.getElem_toArray, List.getElem_cons_succ, List.getElem_cons_zero, List.setIfInBounds_toArray, List.set_cons_zero, List.set_cons_succ]
                refine wpAnyH_take (i := 9) (v := ?_) rfl (by kernel_rfl) (by kernel_rfl) (by kernel_rfl) (fun _ _ _ h => h) (Or.inl ⟨rfl, ?_⟩) hHeld ?_
                rotate_left
                focus (intro wx hSw; (try dsimp only at hSw); (try go_split_ands); go_simp; (try with_reducible rfl))
                try simp only [Act.put, List.getElem_toArray, List.getElem_cons_succ, List.getElem_cons_zero, List.setIfInBounds_toArray, List.set_cons_zero, List.set_cons_succ]
                refine wpAnyH_take (i := 10) (v := ?_) rfl (by kernel_rfl) (by kernel_rfl) (by kernel_rfl) (fun _ _ _ h => h) (Or.inl ⟨rfl, ?_⟩) hHeld ?_
                rotate_left
                focus (intro wx hSw; (try dsimp only at hSw); (try go_split_ands); go_simp; (try with_reducible rfl))
                try simp only [Act.put, List.getElem_toArray, List.getElem_cons_succ, List.getElem_cons_zero, List.setIfInBounds_toArray, List.set_cons_zero, List.set_cons_succ]
                refine wpAnyH_take (i := 11) (v := ?_) rfl (by kernel_rfl) (by kernel_rfl) (by kernel_rfl) (fun _ _ _ h => h) (Or.inl ⟨rfl, ?_⟩) hHeld ?_
                rotate_left
                focus (intro wx hSw; (try dsimp only at hSw); (try go_split_ands); go_simp; (try with_reducible rfl))
                try simp only [Act.put, List.getElem_toArray, List.getElem_cons_succ, List.getElem_cons_zero, List.setIfInBounds_toArray, List.set_cons_zero, List.set_cons_succ]
                refine wpAnyH_take (i := 12) (v := ?_) rfl (by kernel_rfl) (by kernel_rfl) (by kernel_rfl) (fun _ _ _ h => h) (Or.inl ⟨rfl, ?_⟩) hHeld ?_
                rotate_left
                focus (intro wx hSw; (try dsimp only at hSw); (try go_split_ands); go_simp; (try with_reducible rfl))
                try simp only [Act.put, List.getElem_toArray, List.getElem_cons_succ, List.getElem_cons_zero, List.setIfInBounds_toArray, List.set_cons_zero, List.set_cons_succ]
                refine wpAnyH_ready (rs := [13]) (by kernel_rfl) (by simp) (AllReadyH.cons rfl (fun K hK => ?_) AllReadyH.nil)
                go_simp
                (first | ((with_reducible refine (C1.out _).mono ?_); rintro e w1 ⟨rfl, hb1⟩) | ((with_reducible refine (C2.out _).mono ?_); rintro e w2 ⟨rfl, hb2⟩))
                go_wp2_with fail
                refine hK.out _ _ ?_ (fun hHeld => ?_)
                · ((try dsimp only); (try dsimp only at hHeld); (first | exact hS.out _ (by (with_reducible repeat (first | exact Below.refl _ _ | exact hb2 | exact hb1 | refine bto0 ?_ hb2 | refine bto0 ?_ hb1 | refine bdr ?_ _ | refine Below.drew ?_ | refine ball ?_ _))) | assumption))
                clear hK K
                try dsimp only at hHeld
                try simp only [Act.put, List.getElem_toArray, List.getElem_cons_succ, List.getElem_cons_zero, List.setIfInBounds_toArray, List.set_cons_zero, List.set_cons_succ]
                refine wpAnyH_take (i := 14) (v := ?_) rfl (by kernel_rfl) (by kernel_rfl) (by kernel_rfl) (fun _ _ _ h => h) (Or.inl ⟨rfl, ?_⟩) hHeld ?_
                rotate_left
                focus (intro wx hSw; (try dsimp only at hSw); (try go_split_ands); go_simp; (try with_reducible rfl))
                try simp only [Act.put, List.getElem_toArray, List.getElem_cons_succ, List.getElem_cons_zero, List.setIfInBounds_toArray, List.set_cons_zero, List.set_cons_succ]
                refine wpAnyH_take (i := 15) (v := ?_) rfl (by kernel_rfl) (by kernel_rfl) (by kernel_rfl) (fun _ _ _ h => h) (Or.inl ⟨rfl, ?_⟩) hHeld ?_
                rotate_left
                focus (intro wx hSw; (try dsimp only at hSw); (try go_split_ands); go_simp; (try with_reducible rfl))
                try simp only [Act.put, List.getElem_toArray, List.getElem_cons_succ, List.getElem_cons_zero, List.setIfInBounds_toArray, List.set_cons_zero, List.set_cons_succ]
                refine wpAnyH_take (i := 16) (v := ?_) rfl (by kernel_rfl) (by kernel_rfl) (by kernel_rfl) (fun _ _ _ h => h) (Or.inl ⟨rfl, ?_⟩) hHeld ?_
                rotate_left
                focus (intro wx hSw; (try dsimp only at hSw); (try go_split_ands); go_simp; (try with_reducible rfl))
                try simp only [Act.put, List.getElem_toArray, List.getElem_cons_succ, List.getElem_cons_zero, List.setIfInBounds_toArray, List.set_cons_zero, List.set_cons_succ]
                refine wpAnyH_take (i := 17) (v := ?_) rfl (by kernel_rfl) (by kernel_rfl) (by kernel_rfl) (fun _ _ _ h => h) (Or.inl ⟨rfl, ?_⟩) hHeld ?_
                rotate_left
                focus (intro wx hSw; (try dsimp only at hSw); (try go_split_ands); go_simp; (try with_reducible rfl))
                try simp only [Act.put, List.getElem_toArray, List.getElem_cons_succ, List.getElem_cons_zero, List.setIfInBounds_toArray, List.set_cons_zero, List.set_cons_succ]
                refine wpAnyH_take (i := 18) (v := ?_) rfl (by kernel_rfl) (by kernel_rfl) (by kernel_rfl) (fun _ _ _ h => h) (Or.inl ⟨rfl, ?_⟩) hHeld ?_
                rotate_left
                focus (intro wx hSw; (try dsimp only at hSw); (try go_split_ands); go_simp; (try with_reducible rfl))
                try simp only [Act.put, List.getElem_toArray, List.getElem_cons_succ, List.getElem_cons_zero, List.setIfInBounds_toArray, List.set_cons_zero, List.set_cons_succ]
                refine wpAnyH_take (i := 19) (v := ?_) rfl (by kernel_rfl) (by kernel_rfl) (by kernel_rfl) (fun _ _ _ h => h) (Or.inl ⟨rfl, ?_⟩) hHeld ?_
                rotate_left
                focus (intro wx hSw; (try dsimp only at hSw); (try go_split_ands); go_simp; (try with_reducible rfl))
                try simp only [Act.put, List.getElem_toArray, List.getElem_cons_succ, List.getElem_cons_zero, List.setIfInBounds_toArray, List.set_cons_zero, List.set_cons_succ]
                refine wpAnyH_take (i := 20) (v := ?_) rfl (by kernel_rfl) (by kernel_rfl) (by kernel_rfl) (fun _ _ _ h => h) (Or.inl ⟨rfl, ?_⟩) hHeld ?_
                rotate_left
                focus (intro wx hSw; (try dsimp only at hSw); (try go_split_ands); go_simp; (try with_reducible rfl))
                try simp only [Act.put, List.getElem_toArray, List.getElem_cons_succ, List.getElem_cons_zero, List.setIfInBounds_toArray, List.set_cons_zero, List.set_cons_succ]
                refine wpAnyH_take (i := 21) (v := ?_) rfl (by kernel_rfl) (by kernel_rfl) (by kernel_rfl) (fun _ _ _ h => h) (Or.inl ⟨rfl, ?_⟩) hHeld ?_
                rotate_left
                focus (intro wx hSw; (try dsimp only at hSw); (try go_split_ands); go_simp; (try with_reducible rfl))
                try simp only [Act.put, List.getElem_toArray, List.getElem_cons_succ, List.getElem_cons_zero, List.setIfInBounds_toArray, List.set_cons_zero, List.set_cons_succ]
                refine wpAnyH_take (i := 22) (v := ?_) rfl (by kernel_rfl) (by kernel_rfl) (by kernel_rfl) (fun _ _ _ h => h) (Or.inl ⟨rfl, ?_⟩) hHeld ?_
                rotate_left
                focus (intro wx hSw; (try dsimp only at hSw); (try go_split_ands); go_simp; (try with_reducible rfl))
                try simp only [Act.put, List.getElem_toArray, List.getElem_cons_succ, List.getElem_cons_zero, List.setIfInBounds_toArray, List.set_cons_zero, List.set_cons_succ]
                refine wpAnyH_take (i := 23) (v := ?_) rfl (by kernel_rfl) (by kernel_rfl) (by kernel_rfl) (fun _ _ _ h => h) (Or.inl ⟨rfl, ?_⟩) hHeld ?_
                rotate_left
                focus (intro wx hSw; (try dsimp only at hSw); (try go_split_ands); go_simp; (try with_reducible rfl))
                try simp only [Act.put, List.getElem_toArray, List.getElem_cons_succ, List.getElem_cons_zero, List.setIfInBounds_toArray, List.set_cons_zero, List.set_cons_succ]
                refine wpAnyH_take (i := 24) (v := ?_) rfl (by kernel_rfl) (by kernel_rfl) (by kernel_rfl) (fun _ _ _ h => h) (Or.inl ⟨rfl, ?_⟩) hHeld ?_
                rotate_left
                focus (intro wx hSw; (try dsimp only at hSw); (try go_split_ands); go_simp; (try with_reducible rfl))
                try simp only [Act.put, List.getElem_toArray, List.getElem_cons_succ, List.getElem_cons_zero, List.setIfInBounds_toArray, List.set_cons_zero, List.set_cons_succ]
                refine wpAnyH_take (i := 25) (v := ?_) rfl (by kernel_rfl) (by kernel_rfl) (by kernel_rfl) (fun _ _ _ h => h) (Or.inl ⟨rfl, ?_⟩) hHeld ?_
                rotate_left
                focus (intro wx hSw; (try dsimp only at hSw); (try go_split_ands); go_simp; (try with_reducible rfl))
                try simp only [Act.put, List.getElem_toArray, List.getElem_cons_succ, List.getElem_cons_zero, List.setIfInBounds_toArray, List.set_cons_zero, List.set_cons_succ]
                refine wpAnyH_take (i := 26) (v := ?_) rfl (by kernel_rfl) (by kernel_rfl) (by kernel_rfl) (fun _ _ _ h => h) (Or.inl ⟨rfl, ?_⟩) hHeld ?_
                rotate_left
                focus (intro wx hSw; (try dsimp only at hSw); (try go_split_ands); go_simp; (try with_reducible rfl))
                try simp only [Act.put, List.getElem_toArray, List.getElem_cons_succ, List.getElem_cons_zero, List.setIfInBounds_toArray, List.set_cons_zero, List.set_cons_succ]
                refine wpAnyH_take (i := 27) (v := ?_) rfl (by kernel_rfl) (by kernel_rfl) (by kernel_rfl) (fun _ _ _ h => h) (Or.inl ⟨rfl, ?_⟩) hHeld ?_
                rotate_left
                focus (intro wx hSw; (try dsimp only at hSw); (try go_split_ands); go_simp; (try with_reducible rfl))
                try simp only [Act.put, List.getElem_toArray, List.getElem_cons_succ, List.getElem_cons_zero, List.setIfInBounds_toArray, List.set_cons_zero, List.set_cons_succ]
                refine wpAnyH_take (i := 28) (v := ?_) rfl (by kernel_rfl) (by kernel_rfl) (by kernel_rfl) (fun _ _ _ h => h) (Or.inl ⟨rfl, ?_⟩) hHeld ?_
                rotate_left
                focus (intro wx hSw; (try dsimp only at hSw); (try go_split_ands); go_simp; (try with_reducible rfl))
                try simp only [Act.put, List.getElem_toArray, List.getElem_cons_succ, List.getElem_cons_zero, List.setIfInBounds_toArray, List.set_cons_zero, List.set_cons_succ]
                refine wpAnyH_take (i := 29) (v := ?_) rfl (by kernel_rfl) (by kernel_rfl) (by kernel_rfl) (fun _ _ _ h => h) (Or.inl ⟨rfl, ?_⟩) hHeld ?_
                rotate_left
                focus (intro wx hSw; (try dsimp only at hSw); (try go_split_ands); go_simp; (try with_reducible rfl))
                try simp only [Act.put, List.getElem_toArray, List.getElem_cons_succ, List.getElem_cons_zero, List.setIfInBounds_toArray, List.set_cons_zero, List.set_cons_succ]
                refine wpAnyH_ready (rs := [30]) (by kernel_rfl) (by simp) (AllReadyH.cons rfl (fun K hK => ?_) AllReadyH.nil)
                go_simp
                (first | ((with_reducible refine (C1.out _).mono ?_); rintro e w1 ⟨rfl, hb1⟩) | ((with_reducible refine (C2.out _).mono ?_); rintro e w2 ⟨rfl, hb2⟩))
                go_wp2_with fail
                refine hK.out _ _ ?_ (fun hHeld => ?_)
                · ((try dsimp only); (try dsimp only at hHeld); (first | exact hS.out _ (by (with_reducible repeat (first | exact Below.refl _ _ | exact hb2 | exact hb1 | refine bto0 ?_ hb2 | refine bto0 ?_ hb1 | refine bdr ?_ _ | refine Below.drew ?_ | refine ball ?_ _))) | assumption))
                clear hK K
                try dsimp only at hHeld
                try simp only [Act.put, List.getElem_toArray, List.getElem_cons_succ, List.getElem_cons_zero, List.setIfInBounds_toArray, List.set_cons_zero, List.set_cons_succ]
                refine wpAnyH_take (i := 31) (v := ?_) rfl (by kernel_rfl) (by kernel_rfl) (by kernel_rfl) (fun _ _ _ h => h) (Or.inl ⟨rfl, ?_⟩) hHeld ?_
                rotate_left
                focus (intro wx hSw; (try dsimp only at hSw); (try go_split_ands); go_simp; (try with_reducible rfl))
                try simp only [Act.put, List.getElem_toArray, List.getElem_cons_succ, List.getElem_cons_zero, List.setIfInBounds_toArray, List.set_cons_zero, List.set_cons_succ]
                refine wpAnyH_take (i := 32) (v := ?_) rfl (by kernel_rfl) (by kernel_rfl) (by kernel_rfl) (fun _ _ _ h => h) (Or.inl ⟨rfl, ?_⟩) hHeld ?_
                rotate_left
                focus (intro wx hSw; (try dsimp only at hSw); (try go_split_ands); go_simp; (try with_reducible rfl))
                try simp only [Act.put, List.getElem_toArray, List.getElem_cons_succ, List.getElem_cons_zero, List.setIfInBounds_toArray, List.set_cons_zero, List.set_cons_succ]
                refine wpAnyH_take (i := 33) (v := ?_) rfl (by kernel_rfl) (by kernel_rfl) (by kernel_rfl) (fun _ _ _ h => h) (Or.inl ⟨rfl, ?_⟩) hHeld ?_
                rotate_left
                focus (intro wx hSw; (try dsimp only at hSw); (try go_split_ands); go_simp; (try with_reducible rfl))
                try simp only [Act.put, List.getElem_toArray, List.getElem_cons_succ, List.getElem_cons_zero, List.setIfInBounds_toArray, List.set_cons_zero, List.set_cons_succ]
                refine wpAnyH_done (by kernel_rfl) ?_ _
                go_wp2_with fail
                go_roundw
                case rel => exact ⟨k + 1, by go_num, by omega, by omega, HQ.out.2.trans ((show Below wr.heap.size wr _ from by (with_reducible repeat (first | exact Below.refl _ _ | exact hb2 | exact hb1 | refine bto0 ?_ hb2 | refine bto0 ?_ hb1 | refine bdr ?_ _ | refine Below.drew ?_ | refine ball ?_ _))).mono HQ.out.2.size)⟩
                case measure => simp [intOf]; omega
              ·
                have g0 : decide ((0 : Int) < (j : Int)) = true := decide_eq_true (by omega)
                have g0n : decide (0 < j) = true := decide_eq_true (by omega)
                have hly := off_lo HOF.out hji hy
                obtain ⟨ys, yp, yq⟩ := y
                have HY := Lib.hid HYY
                have C1 := Lib.hid fun W => lessE_any ⟨xs, xp, xq⟩ ⟨ys, yp, yq⟩ W
                rw [hly] at C1
                have g1' : (j : Int) - 1 = (i : Int) := by omega
                have g1w : IntKind.i64.wrap ((j : Int) - 1) = (i : Int) := by rw [g1']; exact IntWalk.i64_in _ (by omega)
                have g1x : IntKind.i64.wrap (i : Int) = (i : Int) := IntWalk.i64_in _ (by omega)
                have g2 : (0 : Int) ≤ (i : Int) := by omega
                have g3 : (i : Int) < (m : Int) := by omega
                have g3n : i < m := by omega
                have hkI : k < ml := hkm
                have d1 : decide ((j : Int) < (m : Int)) = false := decide_eq_false (by omega)
                have d1n : decide (j < m) = false := decide_eq_false (by omega)
                have hS : Hid (∀ W, Below wr.heap.size wr W → W.cell? ⟨w.heap.size, 0, none⟩ = some (.slice (some al) ml el) ∧ W.cell? (al.add (k * 3)) = some (.string xs) ∧ W.cell? ⟨(al.add (k * 3)).block, (al.add (k * 3)).off + 1, none⟩ = some (.int .u32 xp) ∧ W.cell? ⟨(al.add (k * 3)).block, (al.add (k * 3)).off + 2, none⟩ = some (.int .u16 xq) ∧ W.cell? (sa.add (i * 3)) = some (.string ys) ∧ W.cell? ⟨(sa.add (i * 3)).block, (sa.add (i * 3)).off + 1, none⟩ = some (.int .u32 yp) ∧ W.cell? ⟨(sa.add (i * 3)).block, (sa.add (i * 3)).off + 2, none⟩ = some (.int .u16 yq) ∧ Below wr.heap.size wr W) := Lib.hid fun W hW => ⟨(hW.cell (p := ⟨w.heap.size, 0, none⟩) HQ.out.1.t.lt).trans (HQ.out.1.t.cell 0), (HX.out W hW).1, (HX.out W hW).2.1, (HX.out W hW).2.2, (HY.out W hW).1, (HY.out W hW).2.1, (HY.out W hW).2.2, hW⟩
                clear hly HYY hy hji hj0 hjm
                refine wp_region_held_drew (S := (fun W => W.cell? ⟨w.heap.size, 0, none⟩ = some (.slice (some al) ml el) ∧ W.cell? (al.add (k * 3)) = some (.string xs) ∧ W.cell? ⟨(al.add (k * 3)).block, (al.add (k * 3)).off + 1, none⟩ = some (.int .u32 xp) ∧ W.cell? ⟨(al.add (k * 3)).block, (al.add (k * 3)).off + 2, none⟩ = some (.int .u16 xq) ∧ W.cell? (sa.add (i * 3)) = some (.string ys) ∧ W.cell? ⟨(sa.add (i * 3)).block, (sa.add (i * 3)).off + 1, none⟩ = some (.int .u32 yp) ∧ W.cell? ⟨(sa.add (i * 3)).block, (sa.add (i * 3)).off + 2, none⟩ = some (.int .u16 yq) ∧ Below wr.heap.size wr W)) (by kernel_rfl) (by exact hS.out _ (Below.drew (Below.refl _ _))) (fun hHeld => ?_)
                try dsimp only at hHeld
                refine wpAnyH_take (i := 0) (v := ?_) rfl (by kernel_rfl) (by kernel_rfl) (by kernel_rfl) (fun _ _ _ h => h) (Or.inl ⟨rfl, ?_⟩) hHeld ?_
                rotate_left
                focus (intro wx hSw; (try dsimp only at hSw); (try go_split_ands); go_simp; (try with_reducible rfl))
                try simp only [Act.put, List.getElem_toArray, List.getElem_cons_succ, List.getElem_cons_zero, List.setIfInBounds_toArray, List.set_cons_zero, List.set_cons_succ]
                refine wpAnyH_take (i := 1) (v := ?_) rfl (by kernel_rfl) (by kernel_rfl) (by kernel_rfl) (fun _ _ _ h => h) (Or.inl ⟨rfl, ?_⟩) hHeld ?_
                rotate_left
                focus (intro wx hSw; (try dsimp only at hSw); (try go_split_ands); go_simp; (try with_reducible rfl))
                try simp only [Act.put, List.getElem_toArray, List.getElem_cons_succ, List.getElem_cons_zero, List.setIfInBounds_toArray, List.set_cons_zero, List.set_cons_succ]
                refine wpAnyH_take (i := 2) (v := ?_) rfl (by kernel_rfl) (by kernel_rfl) (by kernel_rfl) (fun _ _ _ h => h) (Or.inl ⟨rfl, ?_⟩) hHeld ?_
                rotate_left
                focus (intro wx hSw; (try dsimp only at hSw); (try go_split_ands); go_simp; (try with_reducible rfl))
                try simp only [Act.put, List.getElem_toArray, List.getElem_cons_succ, List.getElem_cons_zero, List.setIfInBounds_toArray, List.set_cons_zero, List.set_cons_succ]
                refine wpAnyH_take (i := 3) (v := ?_) rfl (by kernel_rfl) (by kernel_rfl) (by kernel_rfl) (fun _ _ _ h => h) (Or.inl ⟨rfl, ?_⟩) hHeld ?_
                rotate_left
                focus (intro wx hSw; (try dsimp only at hSw); (try go_split_ands); go_simp; (try with_reducible rfl))
                try simp only [Act.put, List.getElem_toArray, List.getElem_cons_succ, List.getElem_cons_zero, List.setIfInBounds_toArray, List.set_cons_zero, List.set_cons_succ]
                refine wpAnyH_take (i := 4) (v := ?_) rfl (by kernel_rfl) (by kernel_rfl) (by kernel_rfl) (fun _ _ _ h => h) (Or.inl ⟨rfl, ?_⟩) hHeld ?_
                rotate_left
                focus (intro wx hSw; (try dsimp only at hSw); (try go_split_ands); go_simp; (try with_reducible rfl))
                try simp only [Act.put, List.getElem_toArray, List.getElem_cons_succ, List.getElem_cons_zero, List.setIfInBounds_toArray, List.set_cons_zero, List.set_cons_succ]
                refine wpAnyH_take (i := 5) (v := ?_) rfl (by kernel_rfl) (by kernel_rfl) (by kernel_rfl) (fun _ _ _ h => h) (Or.inl ⟨rfl, ?_⟩) hHeld ?_
                rotate_left
                focus (intro wx hSw; (try dsimp only at hSw); (try go_split_ands); go_simp; (try with_reducible rfl))
                try simp only [Act.put, List.getElem_toArray, List.getElem_cons_succ, List.getElem_cons_zero, List.setIfInBounds_toArray, List.set_cons_zero, List.set_cons_succ]
                refine wpAnyH_take (i := 6) (v := ?_) rfl (by kernel_rfl) (by kernel_rfl) (by kernel_rfl) (fun _ _ _ h => h) (Or.inl ⟨rfl, ?_⟩) hHeld ?_
                rotate_left
                focus (intro wx hSw; (try dsimp only at hSw); (try go_split_ands); go_simp; (try with_reducible rfl))
                try simp only [Act.put, List.getElem_toArray, List.getElem_cons_succ, List.getElem_cons_zero, List.setIfInBounds_toArray, List.set_cons_zero, List.set_cons_succ]
                refine wpAnyH_take (i := 7) (v := ?_) rfl (by kernel_rfl) (by kernel_rfl) (by kernel_rfl) (fun _ _ _ h => h) (Or.inl ⟨rfl, ?_⟩) hHeld ?_
                rotate_left
                focus (intro wx hSw; (try dsimp only at hSw); (try go_split_ands); go_simp; (try with_reducible rfl))
                try simp only [Act.put, List.getElem_toArray, List.getElem_cons_succ, List.getElem_cons_zero, List.setIfInBounds_toArray, List.set_cons_zero, List.set_cons_succ]
                refine wpAnyH_take (i := 8) (v := ?_) rfl (by kernel_rfl) (by kernel_rfl) (by kernel_rfl) (fun _ _ _ h => h) (Or.inl ⟨rfl, ?_⟩) hHeld ?_
                rotate_left
                focus (intro wx hSw; (try dsimp only at hSw); (try go_split_ands); go_simp; (try with_reducible rfl))
                try simp only [Act.put, List.getElem_toArray, List.getElem_cons_succ, List.getElem_cons_zero, List.setIfInBounds_toArray, List.set_cons_zero, List.set_cons_succ]
                refine wpAnyH_take (i := 9) (v := ?_) rfl (by kernel_rfl) (by kernel_rfl) (by kernel_rfl) (fun _ _ _ h => h) (Or.inl ⟨rfl, ?_⟩) hHeld ?_
                rotate_left
                focus (intro wx hSw; (try dsimp only at hSw); (try go_split_ands); go_simp; (try with_reducible rfl))
                try simp only [Act.put, List.getElem_toArray, List.getElem_cons_succ, List.getElem_cons_zero, List.setIfInBounds_toArray, List.set_cons_zero, List.set_cons_succ]
                refine wpAnyH_take (i := 10) (v := ?_) rfl (by kernel_rfl) (by kernel_rfl) (by kernel_rfl) (fun _ _ _ h => h) (Or.inl ⟨rfl, ?_⟩) hHeld ?_
                rotate_left
                focus (intro wx hSw; (try dsimp only at hSw); (try go_split_ands); go_simp; (try with_reducible rfl))
                try simp only [Act.put, List.getElem_toArray, List.getElem_cons_succ, List.getElem_cons_zero, List.setIfInBounds_toArray, List.set_cons_zero, List.set_cons_succ]
                refine wpAnyH_take (i := 11) (v := ?_) rfl (by kernel_rfl) (by kernel_rfl) (by kernel_rfl) (fun _ _ _ h => h) (Or.inl ⟨rfl, ?_⟩) hHeld ?_
                rotate_left
                focus (intro wx hSw; (try dsimp only at hSw); (try go_split_ands); go_simp; (try with_reducible rfl))
                try simp only [Act.put, List.getElem_toArray, List.getElem_cons_succ, List.getElem_cons_zero, List.setIfInBounds_toArray, List.set_cons_zero, List.set_cons_succ]
                refine wpAnyH_take (i := 12) (v := ?_) rfl (by kernel_rfl) (by kernel_rfl) (by kernel_rfl) (fun _ _ _ h => h) (Or.inl ⟨rfl, ?_⟩) hHeld ?_
                rotate_left
                focus (intro wx hSw; (try dsimp only at hSw); (try go_split_ands); go_simp; (try with_reducible rfl))
                try simp only [Act.put, List.getElem_toArray, List.getElem_cons_succ, List.getElem_cons_zero, List.setIfInBounds_toArray, List.set_cons_zero, List.set_cons_succ]
                refine wpAnyH_ready (rs := [13]) (by kernel_rfl) (by simp) (AllReadyH.cons rfl (fun K hK => ?_) AllReadyH.nil)
                go_simp
                ((with_reducible refine (C1.out _).mono ?_); rintro e w1 ⟨rfl, hb1⟩)
                go_wp2_with fail
                refine hK.out _ _ ?_ (fun hHeld => ?_)
                · ((try dsimp only); (try dsimp only at hHeld); (first | exact hS.out _ (by (with_reducible repeat (first | exact Below.refl _ _ | exact hb1 | refine bto0 ?_ hb1 | refine bdr ?_ _ | refine Below.drew ?_ | refine ball ?_ _))) | assumption))
                clear hK K
                try dsimp only at hHeld
                try simp only [Act.put, List.getElem_toArray, List.getElem_cons_succ, List.getElem_cons_zero, List.setIfInBounds_toArray, List.set_cons_zero, List.set_cons_succ]
                refine wpAnyH_take (i := 14) (v := ?_) rfl (by kernel_rfl) (by kernel_rfl) (by kernel_rfl) (fun _ _ _ h => h) (Or.inl ⟨rfl, ?_⟩) hHeld ?_
                rotate_left
                focus (intro wx hSw; (try dsimp only at hSw); (try go_split_ands); go_simp; (try with_reducible rfl))
                try simp only [Act.put, List.getElem_toArray, List.getElem_cons_succ, List.getElem_cons_zero, List.setIfInBounds_toArray, List.set_cons_zero, List.set_cons_succ]
                refine wpAnyH_take (i := 15) (v := ?_) rfl (by kernel_rfl) (by kernel_rfl) (by kernel_rfl) (fun _ _ _ h => h) (Or.inl ⟨rfl, ?_⟩) hHeld ?_
                rotate_left
                focus (intro wx hSw; (try dsimp only at hSw); (try go_split_ands); go_simp; (try with_reducible rfl))
                try simp only [Act.put, List.getElem_toArray, List.getElem_cons_succ, List.getElem_cons_zero, List.setIfInBounds_toArray, List.set_cons_zero, List.set_cons_succ]
                refine wpAnyH_take (i := 16) (v := ?_) rfl (by kernel_rfl) (by kernel_rfl) (by kernel_rfl) (fun _ _ _ h => h) (Or.inl ⟨rfl, ?_⟩) hHeld ?_
                rotate_left
                focus (intro wx hSw; (try dsimp only at hSw); (try go_split_ands); go_simp; (try with_reducible rfl))
                try simp only [Act.put, List.getElem_toArray, List.getElem_cons_succ, List.getElem_cons_zero, List.setIfInBounds_toArray, List.set_cons_zero, List.set_cons_succ]
                refine wpAnyH_take (i := 17) (v := ?_) rfl (by kernel_rfl) (by kernel_rfl) (by kernel_rfl) (fun _ _ _ h => h) (Or.inl ⟨rfl, ?_⟩) hHeld ?_
                rotate_left
                focus (intro wx hSw; (try dsimp only at hSw); (try go_split_ands); go_simp; (try with_reducible rfl))
                try simp only [Act.put, List.getElem_toArray, List.getElem_cons_succ, List.getElem_cons_zero, List.setIfInBounds_toArray, List.set_cons_zero, List.set_cons_succ]
                refine wpAnyH_take (i := 18) (v := ?_) rfl (by kernel_rfl) (by kernel_rfl) (by kernel_rfl) (fun _ _ _ h => h) (Or.inl ⟨rfl, ?_⟩) hHeld ?_
                rotate_left
                focus (intro wx hSw; (try dsimp only at hSw); (try go_split_ands); go_simp; (try with_reducible rfl))
                try simp only [Act.put, List.getElem_toArray, List.getElem_cons_succ, List.getElem_cons_zero, List.setIfInBounds_toArray, List.set_cons_zero, List.set_cons_succ]
                refine wpAnyH_take (i := 19) (v := ?_) rfl (by kernel_rfl) (by kernel_rfl) (by kernel_rfl) (fun _ _ _ h => h) (Or.inl ⟨rfl, ?_⟩) hHeld ?_
                rotate_left
                focus (intro wx hSw; (try dsimp only at hSw); (try go_split_ands); go_simp; (try with_reducible rfl))
                try simp only [Act.put, List.getElem_toArray, List.getElem_cons_succ, List.getElem_cons_zero, List.setIfInBounds_toArray, List.set_cons_zero, List.set_cons_succ]
                refine wpAnyH_take (i := 20) (v := ?_) rfl (by kernel_rfl) (by kernel_rfl) (by kernel_rfl) (fun _ _ _ h => h) (Or.inl ⟨rfl, ?_⟩) hHeld ?_
                rotate_left
                focus (intro wx hSw; (try dsimp only at hSw); (try go_split_ands); go_simp; (try with_reducible rfl))
                try simp only [Act.put, List.getElem_toArray, List.getElem_cons_succ, List.getElem_cons_zero, List.setIfInBounds_toArray, List.set_cons_zero, List.set_cons_succ]
                refine wpAnyH_take (i := 21) (v := undef) rfl (by kernel_rfl) (by kernel_rfl) (by kernel_rfl) (fun _ _ _ h => h) (Or.inr ⟨rfl, rfl⟩) hHeld ?_
                try simp only [Act.put, List.getElem_toArray, List.getElem_cons_succ, List.getElem_cons_zero, List.setIfInBounds_toArray, List.set_cons_zero, List.set_cons_succ]
                refine wpAnyH_take (i := 22) (v := undef) rfl (by kernel_rfl) (by kernel_rfl) (by kernel_rfl) (fun _ _ _ h => h) (Or.inr ⟨rfl, rfl⟩) hHeld ?_
                try simp only [Act.put, List.getElem_toArray, List.getElem_cons_succ, List.getElem_cons_zero, List.setIfInBounds_toArray, List.set_cons_zero, List.set_cons_succ]
                refine wpAnyH_take (i := 23) (v := undef) rfl (by kernel_rfl) (by kernel_rfl) (by kernel_rfl) (fun _ _ _ h => h) (Or.inr ⟨rfl, rfl⟩) hHeld ?_
                try simp only [Act.put, List.getElem_toArray, List.getElem_cons_succ, List.getElem_cons_zero, List.setIfInBounds_toArray, List.set_cons_zero, List.set_cons_succ]
                refine wpAnyH_take (i := 24) (v := undef) rfl (by kernel_rfl) (by kernel_rfl) (by kernel_rfl) (fun _ _ _ h => h) (Or.inr ⟨rfl, rfl⟩) hHeld ?_
                try simp only [Act.put, List.getElem_toArray, List.getElem_cons_succ, List.getElem_cons_zero, List.setIfInBounds_toArray, List.set_cons_zero, List.set_cons_succ]
                refine wpAnyH_take (i := 25) (v := undef) rfl (by kernel_rfl) (by kernel_rfl) (by kernel_rfl) (fun _ _ _ h => h) (Or.inr ⟨rfl, rfl⟩) hHeld ?_
                try simp only [Act.put, List.getElem_toArray, List.getElem_cons_succ, List.getElem_cons_zero, List.setIfInBounds_toArray, List.set_cons_zero, List.set_cons_succ]
                refine wpAnyH_take (i := 26) (v := undef) rfl (by kernel_rfl) (by kernel_rfl) (by kernel_rfl) (fun _ _ _ h => h) (Or.inr ⟨rfl, rfl⟩) hHeld ?_
                try simp only [Act.put, List.getElem_toArray, List.getElem_cons_succ, List.getElem_cons_zero, List.setIfInBounds_toArray, List.set_cons_zero, List.set_cons_succ]
                refine wpAnyH_take (i := 27) (v := undef) rfl (by kernel_rfl) (by kernel_rfl) (by kernel_rfl) (fun _ _ _ h => h) (Or.inr ⟨rfl, rfl⟩) hHeld ?_
                try simp only [Act.put, List.getElem_toArray, List.getElem_cons_succ, List.getElem_cons_zero, List.setIfInBounds_toArray, List.set_cons_zero, List.set_cons_succ]
                refine wpAnyH_take (i := 28) (v := undef) rfl (by kernel_rfl) (by kernel_rfl) (by kernel_rfl) (fun _ _ _ h => h) (Or.inr ⟨rfl, rfl⟩) hHeld ?_
                try simp only [Act.put, List.getElem_toArray, List.getElem_cons_succ, List.getElem_cons_zero, List.setIfInBounds_toArray, List.set_cons_zero, List.set_cons_succ]
                refine wpAnyH_take (i := 29) (v := undef) rfl (by kernel_rfl) (by kernel_rfl) (by kernel_rfl) (fun _ _ _ h => h) (Or.inr ⟨rfl, rfl⟩) hHeld ?_
                try simp only [Act.put, List.getElem_toArray, List.getElem_cons_succ, List.getElem_cons_zero, List.setIfInBounds_toArray, List.set_cons_zero, List.set_cons_succ]
                refine wpAnyH_take (i := 30) (v := undef) rfl (by kernel_rfl) (by kernel_rfl) (by kernel_rfl) (fun _ _ _ h => h) (Or.inr ⟨rfl, rfl⟩) hHeld ?_
                try simp only [Act.put, List.getElem_toArray, List.getElem_cons_succ, List.getElem_cons_zero, List.setIfInBounds_toArray, List.set_cons_zero, List.set_cons_succ]
                refine wpAnyH_take (i := 31) (v := undef) rfl (by kernel_rfl) (by kernel_rfl) (by kernel_rfl) (fun _ _ _ h => h) (Or.inr ⟨rfl, rfl⟩) hHeld ?_
                try simp only [Act.put, List.getElem_toArray, List.getElem_cons_succ, List.getElem_cons_zero, List.setIfInBounds_toArray, List.set_cons_zero, List.set_cons_succ]
                refine wpAnyH_take (i := 32) (v := ?_) rfl (by kernel_rfl) (by kernel_rfl) (by kernel_rfl) (fun _ _ _ h => h) (Or.inl ⟨rfl, ?_⟩) hHeld ?_
                rotate_left
                focus (intro wx hSw; (try dsimp only at hSw); (try go_split_ands); go_simp; (try with_reducible rfl))
                try simp only [Act.put, List.getElem_toArray, List.getElem_cons_succ, List.getElem_cons_zero, List.setIfInBounds_toArray, List.set_cons_zero, List.set_cons_succ]
                refine wpAnyH_take (i := 33) (v := ?_) rfl (by kernel_rfl) (by kernel_rfl) (by kernel_rfl) (fun _ _ _ h => h) (Or.inl ⟨rfl, ?_⟩) hHeld ?_
                rotate_left
                focus (intro wx hSw; (try dsimp only at hSw); (try go_split_ands); go_simp; (try with_reducible rfl))
                try simp only [Act.put, List.getElem_toArray, List.getElem_cons_succ, List.getElem_cons_zero, List.setIfInBounds_toArray, List.set_cons_zero, List.set_cons_succ]
                refine wpAnyH_done (by kernel_rfl) ?_ _
                go_wp2_with fail
                go_roundw
                case rel => exact ⟨k + 1, by go_num, by omega, by omega, HQ.out.2.trans ((show Below wr.heap.size wr _ from by (with_reducible repeat (first | exact Below.refl _ _ | exact hb1 | refine bto0 ?_ hb1 | refine bdr ?_ _ | refine Below.drew ?_ | refine ball ?_ _))).mono HQ.out.2.size)⟩
                case measure => simp [intOf]; omega
          · have kI1 : (ml : Int) ≤ (k : Int) := by omega
            have HQ := hHQ
            clear hBk hHQ
            go_wp2_with fail
            go_roundw
            case rel => exact ⟨j + 1, _, _, by go_num, by omega, HQ.out.1, HR6.out, HB1.out.2.below HQ.out.2, HG.out.2.2.1⟩
            case measure => simp [intOf]; omega
    · have hjm : j = m + 1 := by omega
      have hst : st' = s := by
        rw [hjm, List.drop_eq_nil_of_le (by rw [HKS.out]; exact Nat.le_refl _)] at hres
        injection hres
      have j1 : (m : Int) + 1 ≤ (j : Int) := by omega
      have a0 : wr.cell? ⟨w.heap.size, 0, none⟩ = some (.slice Al nl cl) := hB'.t.cell 0
      have a1 : wr.cell? ⟨w.heap.size, 1, none⟩ = some (.slice Af nf cf) := hB'.t.cell 1
      have a2 : wr.cell? ⟨w.heap.size, 2, none⟩ = some (.slice Ax nx cx) := hB'.t.cell 2
      have a3 : wr.cell? ⟨w.heap.size, 3, none⟩ = some (.slice Ap np cp) := hB'.t.cell 3
      have a4 : wr.cell? ⟨w.heap.size, 4, none⟩ = some (.int .i64 (hi' : Int)) := by rw [← hhi']; exact hB'.t.cell 4
      have a5 : wr.cell? ⟨w.heap.size, 5, none⟩ = some (.bool false) := hB'.t.cell 5
      have F0 := hB'.r.frozen 0
      have F1 := hB'.r.frozen 1
      have F2 := hB'.r.frozen 2
      have F3 := hB'.r.frozen 3
      have F4 := hB'.r.frozen 4
      have F5 := hB'.r.frozen 5
      have r0 : wr.cell? ⟨w.heap.size + 1 + 1, 0, none⟩ = some (.slice none 0 0) := hB'.r.cell 0
      have r1 : wr.cell? ⟨w.heap.size + 1 + 1, 1, none⟩ = some (.slice none 0 0) := hB'.r.cell 1
      have r2 : wr.cell? ⟨w.heap.size + 1 + 1, 2, none⟩ = some (.slice none 0 0) := hB'.r.cell 2
      have r3 : wr.cell? ⟨w.heap.size + 1 + 1, 3, none⟩ = some (.slice none 0 0) := hB'.r.cell 3
      have r4 : wr.cell? ⟨w.heap.size + 1 + 1, 4, none⟩ = some (.int .i64 0) := hB'.r.cell 4
      have r5 : wr.cell? ⟨w.heap.size + 1 + 1, 5, none⟩ = some (.bool false) := hB'.r.cell 5
      have mr := hB'.r.lt
      have HE := Lib.hid (And.intro hB' (And.intro hst hhi'))
      clear hB' hR6 hR5 hres hst hhi' hjm
      go_wp2_with fail
      obtain ⟨kk, kr⟩ := HE.out.1.fin (.slice Al nl cl) (.slice Af nf cf) (.slice Ax nx cx) (.slice Ap np cp) (.int .i64 (hi' : Int)) (.bool false) _ rfl
      refine tb_end (q := ⟨⟨Al, nl, cl⟩, ⟨Af, nf, cf⟩, ⟨Ax, nx, cx⟩, ⟨Ap, np, cp⟩⟩) (hi := hi') (b := false) kk rfl ?_
      rw [HE.out.2.1, ← HE.out.2.2] at kr
      rw [← HE.out.2.2, HE.out.2.1]
      rw [HE.out.2.1] at kr
      exact kr
end
end
end Go.Proofs.Ytebobcbaloddaaa
/-
  The reference's below, whole; its Check, of a right tree.
-/
namespace Go.Proofs.Ytebobcbaloddaaa
section
set_option linter.unusedSimpArgs false
set_option linter.unusedVariables false
open Go.RowKit Go.Maps

theorem rbelow_any {base n : Nat} {vd : Value} {ps : List (List UInt8)} {T : List Bool} (hn : n ≤ 5000) : ∀ (f deep : Nat) (W : World) (q : Q4) (st s : RS) (page : Nat), base ≤ W.heap.size → TS W base q st → RD W base n vd ps T → page < 4294967296 → rbP ps f page deep st = some s → s.ok →
    Calls Try.prog 40 #[q.v st.hi false, vd, .int .u32 page, .int .i64 (deep : Nat)] W (RetT base q W s)
  | 0, _, _, _, _, _, _, _, _, _, _, h, _ => by cases h
  | f + 1, deep, W, q, st, s, page, hB, hT, hD, hp, hs, hok => by
    have hs' := hs
    rw [rbP] at hs'
    split at hs'
    · cases hs'
    · cases hpg : ps[page]? with
      | none => rw [hpg] at hs'; cases hs'
      | some L =>
        rw [hpg] at hs'
        simp only at hs'
        cases hpc : rdPg L with
        | none => rw [hpc] at hs'; cases hs'
        | some pc =>
          cases pc with
          | leaf N es => exact rbelow_leaf f deep hn hB hT hD page hp hpg hpc hs hok
          | inner cc prs => exact rbelow_inner f deep hn hB (fun W q st s page h1 h2 h3 h4 h5 h6 => rbelow_any hn f (deep + 1) W q st s page h1 h2 h3 h4 h5 h6) hT hD page hp hpg hpc hs hok
theorem nx_at (F : List Nat) (j x : Nat) (h : (F.tail ++ [0])[j]? = some x) : (∀ y, F[j + 1]? = some y → x = y) ∧ (F.length ≤ j + 1 → x = 0) := by
  constructor
  · intro y hy
    have hlt : j + 1 < F.length := lt_of_at hy
    rw [List.getElem?_append_left (by rw [List.length_tail]; omega), List.getElem?_tail, hy] at h
    injection h with h
    exact h.symm
  · intro hl
    have hj := lt_of_at h
    rw [List.length_append, List.length_tail, List.length_singleton] at hj
    rw [List.getElem?_append_right (by rw [List.length_tail]; omega)] at h
    have : j - F.tail.length = 0 := by rw [List.length_tail]; omega
    rw [this] at h
    injection h with h
    exact h.symm
theorem TS.fin6 {V : World} {base R : Nat} {q : Q4} {st : RS} {cs : Array Value} (h : TS V base q st) (hR : Blk V R 71 cs) (u0 u1 u2 u3 u4 u5 : Value) :
    TS ((((((V.setCell ⟨R, 0, none⟩ u0).setCell ⟨R, 1, none⟩ u1).setCell ⟨R, 2, none⟩ u2).setCell ⟨R, 3, none⟩ u3).setCell ⟨R, 4, none⟩ u4).setCell ⟨R, 5, none⟩ u5) base q st := by
  have s : ∀ {V : World} {cs : Array Value} (i : Nat) (u : Value), TS V base q st → Blk V R 71 cs → TS (V.setCell ⟨R, i, none⟩ u) base q st := fun i u hts hb => hts.far hb (by decide) (by decide) i u
  exact s 5 u5 (s 4 u4 (s 3 u3 (s 2 u2 (s 1 u1 (s 0 u0 h hR) (hR.set_ 0 u0)) ((hR.set_ 0 u0).set_ 1 u1)) (((hR.set_ 0 u0).set_ 1 u1).set_ 2 u2)) ((((hR.set_ 0 u0).set_ 1 u1).set_ 2 u2).set_ 3 u3)) (((((hR.set_ 0 u0).set_ 1 u1).set_ 2 u2).set_ 3 u3).set_ 4 u4)
theorem below_fin6 {V W : World} {B R : Nat} (h : Below B W V) (hR : B ≤ R) (u0 u1 u2 u3 u4 u5 : Value) :
    Below B W ((((((V.setCell ⟨R, 0, none⟩ u0).setCell ⟨R, 1, none⟩ u1).setCell ⟨R, 2, none⟩ u2).setCell ⟨R, 3, none⟩ u3).setCell ⟨R, 4, none⟩ u4).setCell ⟨R, 5, none⟩ u5) :=
  (((((h.setCell (p := ⟨R, 0, none⟩) hR u0).setCell (p := ⟨R, 1, none⟩) hR u1).setCell (p := ⟨R, 2, none⟩) hR u2).setCell (p := ⟨R, 3, none⟩) hR u3).setCell (p := ⟨R, 4, none⟩) hR u4).setCell (p := ⟨R, 5, none⟩) hR u5
theorem rc_end {W : World} {R : Nat} {tm : Array Value} {Q : Ending → World → Prop} {q : Q4} {hi : Nat} {b : Bool} (hR : Blk W R 71 (q.arr hi b))
    (h4 : tm[4]? = some (.pointer (some ⟨R, 0, none⟩))) (h : Q (.returned (q.v hi b)) W) :
    bodyPost Try.prog Try.f25 Q Exit.ret { tmps := tm, defers := [] } W := by
  have q0 : W.cell? ⟨R, 0, none⟩ = _ := hR.cell 0
  have q1 : W.cell? ⟨R, 1, none⟩ = _ := hR.cell 1
  have q2 : W.cell? ⟨R, 2, none⟩ = _ := hR.cell 2
  have q3 : W.cell? ⟨R, 3, none⟩ = _ := hR.cell 3
  have q4 : W.cell? ⟨R, 4, none⟩ = _ := hR.cell 4
  have q5 : W.cell? ⟨R, 5, none⟩ = _ := hR.cell 5
  exact bodyPost_ret (v := q.v hi b) (by simp [results, Try.results25, go_sem, h4, q0, q1, q2, q3, q4, q5]) rfl h
/-- What the reference's Check gives, of a right tree. -/
def RetC (w : World) (s : RS) (e : Ending) (w' : World) : Prop := ∃ q : Q4, e = .returned (q.v s.hi false) ∧ TS w' w.heap.size q s ∧ Below w.heap.size w w'
theorem fin_c {w V : World} {s : RS} {q : Q4} {cs : Array Value} (hR : Blk V (w.heap.size + 1) 71 cs) (ht : TS V w.heap.size q s) (hb : Below w.heap.size w V) (u0 u1 u2 u3 u4 u5 : Value) (W2 : World) (hW : W2 = ((((((V.setCell ⟨w.heap.size + 1, 0, none⟩ u0).setCell ⟨w.heap.size + 1, 1, none⟩ u1).setCell ⟨w.heap.size + 1, 2, none⟩ u2).setCell ⟨w.heap.size + 1, 3, none⟩ u3).setCell ⟨w.heap.size + 1, 4, none⟩ u4).setCell ⟨w.heap.size + 1, 5, none⟩ u5)) (hcs : cs.size = 6) :
    Blk W2 (w.heap.size + 1) 71 #[u0, u1, u2, u3, u4, u5] ∧ RetC w s (.returned (q.v s.hi false)) W2 := by
  subst hW
  obtain ⟨l⟩ := cs
  match l, hcs with
  | [a0, a1, a2, a3, a4, a5], _ => exact ⟨set6 hR, q, rfl, ht.fin6 hR u0 u1 u2 u3 u4 u5, below_fin6 hb (Nat.le_succ _) u0 u1 u2 u3 u4 u5⟩
set_option maxRecDepth 100000 in
set_option maxHeartbeats 4000000 in
theorem rcheck_any {w : World} {n : Nat} {vd : Value} {ps : List (List UInt8)} {T : List Bool} {s : RS} {f root : Nat} (hn : n ≤ 5000) (hd : RD w w.heap.size n vd ps T) (hr : root < 4294967296) (hs : rbP ps f root 1 rs0 = some s) (hok : s.ok) (hX : s.X = s.F.tail ++ [0]) (hri : riseE s.L = true) :
    Calls Try.prog 25 #[vd, .int .u32 root] w (RetC w s) := by
  obtain ⟨A, c, A', c', rfl, hr1, hr2, hc, hc'⟩ := hd
  have hd : RD w w.heap.size n (.agg #[.slice A n c, .slice A' n c']) ps T := ⟨A, c, A', c', rfl, hr1, hr2, hc, hc'⟩
  have hb := ball (ball (Below.refl w.heap.size w) (.cells #[.slice A n c, .slice A' n c'] 65)) (.cells #[.slice none 0 0, .slice none 0 0, .slice none 0 0, .slice none 0 0, .int .i64 0, .bool false] 71)
  have X1 := Blk.newAt (w := w.alloc (.cells #[.slice A n c, .slice A' n c'] 65)) (t := 71) (cs := #[.slice none 0 0, .slice none 0 0, .slice none 0 0, .slice none 0 0, .int .i64 0, .bool false]) (g := w.heap.size + 1) (by simp)
  have BE := rbelow_any (base := w.heap.size) hn f 1 ((w.alloc (.cells #[.slice A n c, .slice A' n c'] 65)).alloc (.cells #[.slice none 0 0, .slice none 0 0, .slice none 0 0, .slice none 0 0, .int .i64 0, .bool false] 71)) Q40 rs0 s root hb.size (TS.nil _ _) (hd.below hb (Nat.le_refl _)) hr hs hok
  have BE : Calls Try.prog 40 #[.agg #[.slice none 0 0, .slice none 0 0, .slice none 0 0, .slice none 0 0, .int .i64 0, .bool false], .agg #[.slice A n c, .slice A' n c'], .int .u32 root, .int .i64 1] _ _ := BE
  have BE := Lib.hid BE
  have H0 := Lib.hid (And.intro hb (And.intro X1 (And.intro hok (And.intro hX hri))))
  clear hb X1 hok hX hri hr1 hr2 hd hs
  go_enter Try.func25, Try.ntmps25
  go_wp2_with fail
  refine BE.out.mono ?_
  rintro e w3 ⟨⟨⟨Bl, ml, el⟩, ⟨Bf, mf, ef⟩, ⟨Bx, mx, ex⟩, ⟨Bp, mp, ep⟩⟩, rfl, ts3, ev3, -⟩
  have hb3 : Below w.heap.size w w3 := ev3.below H0.out.1 H0.out.1.size fun g h => absurd h (Q40.own_ g)
  have R3 := ev3.blk H0.out.2.1 (Q40.own_ _)
  have X5 := Blk.new w3 71 #[.slice Bl ml el, .slice Bf mf ef, .slice Bx mx ex, .slice Bp mp ep, .int .i64 (s.hi : Int), .bool false]
  have R5 := R3.alloc (.cells #[.slice Bl ml el, .slice Bf mf ef, .slice Bx mx ex, .slice Bp mp ep, .int .i64 (s.hi : Int), .bool false] 71)
  have ts5 := ts3.below (ball (Below.refl w3.heap.size w3) (.cells #[.slice Bl ml el, .slice Bf mf ef, .slice Bx mx ex, .slice Bp mp ep, .int .i64 (s.hi : Int), .bool false] 71))
  have hb5 := ball hb3 (.cells #[.slice Bl ml el, .slice Bf mf ef, .slice Bx mx ex, .slice Bp mp ep, .int .i64 (s.hi : Int), .bool false] 71)
  have H5 := Lib.hid (And.intro X5 (And.intro R5 (And.intro ts5 hb5)))
  clear X5 R5 ts5 hb5 ts3 ev3 hb3 R3 BE
  go_upto_region 2 with fail
  obtain ⟨G, hG⟩ : ∃ G, w3.heap.size = G := ⟨_, rfl⟩
  obtain ⟨w5, hw5⟩ : ∃ x, w3.alloc (.cells #[.slice Bl ml el, .slice Bf mf ef, .slice Bx mx ex, .slice Bp mp ep, .int .i64 (s.hi : Int), .bool false] 71) = x := ⟨_, rfl⟩
  rw [hw5, hG] at H5 ⊢
  clear hG hw5
  have hls := H5.out.2.2.1.lens
  simp only at hls
  obtain ⟨ll, lf, lx, lp⟩ := hls
  have hmx : mx ≤ 1000000 := by rw [lx]; exact H0.out.2.2.1.2.2.1
  have hml : ml ≤ 1000000 := by rw [ll]; exact H0.out.2.2.1.1
  have rF := Reads.of_own H5.out.2.2.1.f
  have rX := Reads.of_own H5.out.2.2.1.x
  have k0 : w5.cell? ⟨G, 0, none⟩ = some (.slice Bl ml el) := H5.out.1.cell 0
  have k1 : w5.cell? ⟨G, 1, none⟩ = some (.slice Bf mf ef) := H5.out.1.cell 1
  have k2 : w5.cell? ⟨G, 2, none⟩ = some (.slice Bx mx ex) := H5.out.1.cell 2
  have k3 : w5.cell? ⟨G, 3, none⟩ = some (.slice Bp mp ep) := H5.out.1.cell 3
  have k4 : w5.cell? ⟨G, 4, none⟩ = some (.int .i64 (s.hi : Int)) := H5.out.1.cell 4
  have k5 : w5.cell? ⟨G, 5, none⟩ = some (.bool false) := H5.out.1.cell 5
  have HF := Lib.hid (And.intro rF rX)
  have HLL := Lib.hid (And.intro lf lx)
  have RI := Lib.hid (rriseE_any Bl ml el s.L w5 (Reads.of_own H5.out.2.2.1.l) hml)
  rw [H0.out.2.2.2.2] at RI
  clear rF rX lf lx ll lp
  go_wp2_with fail
  go_loopw [18] (fun v wr => ∃ j : Nat, v = .int .i64 (j : Int) ∧ j ≤ mx ∧ wr = w5) (fun v _ => mx - (intOf v).toNat)
  case atStart => exact ⟨0, rfl, Nat.zero_le _, rfl⟩
  case round =>
    obtain ⟨j, rfl, hj, rfl⟩ := hrel
    have j0 : (0 : Int) ≤ (j : Int) := by omega
    have j00 : (0 : Int) ≤ (j : Int) + 1 := by omega
    by_cases hlt : j < mx
    · have j1 : (j : Int) < (mx : Int) := by omega
      obtain ⟨ax, x, rfl, _, hx, ux⟩ := HF.out.2.num hlt
      rw [H0.out.2.2.2.1] at hx
      obtain ⟨n1, n2⟩ := nx_at _ _ _ hx
      by_cases hlf : j + 1 < mf
      · have j2 : (j : Int) + 1 < (mf : Int) := by omega
        obtain ⟨af, y, rfl, _, hy, uy⟩ := HF.out.1.num hlf
        have hxy := n1 y hy
        subst hxy
        have en : ((x : Int) != (x : Int)) = false := by simp
        have uy' : wr.cell? ⟨af.block, af.off + (j + 1), none⟩ = some (.int .u32 (x : Int)) := uy
        clear n1 n2 hx hy
        go_wp2_with fail
        go_roundw
        case rel => exact ⟨j + 1, by go_num, by omega, by first | rfl | trivial⟩
        case measure => simp [intOf]; omega
      · have j2 : (mf : Int) ≤ (j : Int) + 1 := by omega
        have hx0 := n2 (by have := HLL.out.1; omega)
        subst hx0
        clear n1 n2 hx
        go_wp2_with fail
        go_roundw
        case rel => exact ⟨j + 1, by go_num, by omega, by first | rfl | trivial⟩
        case measure => simp [intOf]; omega
    · have j1 : (mx : Int) ≤ (j : Int) := by omega
      have hjm : j = mx := by omega
      clear hjm
      go_wp2_with fail
      refine RI.out.mono ?_
      rintro e w6 ⟨rfl, hb6⟩
      have X6 := H5.out.1.below hb6 H5.out.1.lt
      have R6 := H5.out.2.1.below hb6 H5.out.2.1.lt
      have ts6 := H5.out.2.2.1.below hb6
      have hb60 := H5.out.2.2.2.trans (hb6.mono H5.out.2.2.2.size)
      have k0 : w6.cell? ⟨G, 0, none⟩ = some (.slice Bl ml el) := X6.cell 0
      have k1 : w6.cell? ⟨G, 1, none⟩ = some (.slice Bf mf ef) := X6.cell 1
      have k2 : w6.cell? ⟨G, 2, none⟩ = some (.slice Bx mx ex) := X6.cell 2
      have k3 : w6.cell? ⟨G, 3, none⟩ = some (.slice Bp mp ep) := X6.cell 3
      have k4 : w6.cell? ⟨G, 4, none⟩ = some (.int .i64 (s.hi : Int)) := X6.cell 4
      have k5 : w6.cell? ⟨G, 5, none⟩ = some (.bool false) := X6.cell 5
      have F0 := R6.frozen 0
      have F1 := R6.frozen 1
      have F2 := R6.frozen 2
      have F3 := R6.frozen 3
      have F4 := R6.frozen 4
      have F5 := R6.frozen 5
      have r0 : w6.cell? ⟨w.heap.size + 1, 0, none⟩ = some (.slice none 0 0) := R6.cell 0
      have r1 : w6.cell? ⟨w.heap.size + 1, 1, none⟩ = some (.slice none 0 0) := R6.cell 1
      have r2 : w6.cell? ⟨w.heap.size + 1, 2, none⟩ = some (.slice none 0 0) := R6.cell 2
      have r3 : w6.cell? ⟨w.heap.size + 1, 3, none⟩ = some (.slice none 0 0) := R6.cell 3
      have r4 : w6.cell? ⟨w.heap.size + 1, 4, none⟩ = some (.int .i64 0) := R6.cell 4
      have r5 : w6.cell? ⟨w.heap.size + 1, 5, none⟩ = some (.bool false) := R6.cell 5
      have mr := R6.lt
      have HE := Lib.hid (And.intro R6 (And.intro ts6 hb60))
      clear X6 R6 ts6 hb60 hb6
      go_wp2_with fail
      obtain ⟨kk, kr⟩ := fin_c HE.out.1 HE.out.2.1 HE.out.2.2 (.slice Bl ml el) (.slice Bf mf ef) (.slice Bx mx ex) (.slice Bp mp ep) (.int .i64 (s.hi : Int)) (.bool false) _ rfl rfl
      refine rc_end (q := ⟨⟨Bl, ml, el⟩, ⟨Bf, mf, ef⟩, ⟨Bx, mx, ex⟩, ⟨Bp, mp, ep⟩⟩) (hi := s.hi) (b := false) kk rfl ?_
      exact kr
end
end Go.Proofs.Ytebobcbaloddaaa
/-
  Trees: contract of Check.
-/
namespace Go.Proofs.Ytebobcbaloddaaa
section
set_option linter.unusedSimpArgs false
set_option linter.unusedVariables false
open Go.RowKit Go.Maps

def shV (a b c d : Int) : Value := .agg #[.int .i64 a, .int .i64 b, .int .i64 c, .int .i64 d]
/-- What Check tells. -/
def ChTold (w : World) (r : Option Ck) (e : Ending) (w' : World) : Prop :=
  (∃ st A c, r = some st ∧ e = .returned (.tuple #[.slice A st.L.length c, shV st.L.length st.lv st.pgs st.hi, .int .i64 0]) ∧ w'.ownsRow w.heap.size 38 3 (.slice A st.L.length c) st.L.length (vE st.L) ∧ st.L.length ≤ c ∧ CkOk (st.met.length) st) ∨
  (r = none ∧ ∃ x : Int, x ≠ 0 ∧ e = .returned (.tuple #[.slice none 0 0, shV 0 0 0 0, .int .i64 x]))
/-- What Check leaves. -/
def RetCh (w : World) (lo gp gd gb gt n : Nat) (ps : List (List UInt8)) (T : List Bool) (gm size : Nat) (K : List Fr) (m : Nat) (r : Option Ck) (e : Ending) (w' : World) : Prop :=
  (∃ K' D' rd' ht', PS w' lo gp gd gb gt n ps T gm size K' D' rd' ht' ∧ rd' ≤ m + n + 1 ∧ ht' ≤ m + n + 1 ∧ ∀ (j : Nat) (f : Fr), K'[j]? = some f → (∃ i : Nat, K[i]? = some f) ∨ w.heap.size ≤ f.g) ∧ Turn w w' lo gp gm K ∧ ChTold w r e w'
theorem ck0_ok (n : Nat) : CkOk n (ck0 n) := ⟨by simp [ck0, trues], by simp [ck0], Nat.le_refl _, Nat.zero_le _, by simp [ck0]⟩
theorem ch_end {W : World} {R : Nat} {tm : Array Value} {Q : Ending → World → Prop} {u v a b c d : Value} (hR : Blk W R 45 #[a, b, c, d])
    (h4 : tm[4]? = some u) (h5 : tm[5]? = some (.pointer (some ⟨R, 0, none⟩))) (h6 : tm[6]? = some v) (h : Q (.returned (.tuple #[u, .agg #[a, b, c, d], v])) W) :
    bodyPost Try.prog Try.f13 Q Exit.ret { tmps := tm, defers := [] } W := by
  have q0 : W.cell? ⟨R, 0, none⟩ = _ := hR.cell 0
  have q1 : W.cell? ⟨R, 1, none⟩ = _ := hR.cell 1
  have q2 : W.cell? ⟨R, 2, none⟩ = _ := hR.cell 2
  have q3 : W.cell? ⟨R, 3, none⟩ = _ := hR.cell 3
  exact bodyPost_ret (v := .tuple #[u, .agg #[a, b, c, d], v]) (by simp [results, Try.results13, go_sem, h4, h5, h6, q0, q1, q2, q3]) rfl h
section
variable {w : World} {lo gp gd gb gt n : Nat} {ps : List (List UInt8)} {T : List Bool} {gm size : Nat} {K : List Fr} {D : DataW Unit} {rd ht m : Nat}
set_option maxRecDepth 100000 in
set_option maxHeartbeats 8000000 in
theorem check_any (h : PS w lo gp gd gb gt n ps T gm size K D rd ht) (hn : n ≤ 1000) (hn1 : 1 ≤ n) (hrd : rd ≤ m) (hht : ht ≤ m) (hm : m ≤ 800000) (hlo : lo ≤ w.heap.size) (root : Nat) (hroot : root < 4294967296) :
    Calls Try.prog 13 #[.pointer (some ⟨gp, 0, none⟩), .int .u32 root] w (RetCh w lo gp gd gb gt n ps T gm size K m (chkP ps root)) := by
  obtain ⟨i1, hi1, hz1, hs1, hy1⟩ := int_info8 Try.infoBool
  have mk1 : ∀ W, (Instr.makeSlice 51 (.int .i64 (n : Int)) (.int .i64 (n : Int))).run Try.prog W = .ok (.slice (some ⟨W.heap.size, 0, none⟩) n n) (W.alloc (.cells (tV (List.replicate n false)) 4)) := by
    intro W
    have h := run_make (P := Try.prog) W 51 4 i1 (.bool false) Try.underlying51 hi1 hz1 .i64 .i64 (n : Int) (n : Int) (by omega) (by omega) (by rw [hy1]; omega) (by omega)
    rw [Int.toNat_natCast, hs1, Nat.mul_one] at h
    have e : madeCells #[.bool false] n = tV (List.replicate n false) := by
      apply Array.ext
      · simp [size_madeCells, tV, tL]
      · intro j h1 h2
        simp [madeCells, Nat.mod_one, tV, tL]
    rw [show madeCells (Value.bool false).cells n = madeCells #[.bool false] n from rfl, e] at h
    exact h
  have hlt := h.dk.lts
  have hps := h.dk.hp
  have hfull := h.dk.full
  have hb0 := ball (Below.refl w.heap.size w) (.cells #[.int .i64 0, .int .i64 0, .int .i64 0, .int .i64 0] 45)
  have PGS := Lib.hid (pages_any (h.below hb0))
  have H0 := Lib.hid h
  clear hi1 hz1 hs1 hy1 h
  go_enter Try.func13, Try.ntmps13
  go_wp2_with fail
  refine PGS.out.mono ?_
  rintro e w1 ⟨rfl, rfl⟩
  have hb1 := ball (ball hb0 (.cells (tV (List.replicate n false)) 4)) (.cells #[.pointer (some ⟨gp, 0, none⟩), .slice (some ⟨w.heap.size + 1, 0, none⟩) n n, .slice none 0 0, .int .i64 0, .int .i64 0, .int .i64 0, .int .i64 0, .int .u32 0] 88)
  have XS := ((Blk.new w 45 #[.int .i64 0, .int .i64 0, .int .i64 0, .int .i64 0]).alloc (.cells (tV (List.replicate n false)) 4)).alloc (.cells #[.pointer (some ⟨gp, 0, none⟩), .slice (some ⟨w.heap.size + 1, 0, none⟩) n n, .slice none 0 0, .int .i64 0, .int .i64 0, .int .i64 0, .int .i64 0, .int .u32 0] 88)
  have XQ := (Blk.new (w.alloc (.cells #[.int .i64 0, .int .i64 0, .int .i64 0, .int .i64 0] 45)) 4 (tV (List.replicate n false))).alloc (.cells #[.pointer (some ⟨gp, 0, none⟩), .slice (some ⟨w.heap.size + 1, 0, none⟩) n n, .slice none 0 0, .int .i64 0, .int .i64 0, .int .i64 0, .int .i64 0, .int .u32 0] 88)
  have XC := Blk.new ((w.alloc (.cells #[.int .i64 0, .int .i64 0, .int .i64 0, .int .i64 0] 45)).alloc (.cells (tV (List.replicate n false)) 4)) 88 #[.pointer (some ⟨gp, 0, none⟩), .slice (some ⟨w.heap.size + 1, 0, none⟩) n n, .slice none 0 0, .int .i64 0, .int .i64 0, .int .i64 0, .int .i64 0, .int .u32 0]
  rw [alloc_size] at XQ
  rw [alloc_size, alloc_size] at XC
  go_wp2_with fail
  obtain ⟨W, hW⟩ : ∃ W, (((w.alloc (.cells #[.int .i64 0, .int .i64 0, .int .i64 0, .int .i64 0] 45)).alloc (.cells (tV (List.replicate n false)) 4)).alloc (.cells #[.pointer (some ⟨gp, 0, none⟩), .slice (some ⟨w.heap.size + 1, 0, none⟩) n n, .slice none 0 0, .int .i64 0, .int .i64 0, .int .i64 0, .int .i64 0, .int .u32 0] 88)) = W := ⟨_, rfl⟩
  rw [hW] at hb1 XS XQ XC ⊢
  clear hW mk1
  have hCS : CS w lo gp gd gb gt n ps T gm size K m (w.heap.size + 1 + 1) (w.heap.size + 1) (ck0 n) (.slice none 0 0) W :=
    ⟨⟨K, D, rd, ht, H0.out.below hb1, hrd, hht, fun j f hj => .inl ⟨j, hj⟩⟩, Turn.of_below hb1 hlo, XC, XQ, World.ownsRow_nil _ _ _ _, hlo, by omega, by omega, by omega, by simp [ck0], Nat.le_refl _⟩
  have HPG := Lib.hid (ckPage_any hps hfull hm hn 13 1 (by omega) (by omega) W (ck0 n) (.slice none 0 0) m root bnd0 hCS (ck0_ok n) (Nat.le_add_right _ _) hroot)
  have HCK : Hid (chkP ps root = (ckP ps 13 root 1 bnd0 (ck0 n)).bind fun st => if st.nx = 0 then some st else none) := Lib.hid (by unfold chkP; rw [hps])
  have HOK : Hid (∀ s, ckP ps 13 root 1 bnd0 (ck0 n) = some s → CkOk n s) := Lib.hid fun s hs => ckP_ok hps hfull 13 root 1 bnd0 (ck0 n) s (by omega) (ck0_ok n) hs
  generalize ckP ps 13 root 1 bnd0 (ck0 n) = R0 at *
  unfold bnd0 enZ Bnd.agg at HPG
  simp only at HPG
  have HXS := Lib.hid (And.intro XS (And.intro hCS hb1))
  clear XS XQ XC hCS hb0 hb1 PGS hps hfull
  refine HPG.out.mono ?_
  rintro e w2 ⟨st, v, c, hC, hE, hv, hres⟩
  -- what stands there at the end
  have XS2 := hE.blk HXS.out.1 (by decide) (by decide) (HXS.out.2.1.ne_m HXS.out.1) (HXS.out.2.1.ne_c HXS.out.1 (by decide)) (HXS.out.2.1.ne_q HXS.out.1 (by decide)) (HXS.out.2.1.ne_v HXS.out.1 (by decide))
  have s0 : w2.cell? ⟨w.heap.size, 0, none⟩ = some (.int .i64 0) := XS2.cell 0
  have s1 : w2.cell? ⟨w.heap.size, 1, none⟩ = some (.int .i64 0) := XS2.cell 1
  have s2 : w2.cell? ⟨w.heap.size, 2, none⟩ = some (.int .i64 0) := XS2.cell 2
  have s3 : w2.cell? ⟨w.heap.size, 3, none⟩ = some (.int .i64 0) := XS2.cell 3
  have t0 := XS2.frozen 0
  have t1 := XS2.frozen 1
  have t2 := XS2.frozen 2
  have t3 := XS2.frozen 3
  have ls := XS2.lt
  have k7 : w2.cell? ⟨w.heap.size + 1 + 1, 7, none⟩ = some (.int .u32 (st.nx : Int)) := hC.cb.cell 7
  have lc := hC.cb.lt
  -- a pool and its turn, behind stores into the shape
  have HBAD : Hid (∀ (x : Int), x ≠ 0 → c ≤ m + n + 1 → chkP ps root = none → RetCh w lo gp gd gb gt n ps T gm size K m (chkP ps root) (.returned (.tuple #[.slice none 0 0, .agg #[.int .i64 0, .int .i64 0, .int .i64 0, .int .i64 0], .int .i64 x])) ((((w2.setCell ⟨w.heap.size, 0, none⟩ (.int .i64 0)).setCell ⟨w.heap.size, 1, none⟩ (.int .i64 0)).setCell ⟨w.heap.size, 2, none⟩ (.int .i64 0)).setCell ⟨w.heap.size, 3, none⟩ (.int .i64 0))) := by
    refine Lib.hid fun x hx hc hno => ?_
    obtain ⟨K', D', rd', ht', p1, p2, p3, p4⟩ := hC.pool
    have hf : Far w2 ((((w2.setCell ⟨w.heap.size, 0, none⟩ (.int .i64 0)).setCell ⟨w.heap.size, 1, none⟩ (.int .i64 0)).setCell ⟨w.heap.size, 2, none⟩ (.int .i64 0)).setCell ⟨w.heap.size, 3, none⟩ (.int .i64 0)) w.heap.size :=
      ⟨fun g hg => (Below.heap_setCell _ _ _ _ hg).trans ((Below.heap_setCell _ _ _ _ hg).trans ((Below.heap_setCell _ _ _ _ hg).trans (Below.heap_setCell _ _ _ _ hg))), by simp [World.setCell], fun B w0 hB hb => below_set4 hb hB⟩
    exact ⟨⟨K', D', rd', ht', p1.far XS2 hf (by decide) (by decide) (by decide) (by decide) (by decide), by omega, by omega, p4⟩, hC.turn.far hf (Nat.le_refl _) hlo, .inr ⟨hno, x, hx, rfl⟩⟩
  have HXS2 := Lib.hid XS2
  have HC := Lib.hid hC
  have hpg := hE.size
  clear hC hE hv XS2
  rcases hres with ⟨s, hs, rfl, rfl, hcs⟩ | ⟨hno, ⟨x, hx, rfl⟩, hcs⟩
  · have hokS := HOK.out st hs
    by_cases hnx : st.nx = 0
    · have hnx' : ((st.nx : Int) != 0) = false := by rw [hnx]; rfl
      obtain ⟨A, ca, rfl, hca⟩ := own_form HC.out.row
      have hll := HC.out.ll
      have hlvn : st.lv ≤ 1000 := by have h0 := hokS.lv; have h1 := hokS.pg; have h2 := trues_le st.met; rw [hokS.ml] at h2; omega
      have hpn : st.pgs ≤ n := by have h1 := hokS.pg; have h2 := trues_le st.met; rw [hokS.ml] at h2; omega
      have k2 : w2.cell? ⟨w.heap.size + 1 + 1, 2, none⟩ = some (.slice A st.L.length ca) := HC.out.cb.cell 2
      have k3 : w2.cell? ⟨w.heap.size + 1 + 1, 3, none⟩ = some (.int .i64 0) := HC.out.cb.cell 3
      have f3 := HC.out.cb.frozen 3
      have X3 : Blk (w2.setCell ⟨w.heap.size + 1 + 1, 3, none⟩ (.int .i64 (st.L.length : Int))) (w.heap.size + 1 + 1) 88 #[.pointer (some ⟨gp, 0, none⟩), .slice (some ⟨w.heap.size + 1, 0, none⟩) n n, .slice A st.L.length ca, .int .i64 (st.L.length : Int), .int .i64 (st.lv : Int), .int .i64 (st.pgs : Int), .int .i64 (st.hi : Int), .int .u32 (st.nx : Int)] := by
        have := HC.out.cb.set_ 3 (.int .i64 (st.L.length : Int))
        simpa [ckArr] using this
      obtain ⟨K', D', rd', ht', p1, p2, p3, p4⟩ := HC.out.pool
      have hf1 := Far.set1 w2 (w.heap.size + 1 + 1) 3 (.int .i64 (st.L.length : Int))
      have q1 := p1.far HC.out.cb hf1 (by decide) (by decide) (by decide) (by decide) (by decide)
      have q2 := HC.out.turn.far hf1 (by omega) hlo
      have q3 := own_far HC.out.row HC.out.cb (by decide) 3 (.int .i64 (st.L.length : Int))
      have q4 := HXS2.out.far (p := ⟨w.heap.size + 1 + 1, 3, none⟩) (by simp; omega) (.int .i64 (st.L.length : Int))
      have HQ := Lib.hid (And.intro q1 (And.intro q2 (And.intro q3 (And.intro q4 X3))))
      have HF : Hid (chkP ps root = some st) := Lib.hid (by rw [HCK.out, hs]; simp [hnx])
      have HP := Lib.hid (And.intro p2 (And.intro p3 (And.intro p4 (And.intro hcs (And.intro hpn (And.intro hokS hca))))))
      clear q1 q2 q3 q4 X3 p1 p2 p3 p4 hf1 hs hcs hnx hokS HBAD
      go_wp2_with fail
      obtain ⟨w3, hw3⟩ : ∃ w3, (w2.setCell ⟨w.heap.size + 1 + 1, 3, none⟩ (.int .i64 (st.L.length : Int))) = w3 := ⟨_, rfl⟩
      rw [hw3] at HQ ⊢
      clear hw3 k2 k3 f3 k7 s0 s1 s2 s3 t0 t1 t2 t3 ls
      have k2 : w3.cell? ⟨w.heap.size + 1 + 1, 2, none⟩ = some (.slice A st.L.length ca) := HQ.out.2.2.2.2.cell 2
      have k3 : w3.cell? ⟨w.heap.size + 1 + 1, 3, none⟩ = some (.int .i64 (st.L.length : Int)) := HQ.out.2.2.2.2.cell 3
      have k4 : w3.cell? ⟨w.heap.size + 1 + 1, 4, none⟩ = some (.int .i64 (st.lv : Int)) := HQ.out.2.2.2.2.cell 4
      have k5 : w3.cell? ⟨w.heap.size + 1 + 1, 5, none⟩ = some (.int .i64 (st.pgs : Int)) := HQ.out.2.2.2.2.cell 5
      have k6 : w3.cell? ⟨w.heap.size + 1 + 1, 6, none⟩ = some (.int .i64 (st.hi : Int)) := HQ.out.2.2.2.2.cell 6
      have s0 : w3.cell? ⟨w.heap.size, 0, none⟩ = some (.int .i64 0) := HQ.out.2.2.2.1.cell 0
      have s1 : w3.cell? ⟨w.heap.size, 1, none⟩ = some (.int .i64 0) := HQ.out.2.2.2.1.cell 1
      have s2 : w3.cell? ⟨w.heap.size, 2, none⟩ = some (.int .i64 0) := HQ.out.2.2.2.1.cell 2
      have s3 : w3.cell? ⟨w.heap.size, 3, none⟩ = some (.int .i64 0) := HQ.out.2.2.2.1.cell 3
      have t0 := HQ.out.2.2.2.1.frozen 0
      have t1 := HQ.out.2.2.2.1.frozen 1
      have t2 := HQ.out.2.2.2.1.frozen 2
      have t3 := HQ.out.2.2.2.1.frozen 3
      have ls := HQ.out.2.2.2.1.lt
      have HEND : Hid (RetCh w lo gp gd gb gt n ps T gm size K m (chkP ps root) (.returned (.tuple #[.slice A st.L.length ca, .agg #[.int .i64 (st.L.length : Int), .int .i64 (st.lv : Int), .int .i64 (st.pgs : Int), .int .i64 (st.hi : Int)], .int .i64 0])) ((((w3.setCell ⟨w.heap.size, 0, none⟩ (.int .i64 (st.L.length : Int))).setCell ⟨w.heap.size, 1, none⟩ (.int .i64 (st.lv : Int))).setCell ⟨w.heap.size, 2, none⟩ (.int .i64 (st.pgs : Int))).setCell ⟨w.heap.size, 3, none⟩ (.int .i64 (st.hi : Int))).drew ∧
          Blk ((((w3.setCell ⟨w.heap.size, 0, none⟩ (.int .i64 (st.L.length : Int))).setCell ⟨w.heap.size, 1, none⟩ (.int .i64 (st.lv : Int))).setCell ⟨w.heap.size, 2, none⟩ (.int .i64 (st.pgs : Int))).setCell ⟨w.heap.size, 3, none⟩ (.int .i64 (st.hi : Int))).drew w.heap.size 45 #[.int .i64 (st.L.length : Int), .int .i64 (st.lv : Int), .int .i64 (st.pgs : Int), .int .i64 (st.hi : Int)]) := by
        have hf : Far w3 ((((w3.setCell ⟨w.heap.size, 0, none⟩ (.int .i64 (st.L.length : Int))).setCell ⟨w.heap.size, 1, none⟩ (.int .i64 (st.lv : Int))).setCell ⟨w.heap.size, 2, none⟩ (.int .i64 (st.pgs : Int))).setCell ⟨w.heap.size, 3, none⟩ (.int .i64 (st.hi : Int))) w.heap.size :=
          ⟨fun g hg => (Below.heap_setCell _ _ _ _ hg).trans ((Below.heap_setCell _ _ _ _ hg).trans ((Below.heap_setCell _ _ _ _ hg).trans (Below.heap_setCell _ _ _ _ hg))), by simp [World.setCell], fun B w0 hB hb => below_set4 hb hB⟩
        have X := HQ.out.2.2.2.1
        have hdr := Below.drew (Below.refl ((((w3.setCell ⟨w.heap.size, 0, none⟩ (.int .i64 (st.L.length : Int))).setCell ⟨w.heap.size, 1, none⟩ (.int .i64 (st.lv : Int))).setCell ⟨w.heap.size, 2, none⟩ (.int .i64 (st.pgs : Int))).setCell ⟨w.heap.size, 3, none⟩ (.int .i64 (st.hi : Int))).heap.size ((((w3.setCell ⟨w.heap.size, 0, none⟩ (.int .i64 (st.L.length : Int))).setCell ⟨w.heap.size, 1, none⟩ (.int .i64 (st.lv : Int))).setCell ⟨w.heap.size, 2, none⟩ (.int .i64 (st.pgs : Int))).setCell ⟨w.heap.size, 3, none⟩ (.int .i64 (st.hi : Int))))
        obtain ⟨p2, p3, p4, hcs, hpn, hokS, hca⟩ := HP.out
        refine Lib.hid ⟨⟨⟨K', D', rd', ht', (HQ.out.1.far X hf (by decide) (by decide) (by decide) (by decide) (by decide)).below hdr, by omega, by omega, p4⟩, (HQ.out.2.1.far hf (Nat.le_refl _) hlo).more hdr hlo, .inl ⟨st, A, ca, HF.out, rfl, own_below (ownR_stays HQ.out.2.2.1 fun g cs _ hb => hf.heap g (hb.ne_ X (by decide))) hdr, hca, by rw [hokS.ml]; exact hokS⟩⟩, (blk4 X).drew⟩
      go_region
      all_goals (go_wp2; exact ch_end HEND.out.2 rfl rfl rfl HEND.out.1)
    · have hnx' : ((st.nx : Int) != 0) = true := by simp; omega
      have hpn : st.pgs ≤ n := by have h1 := hokS.pg; have h2 := trues_le st.met; rw [hokS.ml] at h2; omega
      have HF := Lib.hid (HBAD.out 2 (by decide) (by omega) (by rw [HCK.out, hs]; simp [hnx]))
      clear hnx hs hokS hcs HBAD
      go_wp2
      exact ch_end (blk4 HXS2.out) rfl rfl rfl HF.out
  · have hxb : (x == 0) = false := by simpa using hx
    have hxb2 : (x != 0) = true := by simpa using hx
    have HF := Lib.hid (HBAD.out x hx hcs (by rw [HCK.out, hno]; rfl))
    clear hno hx hcs HBAD
    go_wp2
    exact ch_end (blk4 HXS2.out) rfl rfl rfl HF.out
end
end
end Go.Proofs.Ytebobcbaloddaaa
/-
  The law's example: nothing built on three pages, and looked at.
-/
namespace Go.Proofs.Ytebobcbaloddaaa
section
set_option linter.unusedSimpArgs false
set_option linter.unusedVariables false
open Go.RowKit Go.Maps

theorem bdF_root : (bdP [] (pagesOf (zb 3) 3) (marksOf (zb 3) 3)).2.2 = some 1 := by kernel_rfl
theorem bdF_chk : chkP (bdP [] (pagesOf (zb 3) 3) (marksOf (zb 3) 3)).1 1 = some ⟨[false, true, false], [], 1, 1, 1, 0⟩ := by kernel_rfl
set_option maxRecDepth 100000 in
set_option maxHeartbeats 2000000 in
theorem fixed11_any (w : World) : Calls Try.prog 5 #[] w (RetB w (.bool true)) := by
  have ND := Lib.hid (newDP 3 (by omega) (by omega) w)
  go_enter Try.func5, Try.ntmps5
  go_wp2_with fail
  refine ND.out.mono ?_
  rintro e w1 ⟨g, gb, gt, rfl, hd, k1, k2, k3, hb1⟩
  have BU := Lib.hid (build_any hd (by omega) (A := none) (m := 0) (c := 0) (l := []) ⟨rfl, fun h => absurd h (by omega)⟩ (fun ad h => by cases h) (fun e he => by cases he) rfl (by omega) (by omega) (by decide))
  have hB := bdF_root
  have hC := bdF_chk
  generalize bdP [] (pagesOf (zb 3) 3) (marksOf (zb 3) 3) = R at *
  have HC := Lib.hid hC
  clear hd ND hC
  go_wp2_with fail
  refine BU.out.mono ?_
  rintro e w2 ⟨hd2, hL, hres⟩
  rcases hres with ⟨root, hroot, rfl⟩ | ⟨hno, rfl⟩
  rotate_left
  · rw [hno] at hB; cases hB
  rw [hB] at hroot
  injection hroot with hroot
  subst hroot
  have hb2 : Below w.heap.size w1 w2 := hL.below w.heap.size k2 k3 hb1.size
  have hb3 := hb1.trans hb2
  have PN := Lib.hid (pnew_any hd2 (size := 3) (by omega) (by omega))
  clear hB hL hd2 BU hb1 hb2
  go_wp2_with fail
  refine PN.out.mono ?_
  rintro e w3 ⟨gp, gm, D, rfl, hp, hb4, k4, k5⟩
  have hz := hb3.size
  have hb5 := hb3.trans (hb4.mono hz)
  have CH := Lib.hid (check_any hp (m := 0) (by omega) (by omega) (by omega) (by omega) (by omega) hb4.size 1 (by omega))
  rw [HC.out] at CH
  clear hp PN hb4
  go_wp2_with fail
  refine CH.out.mono ?_
  rintro e w4 ⟨_, tn, ht⟩
  rcases ht with ⟨st, A, c, hst, rfl, _, _, _⟩ | ⟨hno, _⟩
  rotate_left
  · cases hno
  injection hst with hst
  subst hst
  have hb6 := tn.below w.heap.size w hz hb5
  have HB := Lib.hid hb6
  clear tn CH hb5 hb6
  unfold shV
  go_wp2
  go_ret
  exact ⟨rfl, ball HB.out _⟩
end
end Go.Proofs.Ytebobcbaloddaaa

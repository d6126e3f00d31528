/-
  Several texts in one: St Su Hs.
-/
import Derived.Test.YtdimkeoncgjegaaMbae
import Derived.Test.YtdimkeoncgjegaaMbab
import Derived.Test.YtdimkeoncgjegaaMbax
import Derived.Test.YtdimkeoncgjegaaMbat
import Derived.BigGuardPart
/-
  Slices of byte slices that came in.
-/
namespace Go.Proofs.Ytdimkeoncgjegaa
section
open Go.RowKit Go.ChangeShapes Go.WideShapes Go.Deep

/-- One of many slices of bytes: where it lies, its capacity, its bytes. -/
structure Rw where
  A : Option Addr
  c : Nat
  l : List UInt8
def Rw.val (r : Rw) : Value := .slice r.A r.l.length r.c
structure RRs (w : World) (B : Nat) (A : Option Addr) (n : Nat) (rows : List Rw) : Prop where
  len : rows.length = n
  outer : Reads w B 1 A n (rows.map Rw.val)
  cap : ∀ r ∈ rows, r.l.length ≤ r.c ∧ r.c ≤ maxLen
  inner : ∀ r ∈ rows, Reads w B 1 r.A r.l.length (bL r.l)
theorem RRs.below {w w' : World} {B n : Nat} {A : Option Addr} {rows : List Rw} (h : RRs w B A n rows) (hb : Below B w w') : RRs w' B A n rows :=
  ⟨h.len, h.outer.below hb, h.cap, fun r hr => (h.inner r hr).below hb⟩
theorem RRs.row {w : World} {B n k : Nat} {A : Option Addr} {rows : List Rw} (h : RRs w B A n rows) (hk : k < n) : ∃ ad r, A = some ad ∧ ad.block < B ∧ rows[k]? = some r ∧ w.cell? (ad.add k) = some (.slice r.A r.l.length r.c) ∧ r.l.length ≤ r.c ∧ r.c ≤ maxLen ∧ Reads w B 1 r.A r.l.length (bL r.l) := by
  obtain ⟨ad, u, e, hb, hu, hc⟩ := h.outer.at_ hk
  rw [List.getElem?_map] at hu
  obtain ⟨r, h1, rfl⟩ := Option.map_eq_some_iff.1 hu
  have hm := List.mem_of_getElem? h1
  exact ⟨ad, r, e, hb, h1, hc, (h.cap r hm).1, (h.cap r hm).2, h.inner r hm⟩
theorem ints_bytes : ∀ (l : List Int), (∀ x ∈ l, (Lit.int .u8 x).wf = true) → ∃ L : List UInt8, l.map (Value.int .u8) = bL L ∧ L.length = l.length
  | [], _ => ⟨[], rfl, rfl⟩
  | x :: l, h => by
    obtain ⟨L, h1, h2⟩ := ints_bytes l fun y hy => h y (by simp [hy])
    have hx := Go.bounds_u8 (h x (by simp))
    refine ⟨UInt8.ofNat x.toNat :: L, ?_, by simp [h2]⟩
    rw [List.map_cons, h1]
    simp only [bL, List.map_cons]
    congr 1
    congr 1
    simp
    omega
section
variable {H : Type} {enc : TypeId × Value → H} {P : Program} {w : World} {base : Nat} {spare : Nat → Bool} {held : Bool}
theorem trod_bytes {t e : TypeId} {n : Nat} {cs : List Value} {y : DataW H × List MemPlace} (ht : P.underlying t = some (.slice e)) (he : P.underlying e = some (.int .u8)) (hC : P.cellsOf e = 1) (h : DataW.trod enc P w base spare held n t cs = some y) :
    ∃ (A : Option Addr) (len cap : Nat) (L : List UInt8), cs = [.slice A len cap] ∧ len ≤ cap ∧ cap ≤ maxLen ∧ L.length = len ∧ Reads w w.heap.size 1 A len (bL L) := by
  obtain ⟨A, len, cap, l, rfl, h1, h2, h3, h4, h5⟩ := trod_ints ht he hC h
  obtain ⟨L, hL, hl⟩ := ints_bytes l h4
  rw [hL] at h5
  exact ⟨A, len, cap, L, rfl, h1, h2, by omega, h5⟩
theorem trod_bss {t e b : TypeId} {n : Nat} {cs : List Value} {y : DataW H × List MemPlace} (ht : P.underlying t = some (.slice e)) (he : P.underlying e = some (.slice b)) (hb : P.underlying b = some (.int .u8)) (hC : P.cellsOf e = 1) (hCb : P.cellsOf b = 1) (h : DataW.trod enc P w base spare held n t cs = some y) :
    ∃ (A : Option Addr) (len cap : Nat) (rows : List Rw), cs = [.slice A len cap] ∧ len ≤ cap ∧ cap ≤ maxLen ∧ RRs w w.heap.size A len rows := by
  obtain ⟨A, len, cap, L, rfl, h1, h2, h3, h4, h5⟩ := trod_sl (fun c => ∃ r : Rw, c = [r.val] ∧ r.l.length ≤ r.c ∧ r.c ≤ maxLen ∧ Reads w w.heap.size 1 r.A r.l.length (bL r.l)) ht hC (by omega) (fun m c y hc _ => by
    obtain ⟨A, len, cap, l, hx, a1, a2, a3, a4⟩ := trod_bytes he hb hCb hc
    subst a3
    exact ⟨⟨A, cap, l⟩, hx, a1, a2, a4⟩) h
  have hex : ∀ (L : List (List Value)), (∀ c ∈ L, ∃ r : Rw, c = [r.val] ∧ r.l.length ≤ r.c ∧ r.c ≤ maxLen ∧ Reads w w.heap.size 1 r.A r.l.length (bL r.l)) → ∃ l : List Rw, L = l.map (fun r => [r.val]) ∧ ∀ r ∈ l, r.l.length ≤ r.c ∧ r.c ≤ maxLen ∧ Reads w w.heap.size 1 r.A r.l.length (bL r.l) := by
    intro L
    induction L with
    | nil => intro _; exact ⟨[], rfl, by simp⟩
    | cons c r ih =>
      intro hL
      obtain ⟨v, rfl, hv⟩ := hL c (by simp)
      obtain ⟨l, rfl, hl⟩ := ih fun c hc => hL c (by simp [hc])
      exact ⟨v :: l, rfl, by intro u hu; rcases List.mem_cons.1 hu with rfl | hu; exact hv; exact hl u hu⟩
  obtain ⟨l, rfl, hl⟩ := hex L fun c hc => (h4 c hc).1
  refine ⟨A, len, cap, l, rfl, h1, h2, by simpa using h3, ?_, fun r hr => ⟨(hl r hr).1, (hl r hr).2.1⟩, fun r hr => (hl r hr).2.2⟩
  have : (l.map (fun r => [Rw.val r])).flatMap id = l.map Rw.val := by rw [List.flatMap_map]; exact flatMap_one _ l
  rwa [this] at h5
end
end
end Go.Proofs.Ytdimkeoncgjegaa
/-
  Slots of a heap page: the law SlotsPlays.
-/
namespace Go.Proofs.Ytdimkeoncgjegaa
section
open Go.RowKit

theorem Own.past {w w' : World} {base : Nat} {v : Value} {l : List UInt8} (h : Own w base v l) (he : ∀ g, v.ownBlock = some g → g < w.heap.size → w'.heap[g]? = w.heap[g]?) : Own w' base v l := by
  refine ⟨h.1, ?_⟩
  rcases h.2 with hn | ⟨g, cap, cur, rfl, hb, hgg, rest⟩
  · exact .inl hn
  · refine .inr ⟨g, cap, cur, rfl, hb, ?_, rest⟩
    rw [he g rfl (Array.getElem?_eq_some_iff.1 hgg).1]
    exact hgg
/-- A page of the program's and the reference's, both with these records. -/
structure PB (w : World) (base gp : Nat) (A : Option Addr) (c : Nat) (A2 : Option Addr) (c2 m next : Nat) (rs : List (List UInt8)) : Prop where
  own : Own w base (.slice A 512 c) (layL next rs)
  cap : 512 ≤ c
  fits : Fits rs
  len : rs.length = m
  pg : Blk w gp 41 #[.int .u32 next, .slice A2 m c2]
  row : w.ownsRow base 9 1 (.slice A2 m c2) m (sL rs)
section
variable {w w' : World} {base gp c c2 m next : Nat} {A A2 : Option Addr} {rs : List (List UInt8)}
theorem PB.below (h : PB w base gp A c A2 c2 m next rs) (hb : Below w.heap.size w w') : PB w' base gp A c A2 c2 m next rs :=
  ⟨h.own.below hb, h.cap, h.fits, h.len, h.pg.below hb h.pg.lt, h.row.kept (row := none) ⟨hb.os, hb.tape, hb.output, hb.size, fun i hi _ => hb.block i hi⟩ (by cases h' : (Value.slice A2 m c2).ownBlock <;> simp)⟩
theorem PB.m6 (h : PB w base gp A c A2 c2 m next rs) : m ≤ 126 := by have := h.fits.1; have := h.len; omega
theorem PB.t6 (h : PB w base gp A c A2 c2 m next rs) : tot rs ≤ 1000000 := by have := h.fits.1; omega
theorem PB.reads (h : PB w base gp A c A2 c2 m next rs) : Reads w w.heap.size 1 A2 m (sL rs) := Reads.of_own h.row
theorem PB.room (h : PB w base gp A c A2 c2 m next rs) : Calls Try.prog 25 #[.slice A 512 c] w (RetB w (.int .i64 (508 - (8 + 4 * m + tot rs) : Nat))) := by
  have := Room_any (n := 512) (c := c) h.own.reads.1 (Nat.le_refl _) (by omega) h.cap
  rwa [lay_room h.fits, h.len] at this
theorem PB.rroom (h : PB w base gp A c A2 c2 m next rs) : Calls Try.prog 30 #[.agg #[.int .u32 next, .slice A2 m c2]] w (RetB w (.int .i64 (508 - (8 + 4 * m + tot rs) : Nat))) :=
  rroom_any next h.reads (by have := h.m6; omega) h.t6
end
end
end Go.Proofs.Ytdimkeoncgjegaa
/-
  Heap: what a fill comes to, plain; what stays but a disk's blocks; the program's follow.
-/
namespace Go.Proofs.Ytdimkeoncgjegaa
section
set_option linter.unusedSimpArgs false
set_option linter.unusedVariables false
open Go.RowKit Go.Maps

/-- The first free page. -/
def freeI : List Bool → Option Nat
  | [] => none
  | false :: _ => some 0
  | true :: t => (freeI t).map (· + 1)
theorem freeI_cases : ∀ T : List Bool, (∃ i, freeI T = some i ∧ T[i]? = some false ∧ ∀ j : Nat, j < i → T[j]? = some true) ∨ (freeI T = none ∧ ∀ j : Nat, j < T.length → T[j]? = some true)
  | [] => .inr ⟨rfl, fun j h => absurd h (by simp)⟩
  | false :: t => .inl ⟨0, rfl, rfl, fun j h => absurd h (by omega)⟩
  | true :: t => by
    rcases freeI_cases t with ⟨i, h1, h2, h3⟩ | ⟨h1, h2⟩
    · refine .inl ⟨i + 1, by simp [freeI, h1], by simpa using h2, fun j hj => ?_⟩
      cases j with
      | zero => rfl
      | succ j => simpa using h3 j (by omega)
    · refine .inr ⟨by simp [freeI, h1], fun j hj => ?_⟩
      cases j with
      | zero => rfl
      | succ j => simpa using h2 j (by simpa using hj)
abbrev Fil := List (List UInt8) × List Bool × Option (List (Nat × Nat))
def roomL (rs : List (List UInt8)) : Nat := 508 - (8 + 4 * rs.length + tot rs)
def fillL : List (List UInt8) → List (List UInt8) → List Bool → Nat → List (List UInt8) → List (Nat × Nat) → Fil
  | [], ps, T, p, rs, rids => (ps.set p (layL 0 rs), T.set p true, some rids)
  | r :: t, ps, T, p, rs, rids =>
    if r.length ≤ roomL rs then fillL t ps T p (rs ++ [r]) (rids ++ [(p, rs.length)])
    else match freeI T with
      | none => (ps.set p (layL 0 rs), T.set p true, none)
      | some i => fillL t (ps.set p (layL i rs)) ((T.set i true).set p true) i [r] (rids ++ [(i, 0)])
theorem fillL_fit {r : List UInt8} {t ps : List (List UInt8)} {T : List Bool} {p : Nat} {rs : List (List UInt8)} {rids : List (Nat × Nat)} (h : r.length ≤ roomL rs) : fillL (r :: t) ps T p rs rids = fillL t ps T p (rs ++ [r]) (rids ++ [(p, rs.length)]) := by rw [fillL, if_pos h]
theorem fillL_none {r : List UInt8} {t ps : List (List UInt8)} {T : List Bool} {p : Nat} {rs : List (List UInt8)} {rids : List (Nat × Nat)} (h : ¬ r.length ≤ roomL rs) (hf : freeI T = none) : fillL (r :: t) ps T p rs rids = (ps.set p (layL 0 rs), T.set p true, none) := by rw [fillL, if_neg h, hf]
theorem fillL_some {r : List UInt8} {t ps : List (List UInt8)} {T : List Bool} {p i : Nat} {rs : List (List UInt8)} {rids : List (Nat × Nat)} (h : ¬ r.length ≤ roomL rs) (hf : freeI T = some i) : fillL (r :: t) ps T p rs rids = fillL t (ps.set p (layL i rs)) ((T.set i true).set p true) i [r] (rids ++ [(i, 0)]) := by rw [fillL, if_neg h, hf]

/-- All stays but the bytes and marks of a disk. -/
structure Lf (w w' : World) (gb gt : Nat) : Prop where
  below : ∀ B, B ≤ gb → B ≤ gt → B ≤ w.heap.size → Below B w w'
  heap : ∀ g, g < w.heap.size → g ≠ gb → g ≠ gt → w'.heap[g]? = w.heap[g]?
  size : w.heap.size ≤ w'.heap.size
section
variable {w w' w'' : World} {g gb gt n : Nat} {ps ps' : List (List UInt8)} {T T' : List Bool}
theorem Lf.refl (w : World) (gb gt : Nat) : Lf w w gb gt := ⟨fun _ _ _ _ => Below.refl _ _, fun _ _ _ _ => rfl, Nat.le_refl _⟩
theorem Lf.trans (h : Lf w w' gb gt) (k : Lf w' w'' gb gt) : Lf w w'' gb gt :=
  ⟨fun B h1 h2 h3 => (h.below B h1 h2 h3).trans (k.below B h1 h2 (Nat.le_trans h3 h.size)), fun g' h1 h2 h3 => (k.heap g' (Nat.lt_of_lt_of_le h1 h.size) h2 h3).trans (h.heap g' h1 h2 h3), Nat.le_trans h.size k.size⟩
theorem Lf.of_left (h : Left w w' g gb gt n ps T) : Lf w w' gb gt := ⟨fun B h1 h2 _ => h.2.1 B h1 h2, fun g' _ h1 h2 => h.2.2.1 g' h1 h2, by rw [h.2.2.2]; exact Nat.le_refl _⟩
theorem Lf.of_below (h : Below w.heap.size w w') : Lf w w' gb gt := ⟨fun B _ _ h3 => h.mono h3, fun g' h1 _ _ => h.block g' h1, h.size⟩
theorem Lf.own (h : Lf w w' gb gt) {base : Nat} {e : TypeId} {size k : Nat} {v : Value} {xs : List Value} (ho : w.ownsRow base e size v k xs) (h1 : gb < base) (h2 : gt < base) : w'.ownsRow base e size v k xs :=
  ownR_stays ho fun g' cs e1 hb => h.heap g' hb.lt (by have := (World.ownsRow.lt ho g' e1).1; omega) (by have := (World.ownsRow.lt ho g' e1).1; omega)
theorem DP.lower (h : DP w g gb gt n ps T) (hb : Below w.heap.size w w') : DP w' g gb gt n ps T := h.below hb h.lts.1 h.lts.2.1 h.lts.2.2
end
/-- What follow leaves. -/
def RetFo (w : World) (g gb gt n : Nat) (ps : List (List UInt8)) (T : List Bool) (p : Nat) (rs : List (List UInt8)) (e : Ending) (w' : World) : Prop :=
  Lf w w' gb gt ∧ ((∃ i, freeI T = some i ∧ i < n ∧ e = .returned (.tuple #[.int .u32 i, .int .i64 0]) ∧ DP w' g gb gt n (ps.set p (layL i rs)) ((T.set i true).set p true)) ∨
   (freeI T = none ∧ e = .returned (.tuple #[.int .u32 0, .int .i64 7]) ∧ DP w' g gb gt n (ps.set p (layL 0 rs)) (T.set p true)))
set_option maxRecDepth 100000 in
set_option maxHeartbeats 2000000 in
theorem follow_any {w : World} {g gb gt n : Nat} {ps : List (List UInt8)} {T : List Bool} {A : Option Addr} {c base : Nat} {rs : List (List UInt8)} (h : DP w g gb gt n ps T) (hn : n ≤ 100000) (p : Nat) (hp : p < n) (ho : Own w base (.slice A 512 c) (layL 0 rs)) (hf : Fits rs) (hc : 512 ≤ c) (h1 : gb < base) (h2 : gt < base) :
    Calls Try.prog 26 #[.pointer (some ⟨g, 0, none⟩), .int .u32 p, .slice A 512 c] w (RetFo w g gb gt n ps T p rs) := by
  have hTl := h.hT
  have hpg := lay_page (next := 0) hf
  rcases freeI_cases T with ⟨i, f1, f2, f3⟩ | ⟨f1, f2⟩
  · have hin : i < n := by rw [← hTl]; exact lt_of_at f2
    have TK := Lib.hid (takeDP h (by omega) i f2 f3)
    have HF := Lib.hid (And.intro f1 (And.intro hin hpg))
    have H0 := Lib.hid ho
    clear h ho f1 f2 f3
    go_enter Try.func26, Try.ntmps26
    go_wp2_with fail
    refine TK.out.mono ?_
    rintro e w1 ⟨rfl, lf1⟩
    have L1 : Lf w w1 gb gt := Lf.of_left lf1
    have own1 : Own w1 base (.slice A 512 c) (layL 0 rs) := L1.own H0.out h1 h2
    have LK := Lib.hid (link_ok i (by omega) HF.out.2.2 own1.reads.1 (Nat.le_refl _) (by omega) hc)
    have H1 := Lib.hid (And.intro lf1.1 L1)
    clear lf1 L1 own1
    go_wp2_with fail
    refine LK.out.mono ?_
    rintro e w2 ⟨A2, c2, rfl, own2, hc2, hb2⟩
    have e2 : linkL (layL 0 rs) i = layL i rs := by unfold linkL; rw [lay_C hf]; exact lay_link 0 i rs
    rw [e2] at own2
    obtain ⟨ga, tl, rfl, hga, hblk, _, _⟩ := own2.open_ (by omega)
    have WR := Lib.hid (writeDP (H1.out.1.lower hb2) p hp (by omega) ⟨ga, 0, none⟩ c2 w2.heap.size (layL i rs) own2.reads.1)
    have H2 := Lib.hid (H1.out.2.trans (Lf.of_below (gb := gb) (gt := gt) hb2))
    clear own2 hblk hb2
    go_wp2_with fail
    refine WR.out.mono ?_
    rintro e w3 ⟨rfl, lf3⟩
    have H3 := Lib.hid (And.intro lf3.1 (Lf.of_left lf3))
    clear lf3
    go_wp2
    go_ret2
    exact ⟨H2.out.trans H3.out.2, .inl ⟨i, HF.out.1, HF.out.2.1, rfl, H3.out.1⟩⟩
  · have TK := Lib.hid (take_fullDP h (by omega) (fun j hj => f2 j (by rw [hTl]; exact hj)))
    obtain ⟨ga, tl, rfl, hga, hblk, _, _⟩ := ho.open_ (by omega)
    have WR := Lib.hid (writeDP h p hp (by omega) ⟨ga, 0, none⟩ c w.heap.size (layL 0 rs) ho.reads.1)
    have HF := Lib.hid f1
    clear h ho f1 f2 hblk
    go_enter Try.func26, Try.ntmps26
    go_wp2_with fail
    refine TK.out.mono ?_
    rintro e w1 ⟨rfl, rfl⟩
    go_wp2_with fail
    refine WR.out.mono ?_
    rintro e w3 ⟨rfl, lf3⟩
    have H3 := Lib.hid (And.intro lf3.1 (Lf.of_left lf3))
    clear lf3
    go_wp2
    go_ret2
    exact ⟨H3.out.2, .inr ⟨HF.out, rfl, H3.out.1⟩⟩
end
end Go.Proofs.Ytdimkeoncgjegaa

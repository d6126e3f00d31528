/-
  Several texts in one: L1 L2 L3 L4.
-/
import Derived.Test.YtjlpfhioacphkaaMsbt
import Derived.Test.YtjlpfhioacphkaaMsbd
import Derived.Test.YtjlpfhioacphkaaMsaz
import Derived.Test.YtjlpfhioacphkaaMsbl
import Derived.Test.YtjlpfhioacphkaaMsbj
import Derived.Test.YtjlpfhioacphkaaMsaj
import Derived.Test.YtjlpfhioacphkaaMsao
import Derived.Test.YtjlpfhioacphkaaMsbm
/-
  Books on a disk, plain: what a chain of pages comes to, by its heads, and by all of its pages.
-/
namespace Go.Proofs.Ytjlpfhioacphkaa
section
set_option linter.unusedSimpArgs false
set_option linter.unusedVariables false
open Go.RowKit Go.Maps

/-- A page's bytes may be a sheet. -/
def shOk (q : List UInt8) : Bool := decide (hdC q ≤ 504) && ((decide (hdN q = 0) || decide (504 ≤ hdC q)) && (q.drop (8 + hdC q)).all fun b => b == 0)
/-- What a sheet holds. -/
def shB (q : List UInt8) : List UInt8 := (q.drop 8).take (hdC q)
/-- A page of a book, by its head. -/
def bkHd (q : List UInt8) : Bool := hdOk q && decide (hdK q = 4)
/-- The pages of a chain, by their heads. -/
def chP (ps : List (List UInt8)) : Nat → Nat → Option (List Nat)
  | 0, _ => none
  | f + 1, p => match ps[p]? with
    | none => none
    | some q => if bkHd q = true then (if hdN q = 0 then some [p] else (chP ps f (hdN q)).map (p :: ·)) else none
/-- The bytes of a chain. -/
def chR (ps : List (List UInt8)) : Nat → Nat → List UInt8 → Option (List UInt8)
  | 0, _, _ => none
  | f + 1, p, s => match ps[p]? with
    | none => none
    | some q => if (bkHd q && shOk q) = true then (if hdN q = 0 then some (s ++ shB q) else chR ps f (hdN q) (s ++ shB q)) else none
def pgK (ps : List (List UInt8)) (x : Nat) : List UInt8 := ps.getD x []
theorem pgK_of {ps : List (List UInt8)} {x : Nat} {q : List UInt8} (h : ps[x]? = some q) : pgK ps x = q := by unfold pgK; rw [List.getD_eq_getElem?_getD, h]; rfl
theorem chP_none {ps : List (List UInt8)} {f p : Nat} (h : ps[p]? = none) : chP ps (f + 1) p = none := by rw [chP, h]
theorem chP_no {ps : List (List UInt8)} {f p : Nat} {q : List UInt8} (h : ps[p]? = some q) (hp : bkHd q = false) : chP ps (f + 1) p = none := by rw [chP, h]; simp [hp]
theorem chP_end {ps : List (List UInt8)} {f p : Nat} {q : List UInt8} (h : ps[p]? = some q) (hp : bkHd q = true) (hz : hdN q = 0) : chP ps (f + 1) p = some [p] := by rw [chP, h]; simp [hp, hz]
theorem chP_next {ps : List (List UInt8)} {f p : Nat} {q : List UInt8} (h : ps[p]? = some q) (hp : bkHd q = true) (hz : hdN q ≠ 0) : chP ps (f + 1) p = (chP ps f (hdN q)).map (p :: ·) := by rw [chP, h]; simp [hp, hz]
theorem chR_none {ps : List (List UInt8)} {f p : Nat} {s : List UInt8} (h : ps[p]? = none) : chR ps (f + 1) p s = none := by rw [chR, h]
theorem chR_no {ps : List (List UInt8)} {f p : Nat} {s q : List UInt8} (h : ps[p]? = some q) (hp : (bkHd q && shOk q) = false) : chR ps (f + 1) p s = none := by rw [chR, h]; simp only [hp]; rfl
theorem chR_end {ps : List (List UInt8)} {f p : Nat} {s q : List UInt8} (h : ps[p]? = some q) (hp : (bkHd q && shOk q) = true) (hz : hdN q = 0) : chR ps (f + 1) p s = some (s ++ shB q) := by rw [chR, h]; simp only [hp, hz, if_true]
theorem chR_next {ps : List (List UInt8)} {f p : Nat} {s q : List UInt8} (h : ps[p]? = some q) (hp : (bkHd q && shOk q) = true) (hz : hdN q ≠ 0) : chR ps (f + 1) p s = chR ps f (hdN q) (s ++ shB q) := by rw [chR, h]; simp only [hp, if_true, hz, if_false]
/-- No chain by the heads: no bytes. -/
theorem chR_of_none {ps : List (List UInt8)} : ∀ (f p : Nat) (s : List UInt8), chP ps f p = none → chR ps f p s = none := by
  intro f
  induction f with
  | zero => intros; rfl
  | succ f ih =>
    intro p s h
    rcases hq : ps[p]? with _ | q
    · exact chR_none hq
    rcases hp : bkHd q with _ | _
    · exact chR_no hq (by rw [hp]; rfl)
    by_cases hz : hdN q = 0
    · rw [chP_end hq hp hz] at h; cases h
    · rw [chP_next hq hp hz, Option.map_eq_none_iff] at h
      rcases hs : shOk q with _ | _
      · exact chR_no hq (by rw [hp, hs]; rfl)
      · rw [chR_next hq (by rw [hp, hs]; rfl) hz]
        exact ih _ _ h
/-- A chain whose sheets may be all: their bytes, one behind the other. -/
theorem chR_of_ok {ps : List (List UInt8)} : ∀ (f p : Nat) (s : List UInt8) (l : List Nat), chP ps f p = some l → (∀ x ∈ l, shOk (pgK ps x) = true) → chR ps f p s = some (s ++ l.flatMap fun x => shB (pgK ps x)) := by
  intro f
  induction f with
  | zero => intro p s l h; cases h
  | succ f ih =>
    intro p s l h hall
    rcases hq : ps[p]? with _ | q
    · rw [chP_none hq] at h; cases h
    rcases hp : bkHd q with _ | _
    · rw [chP_no hq hp] at h; cases h
    by_cases hz : hdN q = 0
    · rw [chP_end hq hp hz] at h
      obtain rfl := Option.some.inj h
      have hs := hall p (by simp)
      rw [pgK_of hq] at hs
      rw [chR_end hq (by rw [hp, hs]; rfl) hz]
      simp [pgK_of hq]
    · rw [chP_next hq hp hz, Option.map_eq_some_iff] at h
      obtain ⟨l', h', rfl⟩ := h
      have hs := hall p (by simp)
      rw [pgK_of hq] at hs
      rw [chR_next hq (by rw [hp, hs]; rfl) hz, ih _ _ l' h' (fun x hx => hall x (by simp [hx]))]
      simp [pgK_of hq]
/-- A chain with a sheet that may not be: no bytes. -/
theorem chR_of_bad {ps : List (List UInt8)} : ∀ (f p : Nat) (s : List UInt8) (l : List Nat), chP ps f p = some l → (∃ x ∈ l, shOk (pgK ps x) = false) → chR ps f p s = none := by
  intro f
  induction f with
  | zero => intro p s l h; cases h
  | succ f ih =>
    intro p s l h hbad
    rcases hq : ps[p]? with _ | q
    · exact chR_none hq
    rcases hp : bkHd q with _ | _
    · exact chR_no hq (by rw [hp]; rfl)
    rcases hs : shOk q with _ | _
    · exact chR_no hq (by rw [hp, hs]; rfl)
    by_cases hz : hdN q = 0
    · rw [chP_end hq hp hz] at h
      obtain rfl := Option.some.inj h
      obtain ⟨x, hx, hx2⟩ := hbad
      rw [List.mem_singleton] at hx
      subst hx
      rw [pgK_of hq, hs] at hx2
      cases hx2
    · rw [chP_next hq hp hz, Option.map_eq_some_iff] at h
      obtain ⟨l', h', rfl⟩ := h
      rw [chR_next hq (by rw [hp, hs]; rfl) hz]
      obtain ⟨x, hx, hx2⟩ := hbad
      refine ih _ _ l' h' ?_
      rcases List.mem_cons.1 hx with rfl | hx
      · rw [pgK_of hq, hs] at hx2; cases hx2
      · exact ⟨x, hx, hx2⟩
/-- Each page of a chain leads to the next one. -/
theorem chP_at {ps : List (List UInt8)} : ∀ (f p : Nat) (l : List Nat), chP ps f p = some l → l[0]? = some p ∧ l.length ≤ f ∧ ∀ (i x : Nat), l[i]? = some x → ∃ q, ps[x]? = some q ∧ bkHd q = true ∧ ((i + 1 < l.length ∧ l[i + 1]? = some (hdN q)) ∨ (i + 1 = l.length ∧ hdN q = 0)) := by
  intro f
  induction f with
  | zero => intro p l h; cases h
  | succ f ih =>
    intro p l h
    rcases hq : ps[p]? with _ | q
    · rw [chP_none hq] at h; cases h
    rcases hp : bkHd q with _ | _
    · rw [chP_no hq hp] at h; cases h
    by_cases hz : hdN q = 0
    · rw [chP_end hq hp hz] at h
      obtain rfl := Option.some.inj h
      refine ⟨rfl, by simp, fun i x hx => ?_⟩
      rcases i with _ | i
      · obtain rfl : p = x := Option.some.inj hx
        exact ⟨q, hq, hp, .inr ⟨rfl, hz⟩⟩
      · cases hx
    · rw [chP_next hq hp hz, Option.map_eq_some_iff] at h
      obtain ⟨l', h', rfl⟩ := h
      obtain ⟨k1, k2, k3⟩ := ih _ _ h'
      refine ⟨rfl, by simp; omega, fun i x hx => ?_⟩
      rcases i with _ | i
      · obtain rfl : p = x := Option.some.inj hx
        refine ⟨q, hq, hp, .inl ⟨?_, k1⟩⟩
        have := lt_of_at k1
        simp; omega
      · obtain ⟨q', g1, g2, g3⟩ := k3 i x hx
        refine ⟨q', g1, g2, ?_⟩
        rcases g3 with ⟨g3, g4⟩ | ⟨g3, g4⟩
        · exact .inl ⟨by simp; omega, g4⟩
        · exact .inr ⟨by simp; omega, g4⟩
theorem hdN_lt4 (q : List UInt8) : hdN q < 4294967296 := by
  have := beVal_lt_of (l := (q.drop 4).take 4) (n := 4) (by simp; omega)
  unfold hdN
  omega
end
end Go.Proofs.Ytjlpfhioacphkaa
/-
  Books on a disk: what the chain has in hand: the pool, its pages, its sheets.
-/
namespace Go.Proofs.Ytjlpfhioacphkaa
section
set_option linter.unusedSimpArgs false
set_option linter.unusedVariables false
open Go.RowKit Go.Maps

/-- A sheet of the program's: its page, its bytes' block and capacity. -/
structure ShIt where
  p : Nat
  a : Nat
  c : Nat
def shC (ps : List (List UInt8)) (x : ShIt) : List Value := [.int .u8 4, .int .u16 (hdC (pgK ps x.p) : Int), .int .u32 (hdN (pgK ps x.p) : Int), .slice (some ⟨x.a, 8, none⟩) 504 (x.c - 8)]
def shV (ps : List (List UInt8)) (l : List ShIt) : List Value := l.flatMap (shC ps)
def pnV (l : List Nat) : List Value := l.map fun (x : Nat) => Value.int .u32 (x : Int)
theorem shV_snoc (ps : List (List UInt8)) (l : List ShIt) (x : ShIt) : shV ps (l ++ [x]) = shV ps l ++ shC ps x := by simp [shV]
theorem pnV_snoc (l : List Nat) (x : Nat) : pnV (l ++ [x]) = pnV l ++ [.int .u32 (x : Int)] := by simp [pnV]
theorem shV_len (ps : List (List UInt8)) (l : List ShIt) : (shV ps l).length = l.length * 4 := flat_len _ 4 l (by simp [shC])
def ShOk (w : World) (base : Nat) (ps : List (List UInt8)) (l : List ShIt) : Prop := ∀ x ∈ l, Own w base (.slice (some ⟨x.a, 0, none⟩) 512 x.c) (pgK ps x.p) ∧ 512 ≤ x.c ∧ base ≤ x.a
theorem Try.infoPg : (Try.prog.info? 53).map (fun i => (i.zero, i.size, i.bytes)) = some (some (.int .u32 0), 1, 4) := by kernel_rfl
theorem Try.infoSh : (Try.prog.info? 93).map (fun i => (i.zero, i.size, i.bytes)) = some (some (.agg #[.int .u8 0, .int .u16 0, .int .u32 0, .slice none 0 0]), 4, 32) := by kernel_rfl
theorem row_stays {w w' : World} {base : Nat} {e : TypeId} {size n : Nat} {v : Value} {xs : List Value} (h : w.ownsRow base e size v n xs) (he : ∀ g cs, v.ownBlock = some g → Blk w g e cs → w'.heap[g]? = w.heap[g]?) : w'.ownsRow base e size v n xs := by
  refine ⟨h.1, ?_⟩
  rcases h.2 with hn | ⟨g, cap, cur, rfl, hb, hgg, rest⟩
  · exact .inl hn
  · refine .inr ⟨g, cap, cur, rfl, hb, ?_, rest⟩
    rw [he g cur rfl hgg]
    exact hgg
theorem row_blk {w : World} {base : Nat} {e : TypeId} {size n g : Nat} {v : Value} {xs : List Value} (h : w.ownsRow base e size v n xs) (hv : v.ownBlock = some g) : ∃ cs, Blk w g e cs := by
  rcases h.2 with ⟨rfl, _⟩ | ⟨g', cap, cur, rfl, hb, hgg, rest⟩
  · cases hv
  · injection hv with hv
    subst hv
    exact ⟨cur, hgg⟩
/-- Only blocks of a kind change. -/
structure ChgT (t : TypeId) (w w' : World) : Prop where
  size : w.heap.size ≤ w'.heap.size
  heap : ∀ g, (∀ cs, ¬ Blk w g t cs) → g < w.heap.size → w'.heap[g]? = w.heap[g]?
theorem ChgT.blk {t : TypeId} {w w' : World} (h : ChgT t w w') {g : Nat} {t2 : TypeId} {cs : Array Value} (hb : Blk w g t2 cs) (h1 : t2 ≠ t) : Blk w' g t2 cs :=
  (h.heap g (fun cs' h' => hb.ne_ h' h1 rfl) hb.lt).trans hb
theorem ChgT.own {t : TypeId} {w w' : World} (h : ChgT t w w') {base : Nat} {v : Value} {l : List UInt8} (ho : Own w base v l) (h1 : 5 ≠ t) : Own w' base v l :=
  ho.stays fun g cs _ hb => h.heap g (fun cs' h' => hb.ne_ h' h1 rfl) hb.lt
theorem ChgT.row {t : TypeId} {w w' : World} (h : ChgT t w w') {base : Nat} {e : TypeId} {size n : Nat} {v : Value} {xs : List Value} (ho : w.ownsRow base e size v n xs) (h1 : e ≠ t) : w'.ownsRow base e size v n xs :=
  row_stays ho fun g cs _ hb => h.heap g (fun cs' h' => hb.ne_ h' h1 rfl) hb.lt
/-- A row of one's own grows: blocks of its kind change alone. -/
theorem ChgT.push {w w' : World} {base : Nat} {e : TypeId} {size n : Nat} {v : Value} {xs : List Value} {o : Obj} (ho : w.ownsRow base e size v n xs) (kp : (w.alloc o).grownBy w' v.ownBlock) : ChgT e w w' := by
  have hz : (w.alloc o).heap.size ≤ w'.heap.size := kp.size
  refine ⟨by simp at hz; omega, fun g h1 hg => ?_⟩
  rw [kp.block g (by simp; omega) fun e' => ?_, Below.heap_alloc _ _ _ hg]
  obtain ⟨cs, hcs⟩ := row_blk ho e'.symm
  exact h1 cs hcs
theorem below_push {w w' : World} {base B : Nat} {e : TypeId} {size n : Nat} {v : Value} {xs : List Value} {o : Obj} (ho : w.ownsRow base e size v n xs) (kp : (w.alloc o).grownBy w' v.ownBlock) (h1 : B ≤ base) (h2 : B ≤ w.heap.size) : Below B w w' :=
  ((Below.refl B w).alloc h2 o).grown kp (by simp; omega) (fun g e => by have := (World.ownsRow.lt ho g e).1; omega)
section
variable {w0 W W' : World} {lo gp gd gb gt n : Nat} {ps : List (List UInt8)} {T : List Bool} {gm size : Nat} {K0 : List Fr} {m : Nat} {P : List Nat} {acc : List ShIt} {u v : Value}
structure CS (w0 : World) (lo gp gd gb gt n : Nat) (ps : List (List UInt8)) (T : List Bool) (gm size : Nat) (K0 : List Fr) (m : Nat) (P : List Nat) (acc : List ShIt) (u v : Value) (W : World) : Prop where
  pool : ∃ K D rd ht, PS W lo gp gd gb gt n ps T gm size K D rd ht ∧ rd ≤ m ∧ ht ≤ m ∧ ∀ (j : Nat) (f : Fr), K[j]? = some f → (∃ i : Nat, K0[i]? = some f) ∨ w0.heap.size ≤ f.g
  turn : Turn w0 W lo gp gm K0
  pages : W.ownsRow w0.heap.size 53 1 u P.length (pnV P)
  sheets : W.ownsRow w0.heap.size 93 4 v acc.length (shV ps acc)
  ok : ShOk W w0.heap.size ps acc
  lo : lo ≤ w0.heap.size
theorem CS.below (h : CS w0 lo gp gd gb gt n ps T gm size K0 m P acc u v W) (hb : Below W.heap.size W W') : CS w0 lo gp gd gb gt n ps T gm size K0 m P acc u v W' := by
  obtain ⟨K, D, rd, ht, h1, h2, h3, h4⟩ := h.pool
  exact ⟨⟨K, D, rd, ht, h1.below hb, h2, h3, h4⟩, h.turn.more hb h.lo, own_kept_below h.pages hb, own_kept_below h.sheets hb, fun x hx => ⟨(h.ok x hx).1.below hb, (h.ok x hx).2⟩, h.lo⟩
theorem CS.sz_ (h : CS w0 lo gp gd gb gt n ps T gm size K0 m P acc u v W) : w0.heap.size ≤ W.heap.size := h.turn.size
theorem CS.pgs (h : CS w0 lo gp gd gb gt n ps T gm size K0 m P acc u v W) : Calls Try.prog 45 #[.pointer (some ⟨gp, 0, none⟩)] W fun e w' => e = .returned (.int .i64 n) ∧ W = w' := by
  obtain ⟨K, D, rd, ht, h1, _⟩ := h.pool
  exact pages_any h1
theorem CS.pn (h : CS w0 lo gp gd gb gt n ps T gm size K0 m P acc u v W) : ps.length = n ∧ Full ps := by
  obtain ⟨K, D, rd, ht, h1, _⟩ := h.pool
  exact ⟨h1.dk.hp, h1.dk.full⟩
theorem CS.head (h : CS w0 lo gp gd gb gt n ps T gm size K0 m P acc u v W) (hn : n ≤ 1000) (hm : m ≤ 900000) (p : Nat) (hp : p ≤ 4294967295) (k : Int) :
    Calls Try.prog 44 #[.pointer (some ⟨gp, 0, none⟩), .int .u32 p, .int .u8 k] W fun e W' => CS w0 lo gp gd gb gt n ps T gm size K0 (m + 1) P acc u v W' ∧ W.heap.size ≤ W'.heap.size ∧
      ((n ≤ p ∧ e = .returned (.tuple #[hd0, .slice none 0 0, .int .i64 8])) ∨
       (∃ q, ps[p]? = some q ∧ (hdOk q = false ∨ (hdK q : Int) ≠ k) ∧ e = .returned (.tuple #[hd0, .slice none 0 0, .int .i64 2])) ∨
       (∃ q A c, ps[p]? = some q ∧ hdOk q = true ∧ (hdK q : Int) = k ∧ e = .returned (.tuple #[hdV q, .slice A 512 c, .int .i64 0]) ∧ Own W' W.heap.size (.slice A 512 c) q)) := by
  obtain ⟨K, D, rd, ht, h1, h2, h3, h4⟩ := h.pool
  have hlo : lo ≤ W.heap.size := Nat.le_trans h.lo h.turn.size
  refine (headv_any h1 p k hp hn m (by omega) h2 h3 hlo).mono ?_
  rintro e W' ⟨⟨K', D', rd', ht', p1, p2, p3, p4⟩, tn, hc⟩
  have row : ∀ {base : Nat} {e : TypeId} {sz k : Nat} {v : Value} {xs : List Value}, W.ownsRow base e sz v k xs → e ≠ 88 → e ≠ 80 → W'.ownsRow base e sz v k xs := fun ho e1 e2 =>
    row_stays ho fun g cs _ hb => tn.heap g hb.lt (hb.ne_ h1.rg.pool e1) (h1.mp.ne_ hb) (fun j f hj => hb.ne_ (h1.rg.fr j f hj).1 e2)
  refine ⟨⟨⟨K', D', rd', ht', p1, p2, p3, fun j f hj => ?_⟩, h.turn.trans tn fun j f hj => h4 j f hj, row h.pages (by decide) (by decide), row h.sheets (by decide) (by decide), fun x hx => ⟨h1.turn_own tn (h.ok x hx).1, (h.ok x hx).2⟩, h.lo⟩, tn.size, hc⟩
  rcases p4 j f hj with ⟨i, hi⟩ | hi
  · exact h4 i f hi
  · exact .inr (Nat.le_trans h.turn.size hi)
theorem CS.pushP (h : CS w0 lo gp gd gb gt n ps T gm size K0 m P acc u v W) {p : Nat} {u' : Value} {o : Obj} (ho : W'.ownsRow w0.heap.size 53 1 u' (P.length + 1) (pnV P ++ [.int .u32 (p : Int)])) (kp : (W.alloc o).grownBy W' u.ownBlock) :
    CS w0 lo gp gd gb gt n ps T gm size K0 m (P ++ [p]) acc u' v W' ∧ ChgT 53 W W' := by
  obtain ⟨K, D, rd, ht, h1, h2, h3, h4⟩ := h.pool
  have hc := ChgT.push h.pages kp
  have hb := below_push h.pages kp (Nat.le_refl _) h.sz_
  refine ⟨⟨⟨K, D, rd, ht, h1.keep 53 53 (fun g a _ c => hc.heap g a c) (fun t e => by rcases e with rfl | rfl <;> decide), h2, h3, h4⟩, h.turn.base hb h.lo, by rw [pnV_snoc, List.length_append]; exact ho, hc.row h.sheets (by decide), fun y hy => ⟨hc.own (h.ok y hy).1 (by decide), (h.ok y hy).2⟩, h.lo⟩, hc⟩
theorem CS.pushS (h : CS w0 lo gp gd gb gt n ps T gm size K0 m P acc u v W) {x : ShIt} {v' : Value} {o : Obj} (ho : W'.ownsRow w0.heap.size 93 4 v' (acc.length + 1) (shV ps acc ++ shC ps x)) (kp : (W.alloc o).grownBy W' v.ownBlock)
    (hx : Own W w0.heap.size (.slice (some ⟨x.a, 0, none⟩) 512 x.c) (pgK ps x.p) ∧ 512 ≤ x.c ∧ w0.heap.size ≤ x.a) : CS w0 lo gp gd gb gt n ps T gm size K0 m P (acc ++ [x]) u v' W' ∧ ChgT 93 W W' := by
  obtain ⟨K, D, rd, ht, h1, h2, h3, h4⟩ := h.pool
  have hc := ChgT.push h.sheets kp
  have hb := below_push h.sheets kp (Nat.le_refl _) h.sz_
  refine ⟨⟨⟨K, D, rd, ht, h1.keep 93 93 (fun g a _ c => hc.heap g a c) (fun t e => by rcases e with rfl | rfl <;> decide), h2, h3, h4⟩, h.turn.base hb h.lo, hc.row h.pages (by decide), by rw [shV_snoc, List.length_append]; exact ho, fun y hy => ?_, h.lo⟩, hc⟩
  rcases List.mem_append.1 hy with h5 | h5
  · exact ⟨hc.own (h.ok y h5).1 (by decide), (h.ok y h5).2⟩
  · rw [List.mem_singleton] at h5; subst h5; exact ⟨hc.own hx.1 (by decide), hx.2⟩
end
end
end Go.Proofs.Ytjlpfhioacphkaa
/-
  Books on a disk: the program's chain.
-/
namespace Go.Proofs.Ytjlpfhioacphkaa
section
set_option linter.unusedSimpArgs false
set_option linter.unusedVariables false
open Go.RowKit Go.Maps

/-- What the chain leaves. -/
def RetCh (w : World) (lo gp gm n : Nat) (ps : List (List UInt8)) (K : List Fr) (e : Ending) (w' : World) : Prop :=
  Turn w w' lo gp gm K ∧
  ((chP ps n 0 = none ∧ ∃ E : Int, E ≠ 0 ∧ e = .returned (.tuple #[.slice none 0 0, .slice none 0 0, .int .i64 E])) ∨
   (∃ (acc : List ShIt) (A : Option Addr) (c : Nat) (A2 : Option Addr) (c2 : Nat), chP ps n 0 = some (acc.map ShIt.p) ∧ e = .returned (.tuple #[.slice A acc.length c, .slice A2 acc.length c2, .int .i64 0]) ∧
     w'.ownsRow w.heap.size 53 1 (.slice A acc.length c) acc.length (pnV (acc.map ShIt.p)) ∧ w'.ownsRow w.heap.size 93 4 (.slice A2 acc.length c2) acc.length (shV ps acc) ∧ ShOk w' w.heap.size ps acc))
def lenOf : Value → Nat
  | .slice _ k _ => k
  | _ => 0
section
variable {w : World} {lo gp gd gb gt n : Nat} {ps : List (List UInt8)} {T : List Bool} {gm size : Nat} {K : List Fr} {D : DataW Unit} {rd ht : Nat}
set_option maxRecDepth 100000 in
set_option maxHeartbeats 8000000 in
theorem chain_any (h : PS w lo gp gd gb gt n ps T gm size K D 0 0) (hlo : lo ≤ w.heap.size) (hn : n ≤ 1000) :
    Calls Try.prog 23 #[.pointer (some ⟨gp, 0, none⟩)] w (RetCh w lo gp gm n ps K) := by
  obtain ⟨i0, hi0, hz0, hs0, hy0⟩ := int_info8 Try.infoPg
  obtain ⟨i1, hi1, hz1, hs1, hy1⟩ := int_info8 Try.infoSh
  obtain ⟨R, hR⟩ : ∃ R, chP ps n 0 = R := ⟨_, rfl⟩
  have HR := Lib.hid hR
  have H0 : Hid (CS w lo gp gd gb gt n ps T gm size K 0 [] [] (.slice none 0 0) (.slice none 0 0) w) := Lib.hid ⟨⟨K, D, 0, 0, h, Nat.le_refl _, Nat.le_refl _, fun j f hj => .inl ⟨j, hj⟩⟩, Turn.refl _ _ _ _ _, ⟨rfl, .inl ⟨rfl, rfl⟩⟩, ⟨rfl, .inl ⟨rfl, rfl⟩⟩, fun x hx => (by cases hx), hlo⟩
  unfold RetCh
  rw [hR]
  clear hR h hlo
  go_enter Try.func23, Try.ntmps23
  go_wp2
  go_loopw [5, 6, 7] (fun u5 u6 u7 wr => ∃ (f p : Nat) (acc : List ShIt) (A5 : Option Addr) (c5 : Nat) (A6 : Option Addr) (c6 : Nat), u5 = .slice A5 acc.length c5 ∧ u6 = .slice A6 acc.length c6 ∧ u7 = .int .u32 p ∧ f + acc.length = n ∧ p ≤ 4294967295 ∧ CS w lo gp gd gb gt n ps T gm size K acc.length (acc.map ShIt.p) acc (.slice A5 acc.length c5) (.slice A6 acc.length c6) wr ∧ (chP ps f p).map (fun l => acc.map ShIt.p ++ l) = R) (fun u5 _ _ _ => n + 1 - lenOf u5)
  case atStart => exact ⟨n, 0, [], none, 0, none, 0, rfl, rfl, rfl, by simp, by omega, H0.out, by rw [HR.out]; cases R <;> rfl⟩
  case round =>
    obtain ⟨wo, rfl⟩ : ∃ wo : World, wo = wr := ⟨_, rfl⟩
    obtain ⟨f, p, acc, A5, c5, A6, c6, rfl, rfl, rfl, hfk, hp, hcs, hout⟩ := hrel
    obtain ⟨k, hk⟩ : ∃ k, acc.length = k := ⟨_, rfl⟩
    have HK := Lib.hid hk
    rw [hk] at hcs hfk ⊢
    have hkn : k ≤ n := by omega
    have hzw := hcs.sz_
    have HD := Lib.hid (hcs.head hn (by omega) p hp 4)
    have HO := Lib.hid hout
    clear hcs hout hk
    go_wp2_with fail
    refine HD.out.mono ?_
    rintro e w1 ⟨cs1, hz1', hc⟩
    rcases hc with ⟨hpn, rfl⟩ | ⟨q, hq, hbad, rfl⟩ | ⟨q, A, c, hq, hok, hkk, rfl, own1⟩
    · have hqn : ps[p]? = none := List.getElem?_eq_none (by rw [cs1.pn.1]; exact hpn)
      have hRe : R = none := by
        rw [← HO.out]
        cases f with
        | zero => rfl
        | succ f => rw [chP_none hqn]; rfl
      have H1 := Lib.hid (And.intro cs1 hRe)
      unfold hd0
      clear cs1 hqn hRe HD
      go_wp2
      go_ret3
      exact ⟨(H1.out.1.below (ball (Below.refl _ _) _)).turn, .inl ⟨H1.out.2, 8, by decide, rfl⟩⟩
    · have hRe : R = none := by
        rw [← HO.out]
        cases f with
        | zero => rfl
        | succ f => 
          rw [chP_no hq (by unfold bkHd; rcases hbad with h | h; rw [h]; rfl; rw [Bool.and_eq_false_iff]; right; simp; omega)]
          rfl
      have H1 := Lib.hid (And.intro cs1 hRe)
      unfold hd0
      clear cs1 hRe hbad hq HD
      go_wp2
      go_ret3
      exact ⟨(H1.out.1.below (ball (Below.refl _ _) _)).turn, .inl ⟨H1.out.2, 2, by decide, rfl⟩⟩
    · have hb : bkHd q = true := by unfold bkHd; rw [hok, Bool.true_and, decide_eq_true_eq]; omega
      have hv : hdV q = .agg #[.int .u8 4, .int .u16 (hdC q : Int), .int .u32 (hdN q : Int)] := by unfold hdV; rw [hok, if_pos rfl, hkk]
      have hnx := hdN_lt4 q
      have hpg := pgK_of hq
      rw [hv]
      obtain ⟨C, hC⟩ : ∃ C, hdC q = C := ⟨_, rfl⟩
      obtain ⟨N, hN⟩ : ∃ N, hdN q = N := ⟨_, rfl⟩
      rw [hC, hN]
      rw [hN] at hnx
      obtain ⟨g, tl, rfl, hgw, hblk, htl, hcm⟩ := own1.open_ (by omega)
      have hc5 : 512 ≤ c := by obtain ⟨A', c', e', h'⟩ := own_form own1; injection e' with _ _ e'; omega
      have hX := Blk.new w1 55 #[.int .u8 4, .int .u16 (C : Int), .int .u32 (N : Int)]
      have cs2 := cs1.below (ball (Below.refl w1.heap.size w1) (.cells #[.int .u8 4, .int .u16 (C : Int), .int .u32 (N : Int)] 55))
      have own2 := own1.below (ball (Below.refl w1.heap.size w1) (.cells #[.int .u8 4, .int .u16 (C : Int), .int .u32 (N : Int)] 55))
      obtain ⟨W2, hW2⟩ : ∃ W2, w1.alloc (.cells #[.int .u8 4, .int .u16 (C : Int), .int .u32 (N : Int)] 55) = W2 := ⟨_, rfl⟩
      have CR := cut_row g 512 c 8 .i64 8 rfl (by omega) (by omega)
      have PG : Hid (∀ W, CS w lo gp gd gb gt n ps T gm size K (k + 1) (acc.map ShIt.p) acc (.slice A5 k c5) (.slice A6 k c6) W → Calls Try.prog 45 #[.pointer (some ⟨gp, 0, none⟩)] W fun e w' => e = .returned (.int .i64 n) ∧ W = w') := Lib.hid fun W hW => hW.pgs
      have HQ := Lib.hid (And.intro hq (And.intro hb (And.intro hpg (And.intro hC hN))))
      have H1 := Lib.hid cs1
      clear cs1 hblk htl hcm own1 hq hb hv hok hkk hpg hC hN HD
      by_cases hf0 : f = 0
      · subst hf0
        have hRe : R = none := by rw [← HO.out]; rfl
        have e1 : ((k : Int) == (n : Int)) = true := by simp; omega
        have HRe := Lib.hid hRe
        clear hRe
        go_wp2_with fail
        rw [hW2] at cs2 hX own2
        have HC := Lib.hid cs2
        refine (PG.out _ cs2).mono ?_
        rintro e w2 ⟨rfl, rfl⟩
        clear cs2 hX own2
        go_wp2
        go_ret3
        exact ⟨HC.out.turn, .inl ⟨HRe.out, 2, by decide, rfl⟩⟩
      · obtain ⟨f, rfl⟩ : ∃ g, f = g + 1 := ⟨f - 1, by omega⟩
        have e1 : ((k : Int) == (n : Int)) = false := by simp; omega
        rw [hW2] at cs2 hX own2
        have hzg : w1.heap.size < W2.heap.size := hX.lt
        have pg2 : W2.ownsRow w.heap.size 53 1 (.slice A5 k c5) k (pnV (acc.map ShIt.p)) := by have := cs2.pages; rwa [List.length_map, HK.out] at this
        have hws := cs2.sz_
        have H2 := Lib.hid (And.intro cs2 (And.intro hX (And.intro own2 pg2)))
        clear cs2 hX own2 pg2
        go_wp2_with fail
        refine (PG.out _ H2.out.1).mono ?_
        rintro e w2 ⟨rfl, rfl⟩
        go_wp2_with (at_builtin; refine wpList_pushR (news := [.int .u32 (p : Int)]) rfl (.tmp 26) (.tmp 28) 41 rfl w.heap.size 53 i0 _ 1 4 Try.underlying41 hi0 hz0 hs0 hy0 rfl (by decide) (.slice A5 k c5) k _ (by first | rfl | (simp [Act.eval, Act.put]; done)) H2.out.2.2.2 rfl _ (by first | rfl | (simp [Act.eval, Act.put]; done)) (by first | rfl | simp) rfl (by intro u hu; rw [List.mem_singleton] at hu; subst hu; rfl) (by omega) (by omega) (by omega) ?_; intro v9 w9 own9 kp9 ob9; obtain ⟨A9, c9, rfl, hc9⟩ := own_form own9; have cs9 := H2.out.1.pushP (p := p) (by rw [List.length_map, HK.out]; exact own9) kp9; have X9 := cs9.2.blk H2.out.2.1 (by decide); have o9 := cs9.2.own H2.out.2.2.1 (by decide); have hz9 := X9.lt; have hs9 := cs9.1.sz_; have r0 : w9.cell? ⟨w1.heap.size, 0, none⟩ = some (.int .u8 4) := X9.cell 0; have r1 : w9.cell? ⟨w1.heap.size, 1, none⟩ = some (.int .u16 (C : Int)) := X9.cell 1; have r2 : w9.cell? ⟨w1.heap.size, 2, none⟩ = some (.int .u32 (N : Int)) := X9.cell 2; have f0 := X9.frozen 0; have f1 := X9.frozen 1; have f2 := X9.frozen 2; have sh9 : w9.ownsRow w.heap.size 93 4 (.slice A6 k c6) k (shV ps acc) := (by have := cs9.1.sheets; rwa [HK.out] at this); have H9 := Lib.hid (And.intro cs9.1 (And.intro X9 (And.intro o9 sh9))); clear own9 kp9 ob9 cs9 X9 o9 sh9)
        have hsc : shC ps ⟨p, g, c⟩ = [.int .u8 4, .int .u16 (C : Int), .int .u32 (N : Int), .slice (some ⟨g, 8, none⟩) 504 (c - 8)] := by
          unfold shC
          simp only [HQ.out.2.2.1, HQ.out.2.2.2.1, HQ.out.2.2.2.2]
        have HSC := Lib.hid hsc
        clear hsc
        have hlen : (acc ++ [(⟨p, g, c⟩ : ShIt)]).length = k + 1 := by rw [List.length_append, HK.out]; rfl
        have HLN := Lib.hid hlen
        clear hlen
        have bd9 : Below w9.heap.size w9 w9.drew := (Below.refl _ _).drew
        have csd := H9.out.1.below bd9
        have HDD := Lib.hid (And.intro csd (And.intro (H9.out.2.1.drew) (And.intro (H9.out.2.2.1.below bd9) (own_kept_below H9.out.2.2.2 bd9))))
        clear csd bd9
        go_region_law (refine step_pushR (w := w9.drew) (news := [.int .u8 4, .int .u16 (C : Int), .int .u32 (N : Int), .slice (some ⟨g, 8, none⟩) 504 (c - 8)]) rfl (.tmp 30) (.tmp 35) 89 rfl w.heap.size 93 i1 _ 4 32 Try.underlying89 hi1 hz1 hs1 hy1 rfl (by decide) (.slice A6 k c6) k _ (by simp [Act.eval, Act.put]) HDD.out.2.2.2 rfl _ (by simp [Act.eval, Act.put]) rfl rfl (by intro u hu; simp only [List.mem_cons, List.not_mem_nil, or_false] at hu; rcases hu with rfl | rfl | rfl | rfl <;> rfl) (by omega) (by omega) hs9 ?_; intro v10 w10 own10 kp10 ob10; obtain ⟨A10, c10, rfl, hc10⟩ := own_form own10)
        all_goals
          have cs10 := HDD.out.1.pushS (v' := .slice A10 (k + 1) c10) (x := ⟨p, g, c⟩) (by rw [HK.out, HSC.out]; exact own10) kp10 ⟨by have h := HDD.out.2.2.1; rw [← HQ.out.2.2.1] at h; exact h.less hzw, hc5, Nat.le_trans hzw hgw⟩
          have X10 := cs10.2.blk HDD.out.2.1 (by decide)
          have H10 := Lib.hid (And.intro cs10.1 X10)
          have y0 : w10.cell? ⟨w1.heap.size, 0, none⟩ = some (.int .u8 4) := X10.cell 0
          have y1 : w10.cell? ⟨w1.heap.size, 1, none⟩ = some (.int .u16 (C : Int)) := X10.cell 1
          have y2 : w10.cell? ⟨w1.heap.size, 2, none⟩ = some (.int .u32 (N : Int)) := X10.cell 2
          clear own10 kp10 ob10 cs10 X10
          by_cases hN0 : N = 0
          · have e2 : ((N : Int) == 0) = true := by simp; omega
            have hRe : R = some ((acc ++ [(⟨p, g, c⟩ : ShIt)]).map ShIt.p) := by
              rw [← HO.out, chP_end HQ.out.1 HQ.out.2.1 (by rw [HQ.out.2.2.2.2]; exact hN0)]
              simp
            have HRe := Lib.hid hRe
            clear hRe
            go_wp2
            go_ret3
            refine ⟨?_, .inr ⟨acc ++ [⟨p, g, c⟩], A9, c9, A10, c10, HRe.out, by rw [HLN.out]; rfl, ?_, ?_, H10.out.1.ok⟩⟩
            · exact H10.out.1.turn
            · rw [HLN.out, List.map_append]
              have h := H10.out.1.pages
              rw [List.length_append, List.length_map, HK.out] at h
              exact h
            · have h := H10.out.1.sheets
              rw [HLN.out] at h ⊢
              exact h
          · have e2 : ((N : Int) == 0) = false := by simp; omega
            have hRe : (chP ps f N).map (fun l => (acc ++ [(⟨p, g, c⟩ : ShIt)]).map ShIt.p ++ l) = R := by
              rw [← HO.out, chP_next HQ.out.1 HQ.out.2.1 (by rw [HQ.out.2.2.2.2]; exact hN0), HQ.out.2.2.2.2, Option.map_map]
              congr 1
              funext l
              simp
            have HRe := Lib.hid hRe
            clear hRe
            go_wp2
            refine ⟨⟨f, N, acc ++ [⟨p, g, c⟩], A9, c9, A10, c10, by rw [HLN.out], by rw [HLN.out], rfl, by rw [HLN.out]; omega, by omega, ?_, HRe.out⟩, by simp [lenOf]; omega⟩
            rw [HLN.out, List.map_append]
            exact H10.out.1
end
end
end Go.Proofs.Ytjlpfhioacphkaa
/-
  Books on a disk: whether a sheet may be.
-/
namespace Go.Proofs.Ytjlpfhioacphkaa
section
set_option linter.unusedSimpArgs false
set_option linter.unusedVariables false
open Go.RowKit Go.Maps

def allNil (l : List UInt8) : Bool := l.all fun b => b == 0
theorem allNil_take {l : List UInt8} {k : Nat} {b : UInt8} (h : l[k]? = some b) : allNil (l.take (k + 1)) = (allNil (l.take k) && b == 0) := by
  unfold allNil
  rw [List.take_add_one, h, List.all_append]
  simp
theorem allNil_no {l : List UInt8} {k : Nat} {b : UInt8} (h : l[k]? = some b) (hb : b ≠ 0) : allNil l = false := by
  unfold allNil
  rw [List.all_eq_false]
  exact ⟨b, List.mem_of_getElem? h, by simpa using hb⟩
set_option maxRecDepth 100000 in
set_option maxHeartbeats 2000000 in
theorem inz_any (A : Option Addr) (n c : Nat) (l : List UInt8) (w : World) (hr : Reads w w.heap.size 1 A n (bL l)) (hn : n ≤ 2199023255552) :
    Calls Try.prog 66 #[.slice A n c, .func (.func 47) #[] #[]] w fun e w' => (∃ r : Int, e = .returned (.int .i64 r) ∧ decide (0 ≤ r) = !(allNil l)) ∧ Below w.heap.size w w' := by
  have hln := hr.bytes_len
  have nI : (n : Int) ≤ 2199023255552 := by omega
  have HR := Lib.hid (And.intro hr hln)
  clear hr hln hn
  go_enter Try.func66, Try.ntmps66
  go_wp2
  go_loopw [8] (fun v wr => ∃ k : Nat, k ≤ n ∧ v = .int .i64 k ∧ Below w.heap.size w wr ∧ allNil (l.take k) = true) (fun v _ => n - (intOf v).toNat)
  case atStart => exact ⟨0, by omega, rfl, Below.refl _ _, rfl⟩
  case round =>
    obtain ⟨k, hk, rfl, hb, hf⟩ := hrel
    have HF := Lib.hid (And.intro hb hf)
    have k0 : (0 : Int) ≤ (k : Int) := by omega
    by_cases hkn : k < n
    · have k1 : (k : Int) < (n : Int) := by omega
      obtain ⟨ad, b, rfl, hab, hl, hc⟩ := (HR.out.1.below hb).byte hkn
      have HL := Lib.hid hl
      clear hb hf hl
      by_cases hb0 : b = 0
      · have e1 : ((b.toNat : Int) != 0) = false := by subst hb0; rfl
        go_wp2
        exact ⟨⟨k + 1, by omega, by go_num, HF.out.1, by rw [allNil_take HL.out, HF.out.2, hb0]; rfl⟩, by simp [intOf]; omega⟩
      · have e1 : ((b.toNat : Int) != 0) = true := by
          have hb1 : b.toNat ≠ 0 := fun h => hb0 (by apply UInt8.toNat_inj.1; rw [h]; rfl)
          simp
          omega
        go_wp2
        go_ret
        exact ⟨⟨_, rfl, by rw [allNil_no HL.out hb0]; simp⟩, HF.out.1⟩
    · obtain rfl : k = n := by omega
      clear hb hf
      go_wp2
      go_ret
      refine ⟨⟨_, rfl, ?_⟩, HF.out.1⟩
      have h := HF.out.2
      rw [List.take_of_length_le (by rw [HR.out.2]; exact Nat.le_refl _)] at h
      rw [h]
      decide
set_option maxRecDepth 100000 in
set_option maxHeartbeats 2000000 in
theorem may_sheet (A : Option Addr) (c : Nat) (q : List UInt8) (w : World) (hr : Reads w w.heap.size 1 A 504 (bL (q.drop 8))) (hc : 504 ≤ c) :
    Calls Try.prog 24 #[.agg #[.int .u8 4, .int .u16 (hdC q : Int), .int .u32 (hdN q : Int), .slice A 504 c]] w (RetB w (.bool (shOk q))) := by
  obtain ⟨C, hC⟩ : ∃ C, hdC q = C := ⟨_, rfl⟩
  obtain ⟨N, hN⟩ : ∃ N, hdN q = N := ⟨_, rfl⟩
  have hCw : C < 65536 := by
    have := beVal_lt_of (l := (q.drop 2).take 2) (n := 2) (by simp; omega)
    rw [← hC]
    unfold hdC
    omega
  rw [hC, hN]
  have hsh : shOk q = (decide (C ≤ 504) && ((decide (N = 0) || decide (504 ≤ C)) && allNil ((q.drop 8).drop C))) := by
    unfold shOk allNil
    rw [hC, hN, List.drop_drop]
  rw [hsh]
  have H0 := Lib.hid hr
  have hb0 := ball (Below.refl w.heap.size w) (.cells #[.int .u8 4, .int .u16 (C : Int), .int .u32 (N : Int), .slice A 504 c] 93)
  have HB := Lib.hid hb0
  have hX := Blk.new w 93 #[.int .u8 4, .int .u16 (C : Int), .int .u32 (N : Int), .slice A 504 c]
  clear hsh hb0
  by_cases h1 : 504 < C
  · have e1 : decide ((504 : Int) < (C : Int)) = true := by simp; omega
    have e2 : decide (C ≤ 504) = false := by simp; omega
    rw [e2]
    clear hr hX
    go_enter Try.func24, Try.ntmps24
    go_wp2
    go_ret
    exact ⟨rfl, (by with_reducible repeat (first | exact Below.refl _ _ | refine Below.drew ?_ | refine bdr ?_ _ | refine ball ?_ _))⟩
  have e1 : decide ((504 : Int) < (C : Int)) = false := by simp; omega
  have e2 : decide (C ≤ 504) = true := by simp; omega
  rw [e2, Bool.true_and]
  clear e2
  have IZ : ∀ (A' : Option Addr) (W : World), Below w.heap.size w W → Reads W w.heap.size 1 A' (504 - C) (bL ((q.drop 8).drop C)) → Calls Try.prog 66 #[.slice A' (504 - C) (c - C), .func (.func 47) #[] #[]] W fun e w' => (∃ r : Int, e = .returned (.int .i64 r) ∧ decide (0 ≤ r) = !(allNil ((q.drop 8).drop C))) ∧ Below W.heap.size W w' := fun A' W hW hrd => inz_any A' (504 - C) (c - C) _ W (hrd.more hW.size) (by omega)
  obtain ⟨A', cu, rd⟩ := cutb_lo (A := A) (n := 504) (c := c) .u16 C (C : Int) rfl (by omega) hc
  have HI := Lib.hid (And.intro IZ rd)
  have CF : Hid (∀ W, Below w.heap.size w W → Calls Try.prog 46 #[.slice A' (504 - C) (c - C), .func (.func 47) #[] #[]] W (RetB W (.bool (!(allNil ((q.drop 8).drop C)))))) := Lib.hid fun W hW => by
    have I2 := Lib.hid (HI.out.1 A' W hW (HI.out.2 _ _ _ (H0.out.below hW)))
    clear HI hr hX e1 cu IZ rd
    go_enter Try.func46, Try.ntmps46
    go_wp2_with fail
    refine I2.out.mono ?_
    rintro e w1 ⟨⟨r, rfl, hrr⟩, hb1⟩
    have HRR := Lib.hid hrr
    clear hrr
    go_wp2
    go_ret
    exact ⟨by rw [← HRR.out]; rfl, hb1⟩
  obtain ⟨Z, hZ⟩ : ∃ Z, allNil ((q.drop 8).drop C) = Z := ⟨_, rfl⟩
  rw [hZ] at CF ⊢
  clear HI IZ rd hr hZ
  by_cases hN0 : N = 0
  · have e3 : ((N : Int) != 0) = false := by simp; omega
    have e4 : decide (N = 0) = true := by simp; omega
    rw [e4, Bool.true_or, Bool.true_and]
    clear e4 hN0
    go_enter Try.func24, Try.ntmps24
    go_wp2_with fail
    refine (CF.out _ HB.out).mono ?_
    rintro e w1 ⟨rfl, hb1⟩
    have HB1 := Lib.hid (bto0 HB.out hb1)
    clear hb1
    go_wp2
    go_ret
    exact ⟨by simp, HB1.out⟩
  have e3 : ((N : Int) != 0) = true := by simp; omega
  have e4 : decide (N = 0) = false := by simp; omega
  rw [e4, Bool.false_or]
  clear e4 hN0
  by_cases h5 : 504 ≤ C
  · have e5 : decide ((C : Int) < 504) = false := by simp; omega
    have e6 : decide (504 ≤ C) = true := by simp; omega
    rw [e6, Bool.true_and]
    clear e6 h5
    go_enter Try.func24, Try.ntmps24
    go_wp2_with fail
    refine (CF.out _ HB.out).mono ?_
    rintro e w1 ⟨rfl, hb1⟩
    have HB1 := Lib.hid (bto0 HB.out hb1)
    clear hb1
    go_wp2
    go_ret
    exact ⟨by simp, HB1.out⟩
  · have e5 : decide ((C : Int) < 504) = true := by simp; omega
    have e6 : decide (504 ≤ C) = false := by simp; omega
    rw [e6, Bool.false_and]
    clear hX e6 h5
    go_enter Try.func24, Try.ntmps24
    go_wp2
    go_ret
    exact ⟨rfl, (by with_reducible repeat (first | exact Below.refl _ _ | refine Below.drew ?_ | refine bdr ?_ _ | refine ball ?_ _))⟩
end
end Go.Proofs.Ytjlpfhioacphkaa

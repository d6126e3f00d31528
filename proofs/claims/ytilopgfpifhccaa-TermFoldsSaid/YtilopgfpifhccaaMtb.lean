/-
  Several texts in one: Ta Tb Gr Vcmp.
-/
import Derived.Test.YtilopgfpifhccaaMta
import Derived.Test.YtilopgfpifhccaaProg
import Derived.Deep.RegionHeld3
import Derived.IntWalk
import Derived.Test.YtilopgfpifhccaaShelf
import Derived.Deep.DrawnRows
import Derived.Deep.QuietTactic
import Derived.BigQuiet
/-
  Terms: as they lie in memory, and as they come in.
-/
namespace Go.Proofs.Ytilopgfpifhccaa
section
set_option linter.unusedSimpArgs false
set_option linter.unusedVariables false
open Go.RowKit Go.ChangeShapes Go.WideShapes Go.Deep

/-- What a term has beside its arguments. -/
structure TmH where
  k : Int
  op : ByteArray
  no : Bool
  v : Vl
  of_ : ByteArray
  nm : ByteArray
  tb : Int
  cl : Int
def TmH.ok (h : TmH) : Prop := (0 ≤ h.k ∧ h.k ≤ 255) ∧ h.op.size ≤ maxLen ∧ h.v.ok ∧ h.of_.size ≤ maxLen ∧ h.nm.size ≤ maxLen ∧ (-9223372036854775808 ≤ h.tb ∧ h.tb ≤ 9223372036854775807) ∧ (-9223372036854775808 ≤ h.cl ∧ h.cl ≤ 9223372036854775807)
/-- A term: where its arguments lie, and what they are. -/
inductive Tm
  | mk (h : TmH) (A : Option Addr) (n c : Nat) (args : List Tm)
def Tm.h : Tm → TmH | .mk h _ _ _ _ => h
def Tm.A : Tm → Option Addr | .mk _ A _ _ _ => A
def Tm.n : Tm → Nat | .mk _ _ n _ _ => n
def Tm.c : Tm → Nat | .mk _ _ _ c _ => c
def Tm.args : Tm → List Tm | .mk _ _ _ _ l => l
def Tm.cells : Tm → List Value
  | .mk h A n c _ => [.int .u8 h.k, .string h.op, .bool h.no, .int .u8 h.v.k, .int .i64 h.v.i, .string h.v.s, .string h.of_, .string h.nm, .int .i64 h.tb, .int .i64 h.cl, .slice A n c]
theorem Tm.len (t : Tm) : t.cells.length = 11 := by cases t; rfl
def vT (l : List Tm) : List Value := l.flatMap Tm.cells
theorem vT_len (l : List Tm) : (vT l).length = l.length * 11 := flat_len _ 11 l fun v _ => v.len
theorem vT_at {l : List Tm} {k : Nat} {v : Tm} (h : l[k]? = some v) (j : Nat) (hj : j < 11) : (vT l)[k * 11 + j]? = v.cells[j]? := flat_at Tm.cells 11 l k v j (fun v _ => v.len) h hj
theorem vT_take {l : List Tm} {k : Nat} {v : Tm} (h : l[k]? = some v) : vT (l.take (k + 1)) = vT (l.take k) ++ v.cells := by
  unfold vT; rw [List.take_add_one, h]; simp [List.flatMap_append]
theorem vT_app (a b : List Tm) : vT (a ++ b) = vT a ++ vT b := by simp [vT]
theorem vT_one (t : Tm) : vT [t] = t.cells := by simp [vT]
theorem cells_oneT (v : Tm) : ∀ u ∈ v.cells, u.oneCell' = true := by
  intro u hu
  obtain ⟨h, A, n, c, l⟩ := v
  simp only [Tm.cells, List.mem_cons, List.not_mem_nil, or_false] at hu
  rcases hu with rfl | rfl | rfl | rfl | rfl | rfl | rfl | rfl | rfl | rfl | rfl <;> rfl
theorem vT_oneCell (l : List Tm) : ∀ u ∈ vT l, u.oneCell' = true := by
  intro u hu
  obtain ⟨t, _, ht⟩ := List.mem_flatMap.1 hu
  exact cells_oneT t u ht
/-- A term's arguments lie in memory that the call knows, theirs too. -/
inductive TmIn (w : World) (B : Nat) : Tm → Prop
  | mk (h : TmH) (A : Option Addr) (n c : Nat) (args : List Tm) (hok : h.ok) (hn : n ≤ c) (hc : c ≤ maxLen) (hr : Reads w B 11 A n (vT args)) (ha : ∀ a ∈ args, TmIn w B a) : TmIn w B (.mk h A n c args)
theorem TmIn.keep {w w' : World} {B : Nat} {t : Tm} (h : TmIn w B t) (hk : ∀ p : Addr, p.block < B → w'.cell? p = w.cell? p) : TmIn w' B t := by
  induction h with
  | mk h A n c args hok hn hc hr ha ih => exact .mk h A n c args hok hn hc (hr.keep hk) ih
theorem TmIn.under {w w' : World} {B : Nat} {t : Tm} (h : TmIn w B t) (hb : Below B w w') : TmIn w' B t := h.keep fun _ hp => hb.cell hp
theorem TmIn.more {w : World} {B B' : Nat} {t : Tm} (h : TmIn w B t) (hB : B ≤ B') : TmIn w B' t := by
  induction h with
  | mk h A n c args hok hn hc hr ha ih => exact .mk h A n c args hok hn hc (hr.more hB) ih
theorem TmIn.hok {w : World} {B : Nat} {t : Tm} (h : TmIn w B t) : t.h.ok := by cases h; assumption
theorem TmIn.nc {w : World} {B : Nat} {t : Tm} (h : TmIn w B t) : t.n ≤ t.c ∧ t.c ≤ maxLen := by cases h; exact ⟨by assumption, by assumption⟩
theorem TmIn.reads {w : World} {B : Nat} {t : Tm} (h : TmIn w B t) : Reads w B 11 t.A t.n (vT t.args) := by cases h; assumption
theorem TmIn.args {w : World} {B : Nat} {t : Tm} (h : TmIn w B t) : ∀ a ∈ t.args, TmIn w B a := by cases h; assumption
theorem TmIn.len {w : World} {B : Nat} {t : Tm} (h : TmIn w B t) : t.args.length = t.n := by
  have := h.reads.1; rw [vT_len] at this; omega
/-- The cells of one that stands at an address. -/
structure AtT (w : World) (ad : Addr) (t : Tm) : Prop where
  c0 : w.cell? ad = some (.int .u8 t.h.k)
  c1 : w.cell? ⟨ad.block, ad.off + 1, none⟩ = some (.string t.h.op)
  c2 : w.cell? ⟨ad.block, ad.off + 2, none⟩ = some (.bool t.h.no)
  c3 : w.cell? ⟨ad.block, ad.off + 3, none⟩ = some (.int .u8 t.h.v.k)
  c4 : w.cell? ⟨ad.block, ad.off + 4, none⟩ = some (.int .i64 t.h.v.i)
  c5 : w.cell? ⟨ad.block, ad.off + 5, none⟩ = some (.string t.h.v.s)
  c6 : w.cell? ⟨ad.block, ad.off + 6, none⟩ = some (.string t.h.of_)
  c7 : w.cell? ⟨ad.block, ad.off + 7, none⟩ = some (.string t.h.nm)
  c8 : w.cell? ⟨ad.block, ad.off + 8, none⟩ = some (.int .i64 t.h.tb)
  c9 : w.cell? ⟨ad.block, ad.off + 9, none⟩ = some (.int .i64 t.h.cl)
  c10 : w.cell? ⟨ad.block, ad.off + 10, none⟩ = some (.slice t.A t.n t.c)
theorem AtT.keep {w w' : World} {ad : Addr} {t : Tm} (h : AtT w ad t) (hk : ∀ p : Addr, p.block = ad.block → w'.cell? p = w.cell? p) : AtT w' ad t := by
  obtain ⟨c0, c1, c2, c3, c4, c5, c6, c7, c8, c9, c10⟩ := h
  have k : ∀ j, w'.cell? ⟨ad.block, j, none⟩ = w.cell? ⟨ad.block, j, none⟩ := fun j => hk ⟨ad.block, j, none⟩ rfl
  exact ⟨(hk ad rfl).trans c0, (k _).trans c1, (k _).trans c2, (k _).trans c3, (k _).trans c4, (k _).trans c5, (k _).trans c6, (k _).trans c7, (k _).trans c8, (k _).trans c9, (k _).trans c10⟩
theorem Reads.tm {w : World} {B : Nat} {A : Option Addr} {n k : Nat} {l : List Tm} (hr : Reads w B 11 A n (vT l)) (hk : k < n) :
    ∃ ad v, A = some ad ∧ ad.block < B ∧ l[k]? = some v ∧ AtT w (ad.add (k * 11)) v := by
  have hl : l.length = n := by have := hr.1; rw [vT_len] at this; omega
  obtain ⟨ad, hA, hb, hc⟩ := hr.2 (by omega)
  have hv : l[k]? = some (l[k]'(by omega)) := List.getElem?_eq_getElem (by omega)
  generalize l[k]'(by omega) = v at hv
  have hcell : ∀ j u, j < 11 → v.cells[j]? = some u → w.cell? (ad.add (k * 11 + j)) = some u := fun j u hj hu => hc (k * 11 + j) u (by rw [vT_at hv j hj]; exact hu)
  obtain ⟨h, A', n', c', args⟩ := v
  refine ⟨ad, _, hA, hb, hv, ?_, ?_, ?_, ?_, ?_, ?_, ?_, ?_, ?_, ?_, ?_⟩
  · have := hcell 0 _ (by omega) rfl
    rw [Nat.add_zero] at this
    exact this
  all_goals rw [field_add _ _ _ (by omega)]
  · exact hcell 1 _ (by omega) rfl
  · exact hcell 2 _ (by omega) rfl
  · exact hcell 3 _ (by omega) rfl
  · exact hcell 4 _ (by omega) rfl
  · exact hcell 5 _ (by omega) rfl
  · exact hcell 6 _ (by omega) rfl
  · exact hcell 7 _ (by omega) rfl
  · exact hcell 8 _ (by omega) rfl
  · exact hcell 9 _ (by omega) rfl
  · exact hcell 10 _ (by omega) rfl
@[reducible] def TmH.agg (h : TmH) (A : Option Addr) (n c : Nat) : Value := .agg #[.int .u8 h.k, .string h.op, .bool h.no, .int .u8 h.v.k, .int .i64 h.v.i, .string h.v.s, .string h.of_, .string h.nm, .int .i64 h.tb, .int .i64 h.cl, .slice A n c]
@[reducible] def Tm.agg (t : Tm) : Value := t.h.agg t.A t.n t.c
def Tm.arr (t : Tm) : Array Value := t.cells.toArray
theorem Tm.agg_cells (t : Tm) : t.agg = .agg t.arr := by cases t; rfl

section
variable {H : Type} {enc : TypeId × Value → H} {P : Program} {w : World} {base : Nat} {spare : Nat → Bool} {held : Bool}
/-- A slice of whatever elements, by its depth. -/
theorem trod_slF {t e : TypeId} {sz n : Nat} {cs : List Value} {y : DataW H × List MemPlace} (E : List Value → Prop) (ht : P.underlying t = some (.slice e)) (hsz : P.cellsOf e = sz) (hs0 : 0 < sz)
    (hE : ∀ m c y, m < n → DataW.trod enc P w base spare held m e c = some y → c.length = sz → E c) (h : DataW.trod enc P w base spare held n t cs = some y) :
    ∃ (A : Option Addr) (len cap : Nat) (L : List (List Value)), cs = [.slice A len cap] ∧ len ≤ cap ∧ cap ≤ maxLen ∧ L.length = len ∧ (∀ c ∈ L, E c ∧ c.length = sz) ∧ Reads w w.heap.size sz A len (L.flatMap id) := by
  rcases DataW.trod_slice ht h with ⟨rfl, _⟩ | ⟨a, len, cap, elems, rest, m, hfuel, rfl, _, hb, hl, hc, hlen, hel, _, _⟩
  · exact ⟨none, 0, 0, [], rfl, Nat.le_refl _, by simp, rfl, by simp, Reads.none_⟩
  · rw [hsz] at hel
    have hrow : ∀ i, i < len → ∃ c y, w.cells? base (a.add (i * sz)) sz = some c ∧ DataW.trod enc P w base spare held m e c = some y := by
      intro i hi
      have h1 := hel i hi
      rw [List.getElem?_eq_getElem (by omega)] at h1
      obtain ⟨c, hc1, hc2⟩ := Option.bind_eq_some_iff.1 h1
      exact ⟨c, _, hc1, hc2⟩
    let g : Nat → List Value := fun i => (w.cells? base (a.add (i * sz)) sz).getD []
    have hg : ∀ i, i < len → ∃ y, w.cells? base (a.add (i * sz)) sz = some (g i) ∧ DataW.trod enc P w base spare held m e (g i) = some y := by
      intro i hi
      obtain ⟨c, y, h1, h2⟩ := hrow i hi
      have : g i = c := by simp only [g, h1, Option.getD_some]
      rw [this]
      exact ⟨y, h1, h2⟩
    have hmem : ∀ c ∈ (List.range len).map g, E c ∧ c.length = sz := by
      intro c hcm
      obtain ⟨i, hi, rfl⟩ := List.mem_map.1 hcm
      obtain ⟨y, h1, h2⟩ := hg i (by simpa using hi)
      have hlen := (World.cells?_some h1).2.1
      exact ⟨hE m _ y (by omega) h2 hlen, hlen⟩
    have hu : ∀ c ∈ (List.range len).map g, (id c).length = sz := fun c hc => (hmem c hc).2
    refine ⟨some a, len, cap, (List.range len).map g, rfl, hl, hc, by simp, hmem, by rw [flat_len id sz _ hu]; simp, fun hpos => ⟨a, rfl, ?_, ?_⟩⟩
    · obtain ⟨y, h1, h2⟩ := hg 0 hpos
      obtain ⟨_, hl0, hcl⟩ := World.cells?_some h1
      have h3 := hcl 0 hs0
      rw [List.getElem?_eq_getElem (by omega)] at h3
      have := cell_block h3
      simpa [block_of_add] using this
    · intro j u hj
      obtain ⟨k, x, r, h1, h2, rfl, h4⟩ := flat_inv id sz _ j u hu hj
      have hk : k < len := by have := lt_of_at h1; simpa using this
      have hx : x = g k := by
        rw [List.getElem?_map, List.getElem?_range hk] at h1
        simpa using h1.symm
      subst hx
      obtain ⟨y, h5, _⟩ := hg k hk
      have h6 := (World.cells?_some h5).2.2 r h4
      rw [add_of_add] at h6
      rw [h6]
      exact h2
theorem tms_of (L : List (List Value)) (hL : ∀ c ∈ L, ∃ v : Tm, c = v.cells ∧ TmIn w w.heap.size v) : ∃ l : List Tm, L = l.map Tm.cells ∧ ∀ v ∈ l, TmIn w w.heap.size v := by
  induction L with
  | nil => exact ⟨[], rfl, by simp⟩
  | cons c r ih =>
    obtain ⟨v, rfl, hv⟩ := hL c (by simp)
    obtain ⟨l, rfl, hl⟩ := ih fun c hc => hL c (by simp [hc])
    exact ⟨v :: l, rfl, by intro u hu; rcases List.mem_cons.1 hu with rfl | hu; exact hv; exact hl u hu⟩
end
end
end Go.Proofs.Ytilopgfpifhccaa
/-
  Terms: contract of the reference's Great.
-/
namespace Go.Proofs.Ytilopgfpifhccaa
section
set_option linter.unusedSimpArgs false
set_option linter.unusedVariables false
open Go.RowKit

/-- Is a term more than is gone through? (f: how deep it is looked at.) -/
def grT : Nat → Int → Tm → Bool
  | 0, _, _ => true
  | f + 1, d, .mk h _ n _ args => if 40 < d ∨ 17 < n ∨ 3000 < h.v.s.size ∨ 100 < h.op.size then true else args.any (grT f (d + 1 + n))
theorem any_take {α : Type} {p : α → Bool} {l : List α} {k : Nat} {v : α} (h : l[k]? = some v) : (l.take (k + 1)).any p = ((l.take k).any p || p v) := by
  rw [List.take_add_one, h]; simp
/-- A term's box. -/
theorem box_at (w : World) (t : Tm) (ty : TypeId) : AtT (w.alloc (.cells t.arr ty)) ⟨w.heap.size, 0, none⟩ t := by
  have h : ∀ j u, t.cells[j]? = some u → (w.alloc (.cells t.arr ty)).cell? ⟨w.heap.size, j, none⟩ = some u := by
    intro j u hu
    rw [World.cell?_alloc_at _ _ _ _ rfl]
    simpa [Tm.arr] using hu
  obtain ⟨hd, A, n, c, l⟩ := t
  exact ⟨h 0 _ rfl, h 1 _ rfl, h 2 _ rfl, h 3 _ rfl, h 4 _ rfl, h 5 _ rfl, h 6 _ rfl, h 7 _ rfl, h 8 _ rfl, h 9 _ rfl, h 10 _ rfl⟩
theorem AtT.under {w w' : World} {ad : Addr} {t : Tm} {B : Nat} (h : AtT w ad t) (hb : Below B w w') (ha : ad.block < B) : AtT w' ad t := h.keep fun p hp => hb.cell (by omega)

set_option maxRecDepth 100000 in
set_option maxHeartbeats 4000000 in
theorem great18_any : ∀ (f : Nat) (d : Int) (t : Tm) (w : World), TmIn w w.heap.size t → 41 ≤ d + f → 0 ≤ d → d ≤ 1000 → Calls Try.prog 6 #[t.agg, .int .i64 d] w (RetB w (.bool (grT f d t))) := by
  intro f
  induction f with
  | zero =>
    intro d t w hin hf h0 h1
    have hd : (40 : Int) < d := by omega
    obtain ⟨⟨k0, op0, no0, ⟨vk0, vi0, vs0⟩, of0, nm0, tb0, cl0⟩, A0, n0, c0, l0⟩ := t
    simp only [Tm.agg, TmH.agg, Tm.h, Tm.A, Tm.n, Tm.c]
    go_enter Try.func6, Try.ntmps6
    go_wp2_with fail
    go_ret
    exact ⟨rfl, by (with_reducible repeat (first | exact Below.refl _ _ | exact hb1 | exact hb1 | refine bto0 ?_ hb1 | refine bto0 ?_ hb1 | refine bdr ?_ _ | refine Below.drew ?_ | refine ball ?_ _))⟩
  | succ f ih =>
    intro d t w hin hf h0 h1
    have hnc := hin.nc
    have hok := hin.hok
    have hin' := hin
    obtain ⟨⟨k0, op0, no0, ⟨vk0, vi0, vs0⟩, of0, nm0, tb0, cl0⟩, A0, n0, c0, l0⟩ := t
    simp only [Tm.h, Tm.A, Tm.n, Tm.c] at hnc hok
    obtain ⟨_, o1, ⟨_, _, o2⟩, _⟩ := hok
    simp only at o1 o2
    unfold maxLen at hnc o1 o2
    have hgr : ∀ b, (if 40 < d ∨ 17 < n0 ∨ 3000 < vs0.size ∨ 100 < op0.size then true else l0.any (grT f (d + 1 + n0))) = b → grT (f + 1) d (Tm.mk ⟨k0, op0, no0, ⟨vk0, vi0, vs0⟩, of0, nm0, tb0, cl0⟩ A0 n0 c0 l0) = b := fun b h => h
    have Hgr := Lib.hid hgr
    clear hgr
    by_cases hc : 40 < d ∨ 17 < n0 ∨ 3000 < vs0.size ∨ 100 < op0.size
    · have hT := Lib.hid (Hgr.out true (by rw [if_pos hc]))
      simp only [Tm.agg, TmH.agg, Tm.h, Tm.A, Tm.n, Tm.c]
      have hc' : 40 < d ∨ (d ≤ 40 ∧ (17 : Int) < (n0 : Int)) ∨ (d ≤ 40 ∧ (n0 : Int) ≤ 17 ∧ (3000 : Int) < (vs0.size : Int)) ∨ (d ≤ 40 ∧ (n0 : Int) ≤ 17 ∧ (vs0.size : Int) ≤ 3000 ∧ (100 : Int) < (op0.size : Int)) := by omega
      clear hin hin' ih hc Hgr
      rcases hc' with h | ⟨h, h2⟩ | ⟨h, h2, h3⟩ | ⟨h, h2, h3, h4⟩
      all_goals
        go_enter Try.func6, Try.ntmps6
        go_wp2_with fail
        go_ret
        exact ⟨by rw [hT.out]; rfl, by (with_reducible repeat (first | exact Below.refl _ _ | exact hb1 | exact hb1 | refine bto0 ?_ hb1 | refine bto0 ?_ hb1 | refine bdr ?_ _ | refine Below.drew ?_ | refine ball ?_ _))⟩
    · have g1 : d ≤ 40 := by omega
      have g2 : (n0 : Int) ≤ 17 := by omega
      have g3 : (vs0.size : Int) ≤ 3000 := by omega
      have g4 : (op0.size : Int) ≤ 100 := by omega
      have hT : Hid (grT (f + 1) d (Tm.mk ⟨k0, op0, no0, ⟨vk0, vi0, vs0⟩, of0, nm0, tb0, cl0⟩ A0 n0 c0 l0) = l0.any (grT f (d + 1 + n0))) := Lib.hid (Hgr.out _ (by rw [if_neg hc]))
      have hl := hin.len
      simp only [Tm.args, Tm.n] at hl
      have Hl := Lib.hid hl
      have hb0 : Below w.heap.size w (w.alloc (.cells #[.int .u8 k0, .string op0, .bool no0, .int .u8 vk0, .int .i64 vi0, .string vs0, .string of0, .string nm0, .int .i64 tb0, .int .i64 cl0, .slice A0 n0 c0] 26)) := ball (Below.refl _ _) _
      have hX := box_at w (Tm.mk ⟨k0, op0, no0, ⟨vk0, vi0, vs0⟩, of0, nm0, tb0, cl0⟩ A0 n0 c0 l0) 26
      have hX' : AtT (w.alloc (.cells #[.int .u8 k0, .string op0, .bool no0, .int .u8 vk0, .int .i64 vi0, .string vs0, .string of0, .string nm0, .int .i64 tb0, .int .i64 cl0, .slice A0 n0 c0] 26)) ⟨w.heap.size, 0, none⟩ (Tm.mk ⟨k0, op0, no0, ⟨vk0, vi0, vs0⟩, of0, nm0, tb0, cl0⟩ A0 n0 c0 l0) := hX
      have hrd := hin.reads
      simp only [Tm.args, Tm.A, Tm.n] at hrd
      have hargs := hin.args
      simp only [Tm.args] at hargs
      have Hih := Lib.hid fun (a : Tm) (W : World) (ha : a ∈ l0) (hb : Below w.heap.size w W) => ih (d + 1 + n0) a W (((hargs a ha).under hb).more hb.size) (by omega) (by omega) (by omega)
      simp only [Tm.agg, TmH.agg, Tm.h, Tm.A, Tm.n, Tm.c]
      clear hin hin' ih hc Hgr hl hX hargs hf
      go_enter Try.func6, Try.ntmps6
      go_wp2_with fail
      obtain ⟨W0, hW0⟩ : ∃ W0, w.alloc (.cells #[.int .u8 k0, .string op0, .bool no0, .int .u8 vk0, .int .i64 vi0, .string vs0, .string of0, .string nm0, .int .i64 tb0, .int .i64 cl0, .slice A0 n0 c0] 26) = W0 := ⟨_, rfl⟩
      have hz0 : w.heap.size < W0.heap.size := by rw [← hW0]; simp
      rw [hW0] at hb0 hX' ⊢
      clear hW0
      go_loopw [30] (fun i wr => ∃ k : Nat, k ≤ n0 ∧ i = .int .i64 k ∧ (l0.take k).any (grT f (d + 1 + n0)) = false ∧ Below W0.heap.size W0 wr) (fun i _ => n0 - (intOf i).toNat)
      case atStart => exact ⟨0, Nat.zero_le _, rfl, rfl, Below.refl _ _⟩
      case round =>
        obtain ⟨k, hk, rfl, hany, hb⟩ := hrel
        have q0 : (0 : Int) ≤ (k : Int) := by omega
        have hbw := bto0 hb0 hb
        have Hany := Lib.hid hany
        clear hany
        by_cases hlt : k < n0
        · have q1 : (k : Int) < (n0 : Int) := by omega
          obtain ⟨ad, v, rfl, hab, hv, hat⟩ := (hrd.below hbw).tm hlt
          have HC := Lib.hid fun W hbW => Hih.out v W (List.mem_of_getElem? hv) hbW
          have hstep := any_take (p := grT f (d + 1 + n0)) hv
          rw [Hany.out, Bool.false_or] at hstep
          have Hstep := Lib.hid hstep
          obtain ⟨b, hbv⟩ : ∃ b, grT f (d + 1 + n0) v = b := ⟨_, rfl⟩
          have hall : Hid (b = true → l0.any (grT f (d + 1 + n0)) = true) := Lib.hid fun hbt => List.any_eq_true.2 ⟨v, List.mem_of_getElem? hv, by rw [hbv]; exact hbt⟩
          rw [hbv] at HC Hstep
          clear hv hstep hbv Hih
          have hXk := hX'.under hb hz0
          obtain ⟨⟨k1, op1, no1, ⟨vk1, vi1, vs1⟩, of1, nm1, tb1, cl1⟩, A1, n1, c1, l1⟩ := v
          obtain ⟨x0, x1, x2, x3, x4, x5, x6, x7, x8, x9, x10⟩ := hXk
          obtain ⟨y0, y1, y2, y3, y4, y5, y6, y7, y8, y9, y10⟩ := hat
          simp only [Tm.agg, TmH.agg, Tm.h, Tm.A, Tm.n, Tm.c, Nat.zero_add] at HC x10 y0 y1 y2 y3 y4 y5 y6 y7 y8 y9 y10
          clear x0 x1 x2 x3 x4 x5 x6 x7 x8 x9
          have hw1 : IntKind.i64.wrap (d + 1) = d + 1 := IntWalk.i64_in _ (by omega)
          have hw2 : IntKind.i64.wrap (d + 1 + (n0 : Int)) = d + 1 + (n0 : Int) := IntWalk.i64_in _ (by omega)
          have hS : Hid (∀ W, Below wr.heap.size wr W → W.cell? ⟨w.heap.size, 10, none⟩ = some (.slice (some ad) n0 c0) ∧ W.cell? (ad.add (k * 11)) = some (.int .u8 k1) ∧ W.cell? ⟨(ad.add (k * 11)).block, (ad.add (k * 11)).off + 1, none⟩ = some (.string op1) ∧ W.cell? ⟨(ad.add (k * 11)).block, (ad.add (k * 11)).off + 2, none⟩ = some (.bool no1) ∧ W.cell? ⟨(ad.add (k * 11)).block, (ad.add (k * 11)).off + 3, none⟩ = some (.int .u8 vk1) ∧ W.cell? ⟨(ad.add (k * 11)).block, (ad.add (k * 11)).off + 4, none⟩ = some (.int .i64 vi1) ∧ W.cell? ⟨(ad.add (k * 11)).block, (ad.add (k * 11)).off + 5, none⟩ = some (.string vs1) ∧ W.cell? ⟨(ad.add (k * 11)).block, (ad.add (k * 11)).off + 6, none⟩ = some (.string of1) ∧ W.cell? ⟨(ad.add (k * 11)).block, (ad.add (k * 11)).off + 7, none⟩ = some (.string nm1) ∧ W.cell? ⟨(ad.add (k * 11)).block, (ad.add (k * 11)).off + 8, none⟩ = some (.int .i64 tb1) ∧ W.cell? ⟨(ad.add (k * 11)).block, (ad.add (k * 11)).off + 9, none⟩ = some (.int .i64 cl1) ∧ W.cell? ⟨(ad.add (k * 11)).block, (ad.add (k * 11)).off + 10, none⟩ = some (.slice A1 n1 c1) ∧ Below wr.heap.size wr W) := by
            refine Lib.hid fun W hW => ⟨(hW.cell ?_).trans x10, (hW.cell ?_).trans y0, (hW.cell ?_).trans y1, (hW.cell ?_).trans y2, (hW.cell ?_).trans y3, (hW.cell ?_).trans y4, (hW.cell ?_).trans y5, (hW.cell ?_).trans y6, (hW.cell ?_).trans y7, (hW.cell ?_).trans y8, (hW.cell ?_).trans y9, (hW.cell ?_).trans y10, hW⟩
            all_goals (have := hb.size; simp only [block_of_add]; omega)
          go_wp2_with fail
          go_region_held3 (fun W => W.cell? ⟨w.heap.size, 10, none⟩ = some (.slice (some ad) n0 c0) ∧ W.cell? (ad.add (k * 11)) = some (.int .u8 k1) ∧ W.cell? ⟨(ad.add (k * 11)).block, (ad.add (k * 11)).off + 1, none⟩ = some (.string op1) ∧ W.cell? ⟨(ad.add (k * 11)).block, (ad.add (k * 11)).off + 2, none⟩ = some (.bool no1) ∧ W.cell? ⟨(ad.add (k * 11)).block, (ad.add (k * 11)).off + 3, none⟩ = some (.int .u8 vk1) ∧ W.cell? ⟨(ad.add (k * 11)).block, (ad.add (k * 11)).off + 4, none⟩ = some (.int .i64 vi1) ∧ W.cell? ⟨(ad.add (k * 11)).block, (ad.add (k * 11)).off + 5, none⟩ = some (.string vs1) ∧ W.cell? ⟨(ad.add (k * 11)).block, (ad.add (k * 11)).off + 6, none⟩ = some (.string of1) ∧ W.cell? ⟨(ad.add (k * 11)).block, (ad.add (k * 11)).off + 7, none⟩ = some (.string nm1) ∧ W.cell? ⟨(ad.add (k * 11)).block, (ad.add (k * 11)).off + 8, none⟩ = some (.int .i64 tb1) ∧ W.cell? ⟨(ad.add (k * 11)).block, (ad.add (k * 11)).off + 9, none⟩ = some (.int .i64 cl1) ∧ W.cell? ⟨(ad.add (k * 11)).block, (ad.add (k * 11)).off + 10, none⟩ = some (.slice A1 n1 c1) ∧ Below wr.heap.size wr W)
            (first | exact hS.out _ (by (with_reducible repeat (first | exact Below.refl _ _ | exact hb1 | refine bto0 ?_ hb1 | refine bdr ?_ _ | refine Below.drew ?_ | refine ball ?_ _))) | assumption)
            (first | (go_at_call 6; (with_reducible refine (HC.out _ (bto0 hbw (by (with_reducible repeat (first | exact Below.refl _ _ | exact hb1 | exact hb1 | refine bto0 ?_ hb1 | refine bto0 ?_ hb1 | refine bdr ?_ _ | refine Below.drew ?_ | refine ball ?_ _))))).mono ?_); rintro e w1 ⟨rfl, hb1⟩))
          have hbb : Below wr.heap.size wr w1 := by (with_reducible repeat (first | exact Below.refl _ _ | exact hb1 | refine bto0 ?_ hb1 | refine bdr ?_ _ | refine Below.drew ?_ | refine ball ?_ _))
          cases b
          · go_wp2
            go_roundw
            case rel => exact ⟨k + 1, by omega, by go_num, Hstep.out, bto0 hb hbb⟩
            case measure => simp [intOf]; omega
          · go_wp2
            go_ret
            exact ⟨by rw [hT.out, hall.out (by first | trivial | rfl)]; rfl, bto0 hbw hbb⟩
        · obtain rfl : k = n0 := by omega
          have hF : Hid (l0.any (grT f (d + 1 + k)) = false) := Lib.hid (by have := Hany.out; rwa [List.take_of_length_le (by rw [Hl.out]; exact Nat.le_refl _)] at this)
          go_wp2
          go_ret
          exact ⟨by rw [hT.out, hF.out]; rfl, hbw⟩
end
end Go.Proofs.Ytilopgfpifhccaa
/-
  More values than are gone through: contract of the reference's Great.
-/
namespace Go.Proofs.Ytilopgfpifhccaa
section
set_option linter.unusedSimpArgs false
set_option linter.unusedVariables false
open Go.RowKit

/-- More than is gone through? -/
def grV : Int → List Vl → Bool
  | _, [] => false
  | n, v :: r => if 5000 < n + (1 + min (v.s.size : Int) 9000) then true else grV (n + (1 + min (v.s.size : Int) 9000)) r
theorem grV_drop {l : List Vl} {k : Nat} {v : Vl} (h : l[k]? = some v) (n : Int) : grV n (l.drop k) = if 5000 < n + (1 + min (v.s.size : Int) 9000) then true else grV (n + (1 + min (v.s.size : Int) 9000)) (l.drop (k + 1)) := by
  have hk := lt_of_at h
  have : l[k] = v := by simpa [List.getElem?_eq_getElem hk] using h
  rw [List.drop_eq_getElem_cons hk, this]
  rfl

set_option maxHeartbeats 1000000 in
theorem great_any (A : Option Addr) (n c : Nat) (l : List Vl) (w : World) (B : Nat) (hr : Reads w B 3 A n (vV l)) (hsz : ∀ v ∈ l, v.s.size ≤ maxLen) (hn : n ≤ maxLen) :
    Calls Try.prog 8 #[.slice A n c] w fun e w' => e = .returned (.bool (grV 0 l)) ∧ w = w' := by
  have hl : l.length = n := by have := hr.1; rw [vV_len] at this; omega
  have Hl := Lib.hid hl; clear hl
  have Hz := Lib.hid hsz; clear hsz
  unfold maxLen at hn
  go_enter Try.func8, Try.ntmps8
  go_wp2
  go_loop [3, 7] (fun m i => ∃ (k : Nat) (q : Int), k ≤ n ∧ i = .int .i64 k ∧ m = .int .i64 q ∧ 0 ≤ q ∧ q ≤ 5000 ∧ grV 0 l = grV q (l.drop k)) (fun _ i => n - (intOf i).toNat)
  case atStart => exact ⟨0, 0, Nat.zero_le _, rfl, rfl, by omega, by omega, rfl⟩
  case round =>
    obtain ⟨k, q, hk, rfl, rfl, hq0, hq1, he⟩ := hrel
    by_cases hlt : k < n
    · obtain ⟨ad, v, rfl, _, hv, _, _, hc2⟩ := hr.val hlt
      have hvz := Hz.out v (List.mem_of_getElem? hv)
      have hd := grV_drop hv q
      unfold maxLen at hvz
      clear hv hr
      by_cases ht : 5000 < q + (1 + min (v.s.size : Int) 9000)
      · rw [if_pos ht] at hd
        have He := Lib.hid (he.trans hd)
        clear he hd
        by_cases h9 : 9000 < (v.s.size : Int)
        · go_wp2
          go_ret
          exact ⟨ret_bool He.out.symm, rfl⟩
        · have ht' : 5000 < q + (1 + (v.s.size : Int)) := by omega
          go_wp2
          go_ret
          exact ⟨ret_bool He.out.symm, rfl⟩
      · rw [if_neg ht] at hd
        have He := Lib.hid (he.trans hd)
        clear he hd
        go_wp2
        go_round
        case rel => exact ⟨k + 1, q + (1 + min (v.s.size : Int) 9000), by omega, by go_num, by first | rfl | exact val_int (by omega), by omega, by omega, He.out⟩
        case measure => simp [intOf]; omega
    · have hd : l.drop k = [] := List.drop_eq_nil_of_le (by rw [Hl.out]; omega)
      rw [hd] at he
      have he2 : grV 0 l = false := he
      have He := Lib.hid he2
      clear he hd he2
      go_wp2
      go_ret
      exact ⟨ret_bool He.out.symm, rfl⟩
end
end Go.Proofs.Ytilopgfpifhccaa
/-
  Contracts of the comparison of two values: the program's, and the reference's.
-/
namespace Go.Proofs.Ytilopgfpifhccaa
section
set_option linter.unusedSimpArgs false
set_option linter.unusedVariables false
open Go.RowKit
attribute [local go_sem ↓] Go.wp_at_zero Go.wp_at_succ

def kd (k : Int) : Int := if 3 < k then 0 else k
def cmpI (x y : Int) : Int := if x < y then -1 else if y < x then 1 else 0
def cmpV (a b : Vl) : Int :=
  if kd a.k = kd b.k then (if a.k = 1 ∨ a.k = 2 then cmpI a.i b.i else if a.k = 3 then Lib.compareBytes a.s.data.toList b.s.data.toList else 0) else cmpI (kd a.k) (kd b.k)
/-- Is one text ahead of another one? -/
def bl : List UInt8 → List UInt8 → Bool
  | _, [] => false
  | [], _ :: _ => true
  | x :: xs, y :: ys => if x = y then bl xs ys else decide (x < y)
def lessS (a b : Vl) : Bool := if a.k = 1 ∨ a.k = 2 then decide (a.i < b.i) else if a.k = 3 then bl a.s.data.toList b.s.data.toList else false
def lessV (a b : Vl) : Bool := if kd a.k = kd b.k then lessS a b else decide (kd a.k < kd b.k)

theorem cmp8_any (x y : Int) (w : World) : Calls Try.prog 79 #[.int .u8 x, .int .u8 y] w fun e w' => e = .returned (.int .i64 (cmpI x y)) ∧ w = w' := by
  unfold cmpI
  by_cases h1 : x < y
  · go_enter Try.func79, Try.ntmps79
    go_wp2
    go_ret
    exact ⟨rfl, rfl⟩
  · by_cases h2 : y < x
    · go_enter Try.func79, Try.ntmps79
      go_wp2
      go_ret
      exact ⟨rfl, rfl⟩
    · go_enter Try.func79, Try.ntmps79
      go_wp2
      go_ret
      exact ⟨rfl, rfl⟩
theorem cmp64_any (x y : Int) (w : World) : Calls Try.prog 80 #[.int .i64 x, .int .i64 y] w fun e w' => e = .returned (.int .i64 (cmpI x y)) ∧ w = w' := by
  unfold cmpI
  by_cases h1 : x < y
  · go_enter Try.func80, Try.ntmps80
    go_wp2
    go_ret
    exact ⟨rfl, rfl⟩
  · by_cases h2 : y < x
    · go_enter Try.func80, Try.ntmps80
      go_wp2
      go_ret
      exact ⟨rfl, rfl⟩
    · go_enter Try.func80, Try.ntmps80
      go_wp2
      go_ret
      exact ⟨rfl, rfl⟩
set_option maxHeartbeats 400000 in
theorem kind_any (k i : Int) (s : ByteArray) (w : World) : Calls Try.prog 78 #[.agg #[.int .u8 k, .int .i64 i, .string s]] w (RetB w (.int .u8 (kd k))) := by
  unfold kd
  by_cases h : 3 < k
  all_goals
    go_enter Try.func78, Try.ntmps78
    go_wp2
    go_ret
    exact ⟨rfl, ball (Below.refl _ _) _⟩

set_option maxHeartbeats 2000000 in
theorem compare_any (a b : Vl) (w : World) : Calls Try.prog 75 #[a.agg, b.agg] w (RetB w (.int .i64 (cmpV a b))) := by
  obtain ⟨ak, ai, ss⟩ := a
  obtain ⟨bk, bi, st⟩ := b
  unfold cmpV Vl.agg
  simp only
  by_cases hk : kd ak = kd bk
  · rw [if_pos hk]
    have hne : (kd ak != kd bk) = false := by simp [hk]
    have hc : (ak = 1 ∨ ak = 2) ∨ ak = 3 ∨ (ak ≠ 1 ∧ ak ≠ 2 ∧ ak ≠ 3) := by omega
    clear hk
    rcases hc with hc | rfl | ⟨n1, n2, n3⟩
    · rw [if_pos hc]
      rcases hc with rfl | rfl
      all_goals
        go_enter Try.func75, Try.ntmps75
        go_wp2_with fail
        refine (kind_any _ _ _ _).mono ?_; rintro e w1 ⟨rfl, hb1⟩
        have z1 : w.heap.size + 1 + 1 ≤ w1.heap.size := by simpa using hb1.size
        have a0 := hb1.cell (p := ⟨w.heap.size, 0, none⟩) (by simp; omega)
        have a1 := hb1.cell (p := ⟨w.heap.size, 1, none⟩) (by simp; omega)
        have a2 := hb1.cell (p := ⟨w.heap.size, 2, none⟩) (by simp; omega)
        have c0 := hb1.cell (p := ⟨w.heap.size + 1, 0, none⟩) (by simp)
        have c1 := hb1.cell (p := ⟨w.heap.size + 1, 1, none⟩) (by simp)
        have c2 := hb1.cell (p := ⟨w.heap.size + 1, 2, none⟩) (by simp)
        go_wp2_with fail
        refine (kind_any _ _ _ _).mono ?_; rintro e w2 ⟨rfl, hb2⟩
        have z2 := hb2.size
        have e0 := hb2.cell (p := ⟨w.heap.size, 0, none⟩) (by show w.heap.size < w1.heap.size; omega)
        have e1 := hb2.cell (p := ⟨w.heap.size, 1, none⟩) (by show w.heap.size < w1.heap.size; omega)
        have e2 := hb2.cell (p := ⟨w.heap.size, 2, none⟩) (by show w.heap.size < w1.heap.size; omega)
        have d0 := hb2.cell (p := ⟨w.heap.size + 1, 0, none⟩) (by show w.heap.size + 1 < w1.heap.size; omega)
        have d1 := hb2.cell (p := ⟨w.heap.size + 1, 1, none⟩) (by show w.heap.size + 1 < w1.heap.size; omega)
        have d2 := hb2.cell (p := ⟨w.heap.size + 1, 2, none⟩) (by show w.heap.size + 1 < w1.heap.size; omega)
        go_wp2_with (first | (go_at_call 80; refine (cmp64_any _ _ _).mono ?_; rintro e w' ⟨rfl, rfl⟩) | (go_at_call 81; refine (Try.strings_Compare _ _ _).mono ?_; rintro e w' ⟨rfl, rfl⟩) | fail)
        go_ret
        exact ⟨rfl, bto0 (bto0 (ball (ball (Below.refl _ _) _) _) hb1) hb2⟩
    · rw [if_neg (by omega), if_pos rfl]
      go_enter Try.func75, Try.ntmps75
      go_wp2_with fail
      refine (kind_any _ _ _ _).mono ?_; rintro e w1 ⟨rfl, hb1⟩
      have z1 : w.heap.size + 1 + 1 ≤ w1.heap.size := by simpa using hb1.size
      have a0 := hb1.cell (p := ⟨w.heap.size, 0, none⟩) (by simp; omega)
      have a1 := hb1.cell (p := ⟨w.heap.size, 1, none⟩) (by simp; omega)
      have a2 := hb1.cell (p := ⟨w.heap.size, 2, none⟩) (by simp; omega)
      have c0 := hb1.cell (p := ⟨w.heap.size + 1, 0, none⟩) (by simp)
      have c1 := hb1.cell (p := ⟨w.heap.size + 1, 1, none⟩) (by simp)
      have c2 := hb1.cell (p := ⟨w.heap.size + 1, 2, none⟩) (by simp)
      go_wp2_with fail
      refine (kind_any _ _ _ _).mono ?_; rintro e w2 ⟨rfl, hb2⟩
      have z2 := hb2.size
      have e0 := hb2.cell (p := ⟨w.heap.size, 0, none⟩) (by show w.heap.size < w1.heap.size; omega)
      have e1 := hb2.cell (p := ⟨w.heap.size, 1, none⟩) (by show w.heap.size < w1.heap.size; omega)
      have e2 := hb2.cell (p := ⟨w.heap.size, 2, none⟩) (by show w.heap.size < w1.heap.size; omega)
      have d0 := hb2.cell (p := ⟨w.heap.size + 1, 0, none⟩) (by show w.heap.size + 1 < w1.heap.size; omega)
      have d1 := hb2.cell (p := ⟨w.heap.size + 1, 1, none⟩) (by show w.heap.size + 1 < w1.heap.size; omega)
      have d2 := hb2.cell (p := ⟨w.heap.size + 1, 2, none⟩) (by show w.heap.size + 1 < w1.heap.size; omega)
      go_wp2_with (first | (go_at_call 80; refine (cmp64_any _ _ _).mono ?_; rintro e w' ⟨rfl, rfl⟩) | (go_at_call 81; refine (Try.strings_Compare _ _ _).mono ?_; rintro e w' ⟨rfl, rfl⟩) | fail)
      go_ret
      exact ⟨rfl, bto0 (bto0 (ball (ball (Below.refl _ _) _) _) hb1) hb2⟩
    · rw [if_neg (by omega), if_neg n3]
      go_enter Try.func75, Try.ntmps75
      go_wp2_with fail
      refine (kind_any _ _ _ _).mono ?_; rintro e w1 ⟨rfl, hb1⟩
      have z1 : w.heap.size + 1 + 1 ≤ w1.heap.size := by simpa using hb1.size
      have a0 := hb1.cell (p := ⟨w.heap.size, 0, none⟩) (by simp; omega)
      have a1 := hb1.cell (p := ⟨w.heap.size, 1, none⟩) (by simp; omega)
      have a2 := hb1.cell (p := ⟨w.heap.size, 2, none⟩) (by simp; omega)
      have c0 := hb1.cell (p := ⟨w.heap.size + 1, 0, none⟩) (by simp)
      have c1 := hb1.cell (p := ⟨w.heap.size + 1, 1, none⟩) (by simp)
      have c2 := hb1.cell (p := ⟨w.heap.size + 1, 2, none⟩) (by simp)
      go_wp2_with fail
      refine (kind_any _ _ _ _).mono ?_; rintro e w2 ⟨rfl, hb2⟩
      have z2 := hb2.size
      have e0 := hb2.cell (p := ⟨w.heap.size, 0, none⟩) (by show w.heap.size < w1.heap.size; omega)
      have e1 := hb2.cell (p := ⟨w.heap.size, 1, none⟩) (by show w.heap.size < w1.heap.size; omega)
      have e2 := hb2.cell (p := ⟨w.heap.size, 2, none⟩) (by show w.heap.size < w1.heap.size; omega)
      have d0 := hb2.cell (p := ⟨w.heap.size + 1, 0, none⟩) (by show w.heap.size + 1 < w1.heap.size; omega)
      have d1 := hb2.cell (p := ⟨w.heap.size + 1, 1, none⟩) (by show w.heap.size + 1 < w1.heap.size; omega)
      have d2 := hb2.cell (p := ⟨w.heap.size + 1, 2, none⟩) (by show w.heap.size + 1 < w1.heap.size; omega)
      go_wp2_with (first | (go_at_call 80; refine (cmp64_any _ _ _).mono ?_; rintro e w' ⟨rfl, rfl⟩) | (go_at_call 81; refine (Try.strings_Compare _ _ _).mono ?_; rintro e w' ⟨rfl, rfl⟩) | fail)
      go_ret
      exact ⟨rfl, bto0 (bto0 (ball (ball (Below.refl _ _) _) _) hb1) hb2⟩
  · rw [if_neg hk]
    have hne : (kd ak != kd bk) = true := by simpa using hk
    clear hk
    go_enter Try.func75, Try.ntmps75
    go_wp2_with fail
    refine (kind_any _ _ _ _).mono ?_; rintro e w1 ⟨rfl, hb1⟩
    have z1 : w.heap.size + 1 + 1 ≤ w1.heap.size := by simpa using hb1.size
    have a0 := hb1.cell (p := ⟨w.heap.size, 0, none⟩) (by simp; omega)
    have a1 := hb1.cell (p := ⟨w.heap.size, 1, none⟩) (by simp; omega)
    have a2 := hb1.cell (p := ⟨w.heap.size, 2, none⟩) (by simp; omega)
    have c0 := hb1.cell (p := ⟨w.heap.size + 1, 0, none⟩) (by simp)
    have c1 := hb1.cell (p := ⟨w.heap.size + 1, 1, none⟩) (by simp)
    have c2 := hb1.cell (p := ⟨w.heap.size + 1, 2, none⟩) (by simp)
    go_wp2_with fail
    refine (kind_any _ _ _ _).mono ?_; rintro e w2 ⟨rfl, hb2⟩
    have z2 := hb2.size
    have e0 := hb2.cell (p := ⟨w.heap.size, 0, none⟩) (by show w.heap.size < w1.heap.size; omega)
    have e1 := hb2.cell (p := ⟨w.heap.size, 1, none⟩) (by show w.heap.size < w1.heap.size; omega)
    have e2 := hb2.cell (p := ⟨w.heap.size, 2, none⟩) (by show w.heap.size < w1.heap.size; omega)
    have d0 := hb2.cell (p := ⟨w.heap.size + 1, 0, none⟩) (by show w.heap.size + 1 < w1.heap.size; omega)
    have d1 := hb2.cell (p := ⟨w.heap.size + 1, 1, none⟩) (by show w.heap.size + 1 < w1.heap.size; omega)
    have d2 := hb2.cell (p := ⟨w.heap.size + 1, 2, none⟩) (by show w.heap.size + 1 < w1.heap.size; omega)
    go_wp2_with fail
    refine (kind_any _ _ _ _).mono ?_; rintro e w3 ⟨rfl, hb3⟩
    go_wp2_with fail
    refine (cmp8_any _ _ _).mono ?_; rintro e w' ⟨rfl, rfl⟩
    go_wp2_with fail
    go_ret
    exact ⟨rfl, bto0 (bto0 (bto0 (ball (ball (Below.refl _ _) _) _) hb1) hb2) hb3⟩

theorem bl_drop {a b : List UInt8} {k : Nat} (ha : k < a.length) (hb : k < b.length) : bl (a.drop k) (b.drop k) = if a[k] = b[k] then bl (a.drop (k + 1)) (b.drop (k + 1)) else decide (a[k] < b[k]) := by
  rw [List.drop_eq_getElem_cons ha, List.drop_eq_getElem_cons hb]
  rfl
theorem bl_end {a b : List UInt8} {k : Nat} (h : ¬ (k < a.length ∧ k < b.length)) (ha : k ≤ a.length) (hb : k ≤ b.length) : bl (a.drop k) (b.drop k) = decide (a.length < b.length) := by
  by_cases h1 : k < b.length
  · have : k = a.length := by omega
    subst this
    rw [List.drop_length, List.drop_eq_getElem_cons h1]
    simp [bl, h1]
  · rw [List.drop_eq_nil_of_le (by omega : b.length ≤ k)]
    have : ¬ a.length < b.length := by omega
    simp only [this, decide_false]
    cases a.drop k <;> rfl

set_option maxHeartbeats 2000000 in
theorem rless_text (i j : Int) (s t : ByteArray) (w : World) (hs : s.size ≤ 1000000) (_ht : t.size ≤ 1000000) :
    Calls Try.prog 68 #[.agg #[.int .u8 3, .int .i64 i, .string s], .agg #[.int .u8 3, .int .i64 j, .string t]] w (RetB w (.bool (bl s.data.toList t.data.toList))) := by
  go_enter Try.func68, Try.ntmps68
  go_wp2
  go_loopw [5] (fun v wr => ∃ k : Nat, k ≤ s.size ∧ k ≤ t.size ∧ v = .int .i64 k ∧ bl s.data.toList t.data.toList = bl (s.data.toList.drop k) (t.data.toList.drop k) ∧ (∃ m, wr = ((w.alloc (.cells #[.int .u8 3, .int .i64 i, .string s] 23)).alloc (.cells #[.int .u8 3, .int .i64 j, .string t] 23)).drewN m)) (fun v _ => s.size - (intOf v).toNat)
  case atStart => exact ⟨0, Nat.zero_le _, Nat.zero_le _, rfl, rfl, 0, rfl⟩
  case round =>
    obtain ⟨k, hk1, hk2, rfl, he, m, rfl⟩ := hrel
    have hsl : s.data.toList.length = s.size := Array.length_toList
    have htl : t.data.toList.length = t.size := Array.length_toList
    by_cases hlt : k < s.size ∧ k < t.size
    · obtain ⟨h1, h2⟩ := hlt
      have g1 : (0 : Int) ≤ (k : Int) := by omega
      have g2 : (k : Int) < (s.size : Int) := by omega
      have g3 : (k : Int) < (t.size : Int) := by omega
      have hd := bl_drop (a := s.data.toList) (b := t.data.toList) (k := k) (by omega) (by omega)
      have s1 : s.data.toList[k]'(by omega) = s[k] := by simp; rfl
      have t1 : t.data.toList[k]'(by omega) = t[k] := by simp; rfl
      rw [s1, t1] at hd
      clear s1 t1 hsl htl
      by_cases hq : s[k] = t[k]
      · have He2 := Lib.hid (he.trans (hd.trans (if_pos hq)))
        have hne : ((s[k].toNat : Int) != (t[k].toNat : Int)) = false := by simp [hq]
        clear he hd hq
        go_wp2
        go_quiet (fail)
        go_wp2
        go_roundw
        case rel => exact ⟨k + 1, by omega, by omega, by go_num, He2.out, _, rfl⟩
        case measure => simp [intOf]; omega
      · have hne : ((s[k].toNat : Int) != (t[k].toNat : Int)) = true := by
          simp only [bne_iff_ne, ne_eq, Int.natCast_inj]
          exact fun h => hq (UInt8.toNat_inj.1 h)
        have hfin : bl s.data.toList t.data.toList = decide ((s[k].toNat : Int) < (t[k].toNat : Int)) := by
          rw [he, hd, if_neg hq]
          simp [UInt8.lt_iff_toNat_lt]
        have Hf := Lib.hid hfin
        clear he hd hq hfin
        go_wp2
        go_quiet (fail)
        go_wp2
        go_quiet (fail)
        go_wp2
        go_ret
        refine ⟨ret_bool ?_, ?_⟩
        · rw [Hf.out]; simp
        · exact bdr (bdr (bdr (ball (ball (Below.refl _ _) _) _) _) _) _
    · have hfin := he.trans (bl_end (k := k) (by rw [hsl, htl]; exact hlt) (by omega) (by omega))
      rw [hsl, htl] at hfin
      have Hf := Lib.hid hfin
      clear he hfin
      by_cases h1 : k < s.size
      · have h2 : ¬ k < t.size := fun h => hlt ⟨h1, h⟩
        clear hlt
        go_wp2
        go_ret
        refine ⟨ret_bool (by rw [Hf.out]), bdr (ball (ball (Below.refl _ _) _) _) _⟩
      · clear hlt
        go_wp2
        go_ret
        refine ⟨ret_bool (by rw [Hf.out]), bdr (ball (ball (Below.refl _ _) _) _) _⟩

set_option maxHeartbeats 2000000 in
theorem rless_any (a b : Vl) (w : World) (hs : a.s.size ≤ 1000000) (ht : b.s.size ≤ 1000000) (hk : a.k = b.k) :
    Calls Try.prog 68 #[a.agg, b.agg] w (RetB w (.bool (lessS a b))) := by
  obtain ⟨k, i, s⟩ := a
  obtain ⟨k', j, t⟩ := b
  simp only at hk hs ht
  subst hk
  unfold lessS Vl.agg
  simp only
  by_cases h3 : k = 3
  · subst h3
    exact rless_text i j s t w hs ht
  · rw [if_neg h3]
    by_cases h1 : k = 1 ∨ k = 2
    · rw [if_pos h1]
      rcases h1 with rfl | rfl
      all_goals
        go_enter Try.func68, Try.ntmps68
        go_wp2
        go_ret
        exact ⟨rfl, ball (ball (Below.refl _ _) _) _⟩
    · rw [if_neg h1]
      have n1 : k ≠ 1 := fun h => h1 (.inl h)
      have n2 : k ≠ 2 := fun h => h1 (.inr h)
      have m1 : (k == 1) = false := by simpa using n1
      have m2 : (k == 2) = false := by simpa using n2
      have m3 : (k != 3) = true := by simpa using h3
      clear h1
      go_enter Try.func68, Try.ntmps68
      go_wp2
      go_ret
      exact ⟨rfl, ball (ball (Below.refl _ _) _) _⟩

theorem lessS_kd (k i : Int) (s : ByteArray) (b : Vl) : lessS ⟨kd k, i, s⟩ b = lessS ⟨k, i, s⟩ b := by
  unfold lessS kd
  simp only
  by_cases h : 3 < k
  · rw [if_pos h, if_neg (by omega), if_neg (by omega), if_neg (by omega), if_neg (by omega)]
  · rw [if_neg h]

set_option maxHeartbeats 2000000 in
theorem rLess_any (a b : Vl) (w : World) (hs : a.s.size ≤ 1000000) (ht : b.s.size ≤ 1000000) :
    Calls Try.prog 60 #[a.agg, b.agg] w (RetB w (.bool (lessV a b))) := by
  obtain ⟨k, i, s⟩ := a
  obtain ⟨k', j, t⟩ := b
  simp only at hs ht
  unfold lessV Vl.agg
  simp only
  by_cases hk : kd k = kd k'
  · rw [if_pos hk]
    have Hr := fun W => rless_any ⟨kd k, i, s⟩ ⟨kd k', j, t⟩ W hs ht hk
    rw [lessS_kd k i s] at Hr
    have e2 : lessS ⟨k, i, s⟩ ⟨kd k', j, t⟩ = lessS ⟨k, i, s⟩ ⟨k', j, t⟩ := rfl
    rw [e2] at Hr
    have HR := Lib.hid Hr
    clear Hr e2
    have hne : (kd k != kd k') = false := by simp [hk]
    clear hk
    unfold kd at *
    by_cases h1 : 3 < k <;> by_cases h2 : 3 < k'
    all_goals
      simp only [h1, h2, if_true, if_false] at HR hne
      go_enter Try.func60, Try.ntmps60
      go_wp2_with fail
      refine (HR.out _).mono ?_
      rintro e w1 ⟨rfl, hb1⟩
      go_wp2
      go_ret
      exact ⟨rfl, bto0 (ball (ball (Below.refl _ _) _) _) hb1⟩
  · rw [if_neg hk]
    have hne : (kd k != kd k') = true := by simpa using hk
    clear hk
    unfold kd at *
    by_cases h1 : 3 < k <;> by_cases h2 : 3 < k'
    · exact absurd hne (by simp [h1, h2])
    all_goals
      simp only [h1, h2, if_true, if_false] at hne ⊢
      go_enter Try.func60, Try.ntmps60
      go_wp2
      go_ret
      exact ⟨rfl, ball (ball (Below.refl _ _) _) _⟩

theorem bl_cmp : ∀ (a b : List UInt8), bl a b = decide (Lib.compareBytes a b < 0)
  | [], [] => rfl
  | [], _ :: _ => rfl
  | _ :: _, [] => rfl
  | x :: xs, y :: ys => by
    unfold bl Lib.compareBytes
    have ih := bl_cmp xs ys
    by_cases h : x = y
    · subst h
      rw [if_pos rfl, if_neg (UInt8.lt_irrefl x), if_neg (UInt8.lt_irrefl x)]
      exact ih
    · rw [if_neg h]
      by_cases h1 : x < y
      · rw [if_pos h1]; simp [h1]
      · have h2 : y < x := by
          rw [UInt8.lt_iff_toNat_lt] at h1 ⊢
          have : x.toNat ≠ y.toNat := fun e => h (UInt8.toNat_inj.1 e)
          omega
        rw [if_neg h1, if_pos h2]; simp [h1]
theorem cb_swap : ∀ (a b : List UInt8), Lib.compareBytes b a = - Lib.compareBytes a b
  | [], [] => rfl
  | [], _ :: _ => rfl
  | _ :: _, [] => rfl
  | x :: xs, y :: ys => by
    unfold Lib.compareBytes
    have ih := cb_swap xs ys
    by_cases h1 : x < y
    · have h2 : ¬ y < x := by rw [UInt8.lt_iff_toNat_lt] at h1 ⊢; omega
      rw [if_neg h2, if_pos h1, if_pos h1]; rfl
    · by_cases h2 : y < x
      · rw [if_pos h2, if_neg h1, if_pos h2]
      · rw [if_neg h2, if_neg h1, if_neg h1, if_neg h2]; exact ih
theorem cb_bd : ∀ (a b : List UInt8), -1 ≤ Lib.compareBytes a b ∧ Lib.compareBytes a b ≤ 1
  | [], [] => by decide
  | [], _ :: _ => by unfold Lib.compareBytes; omega
  | _ :: _, [] => by unfold Lib.compareBytes; omega
  | x :: xs, y :: ys => by
    unfold Lib.compareBytes
    have ih := cb_bd xs ys
    split
    · omega
    · split
      · omega
      · exact ih
theorem cmpI_swap (x y : Int) : cmpI y x = - cmpI x y := by unfold cmpI; split <;> split <;> omega
theorem cmpI_bd (x y : Int) : -1 ≤ cmpI x y ∧ cmpI x y ≤ 1 := by unfold cmpI; split <;> (try split) <;> omega
theorem cmpI_lt (x y : Int) : decide (cmpI x y < 0) = decide (x < y) := by unfold cmpI; split <;> (try split) <;> simp <;> omega
theorem kd_eq {a b c : Int} (h : kd a = kd b) (hc : c = 1 ∨ c = 2 ∨ c = 3) : a = c ↔ b = c := by
  unfold kd at h
  split at h <;> split at h <;> omega
theorem cmpV_swap (a b : Vl) : cmpV b a = - cmpV a b := by
  unfold cmpV
  by_cases h : kd a.k = kd b.k
  · rw [if_pos h, if_pos h.symm]
    have e1 := kd_eq h (c := 1) (by omega)
    have e2 := kd_eq h (c := 2) (by omega)
    have e3 := kd_eq h (c := 3) (by omega)
    by_cases h1 : a.k = 1 ∨ a.k = 2
    · rw [if_pos h1, if_pos (by rw [← e1, ← e2]; exact h1), cmpI_swap]
    · rw [if_neg h1, if_neg (by rw [← e1, ← e2]; exact h1)]
      by_cases h3 : a.k = 3
      · rw [if_pos h3, if_pos (e3.1 h3), cb_swap]
      · rw [if_neg h3, if_neg (fun x => h3 (e3.2 x))]; rfl
  · rw [if_neg h, if_neg (fun x => h x.symm), cmpI_swap]
theorem cmpV_bd (a b : Vl) : -1 ≤ cmpV a b ∧ cmpV a b ≤ 1 := by
  unfold cmpV
  split
  · split
    · exact cmpI_bd _ _
    · split
      · exact cb_bd _ _
      · omega
  · exact cmpI_bd _ _
theorem lessV_cmp (a b : Vl) : lessV a b = decide (cmpV a b < 0) := by
  unfold lessV cmpV lessS
  by_cases h : kd a.k = kd b.k
  · rw [if_pos h, if_pos h]
    split
    · rw [cmpI_lt]
    · split
      · rw [bl_cmp]
      · rfl
  · rw [if_neg h, if_neg h, cmpI_lt]
theorem lessV_cmp2 (a b : Vl) : lessV b a = decide (0 < cmpV a b) := by
  rw [lessV_cmp, cmpV_swap a b]
  exact decide_eq_decide.2 (by omega)
end
end Go.Proofs.Ytilopgfpifhccaa

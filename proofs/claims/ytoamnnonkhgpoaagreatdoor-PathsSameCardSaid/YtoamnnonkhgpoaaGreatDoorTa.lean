
/-
  Terms: as they lie in memory, and as they come in.
-/
import Derived.Test.YtoamnnonkhgpoaaGreatDoorOpen
set_option linter.unusedSimpArgs false
set_option linter.unusedVariables false
namespace Go.Proofs.YtoamnnonkhgpoaaGreatDoor
open Go.RowKit Go.ChangeShapes Go.WideShapes Go.Deep

/-- What a term has beside its arguments. -/
structure TmH where
  k : Int
  op : ByteArray
  no : Bool
  v : Vl
  of_ : ByteArray
  nm : ByteArray
  tb : Int
  cl : Int
def TmH.ok (h : TmH) : Prop := (0 ≤ h.k ∧ h.k ≤ 255) ∧ h.op.size ≤ maxLen ∧ h.v.ok ∧ h.of_.size ≤ maxLen ∧ h.nm.size ≤ maxLen ∧ (-9223372036854775808 ≤ h.tb ∧ h.tb ≤ 9223372036854775807) ∧ (-9223372036854775808 ≤ h.cl ∧ h.cl ≤ 9223372036854775807)
/-- A term: where its arguments lie, and what they are. -/
inductive Tm
  | mk (h : TmH) (A : Option Addr) (n c : Nat) (args : List Tm)
def Tm.h : Tm → TmH | .mk h _ _ _ _ => h
def Tm.A : Tm → Option Addr | .mk _ A _ _ _ => A
def Tm.n : Tm → Nat | .mk _ _ n _ _ => n
def Tm.c : Tm → Nat | .mk _ _ _ c _ => c
def Tm.args : Tm → List Tm | .mk _ _ _ _ l => l
def Tm.cells : Tm → List Value
  | .mk h A n c _ => [.int .u8 h.k, .string h.op, .bool h.no, .int .u8 h.v.k, .int .i64 h.v.i, .string h.v.s, .string h.of_, .string h.nm, .int .i64 h.tb, .int .i64 h.cl, .slice A n c]
theorem Tm.len (t : Tm) : t.cells.length = 11 := by cases t; rfl
def vT (l : List Tm) : List Value := l.flatMap Tm.cells
theorem vT_len (l : List Tm) : (vT l).length = l.length * 11 := flat_len _ 11 l fun v _ => v.len
theorem vT_at {l : List Tm} {k : Nat} {v : Tm} (h : l[k]? = some v) (j : Nat) (hj : j < 11) : (vT l)[k * 11 + j]? = v.cells[j]? := flat_at Tm.cells 11 l k v j (fun v _ => v.len) h hj
theorem vT_take {l : List Tm} {k : Nat} {v : Tm} (h : l[k]? = some v) : vT (l.take (k + 1)) = vT (l.take k) ++ v.cells := by
  unfold vT; rw [List.take_add_one, h]; simp [List.flatMap_append]
theorem vT_app (a b : List Tm) : vT (a ++ b) = vT a ++ vT b := by simp [vT]
theorem vT_one (t : Tm) : vT [t] = t.cells := by simp [vT]
theorem cells_oneT (v : Tm) : ∀ u ∈ v.cells, u.oneCell' = true := by
  intro u hu
  obtain ⟨h, A, n, c, l⟩ := v
  simp only [Tm.cells, List.mem_cons, List.not_mem_nil, or_false] at hu
  rcases hu with rfl | rfl | rfl | rfl | rfl | rfl | rfl | rfl | rfl | rfl | rfl <;> rfl
theorem vT_oneCell (l : List Tm) : ∀ u ∈ vT l, u.oneCell' = true := by
  intro u hu
  obtain ⟨t, _, ht⟩ := List.mem_flatMap.1 hu
  exact cells_oneT t u ht
/-- A term's arguments lie in memory that the call knows, theirs too. -/
inductive TmIn (w : World) (B : Nat) : Tm → Prop
  | mk (h : TmH) (A : Option Addr) (n c : Nat) (args : List Tm) (hok : h.ok) (hn : n ≤ c) (hc : c ≤ maxLen) (hr : Reads w B 11 A n (vT args)) (ha : ∀ a ∈ args, TmIn w B a) : TmIn w B (.mk h A n c args)
theorem TmIn.keep {w w' : World} {B : Nat} {t : Tm} (h : TmIn w B t) (hk : ∀ p : Addr, p.block < B → w'.cell? p = w.cell? p) : TmIn w' B t := by
  induction h with
  | mk h A n c args hok hn hc hr ha ih => exact .mk h A n c args hok hn hc (hr.keep hk) ih
theorem TmIn.under {w w' : World} {B : Nat} {t : Tm} (h : TmIn w B t) (hb : Below B w w') : TmIn w' B t := h.keep fun _ hp => hb.cell hp
theorem TmIn.more {w : World} {B B' : Nat} {t : Tm} (h : TmIn w B t) (hB : B ≤ B') : TmIn w B' t := by
  induction h with
  | mk h A n c args hok hn hc hr ha ih => exact .mk h A n c args hok hn hc (hr.more hB) ih
theorem TmIn.hok {w : World} {B : Nat} {t : Tm} (h : TmIn w B t) : t.h.ok := by cases h; assumption
theorem TmIn.nc {w : World} {B : Nat} {t : Tm} (h : TmIn w B t) : t.n ≤ t.c ∧ t.c ≤ maxLen := by cases h; exact ⟨by assumption, by assumption⟩
theorem TmIn.reads {w : World} {B : Nat} {t : Tm} (h : TmIn w B t) : Reads w B 11 t.A t.n (vT t.args) := by cases h; assumption
theorem TmIn.args {w : World} {B : Nat} {t : Tm} (h : TmIn w B t) : ∀ a ∈ t.args, TmIn w B a := by cases h; assumption
theorem TmIn.len {w : World} {B : Nat} {t : Tm} (h : TmIn w B t) : t.args.length = t.n := by
  have := h.reads.1; rw [vT_len] at this; omega
/-- The cells of one that stands at an address. -/
structure AtT (w : World) (ad : Addr) (t : Tm) : Prop where
  c0 : w.cell? ad = some (.int .u8 t.h.k)
  c1 : w.cell? ⟨ad.block, ad.off + 1, none⟩ = some (.string t.h.op)
  c2 : w.cell? ⟨ad.block, ad.off + 2, none⟩ = some (.bool t.h.no)
  c3 : w.cell? ⟨ad.block, ad.off + 3, none⟩ = some (.int .u8 t.h.v.k)
  c4 : w.cell? ⟨ad.block, ad.off + 4, none⟩ = some (.int .i64 t.h.v.i)
  c5 : w.cell? ⟨ad.block, ad.off + 5, none⟩ = some (.string t.h.v.s)
  c6 : w.cell? ⟨ad.block, ad.off + 6, none⟩ = some (.string t.h.of_)
  c7 : w.cell? ⟨ad.block, ad.off + 7, none⟩ = some (.string t.h.nm)
  c8 : w.cell? ⟨ad.block, ad.off + 8, none⟩ = some (.int .i64 t.h.tb)
  c9 : w.cell? ⟨ad.block, ad.off + 9, none⟩ = some (.int .i64 t.h.cl)
  c10 : w.cell? ⟨ad.block, ad.off + 10, none⟩ = some (.slice t.A t.n t.c)
theorem AtT.keep {w w' : World} {ad : Addr} {t : Tm} (h : AtT w ad t) (hk : ∀ p : Addr, p.block = ad.block → w'.cell? p = w.cell? p) : AtT w' ad t := by
  obtain ⟨c0, c1, c2, c3, c4, c5, c6, c7, c8, c9, c10⟩ := h
  have k : ∀ j, w'.cell? ⟨ad.block, j, none⟩ = w.cell? ⟨ad.block, j, none⟩ := fun j => hk ⟨ad.block, j, none⟩ rfl
  exact ⟨(hk ad rfl).trans c0, (k _).trans c1, (k _).trans c2, (k _).trans c3, (k _).trans c4, (k _).trans c5, (k _).trans c6, (k _).trans c7, (k _).trans c8, (k _).trans c9, (k _).trans c10⟩
theorem Reads.tm {w : World} {B : Nat} {A : Option Addr} {n k : Nat} {l : List Tm} (hr : Reads w B 11 A n (vT l)) (hk : k < n) :
    ∃ ad v, A = some ad ∧ ad.block < B ∧ l[k]? = some v ∧ AtT w (ad.add (k * 11)) v := by
  have hl : l.length = n := by have := hr.1; rw [vT_len] at this; omega
  obtain ⟨ad, hA, hb, hc⟩ := hr.2 (by omega)
  have hv : l[k]? = some (l[k]'(by omega)) := List.getElem?_eq_getElem (by omega)
  generalize l[k]'(by omega) = v at hv
  have hcell : ∀ j u, j < 11 → v.cells[j]? = some u → w.cell? (ad.add (k * 11 + j)) = some u := fun j u hj hu => hc (k * 11 + j) u (by rw [vT_at hv j hj]; exact hu)
  obtain ⟨h, A', n', c', args⟩ := v
  refine ⟨ad, _, hA, hb, hv, ?_, ?_, ?_, ?_, ?_, ?_, ?_, ?_, ?_, ?_, ?_⟩
  · have := hcell 0 _ (by omega) rfl
    rw [Nat.add_zero] at this
    exact this
  all_goals rw [field_add _ _ _ (by omega)]
  · exact hcell 1 _ (by omega) rfl
  · exact hcell 2 _ (by omega) rfl
  · exact hcell 3 _ (by omega) rfl
  · exact hcell 4 _ (by omega) rfl
  · exact hcell 5 _ (by omega) rfl
  · exact hcell 6 _ (by omega) rfl
  · exact hcell 7 _ (by omega) rfl
  · exact hcell 8 _ (by omega) rfl
  · exact hcell 9 _ (by omega) rfl
  · exact hcell 10 _ (by omega) rfl
@[reducible] def TmH.agg (h : TmH) (A : Option Addr) (n c : Nat) : Value := .agg #[.int .u8 h.k, .string h.op, .bool h.no, .int .u8 h.v.k, .int .i64 h.v.i, .string h.v.s, .string h.of_, .string h.nm, .int .i64 h.tb, .int .i64 h.cl, .slice A n c]
@[reducible] def Tm.agg (t : Tm) : Value := t.h.agg t.A t.n t.c
def Tm.arr (t : Tm) : Array Value := t.cells.toArray
theorem Tm.agg_cells (t : Tm) : t.agg = .agg t.arr := by cases t; rfl

section
variable {H : Type} {enc : TypeId × Value → H} {P : Program} {w : World} {base : Nat} {spare : Nat → Bool} {held : Bool}
/-- A slice of whatever elements, by its depth. -/
theorem trod_slF {t e : TypeId} {sz n : Nat} {cs : List Value} {y : DataW H × List MemPlace} (E : List Value → Prop) (ht : P.underlying t = some (.slice e)) (hsz : P.cellsOf e = sz) (hs0 : 0 < sz)
    (hE : ∀ m c y, m < n → DataW.trod enc P w base spare held m e c = some y → c.length = sz → E c) (h : DataW.trod enc P w base spare held n t cs = some y) :
    ∃ (A : Option Addr) (len cap : Nat) (L : List (List Value)), cs = [.slice A len cap] ∧ len ≤ cap ∧ cap ≤ maxLen ∧ L.length = len ∧ (∀ c ∈ L, E c ∧ c.length = sz) ∧ Reads w w.heap.size sz A len (L.flatMap id) := by
  rcases DataW.trod_slice ht h with ⟨rfl, _⟩ | ⟨a, len, cap, elems, rest, m, hfuel, rfl, _, hb, hl, hc, hlen, hel, _, _⟩
  · exact ⟨none, 0, 0, [], rfl, Nat.le_refl _, by simp, rfl, by simp, Reads.none_⟩
  · rw [hsz] at hel
    have hrow : ∀ i, i < len → ∃ c y, w.cells? base (a.add (i * sz)) sz = some c ∧ DataW.trod enc P w base spare held m e c = some y := by
      intro i hi
      have h1 := hel i hi
      rw [List.getElem?_eq_getElem (by omega)] at h1
      obtain ⟨c, hc1, hc2⟩ := Option.bind_eq_some_iff.1 h1
      exact ⟨c, _, hc1, hc2⟩
    let g : Nat → List Value := fun i => (w.cells? base (a.add (i * sz)) sz).getD []
    have hg : ∀ i, i < len → ∃ y, w.cells? base (a.add (i * sz)) sz = some (g i) ∧ DataW.trod enc P w base spare held m e (g i) = some y := by
      intro i hi
      obtain ⟨c, y, h1, h2⟩ := hrow i hi
      have : g i = c := by simp only [g, h1, Option.getD_some]
      rw [this]
      exact ⟨y, h1, h2⟩
    have hmem : ∀ c ∈ (List.range len).map g, E c ∧ c.length = sz := by
      intro c hcm
      obtain ⟨i, hi, rfl⟩ := List.mem_map.1 hcm
      obtain ⟨y, h1, h2⟩ := hg i (by simpa using hi)
      have hlen := (World.cells?_some h1).2.1
      exact ⟨hE m _ y (by omega) h2 hlen, hlen⟩
    have hu : ∀ c ∈ (List.range len).map g, (id c).length = sz := fun c hc => (hmem c hc).2
    refine ⟨some a, len, cap, (List.range len).map g, rfl, hl, hc, by simp, hmem, by rw [flat_len id sz _ hu]; simp, fun hpos => ⟨a, rfl, ?_, ?_⟩⟩
    · obtain ⟨y, h1, h2⟩ := hg 0 hpos
      obtain ⟨_, hl0, hcl⟩ := World.cells?_some h1
      have h3 := hcl 0 hs0
      rw [List.getElem?_eq_getElem (by omega)] at h3
      have := cell_block h3
      simpa [block_of_add] using this
    · intro j u hj
      obtain ⟨k, x, r, h1, h2, rfl, h4⟩ := flat_inv id sz _ j u hu hj
      have hk : k < len := by have := lt_of_at h1; simpa using this
      have hx : x = g k := by
        rw [List.getElem?_map, List.getElem?_range hk] at h1
        simpa using h1.symm
      subst hx
      obtain ⟨y, h5, _⟩ := hg k hk
      have h6 := (World.cells?_some h5).2.2 r h4
      rw [add_of_add] at h6
      rw [h6]
      exact h2
theorem tms_of (L : List (List Value)) (hL : ∀ c ∈ L, ∃ v : Tm, c = v.cells ∧ TmIn w w.heap.size v) : ∃ l : List Tm, L = l.map Tm.cells ∧ ∀ v ∈ l, TmIn w w.heap.size v := by
  induction L with
  | nil => exact ⟨[], rfl, by simp⟩
  | cons c r ih =>
    obtain ⟨v, rfl, hv⟩ := hL c (by simp)
    obtain ⟨l, rfl, hl⟩ := ih fun c hc => hL c (by simp [hc])
    exact ⟨v :: l, rfl, by intro u hu; rcases List.mem_cons.1 hu with rfl | hu; exact hv; exact hl u hu⟩
end
end Go.Proofs.YtoamnnonkhgpoaaGreatDoor

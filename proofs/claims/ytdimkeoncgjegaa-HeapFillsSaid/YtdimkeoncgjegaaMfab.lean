/-
  Several texts in one: Open Hx By Dq Da.
-/
import Derived.Test.YtdimkeoncgjegaaMfaa
import Derived.ProofKit
import Derived.Lib.SmallJoins
import Derived.Deep.Slices
import Derived.Deep.Fields
import Derived.SizedLaws
import Derived.Lib.SlBytesRow
import Derived.Laws.CopyOwn
import Derived.ShutString
import Derived.Laws.Cells
import Derived.Laws.BytesString
import Derived.Test.YtdimkeoncgjegaaProg
import Derived.Laws.MakeOwn
import Derived.WalkSpells
import Derived.WalkLawsBesides
import Derived.Test.YtdimkeoncgjegaaRows
import Derived.Deep.RegionWith
/-
  Arguments opened, over any program: slices of anything, values by their three cells.
-/
namespace Go.Proofs.Ytdimkeoncgjegaa
section
open Go.RowKit Go.ChangeShapes Go.WideShapes Go.Deep

theorem flat_at {α : Type} (f : α → List Value) (sz : Nat) : ∀ (l : List α) (k : Nat) (x : α) (j : Nat), (∀ y ∈ l, (f y).length = sz) → l[k]? = some x → j < sz → (l.flatMap f)[k * sz + j]? = (f x)[j]? := by
  intro l
  induction l with
  | nil => intro k x j _ h; simp at h
  | cons y r ih =>
    intro k x j hs h hj
    have hy : (f y).length = sz := hs y (by simp)
    cases k with
    | zero =>
      simp only [List.getElem?_cons_zero, Option.some.injEq] at h
      subst h
      rw [List.flatMap_cons, List.getElem?_append_left (by omega)]
      simp
    | succ k =>
      simp only [List.getElem?_cons_succ] at h
      rw [List.flatMap_cons, List.getElem?_append_right (by rw [hy, Nat.succ_mul]; omega), hy]
      rw [show (k + 1) * sz + j - sz = k * sz + j from by rw [Nat.succ_mul]; omega]
      exact ih k x j (fun z hz => hs z (by simp [hz])) h hj
theorem flat_inv {α : Type} (f : α → List Value) (sz : Nat) : ∀ (l : List α) (m : Nat) (u : Value), (∀ y ∈ l, (f y).length = sz) → (l.flatMap f)[m]? = some u → ∃ k x j, l[k]? = some x ∧ (f x)[j]? = some u ∧ m = k * sz + j ∧ j < sz := by
  intro l
  induction l with
  | nil => intro m u _ h; simp at h
  | cons y r ih =>
    intro m u hs h
    have hy : (f y).length = sz := hs y (by simp)
    rw [List.flatMap_cons] at h
    by_cases hm : m < (f y).length
    · rw [List.getElem?_append_left hm] at h
      exact ⟨0, y, m, by simp, h, by omega, by omega⟩
    · rw [List.getElem?_append_right (by omega)] at h
      obtain ⟨k, x, j, h1, h2, h3, h4⟩ := ih _ u (fun z hz => hs z (by simp [hz])) h
      exact ⟨k + 1, x, j, by simpa using h1, h2, by rw [Nat.succ_mul]; omega, h4⟩
theorem flat_len {α : Type} (f : α → List Value) (sz : Nat) (l : List α) (h : ∀ y ∈ l, (f y).length = sz) : (l.flatMap f).length = l.length * sz := by
  induction l with
  | nil => simp
  | cons y r ih => rw [List.flatMap_cons, List.length_append, ih (fun z hz => h z (by simp [hz])), h y (by simp), List.length_cons, Nat.succ_mul]; omega

section
variable {H : Type} {enc : TypeId × Value → H} {P : Program} {w : World} {base : Nat} {spare : Nat → Bool} {held : Bool}
/-- A slice of whatever elements: each element's cells, and what is known of them. -/
theorem trod_sl {t e : TypeId} {sz n : Nat} {cs : List Value} {y : DataW H × List MemPlace} (E : List Value → Prop) (ht : P.underlying t = some (.slice e)) (hsz : P.cellsOf e = sz) (hs0 : 0 < sz)
    (hE : ∀ m c y, DataW.trod enc P w base spare held m e c = some y → c.length = sz → E c) (h : DataW.trod enc P w base spare held n t cs = some y) :
    ∃ (A : Option Addr) (len cap : Nat) (L : List (List Value)), cs = [.slice A len cap] ∧ len ≤ cap ∧ cap ≤ maxLen ∧ L.length = len ∧ (∀ c ∈ L, E c ∧ c.length = sz) ∧ Reads w w.heap.size sz A len (L.flatMap id) := by
  rcases DataW.trod_slice ht h with ⟨rfl, _⟩ | ⟨a, len, cap, elems, rest, m, _, rfl, _, hb, hl, hc, hlen, hel, _, _⟩
  · exact ⟨none, 0, 0, [], rfl, Nat.le_refl _, by simp, rfl, by simp, Reads.none_⟩
  · rw [hsz] at hel
    have hrow : ∀ i, i < len → ∃ c y, w.cells? base (a.add (i * sz)) sz = some c ∧ DataW.trod enc P w base spare held m e c = some y := by
      intro i hi
      have h1 := hel i hi
      rw [List.getElem?_eq_getElem (by omega)] at h1
      obtain ⟨c, hc1, hc2⟩ := Option.bind_eq_some_iff.1 h1
      exact ⟨c, _, hc1, hc2⟩
    let g : Nat → List Value := fun i => (w.cells? base (a.add (i * sz)) sz).getD []
    have hg : ∀ i, i < len → ∃ y, w.cells? base (a.add (i * sz)) sz = some (g i) ∧ DataW.trod enc P w base spare held m e (g i) = some y := by
      intro i hi
      obtain ⟨c, y, h1, h2⟩ := hrow i hi
      have : g i = c := by simp only [g, h1, Option.getD_some]
      rw [this]
      exact ⟨y, h1, h2⟩
    have hmem : ∀ c ∈ (List.range len).map g, E c ∧ c.length = sz := by
      intro c hcm
      obtain ⟨i, hi, rfl⟩ := List.mem_map.1 hcm
      obtain ⟨y, h1, h2⟩ := hg i (by simpa using hi)
      have hlen := (World.cells?_some h1).2.1
      exact ⟨hE m _ y h2 hlen, hlen⟩
    have hu : ∀ c ∈ (List.range len).map g, (id c).length = sz := fun c hc => (hmem c hc).2
    refine ⟨some a, len, cap, (List.range len).map g, rfl, hl, hc, by simp, hmem, by rw [flat_len id sz _ hu]; simp, fun hpos => ⟨a, rfl, ?_, ?_⟩⟩
    · obtain ⟨y, h1, h2⟩ := hg 0 hpos
      obtain ⟨_, hl0, hcl⟩ := World.cells?_some h1
      have h3 := hcl 0 hs0
      rw [List.getElem?_eq_getElem (by omega)] at h3
      have := cell_block h3
      simpa [block_of_add] using this
    · intro j u hj
      obtain ⟨k, x, r, h1, h2, rfl, h4⟩ := flat_inv id sz _ j u hu hj
      have hk : k < len := by have := lt_of_at h1; simpa using this
      have hx : x = g k := by
        rw [List.getElem?_map, List.getElem?_range hk] at h1
        simpa using h1.symm
      subst hx
      obtain ⟨y, h5, _⟩ := hg k hk
      have h6 := (World.cells?_some h5).2.2 r h4
      rw [add_of_add] at h6
      rw [h6]
      exact h2
end

theorem flatMap_one {α : Type} (f : α → Value) (l : List α) : l.flatMap (fun a => [f a]) = l.map f := by
  induction l with
  | nil => rfl
  | cons a r ih => rw [List.flatMap_cons, ih]; rfl
/-- A value of the program: its kind, number, text. -/
structure Vl where
  k : Int
  i : Int
  s : ByteArray
def Vl.cells (v : Vl) : List Value := [.int .u8 v.k, .int .i64 v.i, .string v.s]
def Vl.ok (v : Vl) : Prop := (0 ≤ v.k ∧ v.k ≤ 255) ∧ (-9223372036854775808 ≤ v.i ∧ v.i ≤ 9223372036854775807) ∧ v.s.size ≤ maxLen
def vV (l : List Vl) : List Value := l.flatMap Vl.cells
@[reducible] def Vl.agg (v : Vl) : Value := .agg #[.int .u8 v.k, .int .i64 v.i, .string v.s]
theorem Vl.len (v : Vl) : v.cells.length = 3 := rfl
theorem vV_len (l : List Vl) : (vV l).length = l.length * 3 := flat_len _ 3 l fun v _ => v.len
theorem vV_at {l : List Vl} {k : Nat} {v : Vl} (h : l[k]? = some v) (j : Nat) (hj : j < 3) : (vV l)[k * 3 + j]? = v.cells[j]? := flat_at Vl.cells 3 l k v j (fun v _ => v.len) h hj
theorem vV_take {l : List Vl} {k : Nat} {v : Vl} (h : l[k]? = some v) : vV (l.take (k + 1)) = vV (l.take k) ++ v.cells := by
  unfold vV; rw [List.take_add_one, h]; simp [List.flatMap_append]

theorem field_add (ad : Addr) (m j : Nat) (hj : 0 < j) : (⟨(ad.add m).block, (ad.add m).off + j, none⟩ : Addr) = ad.add (m + j) := by
  unfold Addr.add
  by_cases h : m = 0
  · subst h; simp; omega
  · have : m + j ≠ 0 := by omega
    simp [h]; omega
/-- The k-th value's cells, as the walk spells their places. -/
theorem Reads.val {w : World} {B : Nat} {A : Option Addr} {n k : Nat} {l : List Vl} (hr : Reads w B 3 A n (vV l)) (hk : k < n) :
    ∃ ad v, A = some ad ∧ ad.block < B ∧ l[k]? = some v ∧ w.cell? (ad.add (k * 3)) = some (.int .u8 v.k) ∧ w.cell? ⟨(ad.add (k * 3)).block, (ad.add (k * 3)).off + 1, none⟩ = some (.int .i64 v.i) ∧ w.cell? ⟨(ad.add (k * 3)).block, (ad.add (k * 3)).off + 2, none⟩ = some (.string v.s) := by
  have hl : l.length = n := by have := hr.1; rw [vV_len] at this; omega
  obtain ⟨ad, hA, hb, hc⟩ := hr.2 (by omega)
  have hv : l[k]? = some (l[k]'(by omega)) := List.getElem?_eq_getElem (by omega)
  refine ⟨ad, l[k]'(by omega), hA, hb, hv, ?_, ?_, ?_⟩
  · have := hc (k * 3 + 0) _ (by rw [vV_at hv 0 (by omega)]; rfl)
    simpa using this
  · rw [field_add _ _ _ (by omega)]
    exact hc (k * 3 + 1) _ (by rw [vV_at hv 1 (by omega)]; rfl)
  · rw [field_add _ _ _ (by omega)]
    exact hc (k * 3 + 2) _ (by rw [vV_at hv 2 (by omega)]; rfl)

section
variable {H : Type} {enc : TypeId × Value → H} {P : Program} {w : World} {base : Nat} {spare : Nat → Bool} {held : Bool}
theorem trod_val {t tk ti ts : TypeId} {fs : Array Field} {n : Nat} {cs : List Value} {y : DataW H × List MemPlace} (ht : P.underlying t = some (.struct fs)) (hone : oneCellFields P fs = true) (hC : P.cellsOf t = 3) (hf : fs.toList.map (·.type) = [tk, ti, ts])
    (hk : P.underlying tk = some (.int .u8)) (hi : P.underlying ti = some (.int .i64)) (hs : P.underlying ts = some .string) (h : DataW.trod enc P w base spare held n t cs = some y) :
    ∃ v : Vl, cs = v.cells ∧ v.ok := by
  obtain ⟨xs, m, _, _, hlen, hxl, hfd⟩ := DataW.trod_struct ht h
  rw [hC] at hlen
  match cs, hlen with
  | [c0, c1, c2], _ =>
    have hfs : fs.size = 3 := by have := congrArg List.length hf; simpa using this
    obtain ⟨l⟩ := fs
    match l, hfs, hf with
    | [f0, f1, f2], _, hf =>
      simp only [List.map_cons, List.map_nil, List.cons.injEq, and_true] at hf
      obtain ⟨rfl, rfl, rfl⟩ := hf
      match xs, hxl with
      | [y0, y1, y2], _ =>
        obtain ⟨o0, k0⟩ := hone_of hone 0 f0 rfl
        obtain ⟨o1, k1⟩ := hone_of hone 1 f1 rfl
        obtain ⟨o2, k2⟩ := hone_of hone 2 f2 rfl
        have e0 := hfd 0 f0 rfl
        have e1 := hfd 1 f1 rfl
        have e2 := hfd 2 f2 rfl
        rw [o0, k0] at e0; rw [o1, k1] at e1; rw [o2, k2] at e2
        obtain ⟨a, ha, _, wa⟩ := DataW.trod_int hk e0
        obtain ⟨b, hb, _, wb⟩ := DataW.trod_int hi e1
        obtain ⟨s, hs', _, ws⟩ := DataW.trod_string hs e2
        simp at ha hb hs'
        subst ha; subst hb; subst hs'
        exact ⟨⟨a, b, s⟩, rfl, Go.bounds_u8 wa, Go.bounds_i64 wb, ws⟩
/-- A slice of values that came in. -/
theorem trod_vals {t e tk ti ts : TypeId} {fs : Array Field} {n : Nat} {cs : List Value} {y : DataW H × List MemPlace} (ht : P.underlying t = some (.slice e)) (he : P.underlying e = some (.struct fs)) (hone : oneCellFields P fs = true) (hC : P.cellsOf e = 3) (hf : fs.toList.map (·.type) = [tk, ti, ts])
    (hk : P.underlying tk = some (.int .u8)) (hi : P.underlying ti = some (.int .i64)) (hs : P.underlying ts = some .string) (h : DataW.trod enc P w base spare held n t cs = some y) :
    ∃ (A : Option Addr) (len cap : Nat) (l : List Vl), cs = [.slice A len cap] ∧ len ≤ cap ∧ cap ≤ maxLen ∧ l.length = len ∧ (∀ v ∈ l, v.ok) ∧ Reads w w.heap.size 3 A len (vV l) := by
  obtain ⟨A, len, cap, L, rfl, h1, h2, h3, h4, h5⟩ := trod_sl (fun c => ∃ v : Vl, c = v.cells ∧ v.ok) ht hC (by omega) (fun m c y hc _ => trod_val he hone hC hf hk hi hs hc) h
  have hex : ∀ (L : List (List Value)), (∀ c ∈ L, ∃ v : Vl, c = v.cells ∧ v.ok) → ∃ l : List Vl, L = l.map Vl.cells ∧ ∀ v ∈ l, v.ok := by
    intro L
    induction L with
    | nil => intro _; exact ⟨[], rfl, by simp⟩
    | cons c r ih =>
      intro hL
      obtain ⟨v, rfl, hv⟩ := hL c (by simp)
      obtain ⟨l, rfl, hl⟩ := ih fun c hc => hL c (by simp [hc])
      exact ⟨v :: l, rfl, by intro u hu; rcases List.mem_cons.1 hu with rfl | hu; exact hv; exact hl u hu⟩
  obtain ⟨l, rfl, hl⟩ := hex L fun c hc => (h4 c hc).1
  refine ⟨A, len, cap, l, rfl, h1, h2, by simpa using h3, hl, ?_⟩
  have : (l.map Vl.cells).flatMap id = vV l := by unfold vV; rw [List.flatMap_map]; rfl
  rwa [this] at h5
theorem trod_ints {t e : TypeId} {k : IntKind} {n : Nat} {cs : List Value} {y : DataW H × List MemPlace} (ht : P.underlying t = some (.slice e)) (he : P.underlying e = some (.int k)) (hC : P.cellsOf e = 1) (h : DataW.trod enc P w base spare held n t cs = some y) :
    ∃ (A : Option Addr) (len cap : Nat) (l : List Int), cs = [.slice A len cap] ∧ len ≤ cap ∧ cap ≤ maxLen ∧ l.length = len ∧ (∀ x ∈ l, (Lit.int k x).wf = true) ∧ Reads w w.heap.size 1 A len (l.map (Value.int k)) := by
  obtain ⟨A, len, cap, L, rfl, h1, h2, h3, h4, h5⟩ := trod_sl (fun c => ∃ x, c = [.int k x] ∧ (Lit.int k x).wf = true) ht hC (by omega) (fun m c y hc _ => by obtain ⟨x, hx, _, hw⟩ := DataW.trod_int he hc; exact ⟨x, hx, hw⟩) h
  have hex : ∀ (L : List (List Value)), (∀ c ∈ L, ∃ x, c = [.int k x] ∧ (Lit.int k x).wf = true) → ∃ l : List Int, L = l.map (fun x => [Value.int k x]) ∧ ∀ x ∈ l, (Lit.int k x).wf = true := by
    intro L
    induction L with
    | nil => intro _; exact ⟨[], rfl, by simp⟩
    | cons c r ih =>
      intro hL
      obtain ⟨v, rfl, hv⟩ := hL c (by simp)
      obtain ⟨l, rfl, hl⟩ := ih fun c hc => hL c (by simp [hc])
      exact ⟨v :: l, rfl, by intro u hu; rcases List.mem_cons.1 hu with rfl | hu; exact hv; exact hl u hu⟩
  obtain ⟨l, rfl, hl⟩ := hex L fun c hc => (h4 c hc).1
  refine ⟨A, len, cap, l, rfl, h1, h2, by simpa using h3, hl, ?_⟩
  have : (l.map (fun x => [Value.int k x])).flatMap id = l.map (Value.int k) := by rw [List.flatMap_map]; exact flatMap_one _ l
  rwa [this] at h5
theorem trod_bools {t e : TypeId} {n : Nat} {cs : List Value} {y : DataW H × List MemPlace} (ht : P.underlying t = some (.slice e)) (he : P.underlying e = some .bool) (hC : P.cellsOf e = 1) (h : DataW.trod enc P w base spare held n t cs = some y) :
    ∃ (A : Option Addr) (len cap : Nat) (l : List Bool), cs = [.slice A len cap] ∧ len ≤ cap ∧ cap ≤ maxLen ∧ l.length = len ∧ Reads w w.heap.size 1 A len (l.map Value.bool) := by
  obtain ⟨A, len, cap, L, rfl, h1, h2, h3, h4, h5⟩ := trod_sl (fun c => ∃ x, c = [.bool x]) ht hC (by omega) (fun m c y hc _ => by obtain ⟨x, hx, _⟩ := DataW.trod_bool he hc; exact ⟨x, hx⟩) h
  have hex : ∀ (L : List (List Value)), (∀ c ∈ L, ∃ x, c = [.bool x]) → ∃ l : List Bool, L = l.map (fun x => [Value.bool x]) := by
    intro L
    induction L with
    | nil => intro _; exact ⟨[], rfl⟩
    | cons c r ih =>
      intro hL
      obtain ⟨v, rfl⟩ := hL c (by simp)
      obtain ⟨l, rfl⟩ := ih fun c hc => hL c (by simp [hc])
      exact ⟨v :: l, rfl⟩
  obtain ⟨l, rfl⟩ := hex L fun c hc => (h4 c hc).1
  refine ⟨A, len, cap, l, rfl, h1, h2, by simpa using h3, ?_⟩
  have : (l.map (fun x => [Value.bool x])).flatMap id = l.map Value.bool := by rw [List.flatMap_map]; exact flatMap_one _ l
  rwa [this] at h5
end
end
end Go.Proofs.Ytdimkeoncgjegaa
/-
  A slice's size, as its reading tells it.
-/
namespace Go.Proofs.Ytdimkeoncgjegaa
section
set_option linter.unusedSimpArgs false
set_option linter.unusedVariables false
open Go.RowKit Go.ChangeShapes Go.WideShapes Go.Deep

section
variable {H : Type} {enc : TypeId × Value → H} {P : Program} {w : World} {base : Nat} {spare : Nat → Bool} {held : Bool}
theorem sl_reach {t e : TypeId} (ht : P.underlying t = some (.slice e)) (hby : P.bytesOf e = 24) {n : Nat} {A : Option Addr} {k c : Nat} {y : DataW H × List MemPlace} (h : DataW.trod enc P w base spare held n t [.slice A k c] = some y) (hall : ∀ x ∈ DataW.weights P t y.1, x ≤ reachBytes) : k ≤ 8796093022208 := by
  rcases DataW.trod_slice ht h with ⟨hc, _⟩ | ⟨a, len, cap, elems, rest, m', _, hcs, hx, _, _, _, hle, _, _, _⟩
  · simp at hc
    omega
  · simp at hcs
    obtain ⟨_, rfl, _⟩ := hcs
    subst hx
    have h1 := hall ((elems.length + rest.length) * P.bytesOf e) (by
      unfold DataW.weights
      rw [ht]
      simp)
    rw [hby, hle] at h1
    unfold reachBytes at h1
    omega
end
end
end Go.Proofs.Ytdimkeoncgjegaa
/-
  Bytes in memory and as strings: lists of bytes, a block of bytes, a string made of it.
-/
namespace Go.Proofs.Ytdimkeoncgjegaa
section
open Go.RowKit

def bL (l : List UInt8) : List Value := l.map fun x => Value.int .u8 (x.toNat : Int)
def bV (l : List UInt8) : Array Value := (bL l).toArray
def str (l : List UInt8) : ByteArray := ⟨l.toArray⟩
theorem bL_len (l : List UInt8) : (bL l).length = l.length := by simp [bL]
theorem bV_size (l : List UInt8) : (bV l).size = l.length := by simp [bV, bL_len]
theorem bV_toList (l : List UInt8) : (bV l).toList = bL l := by simp [bV]
theorem bL_one (l : List UInt8) : ∀ u ∈ bL l, u.oneCell' = true := by
  intro u hu
  obtain ⟨x, _, rfl⟩ := List.mem_map.1 hu
  rfl
theorem bL_at {l : List UInt8} {i : Nat} {x : UInt8} (h : l[i]? = some x) : (bL l)[i]? = some (.int .u8 (x.toNat : Int)) := by simp [bL, h]
theorem bV_at {l : List UInt8} {i : Nat} {x : UInt8} (h : l[i]? = some x) : (bV l)[i]? = some (.int .u8 (x.toNat : Int)) := by simp [bV, bL, h]
theorem str_size (l : List UInt8) : (str l).size = l.length := by simp [str, ByteArray.size]
theorem str_data (l : List UInt8) : (str l).data.toList = l := by simp [str]
theorem str_of (s : ByteArray) : str s.data.toList = s := by cases s; simp [str]
theorem str_toList (l : List UInt8) : (str l).toList = l := by rw [ByteArray.toList_eq, str_data]
theorem str_at (l : List UInt8) (i : Nat) (h : i < (str l).size) : l[i]? = some ((str l)[i]) := by
  have h' : i < l.length := by rwa [str_size] at h
  rw [List.getElem?_eq_getElem h']
  rfl
theorem beq_str (a b : List UInt8) : ((str a).toList == (str b).toList) = decide (a = b) := by
  rw [str_toList, str_toList]
  by_cases h : a = b <;> simp [h]
theorem bytes_of_blk {w : World} {g : Nat} {t : TypeId} {l : List UInt8} (h : Blk w g t (bV l)) : Lib.Bytes w g 0 (str l) := by
  intro i hi
  rw [Nat.zero_add, h.cell i]
  exact bV_at (str_at l i hi)
theorem bytes_of_reads {w : World} {B : Nat} {ad : Addr} {n : Nat} {l : List UInt8} (h : Reads w B 1 (some ad) n (bL l)) (hn : ad.spot = none) : Lib.Bytes w ad.block ad.off (str l) := by
  intro i hi
  rw [str_size] at hi
  have hl : l.length = n := by have := h.1; rw [bL_len] at this; omega
  obtain ⟨ad', e, _, hc⟩ := h.2 (by omega)
  injection e with e
  subst e
  have h1 := hc i _ (bL_at (str_at l i (by rwa [str_size])))
  obtain ⟨b, o, p⟩ := ad
  simp only at hn
  subst hn
  have : (⟨b, o, none⟩ : Addr).add i = ⟨b, o + i, none⟩ := by unfold Addr.add; split <;> simp_all
  rw [this] at h1
  exact h1
theorem conv_blk {P : Program} {w : World} {g : Nat} {t : TypeId} {l : List UInt8} (h : Blk w g t (bV l)) (src e dst : TypeId) (hs : P.underlying src = some (.slice e)) (he : P.underlying e = some (.int .u8)) (hd : P.underlying dst = some .string) (n cap : Nat) (hn : l.length = n) :
    (convert src dst (.slice (some ⟨g, 0, none⟩) n cap)).run P w = .ok (.string (str l)) w := by
  subst hn
  have := Lib.run_convert_whole (P := P) w src e dst hs he hd g 0 (str l) (bytes_of_blk h) cap
  rwa [str_size] at this
theorem foldl_push (l : List UInt8) : ∀ s : ByteArray, (l.map fun x => (x.toNat : Int)).foldl (fun r n => r.push (UInt8.ofNat n.toNat)) s = ⟨s.data ++ l.toArray⟩ := by
  induction l with
  | nil => intro s; simp
  | cons x r ih =>
    intro s
    simp only [List.map_cons, List.foldl_cons, ih]
    simp [ByteArray.push]
theorem conv_reads {P : Program} {w : World} {B : Nat} {A : Option Addr} {n : Nat} {l : List UInt8} (h : Reads w B 1 A n (bL l)) (src e dst : TypeId) (hs : P.underlying src = some (.slice e)) (he : P.underlying e = some (.int .u8)) (hd : P.underlying dst = some .string) (cap : Nat) :
    (convert src dst (.slice A n cap)).run P w = .ok (.string (str l)) w := by
  have hl : l.length = n := by have := h.1; rw [bL_len] at this; omega
  rw [run_convert_bytes_string w src dst e A n cap hs he hd]
  have key : ∀ a : Addr, A = some a → (Conv.bytesToString (.slice (some a) n cap)).run P w = .ok (.string (str l)) w := by
    intro a ha
    have hcell : ∀ j v, (bL l)[j]? = some v → w.cell? (a.add j) = some v := by
      intro j v hv
      have hj : j < (bL l).length := lt_of_at hv
      rw [bL_len] at hj
      obtain ⟨ad, e', _, hc⟩ := h.2 (by omega)
      rw [ha] at e'
      injection e' with e'
      subst e'
      exact hc j v hv
    have h1 := run_loadCells_list (P := P) w a (bL l) hcell
    rw [bL_len, hl] at h1
    have h2 := run_bytesToString (P := P) w a n cap (l.map fun x => (x.toNat : Int)) (by rw [h1]; simp [bL, Function.comp_def])
    rw [h2, foldl_push]
    simp [str, ByteArray.empty, ByteArray.emptyWithCapacity]
    rfl
  rcases A with _ | a
  · have hn : n = 0 := by
      rcases Nat.eq_zero_or_pos n with h0 | h0
      · exact h0
      · obtain ⟨ad, e', _⟩ := h.2 h0; cases e'
    subst hn
    have : l = [] := List.eq_nil_of_length_eq_zero hl
    subst this
    simp [Conv.bytesToString, str]
    rfl
  · exact key a rfl
theorem extract_str (l : List UInt8) (i j : Nat) : (str l).extract i j = str ((l.drop i).take (j - i)) := by
  apply ByteArray.ext
  apply Array.toList_inj.1
  rw [Lib.extract_data, str_data, str_data]
section
variable {P : Program} {t : TypeId} (hu : P.underlying t = some .string)
include hu
theorem cut_mid (l r : List UInt8) (k k' : IntKind) (i j : Int) (h0 : 0 ≤ i) (h1 : i ≤ j) (h2 : j ≤ l.length) (hr : (l.drop i.toNat).take (j.toNat - i.toNat) = r) (W : World) :
    (Instr.slice t (.string (str l)) (some (.int k i)) (some (.int k' j)) none).run P W = .ok (.string (str r)) W := by
  rw [run_slice_string W t (str l) k k' i j hu h0 h1 (by rw [str_size]; exact h2), extract_str, hr]
theorem cut_hi (l r : List UInt8) (k : IntKind) (j : Int) (h1 : 0 ≤ j) (h2 : j ≤ l.length) (hr : l.take j.toNat = r) (W : World) :
    (Instr.slice t (.string (str l)) none (some (.int k j)) none).run P W = .ok (.string (str r)) W := by
  rw [run_slice_string_h W t (str l) hu k j h1 (by rw [str_size]; exact h2), extract_str, List.drop_zero, Nat.sub_zero, hr]
theorem cut_lo (l r : List UInt8) (k : IntKind) (i : Int) (h1 : 0 ≤ i) (h2 : i ≤ l.length) (hr : l.drop i.toNat = r) (W : World) :
    (Instr.slice t (.string (str l)) (some (.int k i)) none none).run P W = .ok (.string (str r)) W := by
  rw [run_slice_string_l W t (str l) hu k i h1 (by rw [str_size]; exact h2), extract_str, str_size, List.take_of_length_le (by rw [List.length_drop]; omega), hr]
end
theorem splice_bL (l r : List UInt8) (k : Nat) : splice (bL l) k (bL r) = bL (splice l k r) := by simp [splice, bL, List.map_take, List.map_drop]
theorem splice_bV (l r : List UInt8) (k : Nat) : (splice (bV l).toList k (bL r)).toArray = bV (splice l k r) := by rw [bV_toList, splice_bL]; rfl
section
variable {α : Type} (l r : List α) (k : Nat)
theorem splice_take (h : k ≤ l.length) : (splice l k r).take k = l.take k := by
  unfold splice
  rw [List.take_append_of_le_length (by simp; omega)]
  exact List.take_take.trans (by rw [Nat.min_self])
theorem splice_mid (h : k ≤ l.length) : ((splice l k r).drop k).take r.length = r := by
  unfold splice
  rw [List.drop_append, List.length_take, Nat.min_eq_left h, Nat.sub_self, List.drop_zero, List.drop_of_length_le (by simp; omega), List.nil_append, List.take_append_of_le_length (Nat.le_refl _), List.take_length]
theorem splice_drop (h : k ≤ l.length) : (splice l k r).drop (k + r.length) = l.drop (k + r.length) := by
  unfold splice
  rw [← List.append_assoc]
  exact List.drop_left' (by simp; omega)
end
end
end Go.Proofs.Ytdimkeoncgjegaa
/-
  Pages as lists: what the pages of some bytes are, which are taken, and what a write leaves.
-/
namespace Go.Proofs.Ytdimkeoncgjegaa
section
open Go.RowKit

def tL (T : List Bool) : List Value := T.map Value.bool
def tV (T : List Bool) : Array Value := (tL T).toArray
def sL (ps : List (List UInt8)) : List Value := ps.map fun p => Value.string (str p)
theorem tL_len (T : List Bool) : (tL T).length = T.length := by simp [tL]
theorem sL_len (ps : List (List UInt8)) : (sL ps).length = ps.length := by simp [sL]
theorem tV_size (T : List Bool) : (tV T).size = T.length := by simp [tV, tL_len]
theorem tL_one (T : List Bool) : ∀ u ∈ tL T, u.oneCell' = true := by
  intro u hu
  obtain ⟨x, _, rfl⟩ := List.mem_map.1 hu
  rfl
theorem sL_one (ps : List (List UInt8)) : ∀ u ∈ sL ps, u.oneCell' = true := by
  intro u hu
  obtain ⟨x, _, rfl⟩ := List.mem_map.1 hu
  rfl
theorem tL_at {T : List Bool} {i : Nat} {x : Bool} (h : T[i]? = some x) : (tL T)[i]? = some (.bool x) := by simp [tL, h]
theorem tV_at {T : List Bool} {i : Nat} {x : Bool} (h : T[i]? = some x) : (tV T)[i]? = some (.bool x) := by simp [tV, tL, h]
theorem sL_at {ps : List (List UInt8)} {i : Nat} {x : List UInt8} (h : ps[i]? = some x) : (sL ps)[i]? = some (.string (str x)) := by simp [sL, h]
theorem tV_set (T : List Bool) (i : Nat) (b : Bool) : (tV T).setIfInBounds i (.bool b) = tV (T.set i b) := by simp [tV, tL, List.map_set]

/-- All pages have 512 bytes. -/
def Full (ps : List (List UInt8)) : Prop := ∀ p ∈ ps, p.length = 512
theorem pflat_len : ∀ ps : List (List UInt8), Full ps → ps.flatten.length = ps.length * 512
  | [], _ => rfl
  | p :: ps, h => by
    have h1 := h p (by simp)
    have h2 := pflat_len ps fun q hq => h q (by simp [hq])
    rw [List.flatten_cons, List.length_append, h1, h2, List.length_cons]; omega
theorem pflat_page : ∀ (ps : List (List UInt8)) (_ : Full ps) (i : Nat) (p : List UInt8), ps[i]? = some p → (ps.flatten.drop (i * 512)).take 512 = p
  | [], _, i, p, hi => by simp at hi
  | q :: ps, h, 0, p, hi => by
    simp only [List.getElem?_cons_zero, Option.some.injEq] at hi
    subst hi
    have h1 := h q (by simp)
    rw [Nat.zero_mul, List.drop_zero, List.flatten_cons, List.take_append_of_le_length (by omega), ← h1, List.take_length]
  | q :: ps, h, i + 1, p, hi => by
    have h1 := h q (by simp)
    rw [List.getElem?_cons_succ] at hi
    rw [List.flatten_cons, List.drop_append, List.drop_of_length_le (by omega), List.nil_append, h1, show (i + 1) * 512 - 512 = i * 512 from by omega]
    exact pflat_page ps (fun q hq => h q (by simp [hq])) i p hi
theorem pflat_set : ∀ (ps : List (List UInt8)) (_ : Full ps) (i : Nat) (r : List UInt8), i < ps.length → r.length = 512 → splice ps.flatten (i * 512) r = (ps.set i r).flatten
  | [], _, i, r, hi, _ => by simp at hi
  | q :: ps, h, 0, r, _, hr => by
    have h1 := h q (by simp)
    unfold splice
    rw [Nat.zero_mul, List.take_zero, List.nil_append, List.set_cons_zero, List.flatten_cons, List.flatten_cons, Nat.zero_add, hr, List.drop_append, List.drop_of_length_le (by omega), h1, Nat.sub_self, List.drop_zero, List.nil_append]
  | q :: ps, h, i + 1, r, hi, hr => by
    have h1 := h q (by simp)
    have ih := pflat_set ps (fun q hq => h q (by simp [hq])) i r (by simpa using hi) hr
    unfold splice at ih ⊢
    rw [List.set_cons_succ, List.flatten_cons, List.flatten_cons, ← ih, List.take_append, List.take_of_length_le (by omega), h1, show (i + 1) * 512 - 512 = i * 512 from by omega, List.append_assoc,
      List.drop_append, List.drop_of_length_le (by omega), List.nil_append, h1, show (i + 1) * 512 + r.length - 512 = i * 512 + r.length from by omega]
theorem full_set {ps : List (List UInt8)} (h : Full ps) (i : Nat) {r : List UInt8} (hr : r.length = 512) : Full (ps.set i r) := by
  intro p hp
  rcases List.mem_or_eq_of_mem_set hp with h1 | h1
  · exact h p h1
  · rw [h1, hr]

/-- The first k pages of some bytes; which of the first k are taken. -/
def pagesOf (L : List UInt8) (k : Nat) : List (List UInt8) := (List.range k).map fun i => (L.drop (i * 512)).take 512
def mark (L : List UInt8) (i : Nat) : Bool := decide (i = 0) || !decide (L[i * 512]? = some 0)
def marksOf (L : List UInt8) (k : Nat) : List Bool := (List.range k).map (mark L)
theorem pagesOf_succ (L : List UInt8) (k : Nat) : pagesOf L (k + 1) = pagesOf L k ++ [(L.drop (k * 512)).take 512] := by simp [pagesOf, List.range_succ]
theorem marksOf_succ (L : List UInt8) (k : Nat) : marksOf L (k + 1) = marksOf L k ++ [mark L k] := by simp [marksOf, List.range_succ]
theorem pagesOf_len (L : List UInt8) (k : Nat) : (pagesOf L k).length = k := by simp [pagesOf]
theorem marksOf_len (L : List UInt8) (k : Nat) : (marksOf L k).length = k := by simp [marksOf]
theorem pagesOf_full (L : List UInt8) (k : Nat) (h : k * 512 ≤ L.length) : Full (pagesOf L k) := by
  intro p hp
  simp only [pagesOf, List.mem_map, List.mem_range] at hp
  obtain ⟨i, hi, rfl⟩ := hp
  rw [List.length_take, List.length_drop]; omega
theorem flat_step {N : Nat} (L : List UInt8) (k : Nat) : L.take (k * N) ++ (L.drop (k * N)).take N = L.take ((k + 1) * N) := by rw [Nat.succ_mul, List.take_add]
theorem pagesOf_flat (L : List UInt8) (k : Nat) : (pagesOf L k).flatten = L.take (k * 512) := by
  induction k with
  | zero => simp [pagesOf]
  | succ k ih => rw [pagesOf_succ, List.flatten_append, ih, List.flatten_singleton]; exact flat_step L k
theorem pagesOf_all (L : List UInt8) (n : Nat) (h : L.length = n * 512) : (pagesOf L n).flatten = L := by rw [pagesOf_flat L n, List.take_of_length_le (by omega)]
/-- The marks while they are told: the first k as they are, the others as a new disk has them. -/
def marksP (L : List UInt8) (n k : Nat) : List Bool := marksOf L k ++ (true :: List.replicate (n - 1) false).drop k
theorem marksP_len (L : List UInt8) (n k : Nat) (h : k ≤ n) (h1 : 1 ≤ n) : (marksP L n k).length = n := by
  unfold marksP
  rw [List.length_append, marksOf_len, List.length_drop, List.length_cons, List.length_replicate]; omega
theorem marksP_at (L : List UInt8) (n k : Nat) (h : k < n) : ∃ b, (marksP L n k)[k]? = some b := by
  have := marksP_len L n k (by omega) (by omega)
  exact ⟨_, List.getElem?_eq_getElem (by omega)⟩
theorem marksP_set (L : List UInt8) (n k : Nat) (h : k < n) : (marksP L n k).set k (mark L k) = marksP L n (k + 1) := by
  unfold marksP
  rw [List.set_append_right _ _ (by rw [marksOf_len]; omega), marksOf_len, Nat.sub_self, List.drop_eq_getElem_cons (i := k) (by simp; omega), List.set_cons_zero, marksOf_succ, List.append_assoc]
  rfl
theorem marksP_end (L : List UInt8) (n : Nat) (h1 : 1 ≤ n) : marksP L n n = marksOf L n := by
  unfold marksP
  rw [List.drop_of_length_le (by simp; omega), List.append_nil]
/-- How many are free. -/
def freeN (T : List Bool) : Nat := (T.filter (! ·)).length
theorem free_succ (T : List Bool) (k : Nat) (b : Bool) (h : T[k]? = some b) : freeN (T.take (k + 1)) = freeN (T.take k) + (if b then 0 else 1) := by
  unfold freeN
  rw [List.take_add_one, h]
  cases b <;> simp
theorem free_le (T : List Bool) (k : Nat) : freeN (T.take k) ≤ k := by
  unfold freeN
  exact Nat.le_trans (List.length_filter_le _ _) (by rw [List.length_take]; omega)
end
end Go.Proofs.Ytdimkeoncgjegaa
/-
  A disk in memory; contracts of Len, has, New, Take.
-/
namespace Go.Proofs.Ytdimkeoncgjegaa
section
open Go.RowKit

theorem Try.infoU8 : (Try.prog.info? 5).map (fun i => (i.zero, i.size, i.bytes)) = some (some (.int .u8 0), 1, 1) := by kernel_rfl
theorem Try.infoBool : (Try.prog.info? 4).map (fun i => (i.zero, i.size, i.bytes)) = some (some (.bool false), 1, 1) := by kernel_rfl

/-- A disk: its block, its bytes' block, its marks' block; so many pages. -/
structure Dk (w : World) (g gb gt n : Nat) (bs : Array Value) (ts : Array Value) : Prop where
  d : Blk w g 78 #[.slice (some ⟨gb, 0, none⟩) (n * 512) (n * 512), .slice (some ⟨gt, 0, none⟩) n n]
  b : Blk w gb 5 bs
  t : Blk w gt 4 ts
  hb : bs.size = n * 512
  ht : ts.size = n

theorem len_nil (w : World) : Calls Try.prog 40 #[.pointer none] w fun e w' => e = .returned (.int .i64 0) ∧ w = w' := by
  go_enter Try.func40, Try.ntmps40
  go_wp2
  go_ret
  exact ⟨rfl, rfl⟩
theorem len_any {w : World} {g gb gt n : Nat} {bs ts : Array Value} (h : Dk w g gb gt n bs ts) : Calls Try.prog 40 #[.pointer (some ⟨g, 0, none⟩)] w fun e w' => e = .returned (.int .i64 n) ∧ w = w' := by
  have c1 : w.cell? ⟨g, 1, none⟩ = some (.slice (some ⟨gt, 0, none⟩) n n) := h.d.cell 1
  go_enter Try.func40, Try.ntmps40
  go_wp2
  go_ret
  exact ⟨rfl, rfl⟩
theorem has_nil (p : Int) (w : World) (h0 : 0 ≤ p) (h1 : p ≤ 4294967295) : Calls Try.prog 49 #[.pointer none, .int .u32 p] w fun e w' => e = .returned (.bool false) ∧ w = w' := by
  go_enter Try.func49, Try.ntmps49
  go_wp2_with (go_at_call 40; refine (len_nil _).mono ?_; rintro e w' ⟨rfl, rfl⟩)
  go_ret
  exact ⟨ret_bool (decide_eq_false (by omega)), rfl⟩
theorem has_any {w : World} {g gb gt n : Nat} {bs ts : Array Value} (h : Dk w g gb gt n bs ts) (p : Int) (h0 : 0 ≤ p) (h1 : p ≤ 4294967295) (hn : n ≤ 1000000) :
    Calls Try.prog 49 #[.pointer (some ⟨g, 0, none⟩), .int .u32 p] w fun e w' => e = .returned (.bool (decide (p < n))) ∧ w = w' := by
  have L := Lib.hid (len_any h)
  go_enter Try.func49, Try.ntmps49
  go_wp2_with (go_at_call 40; refine L.out.mono ?_; rintro e w' ⟨rfl, rfl⟩)
  go_ret
  exact ⟨rfl, rfl⟩
theorem read_nil (p : Int) (h0 : 0 ≤ p) (h1 : p ≤ 4294967295) (w : World) : Calls Try.prog 71 #[.pointer none, .int .u32 p] w fun e w' => e = .returned (.tuple #[.slice none 0 0, .int .i64 8]) ∧ w = w' := by
  go_enter Try.func71, Try.ntmps71
  go_wp2_with (go_at_call 49; refine (has_nil p _ h0 h1).mono ?_; rintro e w' ⟨rfl, rfl⟩)
  go_ret2
  exact ⟨rfl, rfl⟩
theorem write_nil (v : Value) (p : Int) (h0 : 0 ≤ p) (h1 : p ≤ 4294967295) (w : World) : Calls Try.prog 28 #[.pointer none, .int .u32 p, v] w fun e w' => e = .returned (.int .i64 8) ∧ w = w' := by
  go_enter Try.func28, Try.ntmps28
  go_wp2_with (go_at_call 49; refine (has_nil p _ h0 h1).mono ?_; rintro e w' ⟨rfl, rfl⟩)
  go_ret
  exact ⟨rfl, rfl⟩
theorem image_nil (w : World) : Calls Try.prog 34 #[.pointer none] w fun e w' => e = .returned (.slice none 0 0) ∧ w = w' := by
  go_enter Try.func34, Try.ntmps34
  go_wp2
  go_ret
  exact ⟨rfl, rfl⟩
theorem take_nil (w : World) : Calls Try.prog 23 #[.pointer none] w fun e w' => e = .returned (.tuple #[.int .u32 0, .int .i64 7]) ∧ w = w' := by
  go_enter Try.func23, Try.ntmps23
  go_wp2_with (go_at_call 40; refine (len_nil _).mono ?_; rintro e w' ⟨rfl, rfl⟩)
  go_loop [7] (fun v => v = .int .i64 0) (fun _ => 0)
  case atStart => rfl
  case round =>
    subst hrel
    go_wp2
    go_ret2
    exact ⟨rfl, rfl⟩
theorem left_nil (w : World) : Calls Try.prog 32 #[.pointer none] w fun e w' => e = .returned (.int .i64 0) ∧ w = w' := by
  go_enter Try.func32, Try.ntmps32
  go_wp2_with (go_at_call 40; refine (len_nil _).mono ?_; rintro e w' ⟨rfl, rfl⟩)
  go_loop [3, 7] (fun u v => u = .int .i64 0 ∧ v = .int .i64 0) (fun _ _ => 0)
  case atStart => exact ⟨rfl, rfl⟩
  case round =>
    obtain ⟨rfl, rfl⟩ := hrel
    go_wp2
    go_ret
    exact ⟨rfl, rfl⟩
end
end Go.Proofs.Ytdimkeoncgjegaa

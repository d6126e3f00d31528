/-
  Books out of bytes, plain: what is written is read.
-/
import Derived.Test.YtflolnilagogpaaIb
set_option linter.unusedSimpArgs false
set_option linter.unusedVariables false
namespace Go.Proofs.Ytflolnilagogpaa
open Go.RowKit

abbrev Got (α : Type) := Option (α × List UInt8)
def gOne (l : List UInt8) : Got Nat := match l with
  | [] => none
  | b :: r => some (b.toNat, r)
def gTake (n : Nat) (l : List UInt8) : Got (List UInt8) := if n ≤ l.length then some (l.take n, l.drop n) else none
def gFour (l : List UInt8) : Got Nat := match gTake 4 l with
  | none => none
  | some (a, r) => some (beVal a, r)
def gText (l : List UInt8) : Got (List UInt8) := match gOne l with
  | none => none
  | some (n, r) => gTake n r
def gMany {α : Type} (g : List UInt8 → Got α) : Nat → List UInt8 → Got (List α)
  | 0, l => some ([], l)
  | n + 1, l => match g l with
    | none => none
    | some (a, r) => match gMany g n r with
      | none => none
      | some (t, r) => some (a :: t, r)
def gInt (g : List UInt8 → Got Nat) (l : List UInt8) : Got Int := match g l with
  | none => none
  | some (n, r) => some ((n : Int), r)
def gCol (l : List UInt8) : Got PC := match gText l with
  | none => none
  | some (s, r) => match gInt gOne r with
    | none => none
    | some (k, r) => match gInt gFour r with
      | none => none
      | some (d, r) => match gInt gFour r with
        | none => none
        | some (u, r) => some (⟨s, k, d, u⟩, r)
def gNums3 (l : List UInt8) : Got (Int × Int × Int) := match gInt gFour l with
  | none => none
  | some (a, r) => match gInt gFour r with
    | none => none
    | some (b, r) => match gInt gFour r with
      | none => none
      | some (c, r) => some ((a, b, c), r)
def gTab (l : List UInt8) : Got PT := match gText l with
  | none => none
  | some (s, r) => match gOne r with
    | none => none
    | some (n, r) => match gMany gCol n r with
      | none => none
      | some (cs, r) => match gNums3 r with
        | none => none
        | some ((a, b, c), r) => some (⟨s, cs, a, b, c⟩, r)
def gIdx (l : List UInt8) : Got PX := match gText l with
  | none => none
  | some (s, r) => match gInt gOne r with
    | none => none
    | some (tb, r) => match gOne r with
      | none => none
      | some (n, r) => match gMany (gInt gOne) n r with
        | none => none
        | some (cs, r) => match gNums3 r with
          | none => none
          | some ((a, b, c), r) => match gMany (gInt gFour) n r with
            | none => none
            | some (ds, r) => some (⟨s, tb, cs, a, b, c, ds⟩, r)
def gBook (l : List UInt8) : Got PB := match gOne l with
  | none => none
  | some (n, r) => match gMany gTab n r with
    | none => none
    | some (ts, r) => match gOne r with
      | none => none
      | some (m, r) => match gMany gIdx m r with
        | none => none
        | some (xs, r) => some (⟨ts, xs⟩, r)
theorem gOne_put {z : Int} (h0 : 0 ≤ z) (h1 : z < 256) (r : List UInt8) : gOne (oneB z ++ r) = some (z.toNat, r) := by
  unfold oneB gOne
  simp only [List.cons_append, List.nil_append, Option.some.injEq, Prod.mk.injEq, and_true]
  rw [UInt8.toNat_ofNat']
  omega
theorem gInt_one {z : Int} (h0 : 0 ≤ z) (h1 : z < 256) (r : List UInt8) : gInt gOne (oneB z ++ r) = some (z, r) := by
  unfold gInt
  rw [gOne_put h0 h1]
  simp only [Option.some.injEq, Prod.mk.injEq, and_true]
  omega
theorem gTake_put (s r : List UInt8) : gTake s.length (s ++ r) = some (s, r) := by
  unfold gTake
  rw [if_pos (by rw [List.length_append]; omega), List.take_left' rfl, List.drop_left' rfl]
theorem gInt_four {z : Int} (h : num31 z = true) (r : List UInt8) : gInt gFour (fourB z ++ r) = some (z, r) := by
  obtain ⟨h0, h1⟩ := num31_iff.1 h
  unfold gInt gFour
  have h4 : (fourB z).length = 4 := by unfold fourB; exact be_len 4 _
  have ht := gTake_put (fourB z) r
  rw [h4] at ht
  rw [ht]
  have hv : beVal (fourB z) = z.toNat := by
    unfold fourB
    rw [beVal_be]
    omega
  simp only [hv, Option.some.injEq, Prod.mk.injEq, and_true]
  omega
theorem gText_put {s : List UInt8} (h : s.length ≤ 255) (r : List UInt8) : gText (txtB s ++ r) = some (s, r) := by
  unfold gText txtB gOne
  simp only [List.cons_append]
  rw [show (UInt8.ofNat s.length).toNat = s.length from by rw [UInt8.toNat_ofNat']; omega]
  exact gTake_put s r
theorem gMany_put {α : Type} {g : List UInt8 → Got α} {f : α → List UInt8} : ∀ (l : List α), (∀ a ∈ l, ∀ r, g (f a ++ r) = some (a, r)) → ∀ r, gMany g l.length (l.flatMap f ++ r) = some (l, r) := by
  intro l
  induction l with
  | nil => intro _ r; rfl
  | cons a t ih =>
    intro h r
    rw [List.length_cons, List.flatMap_cons, List.append_assoc]
    unfold gMany
    rw [h a (by simp)]
    simp only
    rw [ih (fun b hb => h b (by simp [hb])) r]
theorem gCol_put {c : PC} (h : OkC c) (r : List UInt8) : gCol (colB c ++ r) = some (c, r) := by
  have h1 := nb_facts h.1
  unfold gCol colB
  simp only [List.append_assoc]
  rw [gText_put (by omega)]
  simp only
  rw [gInt_one (by have := h.2.1; omega) (by have := h.2.1; omega)]
  simp only
  rw [gInt_four h.2.2.1]
  simp only
  rw [gInt_four h.2.2.2]
theorem gNums3_put {a b c : Int} (ha : num31 a = true) (hb : num31 b = true) (hc : num31 c = true) (r : List UInt8) : gNums3 (fourB a ++ (fourB b ++ (fourB c ++ r))) = some ((a, b, c), r) := by
  unfold gNums3
  rw [gInt_four ha]
  simp only
  rw [gInt_four hb]
  simp only
  rw [gInt_four hc]
theorem gTab_put {t : PT} (h : MayT t) (r : List UInt8) : gTab (tabB t ++ r) = some (t, r) := by
  have h1 := nb_facts h.1
  unfold gTab tabB
  simp only [List.append_assoc]
  rw [gText_put (by omega)]
  simp only
  rw [gOne_put (by omega) (by have := h.2.2.1; omega)]
  simp only [Int.toNat_natCast]
  rw [gMany_put t.cols (fun c hc r => by
    obtain ⟨i, hi, he⟩ := List.mem_iff_getElem.1 hc
    exact gCol_put (h.2.2.2.2.2.2 i hi c (by rw [List.getElem?_eq_getElem hi, he])).1 r)]
  simp only
  rw [gNums3_put h.2.2.2.1 h.2.2.2.2.1 h.2.2.2.2.2.1]
theorem MayX.row {ts : List PT} {x : PX} (h : MayX ts x) (h8 : ∀ t ∈ ts, t.cols.length ≤ 8) : (∀ c ∈ x.cs, 0 ≤ c ∧ c < 256) ∧ ∀ d ∈ x.ds, num31 d = true := by
  have hml : x.tb.toNat < ts.length := by have := h.2.1; have := h.2.2.1; omega
  have ht := List.getElem?_eq_getElem hml
  have h9 := h8 _ (List.getElem_mem hml)
  have hlen := h.2.2.2.2.2.1
  constructor
  · intro c hc
    obtain ⟨i, hi, he⟩ := List.mem_iff_getElem.1 hc
    have h3 := (h.2.2.2.2.2.2.1 _ ht i c _ (by rw [List.getElem?_eq_getElem hi, he]) (List.getElem?_eq_getElem (show i < x.ds.length by omega))).1
    omega
  · intro d hd
    obtain ⟨i, hi, he⟩ := List.mem_iff_getElem.1 hd
    exact (h.2.2.2.2.2.2.1 _ ht i _ d (List.getElem?_eq_getElem (show i < x.cs.length by omega)) (by rw [List.getElem?_eq_getElem hi, he])).2
theorem gIdx_put {ts : List PT} {x : PX} (h : MayX ts x) (hn : ts.length ≤ 16) (h8 : ∀ t ∈ ts, t.cols.length ≤ 8) (r : List UInt8) : gIdx (idxB x ++ r) = some (x, r) := by
  have h1 := nb_facts h.1
  obtain ⟨hc, hd⟩ := h.row h8
  unfold gIdx idxB
  simp only [List.append_assoc]
  rw [gText_put (by omega)]
  simp only
  rw [gInt_one h.2.1 (by have := h.2.2.1; omega)]
  simp only
  rw [gOne_put (by omega) (by have := h.2.2.2.2.1; omega)]
  simp only [Int.toNat_natCast]
  rw [gMany_put x.cs (fun c h r => gInt_one (hc c h).1 (hc c h).2 r)]
  simp only
  rw [gNums3_put h.2.2.2.2.2.2.2.2.1 h.2.2.2.2.2.2.2.2.2.1 h.2.2.2.2.2.2.2.2.2.2]
  simp only
  rw [← h.2.2.2.2.2.1, gMany_put x.ds (fun d h r => gInt_four (hd d h) r)]
theorem gBook_put {b : PB} (h : MayB b) (r : List UInt8) : gBook (bookB b ++ r) = some (b, r) := by
  have h8 : ∀ t ∈ b.ts, t.cols.length ≤ 8 := fun t ht => by
    obtain ⟨i, hi, he⟩ := List.mem_iff_getElem.1 ht
    exact (h.2.2.1 i hi t (by rw [List.getElem?_eq_getElem hi, he])).1.2.2.1
  unfold gBook bookB
  simp only [List.append_assoc]
  rw [gOne_put (by omega) (by have := h.1; omega)]
  simp only [Int.toNat_natCast]
  rw [gMany_put b.ts (fun t ht r => by
    obtain ⟨i, hi, he⟩ := List.mem_iff_getElem.1 ht
    exact gTab_put (h.2.2.1 i hi t (by rw [List.getElem?_eq_getElem hi, he])).1 r)]
  simp only
  rw [gOne_put (by omega) (by have := h.2.1; omega)]
  simp only [Int.toNat_natCast]
  rw [gMany_put b.xs (fun x hx r => by
    obtain ⟨i, hi, he⟩ := List.mem_iff_getElem.1 hx
    exact gIdx_put (h.2.2.2 i hi x (by rw [List.getElem?_eq_getElem hi, he])).1 h.1 h8 r)]
theorem bookB_inj {a b : PB} (ha : MayB a) (hb : MayB b) : bookB a = bookB b ↔ a = b := by
  refine ⟨fun h => ?_, fun h => by rw [h]⟩
  have h1 := gBook_put ha []
  rw [h, gBook_put hb []] at h1
  exact (Prod.mk.inj (Option.some.inj h1)).1.symm
end Go.Proofs.Ytflolnilagogpaa

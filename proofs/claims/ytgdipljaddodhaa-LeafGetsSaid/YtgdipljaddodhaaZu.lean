/-
  Pages of a tree: any bytes are no page, a leaf page, or an inner one: what each side answers.
-/
import Derived.Test.YtgdipljaddodhaaZt
set_option linter.unusedSimpArgs false
set_option linter.unusedVariables false
namespace Go.Proofs.Ytgdipljaddodhaa
open Go.RowKit

def noLeaf : Value := .tuple #[.int .u32 0, .slice none 0 0, .int .i64 2]
def noInner : Value := .tuple #[.slice none 0 0, .slice none 0 0, .int .i64 2]
section
variable (A : Option Addr) (n c : Nat) (L : List UInt8) (w : World)
def TriNone : Prop := (∀ W, Below w.heap.size w W → Calls Try.prog 25 #[.string (str L)] W (RetPgNo W)) ∧
  (∀ W, Below w.heap.size w W → Calls Try.prog 18 #[.slice A n c] W (RetB W noLeaf)) ∧ (∀ W, Below w.heap.size w W → Calls Try.prog 19 #[.slice A n c] W (RetB W noInner))
def TriLeaf : Prop := ∃ (N : Nat) (es : List En), (∀ W, Below w.heap.size w W → Calls Try.prog 25 #[.string (str L)] W (RetPg W 0 N [] es true)) ∧
  (∀ W, Below w.heap.size w W → Calls Try.prog 18 #[.slice A n c] W (RetGlo W N es)) ∧ (∀ W, Below w.heap.size w W → Calls Try.prog 19 #[.slice A n c] W (RetB W noInner)) ∧
  leafL N es = L ∧ sumE es ≤ 504 ∧ mayEn es = true ∧ (∀ e ∈ es, e.ok) ∧ N < 4294967296
def TriInner : Prop := ∃ (c0 : Nat) (ps : List (En × Nat)), (∀ W, Below w.heap.size w W → Calls Try.prog 25 #[.string (str L)] W (RetPg W 1 0 (c0 :: ps.map Prod.snd) (ps.map Prod.fst) true)) ∧
  (∀ W, Below w.heap.size w W → Calls Try.prog 18 #[.slice A n c] W (RetB W noLeaf)) ∧ (∀ W, Below w.heap.size w W → Calls Try.prog 19 #[.slice A n c] W (RetGi W c0 ps)) ∧
  innL c0 ps ps.length = L ∧ sumE (ps.map Prod.fst) + 4 * ps.length ≤ 500 ∧ mayEn (ps.map Prod.fst) = true ∧ (∀ p ∈ ps, p.1.ok ∧ p.2 < 4294967296) ∧ c0 < 4294967296 ∧ ps.length ≠ 0
theorem tri (hr : Reads w w.heap.size 1 A n (bL L)) (hn : n ≤ 600) (hc : n ≤ c) : TriNone A n c L w ∨ TriLeaf A n c L w ∨ TriInner A n c L w := by
  have hl := hr.bytes_len
  have R : ∀ W, Below w.heap.size w W → Reads W W.heap.size 1 A n (bL L) := fun W hb => (hr.below hb).more hb.size
  have LO : (hdOk L = false ∨ hdK L ≠ 2) → ∀ W, Below w.heap.size w W → Calls Try.prog 18 #[.slice A n c] W (RetB W noLeaf) := fun h W hb => getLeaf_op A n c W.heap.size L W (R W hb) (Nat.le_refl _) (by omega) h
  have IO : (hdOk L = false ∨ hdK L ≠ 3) → ∀ W, Below w.heap.size w W → Calls Try.prog 19 #[.slice A n c] W (RetB W noInner) := fun h W hb => getInner_op A n c W.heap.size L W (R W hb) (Nat.le_refl _) (by omega) h
  have hC : hdC L < 65536 := by unfold hdC; exact beVal_lt_of (n := 2) (by rw [List.length_take]; omega)
  have hN : hdN L < 4294967296 := by unfold hdN; exact beVal_lt_of (n := 4) (by rw [List.length_take]; omega)
  by_cases hbad : hdBad L
  · refine .inl ⟨fun W hb => page_bad L (by omega) hbad W, LO ?_, ?_⟩
    · rcases hbad with h | h | h
      · exact .inl h
      · exact .inr h.1
      · exact .inr (by rw [h.1]; decide)
    · by_cases ho : hdOk L = true
      · by_cases hk : hdK L = 3
        · rcases hbad with h | h | h
          · rw [ho] at h; cases h
          · exact absurd hk h.2
          · exact fun W hb => getInner_hd A n c W.heap.size L W (R W hb) (Nat.le_refl _) (by omega) hc ho hk (by rcases h.2 with h | h; exact .inr h; exact .inl h)
        · exact IO (.inr hk)
      · exact IO (.inl (by simpa using ho))
  · have ho : hdOk L = true := by
      cases h : hdOk L with
      | true => rfl
      | false => exact absurd (.inl h) hbad
    have h512 : n = 512 := by unfold hdOk at ho; rw [Bool.and_eq_true] at ho; rw [← hl]; simpa using ho.1
    by_cases hk : hdK L = 2
    · have hk3 : hdK L ≠ 3 := by rw [hk]; decide
      have GLA : ∀ W, Below w.heap.size w W → Calls Try.prog 18 #[.slice A n c] W (RetGla W (hdN L) (rdMany (hdC L) (L.drop 8)) (okLeaf L)) := fun W hb =>
        getLeaf_all A n c W.heap.size (hdC L) L (rdMany (hdC L) (L.drop 8)) (rdRest (hdC L) (L.drop 8)) W (R W hb) (Nat.le_refl _) (by omega) hc ho hk rfl (by omega) rfl rfl _ _ _ rfl rfl (by have := rdRest_le (hdC L) (L.drop 8); rw [List.length_drop] at this; omega) rfl
      have PG := fun W => page_leaf L ho hk W
      by_cases hok : okLeaf L = true
      · rw [hok] at GLA PG
        have hok' := hok
        unfold okLeaf at hok'
        simp only [Bool.and_eq_true, Bool.not_eq_true'] at hok'
        obtain ⟨⟨h1, h2⟩, h3⟩ := hok'
        obtain ⟨i1, i2⟩ := leaf_inv ho hk h1 h2
        exact .inr (.inl ⟨hdN L, _, fun W _ => PG W, GLA, IO (.inr hk3), i1, i2, h3, rdMany_ok _ _, hN⟩)
      · have hok' : okLeaf L = false := by simpa using hok
        rw [hok'] at GLA PG
        exact .inl ⟨fun W _ => PG W, GLA, IO (.inr hk3)⟩
    · have hk3 : hdK L = 3 := by
        rcases Nat.decEq (hdK L) 3 with h | h
        · exact absurd (.inr (.inl ⟨hk, h⟩)) hbad
        · exact h
      have hN0 : hdN L = 0 := by
        rcases Nat.decEq (hdN L) 0 with h | h
        · exact absurd (.inr (.inr ⟨hk3, .inl h⟩)) hbad
        · exact h
      have hC0 : hdC L ≠ 0 := fun h => hbad (.inr (.inr ⟨hk3, .inr h⟩))
      have h4 : decide ((L.drop 8).length < 4) = false := by rw [decide_eq_false_iff_not, List.length_drop]; omega
      have GIA : ∀ W, Below w.heap.size w W → Calls Try.prog 19 #[.slice A n c] W (RetGia W (beVal (tk (L.drop 8) 4)) (riMany (hdC L) (dr (L.drop 8) 4)) (okInner L)) := fun W hb =>
        getInner_all A n c W.heap.size (hdC L) (beVal (tk (L.drop 8) 4)) L (riMany (hdC L) (dr (L.drop 8) 4)) (riRest (hdC L) (dr (L.drop 8) 4)) W (R W hb) (Nat.le_refl _) (by omega) hc ho hk3 rfl (by omega) hC0 hN0 rfl rfl rfl _ _ _ (by rw [h4, Bool.false_or]) rfl (by have := riRest_le (hdC L) (dr (L.drop 8) 4); have h2 := dr_le (L.drop 8) 4; rw [List.length_drop] at h2; omega) rfl
      have PG := fun W => page_inner L ho hk3 hN0 hC0 W
      by_cases hok : okInner L = true
      · rw [hok] at GIA PG
        have hok' := hok
        unfold okInner at hok'
        simp only [Bool.and_eq_true, Bool.not_eq_true'] at hok'
        obtain ⟨⟨h1, h2⟩, h3⟩ := hok'
        obtain ⟨i1, i2⟩ := inner_inv ho hk3 hN0 h1 h2
        refine .inr (.inr ⟨_, _, fun W _ => PG W, LO (.inr hk), GIA, ?_, ?_, h3, riMany_ok _ _, ?_, ?_⟩)
        · rw [riMany_len]; exact i1
        · rw [riMany_len]; exact i2
        · exact beVal_lt_of (n := 4) (by rw [tk_len]; exact Nat.le_refl _)
        · rw [riMany_len]; exact hC0
      · have hok' : okInner L = false := by simpa using hok
        rw [hok'] at GIA PG
        exact .inl ⟨fun W _ => PG W, LO (.inr hk), GIA⟩
end
end Go.Proofs.Ytgdipljaddodhaa

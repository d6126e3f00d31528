/-
  Several texts in one: Zt Zu.
-/
import Derived.Test.YtebobcbaloddaaaMuao
import Derived.Test.YtebobcbaloddaaaMuak
import Derived.Test.YtebobcbaloddaaaMubi
import Derived.Test.YtebobcbaloddaaaMubk
import Derived.Test.YtebobcbaloddaaaMuam
/-
  Pages of a tree: words for the law LeafGets.
-/
namespace Go.Proofs.Ytebobcbaloddaaa
section
set_option linter.unusedSimpArgs false
set_option linter.unusedVariables false
open Go.RowKit

theorem xor_u8 (x b : UInt8) : bits .xor .u8 (x.toNat : Int) (b.toNat : Int) = (((x ^^^ b : UInt8).toNat : Nat) : Int) := by
  have hb := b.toNat_lt
  have hx := x.toNat_lt
  show IntKind.u8.wrap ((BitVec.ofInt 8 (x.toNat : Int) ^^^ BitVec.ofInt 8 (b.toNat : Int)).toNat : Int) = _
  have e1 : (BitVec.ofInt 8 (x.toNat : Int)).toNat = x.toNat := by rw [BitVec.toNat_ofInt]; omega
  have e2 : (BitVec.ofInt 8 (b.toNat : Int)).toNat = b.toNat := by rw [BitVec.toNat_ofInt]; omega
  rw [BitVec.toNat_xor, e1, e2]
  have h2 := (x ^^^ b).toNat_lt
  rw [UInt8.toNat_xor] at h2 ⊢
  simp [IntKind.wrap, IntKind.bits, IntKind.signed]; omega
theorem bT_app (a b : List UInt8) (tl : List Value) : bT (a ++ b) tl = bT a (bL b ++ tl) := by unfold bT; simp [bL]
theorem zip_maps : ∀ ps : List (En × Nat), (ps.map Prod.fst).zip (ps.map Prod.snd) = ps
  | [] => rfl
  | p :: ps => by simp only [List.map_cons, List.zip_cons_cons, zip_maps ps]
/-- A page that was made, or nothing. -/
def RetSome (w : World) (e : Ending) (w' : World) : Prop := ∃ A k c L q, e = .returned (.tuple #[.slice A k c, .int .i64 q]) ∧ Reads w' w'.heap.size 1 A k (bL L) ∧ k ≤ 512 ∧ k ≤ c ∧ Below w.heap.size w w'
theorem some_no {w : World} {e : Ending} {w' : World} {q : Nat} (h : RetB w (.tuple #[.slice none 0 0, .int .i64 q]) e w') : RetSome w e w' :=
  ⟨none, 0, 0, [], q, h.1, Reads.none_, by omega, Nat.le_refl _, h.2⟩
theorem some_ok {w : World} {e : Ending} {w' : World} {L : List UInt8} (hL : L.length = 512) (h : RetLf w L e w') : RetSome w e w' := by
  obtain ⟨v, rfl, own, hb⟩ := h
  obtain ⟨A, c, rfl, hc⟩ := own.form
  exact ⟨A, L.length, c, L, 0, rfl, own.reads.1, by omega, hc, hb⟩
theorem leafL_len (next : Nat) (l : List En) (hf : sumE l ≤ 504) : (leafL next l).length = 512 := by
  unfold leafL
  simp only [List.length_append, List.length_take, headL_len, sumE_len, List.length_replicate]
  omega
theorem putLeaf_some (A : Option Addr) (n c : Nat) (l : List En) (w : World) (hr : Reads w w.heap.size 3 A n (vE l)) (hok : ∀ e ∈ l, e.ok) (hn : n ≤ 1000000) (hs : sumE l ≤ 72000) :
    Calls Try.prog 35 #[.int .u32 3, .slice A n c] w (RetSome w) := by
  by_cases hm : mayEn l = true
  · by_cases hf : sumE l ≤ 504
    · exact (putLeaf_ok 3 (by decide) A n c l w hr hok hm hf).mono fun e w' h => some_ok (leafL_len 3 l hf) h
    · exact (putLeaf_full 3 A n c l w hr hn hm hs (by omega)).mono fun e w' h => some_no (q := 7) h
  · exact (putLeaf_no 3 A n c l w hr hn (by simpa using hm)).mono fun e w' h => some_no (q := 1) h
theorem putInner_some (A0 : Option Addr) (c0 : Nat) (ch : List Nat) (A : Option Addr) (n c : Nat) (l : List En) (w : World) (hr : Reads w w.heap.size 3 A n (vE l)) (hr0 : Reads w w.heap.size 1 A0 (n + 1) (vN ch)) (hch : ∀ x ∈ ch, x < 4294967296) (hok : ∀ e ∈ l, e.ok) (hn : n ≤ 9000) (hs : sumE l ≤ 72000) :
    Calls Try.prog 39 #[.slice A0 (n + 1) c0, .slice A n c] w (RetSome w) := by
  have hl : l.length = n := by have := hr.1; rw [vE_len] at this; omega
  have hcl := hr0.num_len
  by_cases hn0 : n = 0
  · exact (putInner_no A0 (n + 1) c0 A n c l w hr (by omega) (by omega) (.inr (.inl hn0))).mono fun e w' h => some_no (q := 1) h
  · by_cases hm : mayEn l = true
    · by_cases hf : sumE l + 4 * n ≤ 500
      · match ch, hcl with
        | ch0 :: cs, hcl =>
          have hcs : cs.length = n := by simpa using hcl
          refine (putInner_ok A0 c0 A n c l ch0 cs w hr hr0 hok hch hn0 hm hf).mono fun e w' h => some_ok ?_ h
          unfold innL
          have hzl : (l.zip cs).length = n := by rw [List.length_zip]; omega
          simp only [List.length_append, List.length_take, headL_len, be_len, inB_len, List.length_replicate]
          rw [zip_fst (by omega), hzl]
          omega
      · exact (putInner_full A0 (n + 1) c0 A n c l w hr hs rfl hn0 hm (by omega)).mono fun e w' h => some_no (q := 7) h
    · exact (putInner_no A0 (n + 1) c0 A n c l w hr (by omega) (by omega) (.inr (.inr (by simpa using hm)))).mono fun e w' h => some_no (q := 1) h
/-- make of children's numbers. -/
theorem make32 (k : Nat) (hk : k ≤ 100000) (x : Int) (hx : x = (k : Int)) (W : World) : (Instr.makeSlice 69 (.int .i64 x) (.int .i64 x)).run Try.prog W = .ok (.slice (some ⟨W.heap.size, 0, none⟩) k k) (W.alloc (.cells (vN (List.replicate k 0)).toArray 31)) := by
  subst hx
  obtain ⟨i0, hi0, hz0, hs0, hy0⟩ := int_info8 Try.infoN
  have h := run_make (P := Try.prog) W 69 31 i0 (.int .u32 0) Try.underlying69 hi0 hz0 .i64 .i64 k k (by omega) (by omega) (by rw [hy0]; omega) (by omega)
  rw [hs0, Int.toNat_natCast, Nat.mul_one] at h
  have hm : madeCells #[.int .u32 0] k = (vN (List.replicate k 0)).toArray := by
    apply Array.ext
    · simp [size_madeCells, vN_len]
    · intro j h1 h2
      have hj : j < k := by simpa [size_madeCells] using h1
      simp [madeCells, Nat.mod_one, vN]
  rw [← hm]
  exact h
end
end Go.Proofs.Ytebobcbaloddaaa
/-
  Pages of a tree: any bytes are no page, a leaf page, or an inner one: what each side answers.
-/
namespace Go.Proofs.Ytebobcbaloddaaa
section
set_option linter.unusedSimpArgs false
set_option linter.unusedVariables false
open Go.RowKit

def noLeaf : Value := .tuple #[.int .u32 0, .slice none 0 0, .int .i64 2]
def noInner : Value := .tuple #[.slice none 0 0, .slice none 0 0, .int .i64 2]
section
variable (A : Option Addr) (n c : Nat) (L : List UInt8) (w : World)
def TriNone : Prop := (∀ W, Below w.heap.size w W → Calls Try.prog 62 #[.string (str L)] W (RetPgNo W)) ∧
  (∀ W, Below w.heap.size w W → Calls Try.prog 69 #[.slice A n c] W (RetB W noLeaf)) ∧ (∀ W, Below w.heap.size w W → Calls Try.prog 70 #[.slice A n c] W (RetB W noInner))
def TriLeaf : Prop := ∃ (N : Nat) (es : List En), (∀ W, Below w.heap.size w W → Calls Try.prog 62 #[.string (str L)] W (RetPg11 W 0 N [] es true)) ∧
  (∀ W, Below w.heap.size w W → Calls Try.prog 69 #[.slice A n c] W (RetGlo W N es)) ∧ (∀ W, Below w.heap.size w W → Calls Try.prog 70 #[.slice A n c] W (RetB W noInner)) ∧
  leafL N es = L ∧ sumE es ≤ 504 ∧ mayEn es = true ∧ (∀ e ∈ es, e.ok) ∧ N < 4294967296
def TriInner : Prop := ∃ (c0 : Nat) (ps : List (En × Nat)), (∀ W, Below w.heap.size w W → Calls Try.prog 62 #[.string (str L)] W (RetPg11 W 1 0 (c0 :: ps.map Prod.snd) (ps.map Prod.fst) true)) ∧
  (∀ W, Below w.heap.size w W → Calls Try.prog 69 #[.slice A n c] W (RetB W noLeaf)) ∧ (∀ W, Below w.heap.size w W → Calls Try.prog 70 #[.slice A n c] W (RetGi W c0 ps)) ∧
  innL c0 ps ps.length = L ∧ sumE (ps.map Prod.fst) + 4 * ps.length ≤ 500 ∧ mayEn (ps.map Prod.fst) = true ∧ (∀ p ∈ ps, p.1.ok ∧ p.2 < 4294967296) ∧ c0 < 4294967296 ∧ ps.length ≠ 0
theorem tri (hr : Reads w w.heap.size 1 A n (bL L)) (hn : n ≤ 600) (hc : n ≤ c) : TriNone A n c L w ∨ TriLeaf A n c L w ∨ TriInner A n c L w := by
  have hl := hr.bytes_len
  have R : ∀ W, Below w.heap.size w W → Reads W W.heap.size 1 A n (bL L) := fun W hb => (hr.below hb).more hb.size
  have LO : (hdOk L = false ∨ hdK L ≠ 2) → ∀ W, Below w.heap.size w W → Calls Try.prog 69 #[.slice A n c] W (RetB W noLeaf) := fun h W hb => getLeaf_op A n c W.heap.size L W (R W hb) (Nat.le_refl _) (by omega) h
  have IO : (hdOk L = false ∨ hdK L ≠ 3) → ∀ W, Below w.heap.size w W → Calls Try.prog 70 #[.slice A n c] W (RetB W noInner) := fun h W hb => getInner_op A n c W.heap.size L W (R W hb) (Nat.le_refl _) (by omega) h
  have hC : hdC L < 65536 := by unfold hdC; exact beVal_lt_of (n := 2) (by rw [List.length_take]; omega)
  have hN : hdN L < 4294967296 := by unfold hdN; exact beVal_lt_of (n := 4) (by rw [List.length_take]; omega)
  by_cases hbad : hdBad L
  · refine .inl ⟨fun W hb => page_bad L (by omega) hbad W, LO ?_, ?_⟩
    · rcases hbad with h | h | h
      · exact .inl h
      · exact .inr h.1
      · exact .inr (by rw [h.1]; decide)
    · by_cases ho : hdOk L = true
      · by_cases hk : hdK L = 3
        · rcases hbad with h | h | h
          · rw [ho] at h; cases h
          · exact absurd hk h.2
          · exact fun W hb => getInner_hd A n c W.heap.size L W (R W hb) (Nat.le_refl _) (by omega) hc ho hk (by rcases h.2 with h | h; exact .inr h; exact .inl h)
        · exact IO (.inr hk)
      · exact IO (.inl (by simpa using ho))
  · have ho : hdOk L = true := by
      cases h : hdOk L with
      | true => rfl
      | false => exact absurd (.inl h) hbad
    have h512 : n = 512 := by unfold hdOk at ho; rw [Bool.and_eq_true] at ho; rw [← hl]; simpa using ho.1
    by_cases hk : hdK L = 2
    · have hk3 : hdK L ≠ 3 := by rw [hk]; decide
      have GLA : ∀ W, Below w.heap.size w W → Calls Try.prog 69 #[.slice A n c] W (RetGla W (hdN L) (rdMany (hdC L) (L.drop 8)) (okLeaf L)) := fun W hb =>
        getLeaf_all A n c W.heap.size (hdC L) L (rdMany (hdC L) (L.drop 8)) (rdRest (hdC L) (L.drop 8)) W (R W hb) (Nat.le_refl _) (by omega) hc ho hk rfl (by omega) rfl rfl _ _ _ rfl rfl (by have := rdRest_le (hdC L) (L.drop 8); rw [List.length_drop] at this; omega) rfl
      have PG := fun W => page_leaf L ho hk W
      by_cases hok : okLeaf L = true
      · rw [hok] at GLA PG
        have hok' := hok
        unfold okLeaf at hok'
        simp only [Bool.and_eq_true, Bool.not_eq_true'] at hok'
        obtain ⟨⟨h1, h2⟩, h3⟩ := hok'
        obtain ⟨i1, i2⟩ := leaf_inv ho hk h1 h2
        exact .inr (.inl ⟨hdN L, _, fun W _ => PG W, GLA, IO (.inr hk3), i1, i2, h3, rdMany_ok _ _, hN⟩)
      · have hok' : okLeaf L = false := by simpa using hok
        rw [hok'] at GLA PG
        exact .inl ⟨fun W _ => PG W, GLA, IO (.inr hk3)⟩
    · have hk3 : hdK L = 3 := by
        rcases Nat.decEq (hdK L) 3 with h | h
        · exact absurd (.inr (.inl ⟨hk, h⟩)) hbad
        · exact h
      have hN0 : hdN L = 0 := by
        rcases Nat.decEq (hdN L) 0 with h | h
        · exact absurd (.inr (.inr ⟨hk3, .inl h⟩)) hbad
        · exact h
      have hC0 : hdC L ≠ 0 := fun h => hbad (.inr (.inr ⟨hk3, .inr h⟩))
      have h4 : decide ((L.drop 8).length < 4) = false := by rw [decide_eq_false_iff_not, List.length_drop]; omega
      have GIA : ∀ W, Below w.heap.size w W → Calls Try.prog 70 #[.slice A n c] W (RetGia W (beVal (tk (L.drop 8) 4)) (riMany (hdC L) (dr (L.drop 8) 4)) (okInner L)) := fun W hb =>
        getInner_all A n c W.heap.size (hdC L) (beVal (tk (L.drop 8) 4)) L (riMany (hdC L) (dr (L.drop 8) 4)) (riRest (hdC L) (dr (L.drop 8) 4)) W (R W hb) (Nat.le_refl _) (by omega) hc ho hk3 rfl (by omega) hC0 hN0 rfl rfl rfl _ _ _ (by rw [h4, Bool.false_or]) rfl (by have := riRest_le (hdC L) (dr (L.drop 8) 4); have h2 := dr_le (L.drop 8) 4; rw [List.length_drop] at h2; omega) rfl
      have PG := fun W => page_inner L ho hk3 hN0 hC0 W
      by_cases hok : okInner L = true
      · rw [hok] at GIA PG
        have hok' := hok
        unfold okInner at hok'
        simp only [Bool.and_eq_true, Bool.not_eq_true'] at hok'
        obtain ⟨⟨h1, h2⟩, h3⟩ := hok'
        obtain ⟨i1, i2⟩ := inner_inv ho hk3 hN0 h1 h2
        refine .inr (.inr ⟨_, _, fun W _ => PG W, LO (.inr hk), GIA, ?_, ?_, h3, riMany_ok _ _, ?_, ?_⟩)
        · rw [riMany_len]; exact i1
        · rw [riMany_len]; exact i2
        · exact beVal_lt_of (n := 4) (by rw [tk_len]; exact Nat.le_refl _)
        · rw [riMany_len]; exact hC0
      · have hok' : okInner L = false := by simpa using hok
        rw [hok'] at GIA PG
        exact .inl ⟨fun W _ => PG W, LO (.inr hk), GIA⟩
end
end
end Go.Proofs.Ytebobcbaloddaaa

/-
  Pages of a tree: words for the law LeafGets.
-/
import Derived.Test.YtgdipljaddodhaaZr
import Derived.Test.YtgdipljaddodhaaZs
import Derived.Test.YtgdipljaddodhaaZg
import Derived.Test.YtgdipljaddodhaaOz
set_option linter.unusedSimpArgs false
set_option linter.unusedVariables false
namespace Go.Proofs.Ytgdipljaddodhaa
open Go.RowKit

/-- Bytes, and what else the block holds behind them. -/
def bT (l : List UInt8) (tl : List Value) : Array Value := (bL l ++ tl).toArray
theorem bT_set (l : List UInt8) (tl : List Value) (i : Nat) (b : UInt8) (h : i < l.length) : (bT l tl).setIfInBounds i (.int .u8 (b.toNat : Int)) = bT (l.set i b) tl := by
  unfold bT
  rw [List.setIfInBounds_toArray, List.set_append_left _ _ (by rw [bL_len]; exact h)]
  simp [bL, List.map_set]
theorem bT_at (l : List UInt8) (tl : List Value) (i : Nat) (h : i < l.length) : ∃ b : UInt8, (bT l tl)[i]? = some (.int .u8 (b.toNat : Int)) := by
  refine ⟨l[i], ?_⟩
  unfold bT
  rw [List.getElem?_toArray, List.getElem?_append_left (by rw [bL_len]; exact h)]
  exact bL_at (List.getElem?_eq_getElem h)
theorem Own.open_ {w : World} {base : Nat} {A : Option Addr} {n c : Nat} {l : List UInt8} (h : Own w base (.slice A n c) l) (hn : 0 < n) : ∃ g tl, A = some ⟨g, 0, none⟩ ∧ base ≤ g ∧ Blk w g 5 (bT l tl) ∧ (bL l ++ tl).length = c ∧ c ≤ maxLen := by
  have hl := h.reads.2
  rcases h.2 with ⟨e, _⟩ | ⟨g, cap, cur, e, hb, hh, hnc, hcm, hcs, ht⟩
  · injection e with _ e2 _; omega
  · injection e with e1 e2 e3
    subst e3
    have hcur : cur.toList = bL l ++ cur.toList.drop l.length := by
      have := List.take_append_drop l.length cur.toList
      rw [Nat.mul_one] at ht
      rw [ht] at this
      exact this.symm
    have hc : cur = bT l (cur.toList.drop l.length) := by unfold bT; rw [← hcur]
    refine ⟨g, cur.toList.drop l.length, e1, hb, ?_, ?_, hcm⟩
    · unfold Blk; rw [← hc]; exact hh
    · rw [← hcur, Array.length_toList, hcs, Nat.mul_one]
theorem Own.shut {w : World} {base g n c : Nat} {l : List UInt8} {tl : List Value} (h : Blk w g 5 (bT l tl)) (hc : (bL l ++ tl).length = c) (hm : c ≤ maxLen) (hb : base ≤ g) (hn : n = l.length) : Own w base (.slice (some ⟨g, 0, none⟩) n c) l := by
  subst hn
  have hl : l.length ≤ c := by rw [← hc, List.length_append, bL_len]; omega
  refine ⟨by rw [bL_len]; omega, .inr ⟨g, c, bT l tl, rfl, hb, h, hl, hm, ?_, ?_⟩⟩
  · unfold bT; rw [List.size_toArray, hc, Nat.mul_one]
  · unfold bT
    rw [Nat.mul_one]
    exact List.take_left' (bL_len l)
theorem xor_u8 (x b : UInt8) : bits .xor .u8 (x.toNat : Int) (b.toNat : Int) = (((x ^^^ b : UInt8).toNat : Nat) : Int) := by
  have hb := b.toNat_lt
  have hx := x.toNat_lt
  show IntKind.u8.wrap ((BitVec.ofInt 8 (x.toNat : Int) ^^^ BitVec.ofInt 8 (b.toNat : Int)).toNat : Int) = _
  have e1 : (BitVec.ofInt 8 (x.toNat : Int)).toNat = x.toNat := by rw [BitVec.toNat_ofInt]; omega
  have e2 : (BitVec.ofInt 8 (b.toNat : Int)).toNat = b.toNat := by rw [BitVec.toNat_ofInt]; omega
  rw [BitVec.toNat_xor, e1, e2]
  have h2 := (x ^^^ b).toNat_lt
  rw [UInt8.toNat_xor] at h2 ⊢
  simp [IntKind.wrap, IntKind.bits, IntKind.signed]; omega
theorem bT_app (a b : List UInt8) (tl : List Value) : bT (a ++ b) tl = bT a (bL b ++ tl) := by unfold bT; simp [bL]
theorem zip_maps : ∀ ps : List (En × Nat), (ps.map Prod.fst).zip (ps.map Prod.snd) = ps
  | [] => rfl
  | p :: ps => by simp only [List.map_cons, List.zip_cons_cons, zip_maps ps]
/-- A page that was made, or nothing. -/
def RetSome (w : World) (e : Ending) (w' : World) : Prop := ∃ A k c L q, e = .returned (.tuple #[.slice A k c, .int .i64 q]) ∧ Reads w' w'.heap.size 1 A k (bL L) ∧ k ≤ 512 ∧ k ≤ c ∧ Below w.heap.size w w'
theorem some_no {w : World} {e : Ending} {w' : World} {q : Nat} (h : RetB w (.tuple #[.slice none 0 0, .int .i64 q]) e w') : RetSome w e w' :=
  ⟨none, 0, 0, [], q, h.1, Reads.none_, by omega, Nat.le_refl _, h.2⟩
theorem some_ok {w : World} {e : Ending} {w' : World} {L : List UInt8} (hL : L.length = 512) (h : RetLf w L e w') : RetSome w e w' := by
  obtain ⟨v, rfl, own, hb⟩ := h
  obtain ⟨A, c, rfl, hc⟩ := own.form
  exact ⟨A, L.length, c, L, 0, rfl, own.reads.1, by omega, hc, hb⟩
theorem leafL_len (next : Nat) (l : List En) (hf : sumE l ≤ 504) : (leafL next l).length = 512 := by
  unfold leafL
  simp only [List.length_append, List.length_take, headL_len, sumE_len, List.length_replicate]
  omega
theorem putLeaf_some (A : Option Addr) (n c : Nat) (l : List En) (w : World) (hr : Reads w w.heap.size 3 A n (vE l)) (hok : ∀ e ∈ l, e.ok) (hn : n ≤ 1000000) (hs : sumE l ≤ 72000) :
    Calls Try.prog 12 #[.int .u32 3, .slice A n c] w (RetSome w) := by
  by_cases hm : mayEn l = true
  · by_cases hf : sumE l ≤ 504
    · exact (putLeaf_ok 3 (by decide) A n c l w hr hok hm hf).mono fun e w' h => some_ok (leafL_len 3 l hf) h
    · exact (putLeaf_full 3 A n c l w hr hn hm hs (by omega)).mono fun e w' h => some_no (q := 7) h
  · exact (putLeaf_no 3 A n c l w hr hn (by simpa using hm)).mono fun e w' h => some_no (q := 1) h
theorem putInner_some (A0 : Option Addr) (c0 : Nat) (ch : List Nat) (A : Option Addr) (n c : Nat) (l : List En) (w : World) (hr : Reads w w.heap.size 3 A n (vE l)) (hr0 : Reads w w.heap.size 1 A0 (n + 1) (vN ch)) (hch : ∀ x ∈ ch, x < 4294967296) (hok : ∀ e ∈ l, e.ok) (hn : n ≤ 9000) (hs : sumE l ≤ 72000) :
    Calls Try.prog 21 #[.slice A0 (n + 1) c0, .slice A n c] w (RetSome w) := by
  have hl : l.length = n := by have := hr.1; rw [vE_len] at this; omega
  have hcl := hr0.num_len
  by_cases hn0 : n = 0
  · exact (putInner_no A0 (n + 1) c0 A n c l w hr (by omega) (by omega) (.inr (.inl hn0))).mono fun e w' h => some_no (q := 1) h
  · by_cases hm : mayEn l = true
    · by_cases hf : sumE l + 4 * n ≤ 500
      · match ch, hcl with
        | ch0 :: cs, hcl =>
          have hcs : cs.length = n := by simpa using hcl
          refine (putInner_ok A0 c0 A n c l ch0 cs w hr hr0 hok hch hn0 hm hf).mono fun e w' h => some_ok ?_ h
          unfold innL
          have hzl : (l.zip cs).length = n := by rw [List.length_zip]; omega
          simp only [List.length_append, List.length_take, headL_len, be_len, inB_len, List.length_replicate]
          rw [zip_fst (by omega), hzl]
          omega
      · exact (putInner_full A0 (n + 1) c0 A n c l w hr hs rfl hn0 hm (by omega)).mono fun e w' h => some_no (q := 7) h
    · exact (putInner_no A0 (n + 1) c0 A n c l w hr (by omega) (by omega) (.inr (.inr (by simpa using hm)))).mono fun e w' h => some_no (q := 1) h
theorem ints_bytes : ∀ (l : List Int), (∀ x ∈ l, (Lit.int .u8 x).wf = true) → ∃ L : List UInt8, l.map (Value.int .u8) = bL L ∧ L.length = l.length
  | [], _ => ⟨[], rfl, rfl⟩
  | x :: l, h => by
    obtain ⟨L, h1, h2⟩ := ints_bytes l fun y hy => h y (by simp [hy])
    have hx := Go.bounds_u8 (h x (by simp))
    refine ⟨UInt8.ofNat x.toNat :: L, ?_, by simp [h2]⟩
    rw [List.map_cons, h1]
    simp only [bL, List.map_cons]
    congr 1
    congr 1
    simp
    omega
/-- make of children's numbers. -/
theorem make32 (k : Nat) (hk : k ≤ 100000) (x : Int) (hx : x = (k : Int)) (W : World) : (Instr.makeSlice 44 (.int .i64 x) (.int .i64 x)).run Try.prog W = .ok (.slice (some ⟨W.heap.size, 0, none⟩) k k) (W.alloc (.cells (vN (List.replicate k 0)).toArray 22)) := by
  subst hx
  obtain ⟨i0, hi0, hz0, hs0, hy0⟩ := int_info8 Try.infoN
  have h := run_make (P := Try.prog) W 44 22 i0 (.int .u32 0) Try.underlying44 hi0 hz0 .i64 .i64 k k (by omega) (by omega) (by rw [hy0]; omega) (by omega)
  rw [hs0, Int.toNat_natCast, Nat.mul_one] at h
  have hm : madeCells #[.int .u32 0] k = (vN (List.replicate k 0)).toArray := by
    apply Array.ext
    · simp [size_madeCells, vN_len]
    · intro j h1 h2
      have hj : j < k := by simpa [size_madeCells] using h1
      simp [madeCells, Nat.mod_one, vN]
  rw [← hm]
  exact h
end Go.Proofs.Ytgdipljaddodhaa

/-
  Several texts in one: R25 R27 R28.
-/
import Derived.Test.YtilopgfpifhccaaMtl
import Derived.Test.YtilopgfpifhccaaMtb
import Derived.Test.YtilopgfpifhccaaMtu
/-
  TermIs, TermHolds: rows that are too great.
-/
namespace Go.Proofs.Ytilopgfpifhccaa
section
set_option linter.unusedSimpArgs false
set_option linter.unusedVariables false
open Go.RowKit

def greR (rws : List Rv) : Bool := decide (40 < rws.length) || rws.any fun r => grV 0 r.l
set_option maxRecDepth 100000 in
set_option maxHeartbeats 8000000 in
theorem greatR_any (RA : Option Addr) (rn rc : Nat) (rws : List Rv) (w : World) (hr : Reads w w.heap.size 1 RA rn (vRv rws)) (he : ∀ x ∈ rws, Reads w w.heap.size 3 x.A x.n (vV x.l) ∧ x.n ≤ maxLen ∧ ∀ v ∈ x.l, v.s.size ≤ maxLen) (hn : rn ≤ maxLen) :
    Calls Try.prog 7 #[.slice RA rn rc] w (RetB w (.bool (greR rws))) := by
  have hl : rws.length = rn := by have := hr.1; rw [vRv_len] at this; omega
  unfold maxLen at hn
  by_cases h40 : 40 < rn
  · have e : greR rws = true := by unfold greR; rw [hl, decide_eq_true h40, Bool.true_or]
    have h40I : (40 : Int) < (rn : Int) := by omega
    rw [e]
    clear hr he hl
    go_enter Try.func7, Try.ntmps7
    go_wp2_with fail
    go_ret
    exact ⟨rfl, Below.refl _ _⟩
  · have e : greR rws = rws.any fun r => grV 0 r.l := by unfold greR; rw [hl, decide_eq_false h40, Bool.false_or]
    have h40I : ¬ (40 : Int) < (rn : Int) := by omega
    rw [e]
    obtain ⟨p, hp⟩ : ∃ p : Rv → Bool, p = fun r => grV 0 r.l := ⟨_, rfl⟩
    have HP := Lib.hid (fun r => by rw [hp] : ∀ r, grV 0 r.l = p r)
    rw [← hp]
    have HE := Lib.hid he
    have Hl := Lib.hid hl
    clear e hp he hl
    go_enter Try.func7, Try.ntmps7
    go_wp2_with fail
    go_loopw [4, 10] (fun j i wr => ∃ k : Nat, k ≤ rn ∧ i = .int .i64 k ∧ (rws.take k).any p = false ∧ Below w.heap.size w wr) (fun _ i _ => rn - (intOf i).toNat)
    case atStart => exact ⟨0, Nat.zero_le _, rfl, rfl, Below.refl _ _⟩
    case round =>
      obtain ⟨k, hk, rfl, hany, hb⟩ := hrel
      have q0 : (0 : Int) ≤ (k : Int) := by omega
      have Hany := Lib.hid hany
      clear hany
      by_cases hlt : k < rn
      · have q1 : (k : Int) < (rn : Int) := by omega
        obtain ⟨ad, r, rfl, hab, hv, hc⟩ := (hr.below hb).rv_ hlt
        obtain ⟨x1, x2, x3⟩ := HE.out r (List.mem_of_getElem? hv)
        have HC := Lib.hid (great_any r.A r.n r.c r.l wr w.heap.size (x1.below hb) x3 x2)
        have hstep : (rws.take (k + 1)).any p = ((rws.take k).any p || p r) := any_take hv
        rw [Hany.out, Bool.false_or] at hstep
        have Hstep := Lib.hid hstep
        rw [HP.out r] at HC
        obtain ⟨b, hbv⟩ : ∃ b, p r = b := ⟨_, rfl⟩
        have hall : Hid (b = true → rws.any p = true) := Lib.hid fun hbt => List.any_eq_true.2 ⟨r, List.mem_of_getElem? hv, by rw [hbv]; exact hbt⟩
        rw [hbv] at HC Hstep
        obtain ⟨A, n, c, l⟩ := r
        simp only at HC hc
        clear hv hstep hbv x1 x2 x3 hr
        go_wp2_with fail
        refine HC.out.mono ?_
        first | rintro e w1 ⟨rfl, rfl⟩ | rintro e w1 ⟨rfl, hb1⟩
        cases b
        · go_wp2
          go_roundw
          case rel => exact ⟨k + 1, by omega, by go_num, Hstep.out, by first | exact hb | exact bto0 hb hb1⟩
          case measure => simp [intOf]; omega
        · go_wp2
          go_ret
          exact ⟨by rw [hall.out (by first | trivial | rfl)]; rfl, by first | exact hb | exact bto0 hb hb1⟩
      · obtain rfl : k = rn := by omega
        have hF : Hid (rws.any p = false) := Lib.hid (by have := Hany.out; rwa [List.take_of_length_le (by rw [Hl.out]; exact Nat.le_refl _)] at this)
        go_wp2
        go_ret
        exact ⟨by rw [hF.out]; rfl, hb⟩
end
end Go.Proofs.Ytilopgfpifhccaa
/-
  The chapter's example.
-/
namespace Go.Proofs.Ytilopgfpifhccaa
section
set_option linter.unusedSimpArgs false
set_option linter.unusedVariables false
open Go.RowKit

theorem rd_blk18 {W : World} {g : Nat} {t : TypeId} {size n : Nat} (xs : List Value) (h : Blk W g t xs.toArray) (hn : xs.length = n * size) : Reads W W.heap.size size (some ⟨g, 0, none⟩) n xs :=
  ⟨hn, fun _ => ⟨_, rfl, h.lt, fun j u hu => by rw [add_head, h.cell]; simpa using hu⟩⟩
def tX : Tm := .mk ⟨2, ⟨#[]⟩, false, ⟨0, 0, ⟨#[]⟩⟩, ⟨#[]⟩, ⟨#[]⟩, 0, 0⟩ none 0 0 []
def tN : Tm := .mk ⟨1, ⟨#[]⟩, false, ⟨1, 1, ⟨#[]⟩⟩, ⟨#[]⟩, ⟨#[]⟩, 0, 0⟩ none 0 0 []
def tNo : Tm := .mk ⟨1, ⟨#[]⟩, false, ⟨2, 0, ⟨#[]⟩⟩, ⟨#[]⟩, ⟨#[]⟩, 0, 0⟩ none 0 0 []
def tBin (op : ByteArray) (g : Nat) (a b : Tm) : Tm := .mk ⟨4, op, false, ⟨0, 0, ⟨#[]⟩⟩, ⟨#[]⟩, ⟨#[]⟩, 0, 0⟩ (some ⟨g, 0, none⟩) 2 2 [a, b]
theorem hok18 (k : Int) (op : ByteArray) (vk vi : Int) (hk : 0 ≤ k ∧ k ≤ 255) (ho : op.size ≤ 10) (hv : 0 ≤ vk ∧ vk ≤ 255) (hi : -9223372036854775808 ≤ vi ∧ vi ≤ 9223372036854775807) : TmH.ok ⟨k, op, false, ⟨vk, vi, ⟨#[]⟩⟩, ⟨#[]⟩, ⟨#[]⟩, 0, 0⟩ :=
  ⟨hk, by unfold maxLen; show op.size ≤ _; omega, ⟨hv, hi, (by decide : (0 : Nat) ≤ maxLen)⟩, (by decide : (0 : Nat) ≤ maxLen), (by decide : (0 : Nat) ≤ maxLen), (by decide : (-9223372036854775808 : Int) ≤ 0 ∧ (0 : Int) ≤ 9223372036854775807), (by decide : (-9223372036854775808 : Int) ≤ 0 ∧ (0 : Int) ≤ 9223372036854775807)⟩
theorem leaf18 {w : World} {B : Nat} (h : TmH) (hok : h.ok) : TmIn w B (.mk h none 0 0 []) := .mk h none 0 0 [] hok (Nat.le_refl _) (by simp) Reads.none_ (by simp)
theorem tX_in (w : World) (B : Nat) : TmIn w B tX := leaf18 _ (hok18 _ _ _ _ (by decide) (by decide) (by decide) (by decide))
theorem tN_in (w : World) (B : Nat) : TmIn w B tN := leaf18 _ (hok18 _ _ _ _ (by decide) (by decide) (by decide) (by decide))
theorem tNo_in (w : World) (B : Nat) : TmIn w B tNo := leaf18 _ (hok18 _ _ _ _ (by decide) (by decide) (by decide) (by decide))
theorem tBin_in {w : World} {op : ByteArray} {g : Nat} {a b : Tm} (ho : op.size ≤ 10) (hB : Blk w g 26 (vT [a, b]).toArray) (ha : TmIn w w.heap.size a) (hb : TmIn w w.heap.size b) : TmIn w w.heap.size (tBin op g a b) :=
  .mk _ _ 2 2 _ (hok18 _ _ _ _ (by decide) ho (by decide) (by decide)) (Nat.le_refl _) (by decide) (rd_blk18 (vT [a, b]) hB (by rw [vT_len]; rfl)) (by
    intro x hx
    simp only [List.mem_cons, List.not_mem_nil, or_false] at hx
    rcases hx with rfl | rfl
    · exact ha
    · exact hb)
def rw18 (gv : Nat) : List Rv := [⟨some ⟨gv, 0, none⟩, 1, 1, [⟨1, 9223372036854775807, ⟨#[]⟩⟩]⟩]
theorem env18 {W : World} {gv gr : Nat} (hV : Blk W gv 23 #[.int .u8 1, .int .i64 9223372036854775807, .string ⟨#[]⟩]) (hR : Blk W gr 28 #[.slice (some ⟨gv, 0, none⟩) 1 1]) :
    EnvO W (some ⟨gr, 0, none⟩) 1 (rw18 gv) none 0 [] :=
  ⟨rd_blk18 (vRv (rw18 gv)) hR rfl, by
    intro x hx
    unfold rw18 at hx
    rw [List.mem_singleton] at hx
    subst hx
    refine ⟨rd_blk18 (vV [⟨1, 9223372036854775807, ⟨#[]⟩⟩]) hV rfl, (by decide : (1 : Nat) ≤ maxLen), ?_⟩
    intro v hv
    simp only [List.mem_singleton] at hv
    subst hv
    exact ⟨⟨⟨by decide, by decide⟩, ⟨by decide, by decide⟩, Nat.zero_le _⟩, Nat.zero_le _⟩, ⟨by simp [vV], fun h => absurd h (by omega)⟩, by decide, by decide, by simp⟩
theorem sum_ev (g gv : Nat) : evT ((rw18 gv).map Rv.l) [] 3 (tBin ⟨#[43]⟩ g tX tN) = none := by
  simp [evT, evK, tBin, tX, tN, twoK, ByteArray.toList_eq, wNot, isArith, rw18, atR, atO, doO, doV, opQ, opN, rngP]
theorem and_ev (g1 g2 g3 gv : Nat) : truO (evT ((rw18 gv).map Rv.l) [] 4 (tBin ⟨#[65, 78, 68]⟩ g1 tNo (tBin ⟨#[62]⟩ g2 (tBin ⟨#[43]⟩ g3 tX tN) tN))) = 0 := by
  have h := sum_ev g3 gv
  have e : evT ((rw18 gv).map Rv.l) [] 3 (tBin ⟨#[62]⟩ g2 (tBin ⟨#[43]⟩ g3 tX tN) tN) = none := by
    simp [evT, evK, tBin, tX, tN, tNo, twoK, ByteArray.toList_eq, wNot, wAnd, wOr, isArith, isCmp, conK, cmpO, valT, tok, rw18, atR, atO, doO, doV, opQ, opN, rngP]
  show truO (evT ((rw18 gv).map Rv.l) [] (3 + 1) (.mk _ _ 2 2 [_, _])) = 0
  rw [evT_succ, List.map_cons, List.map_cons, List.map_nil, e]
  simp [evT, evK, tNo, twoK, ByteArray.toList_eq, wNot, wAnd, wOr, isArith, isCmp, conK, cmpO, valT, tok, truO, andL, kn, ofV, tv]
  decide
theorem leafs (f : Nat) : shV (f + 1) tX ∧ shV (f + 1) tN ∧ shV (f + 1) tNo := by
  refine ⟨⟨by decide, Nat.zero_le _, by simp⟩, ⟨by decide, Nat.zero_le _, by simp⟩, ⟨by decide, Nat.zero_le _, by simp⟩⟩
theorem tBin_sh {f : Nat} {op : ByteArray} {g : Nat} {a b : Tm} (ha : shV f a) (hb : shV f b) : shV (f + 1) (tBin op g a b) := by
  refine ⟨by decide, Nat.zero_le _, ?_⟩
  intro x hx
  simp only [List.mem_cons, List.not_mem_nil, or_false] at hx
  rcases hx with rfl | rfl
  · exact ha
  · exact hb
theorem fix_eval {W : World} {g gv gr : Nat} (h1 : Blk W g 26 (vT [tX, tN]).toArray) (hV : Blk W gv 23 #[.int .u8 1, .int .i64 9223372036854775807, .string ⟨#[]⟩]) (hR : Blk W gr 28 #[.slice (some ⟨gv, 0, none⟩) 1 1]) :
    Calls Try.prog 10 #[.agg #[.int .u8 4, .string ⟨#[43]⟩, .bool false, .int .u8 0, .int .i64 0, .string ⟨#[]⟩, .string ⟨#[]⟩, .string ⟨#[]⟩, .int .i64 0, .int .i64 0, .slice (some ⟨g, 0, none⟩) 2 2], .slice (some ⟨gr, 0, none⟩) 1 1, .slice none 0 0] W (RetB W (.tuple #[.agg #[.int .u8 0, .int .i64 0, .string ⟨#[]⟩], .bool false])) := by
  have h := eval18_any (some ⟨gr, 0, none⟩) 1 1 (rw18 gv) none 0 0 [] 3 (tBin ⟨#[43]⟩ g tX tN) W (env18 hV hR) (tBin_in (by decide) h1 (tX_in _ _) (tN_in _ _)) (tBin_sh (leafs _).1 (leafs _).2.1)
  rw [sum_ev] at h
  exact h
theorem fix_truth {W : World} {g g2 g3 gv gr : Nat} (h1 : Blk W g 26 (vT [tX, tN]).toArray) (h2 : Blk W g2 26 (vT [tBin ⟨#[43]⟩ g tX tN, tN]).toArray) (h3 : Blk W g3 26 (vT [tNo, tBin ⟨#[62]⟩ g2 (tBin ⟨#[43]⟩ g tX tN) tN]).toArray) (hV : Blk W gv 23 #[.int .u8 1, .int .i64 9223372036854775807, .string ⟨#[]⟩]) (hR : Blk W gr 28 #[.slice (some ⟨gv, 0, none⟩) 1 1]) :
    Calls Try.prog 12 #[.agg #[.int .u8 4, .string ⟨#[65, 78, 68]⟩, .bool false, .int .u8 0, .int .i64 0, .string ⟨#[]⟩, .string ⟨#[]⟩, .string ⟨#[]⟩, .int .i64 0, .int .i64 0, .slice (some ⟨g3, 0, none⟩) 2 2], .slice (some ⟨gr, 0, none⟩) 1 1] W (RetB W (.int .u8 0)) := by
  have i1 := tBin_in (op := ⟨#[43]⟩) (by decide) h1 (tX_in _ _) (tN_in _ _)
  have i2 := tBin_in (op := ⟨#[62]⟩) (by decide) h2 i1 (tN_in _ _)
  have i3 := tBin_in (op := ⟨#[65, 78, 68]⟩) (by decide) h3 (tNo_in _ _) i2
  have h := truthP_any (some ⟨gr, 0, none⟩) 1 1 (rw18 gv) 4 _ W (env18 hV hR) i3 (tBin_sh (leafs _).2.2 (tBin_sh (tBin_sh (leafs _).1 (leafs _).2.1) (leafs _).2.1))
  rw [and_ev] at h
  exact h

set_option maxRecDepth 100000 in
set_option maxHeartbeats 8000000 in
theorem fixed18_any (w : World) : Calls Try.prog 9 #[] w (RetB w (.bool true)) := by
  obtain ⟨W6, hW6⟩ : ∃ W6, ((((((w.alloc (.cells #[.int .u8 2, .string ⟨#[]⟩, .bool false, .int .u8 0, .int .i64 0, .string ⟨#[]⟩, .string ⟨#[]⟩, .string ⟨#[]⟩, .int .i64 0, .int .i64 0, .slice none 0 0] 26)).alloc (.cells #[.int .u8 1, .string ⟨#[]⟩, .bool false, .int .u8 1, .int .i64 1, .string ⟨#[]⟩, .string ⟨#[]⟩, .string ⟨#[]⟩, .int .i64 0, .int .i64 0, .slice none 0 0] 26)).alloc (.cells #[.int .u8 2, .string ⟨#[]⟩, .bool false, .int .u8 0, .int .i64 0, .string ⟨#[]⟩, .string ⟨#[]⟩, .string ⟨#[]⟩, .int .i64 0, .int .i64 0, .slice none 0 0, .int .u8 1, .string ⟨#[]⟩, .bool false, .int .u8 1, .int .i64 1, .string ⟨#[]⟩, .string ⟨#[]⟩, .string ⟨#[]⟩, .int .i64 0, .int .i64 0, .slice none 0 0] 26)).alloc (.cells #[.int .u8 4, .string ⟨#[43]⟩, .bool false, .int .u8 0, .int .i64 0, .string ⟨#[]⟩, .string ⟨#[]⟩, .string ⟨#[]⟩, .int .i64 0, .int .i64 0, .slice (some ⟨w.heap.size + 1 + 1, 0, none⟩) 2 2] 26)).alloc (.cells #[.int .u8 1, .int .i64 9223372036854775807, .string ⟨#[]⟩] 23)).alloc (.cells #[.slice (some ⟨w.heap.size + 1 + 1 + 1 + 1, 0, none⟩) 1 1] 28)) = W6 := ⟨_, rfl⟩
  have hz6 : W6.heap.size = w.heap.size + 1 + 1 + 1 + 1 + 1 + 1 := by rw [← hW6]; simp
  have hb6 : Below w.heap.size w W6 := by rw [← hW6]; with_reducible repeat (first | exact Below.refl _ _ | refine ball ?_ _)
  have B0 : Blk W6 (w.heap.size) 26 #[.int .u8 2, .string ⟨#[]⟩, .bool false, .int .u8 0, .int .i64 0, .string ⟨#[]⟩, .string ⟨#[]⟩, .string ⟨#[]⟩, .int .i64 0, .int .i64 0, .slice none 0 0] := by rw [← hW6]; with_reducible repeat (first | exact Blk.newAt (by simp) | refine Blk.alloc ?_ _)
  have B1 : Blk W6 (w.heap.size + 1) 26 #[.int .u8 1, .string ⟨#[]⟩, .bool false, .int .u8 1, .int .i64 1, .string ⟨#[]⟩, .string ⟨#[]⟩, .string ⟨#[]⟩, .int .i64 0, .int .i64 0, .slice none 0 0] := by rw [← hW6]; with_reducible repeat (first | exact Blk.newAt (by simp) | refine Blk.alloc ?_ _)
  have B2 : Blk W6 (w.heap.size + 1 + 1) 26 #[.int .u8 2, .string ⟨#[]⟩, .bool false, .int .u8 0, .int .i64 0, .string ⟨#[]⟩, .string ⟨#[]⟩, .string ⟨#[]⟩, .int .i64 0, .int .i64 0, .slice none 0 0, .int .u8 1, .string ⟨#[]⟩, .bool false, .int .u8 1, .int .i64 1, .string ⟨#[]⟩, .string ⟨#[]⟩, .string ⟨#[]⟩, .int .i64 0, .int .i64 0, .slice none 0 0] := by rw [← hW6]; with_reducible repeat (first | exact Blk.newAt (by simp) | refine Blk.alloc ?_ _)
  have B3 : Blk W6 (w.heap.size + 1 + 1 + 1) 26 #[.int .u8 4, .string ⟨#[43]⟩, .bool false, .int .u8 0, .int .i64 0, .string ⟨#[]⟩, .string ⟨#[]⟩, .string ⟨#[]⟩, .int .i64 0, .int .i64 0, .slice (some ⟨w.heap.size + 1 + 1, 0, none⟩) 2 2] := by rw [← hW6]; with_reducible repeat (first | exact Blk.newAt (by simp) | refine Blk.alloc ?_ _)
  have B4 : Blk W6 (w.heap.size + 1 + 1 + 1 + 1) 23 #[.int .u8 1, .int .i64 9223372036854775807, .string ⟨#[]⟩] := by rw [← hW6]; with_reducible repeat (first | exact Blk.newAt (by simp) | refine Blk.alloc ?_ _)
  have B5 : Blk W6 (w.heap.size + 1 + 1 + 1 + 1 + 1) 28 #[.slice (some ⟨w.heap.size + 1 + 1 + 1 + 1, 0, none⟩) 1 1] := by rw [← hW6]; with_reducible repeat (first | exact Blk.newAt (by simp) | refine Blk.alloc ?_ _)
  have HE := Lib.hid (fix_eval B2 B4 B5)
  have HW6 := Lib.hid hW6
  clear hW6
  go_enter Try.func9, Try.ntmps9
  go_wp2_with fail
  rw [HW6.out]
  refine HE.out.mono ?_
  rintro e w1 ⟨rfl, hb1⟩
  have hz1 := hb1.size
  have C0 : Blk w1 (w.heap.size) 26 #[.int .u8 2, .string ⟨#[]⟩, .bool false, .int .u8 0, .int .i64 0, .string ⟨#[]⟩, .string ⟨#[]⟩, .string ⟨#[]⟩, .int .i64 0, .int .i64 0, .slice none 0 0] := blkOf hb1 (by omega) B0
  have C1 : Blk w1 (w.heap.size + 1) 26 #[.int .u8 1, .string ⟨#[]⟩, .bool false, .int .u8 1, .int .i64 1, .string ⟨#[]⟩, .string ⟨#[]⟩, .string ⟨#[]⟩, .int .i64 0, .int .i64 0, .slice none 0 0] := blkOf hb1 (by omega) B1
  have C2 : Blk w1 (w.heap.size + 1 + 1) 26 #[.int .u8 2, .string ⟨#[]⟩, .bool false, .int .u8 0, .int .i64 0, .string ⟨#[]⟩, .string ⟨#[]⟩, .string ⟨#[]⟩, .int .i64 0, .int .i64 0, .slice none 0 0, .int .u8 1, .string ⟨#[]⟩, .bool false, .int .u8 1, .int .i64 1, .string ⟨#[]⟩, .string ⟨#[]⟩, .string ⟨#[]⟩, .int .i64 0, .int .i64 0, .slice none 0 0] := blkOf hb1 (by omega) B2
  have C3 : Blk w1 (w.heap.size + 1 + 1 + 1) 26 #[.int .u8 4, .string ⟨#[43]⟩, .bool false, .int .u8 0, .int .i64 0, .string ⟨#[]⟩, .string ⟨#[]⟩, .string ⟨#[]⟩, .int .i64 0, .int .i64 0, .slice (some ⟨w.heap.size + 1 + 1, 0, none⟩) 2 2] := blkOf hb1 (by omega) B3
  have C4 : Blk w1 (w.heap.size + 1 + 1 + 1 + 1) 23 #[.int .u8 1, .int .i64 9223372036854775807, .string ⟨#[]⟩] := blkOf hb1 (by omega) B4
  have C5 : Blk w1 (w.heap.size + 1 + 1 + 1 + 1 + 1) 28 #[.slice (some ⟨w.heap.size + 1 + 1 + 1 + 1, 0, none⟩) 1 1] := blkOf hb1 (by omega) B5
  have hb01 := bto0 hb6 hb1
  obtain ⟨W7, hW7⟩ : ∃ W7, (((((w1.alloc (.cells #[.int .u8 0, .int .i64 0, .string ⟨#[]⟩] 23)).alloc (.cells #[.int .u8 1, .string ⟨#[]⟩, .bool false, .int .u8 2, .int .i64 0, .string ⟨#[]⟩, .string ⟨#[]⟩, .string ⟨#[]⟩, .int .i64 0, .int .i64 0, .slice none 0 0] 26)).alloc (.cells #[.int .u8 4, .string ⟨#[43]⟩, .bool false, .int .u8 0, .int .i64 0, .string ⟨#[]⟩, .string ⟨#[]⟩, .string ⟨#[]⟩, .int .i64 0, .int .i64 0, .slice (some ⟨w.heap.size + 1 + 1, 0, none⟩) 2 2, .int .u8 1, .string ⟨#[]⟩, .bool false, .int .u8 1, .int .i64 1, .string ⟨#[]⟩, .string ⟨#[]⟩, .string ⟨#[]⟩, .int .i64 0, .int .i64 0, .slice none 0 0] 26)).alloc (.cells #[.int .u8 4, .string ⟨#[62]⟩, .bool false, .int .u8 0, .int .i64 0, .string ⟨#[]⟩, .string ⟨#[]⟩, .string ⟨#[]⟩, .int .i64 0, .int .i64 0, .slice (some ⟨w1.heap.size + 1 + 1, 0, none⟩) 2 2] 26)).alloc (.cells #[.int .u8 1, .string ⟨#[]⟩, .bool false, .int .u8 2, .int .i64 0, .string ⟨#[]⟩, .string ⟨#[]⟩, .string ⟨#[]⟩, .int .i64 0, .int .i64 0, .slice none 0 0, .int .u8 4, .string ⟨#[62]⟩, .bool false, .int .u8 0, .int .i64 0, .string ⟨#[]⟩, .string ⟨#[]⟩, .string ⟨#[]⟩, .int .i64 0, .int .i64 0, .slice (some ⟨w1.heap.size + 1 + 1, 0, none⟩) 2 2] 26)) = W7 := ⟨_, rfl⟩
  have hb7 : Below w1.heap.size w1 W7 := by rw [← hW7]; with_reducible repeat (first | exact Below.refl _ _ | refine ball ?_ _)
  have D2 := blkOf hb7 C2.lt C2
  have D4 := blkOf hb7 C4.lt C4
  have D5 := blkOf hb7 C5.lt C5
  have E0 : Blk W7 (w1.heap.size) 23 #[.int .u8 0, .int .i64 0, .string ⟨#[]⟩] := by rw [← hW7]; with_reducible repeat (first | exact Blk.newAt (by simp) | refine Blk.alloc ?_ _)
  have E1 : Blk W7 (w1.heap.size + 1) 26 #[.int .u8 1, .string ⟨#[]⟩, .bool false, .int .u8 2, .int .i64 0, .string ⟨#[]⟩, .string ⟨#[]⟩, .string ⟨#[]⟩, .int .i64 0, .int .i64 0, .slice none 0 0] := by rw [← hW7]; with_reducible repeat (first | exact Blk.newAt (by simp) | refine Blk.alloc ?_ _)
  have E2 : Blk W7 (w1.heap.size + 1 + 1) 26 #[.int .u8 4, .string ⟨#[43]⟩, .bool false, .int .u8 0, .int .i64 0, .string ⟨#[]⟩, .string ⟨#[]⟩, .string ⟨#[]⟩, .int .i64 0, .int .i64 0, .slice (some ⟨w.heap.size + 1 + 1, 0, none⟩) 2 2, .int .u8 1, .string ⟨#[]⟩, .bool false, .int .u8 1, .int .i64 1, .string ⟨#[]⟩, .string ⟨#[]⟩, .string ⟨#[]⟩, .int .i64 0, .int .i64 0, .slice none 0 0] := by rw [← hW7]; with_reducible repeat (first | exact Blk.newAt (by simp) | refine Blk.alloc ?_ _)
  have E3 : Blk W7 (w1.heap.size + 1 + 1 + 1) 26 #[.int .u8 4, .string ⟨#[62]⟩, .bool false, .int .u8 0, .int .i64 0, .string ⟨#[]⟩, .string ⟨#[]⟩, .string ⟨#[]⟩, .int .i64 0, .int .i64 0, .slice (some ⟨w1.heap.size + 1 + 1, 0, none⟩) 2 2] := by rw [← hW7]; with_reducible repeat (first | exact Blk.newAt (by simp) | refine Blk.alloc ?_ _)
  have E4 : Blk W7 (w1.heap.size + 1 + 1 + 1 + 1) 26 #[.int .u8 1, .string ⟨#[]⟩, .bool false, .int .u8 2, .int .i64 0, .string ⟨#[]⟩, .string ⟨#[]⟩, .string ⟨#[]⟩, .int .i64 0, .int .i64 0, .slice none 0 0, .int .u8 4, .string ⟨#[62]⟩, .bool false, .int .u8 0, .int .i64 0, .string ⟨#[]⟩, .string ⟨#[]⟩, .string ⟨#[]⟩, .int .i64 0, .int .i64 0, .slice (some ⟨w1.heap.size + 1 + 1, 0, none⟩) 2 2] := by rw [← hW7]; with_reducible repeat (first | exact Blk.newAt (by simp) | refine Blk.alloc ?_ _)
  have HT := Lib.hid (fix_truth D2 E2 E4 D4 D5)
  have HW7 := Lib.hid hW7
  have c3_0 : ((w1.alloc (.cells #[.int .u8 0, .int .i64 0, .string ⟨#[]⟩] 23)).alloc (.cells #[.int .u8 1, .string ⟨#[]⟩, .bool false, .int .u8 2, .int .i64 0, .string ⟨#[]⟩, .string ⟨#[]⟩, .string ⟨#[]⟩, .int .i64 0, .int .i64 0, .slice none 0 0] 26)).cell? ⟨w.heap.size + 1 + 1 + 1, 0, none⟩ = some (.int .u8 4) := (((C3.alloc _).alloc _).cell 0)
  have c3_1 : ((w1.alloc (.cells #[.int .u8 0, .int .i64 0, .string ⟨#[]⟩] 23)).alloc (.cells #[.int .u8 1, .string ⟨#[]⟩, .bool false, .int .u8 2, .int .i64 0, .string ⟨#[]⟩, .string ⟨#[]⟩, .string ⟨#[]⟩, .int .i64 0, .int .i64 0, .slice none 0 0] 26)).cell? ⟨w.heap.size + 1 + 1 + 1, 1, none⟩ = some (.string ⟨#[43]⟩) := (((C3.alloc _).alloc _).cell 1)
  have c3_2 : ((w1.alloc (.cells #[.int .u8 0, .int .i64 0, .string ⟨#[]⟩] 23)).alloc (.cells #[.int .u8 1, .string ⟨#[]⟩, .bool false, .int .u8 2, .int .i64 0, .string ⟨#[]⟩, .string ⟨#[]⟩, .string ⟨#[]⟩, .int .i64 0, .int .i64 0, .slice none 0 0] 26)).cell? ⟨w.heap.size + 1 + 1 + 1, 2, none⟩ = some (.bool false) := (((C3.alloc _).alloc _).cell 2)
  have c3_3 : ((w1.alloc (.cells #[.int .u8 0, .int .i64 0, .string ⟨#[]⟩] 23)).alloc (.cells #[.int .u8 1, .string ⟨#[]⟩, .bool false, .int .u8 2, .int .i64 0, .string ⟨#[]⟩, .string ⟨#[]⟩, .string ⟨#[]⟩, .int .i64 0, .int .i64 0, .slice none 0 0] 26)).cell? ⟨w.heap.size + 1 + 1 + 1, 3, none⟩ = some (.int .u8 0) := (((C3.alloc _).alloc _).cell 3)
  have c3_4 : ((w1.alloc (.cells #[.int .u8 0, .int .i64 0, .string ⟨#[]⟩] 23)).alloc (.cells #[.int .u8 1, .string ⟨#[]⟩, .bool false, .int .u8 2, .int .i64 0, .string ⟨#[]⟩, .string ⟨#[]⟩, .string ⟨#[]⟩, .int .i64 0, .int .i64 0, .slice none 0 0] 26)).cell? ⟨w.heap.size + 1 + 1 + 1, 4, none⟩ = some (.int .i64 0) := (((C3.alloc _).alloc _).cell 4)
  have c3_5 : ((w1.alloc (.cells #[.int .u8 0, .int .i64 0, .string ⟨#[]⟩] 23)).alloc (.cells #[.int .u8 1, .string ⟨#[]⟩, .bool false, .int .u8 2, .int .i64 0, .string ⟨#[]⟩, .string ⟨#[]⟩, .string ⟨#[]⟩, .int .i64 0, .int .i64 0, .slice none 0 0] 26)).cell? ⟨w.heap.size + 1 + 1 + 1, 5, none⟩ = some (.string ⟨#[]⟩) := (((C3.alloc _).alloc _).cell 5)
  have c3_6 : ((w1.alloc (.cells #[.int .u8 0, .int .i64 0, .string ⟨#[]⟩] 23)).alloc (.cells #[.int .u8 1, .string ⟨#[]⟩, .bool false, .int .u8 2, .int .i64 0, .string ⟨#[]⟩, .string ⟨#[]⟩, .string ⟨#[]⟩, .int .i64 0, .int .i64 0, .slice none 0 0] 26)).cell? ⟨w.heap.size + 1 + 1 + 1, 6, none⟩ = some (.string ⟨#[]⟩) := (((C3.alloc _).alloc _).cell 6)
  have c3_7 : ((w1.alloc (.cells #[.int .u8 0, .int .i64 0, .string ⟨#[]⟩] 23)).alloc (.cells #[.int .u8 1, .string ⟨#[]⟩, .bool false, .int .u8 2, .int .i64 0, .string ⟨#[]⟩, .string ⟨#[]⟩, .string ⟨#[]⟩, .int .i64 0, .int .i64 0, .slice none 0 0] 26)).cell? ⟨w.heap.size + 1 + 1 + 1, 7, none⟩ = some (.string ⟨#[]⟩) := (((C3.alloc _).alloc _).cell 7)
  have c3_8 : ((w1.alloc (.cells #[.int .u8 0, .int .i64 0, .string ⟨#[]⟩] 23)).alloc (.cells #[.int .u8 1, .string ⟨#[]⟩, .bool false, .int .u8 2, .int .i64 0, .string ⟨#[]⟩, .string ⟨#[]⟩, .string ⟨#[]⟩, .int .i64 0, .int .i64 0, .slice none 0 0] 26)).cell? ⟨w.heap.size + 1 + 1 + 1, 8, none⟩ = some (.int .i64 0) := (((C3.alloc _).alloc _).cell 8)
  have c3_9 : ((w1.alloc (.cells #[.int .u8 0, .int .i64 0, .string ⟨#[]⟩] 23)).alloc (.cells #[.int .u8 1, .string ⟨#[]⟩, .bool false, .int .u8 2, .int .i64 0, .string ⟨#[]⟩, .string ⟨#[]⟩, .string ⟨#[]⟩, .int .i64 0, .int .i64 0, .slice none 0 0] 26)).cell? ⟨w.heap.size + 1 + 1 + 1, 9, none⟩ = some (.int .i64 0) := (((C3.alloc _).alloc _).cell 9)
  have c3_10 : ((w1.alloc (.cells #[.int .u8 0, .int .i64 0, .string ⟨#[]⟩] 23)).alloc (.cells #[.int .u8 1, .string ⟨#[]⟩, .bool false, .int .u8 2, .int .i64 0, .string ⟨#[]⟩, .string ⟨#[]⟩, .string ⟨#[]⟩, .int .i64 0, .int .i64 0, .slice none 0 0] 26)).cell? ⟨w.heap.size + 1 + 1 + 1, 10, none⟩ = some (.slice (some ⟨w.heap.size + 1 + 1, 0, none⟩) 2 2) := (((C3.alloc _).alloc _).cell 10)
  have c1_0 : ((w1.alloc (.cells #[.int .u8 0, .int .i64 0, .string ⟨#[]⟩] 23)).alloc (.cells #[.int .u8 1, .string ⟨#[]⟩, .bool false, .int .u8 2, .int .i64 0, .string ⟨#[]⟩, .string ⟨#[]⟩, .string ⟨#[]⟩, .int .i64 0, .int .i64 0, .slice none 0 0] 26)).cell? ⟨w.heap.size + 1, 0, none⟩ = some (.int .u8 1) := (((C1.alloc _).alloc _).cell 0)
  have c1_1 : ((w1.alloc (.cells #[.int .u8 0, .int .i64 0, .string ⟨#[]⟩] 23)).alloc (.cells #[.int .u8 1, .string ⟨#[]⟩, .bool false, .int .u8 2, .int .i64 0, .string ⟨#[]⟩, .string ⟨#[]⟩, .string ⟨#[]⟩, .int .i64 0, .int .i64 0, .slice none 0 0] 26)).cell? ⟨w.heap.size + 1, 1, none⟩ = some (.string ⟨#[]⟩) := (((C1.alloc _).alloc _).cell 1)
  have c1_2 : ((w1.alloc (.cells #[.int .u8 0, .int .i64 0, .string ⟨#[]⟩] 23)).alloc (.cells #[.int .u8 1, .string ⟨#[]⟩, .bool false, .int .u8 2, .int .i64 0, .string ⟨#[]⟩, .string ⟨#[]⟩, .string ⟨#[]⟩, .int .i64 0, .int .i64 0, .slice none 0 0] 26)).cell? ⟨w.heap.size + 1, 2, none⟩ = some (.bool false) := (((C1.alloc _).alloc _).cell 2)
  have c1_3 : ((w1.alloc (.cells #[.int .u8 0, .int .i64 0, .string ⟨#[]⟩] 23)).alloc (.cells #[.int .u8 1, .string ⟨#[]⟩, .bool false, .int .u8 2, .int .i64 0, .string ⟨#[]⟩, .string ⟨#[]⟩, .string ⟨#[]⟩, .int .i64 0, .int .i64 0, .slice none 0 0] 26)).cell? ⟨w.heap.size + 1, 3, none⟩ = some (.int .u8 1) := (((C1.alloc _).alloc _).cell 3)
  have c1_4 : ((w1.alloc (.cells #[.int .u8 0, .int .i64 0, .string ⟨#[]⟩] 23)).alloc (.cells #[.int .u8 1, .string ⟨#[]⟩, .bool false, .int .u8 2, .int .i64 0, .string ⟨#[]⟩, .string ⟨#[]⟩, .string ⟨#[]⟩, .int .i64 0, .int .i64 0, .slice none 0 0] 26)).cell? ⟨w.heap.size + 1, 4, none⟩ = some (.int .i64 1) := (((C1.alloc _).alloc _).cell 4)
  have c1_5 : ((w1.alloc (.cells #[.int .u8 0, .int .i64 0, .string ⟨#[]⟩] 23)).alloc (.cells #[.int .u8 1, .string ⟨#[]⟩, .bool false, .int .u8 2, .int .i64 0, .string ⟨#[]⟩, .string ⟨#[]⟩, .string ⟨#[]⟩, .int .i64 0, .int .i64 0, .slice none 0 0] 26)).cell? ⟨w.heap.size + 1, 5, none⟩ = some (.string ⟨#[]⟩) := (((C1.alloc _).alloc _).cell 5)
  have c1_6 : ((w1.alloc (.cells #[.int .u8 0, .int .i64 0, .string ⟨#[]⟩] 23)).alloc (.cells #[.int .u8 1, .string ⟨#[]⟩, .bool false, .int .u8 2, .int .i64 0, .string ⟨#[]⟩, .string ⟨#[]⟩, .string ⟨#[]⟩, .int .i64 0, .int .i64 0, .slice none 0 0] 26)).cell? ⟨w.heap.size + 1, 6, none⟩ = some (.string ⟨#[]⟩) := (((C1.alloc _).alloc _).cell 6)
  have c1_7 : ((w1.alloc (.cells #[.int .u8 0, .int .i64 0, .string ⟨#[]⟩] 23)).alloc (.cells #[.int .u8 1, .string ⟨#[]⟩, .bool false, .int .u8 2, .int .i64 0, .string ⟨#[]⟩, .string ⟨#[]⟩, .string ⟨#[]⟩, .int .i64 0, .int .i64 0, .slice none 0 0] 26)).cell? ⟨w.heap.size + 1, 7, none⟩ = some (.string ⟨#[]⟩) := (((C1.alloc _).alloc _).cell 7)
  have c1_8 : ((w1.alloc (.cells #[.int .u8 0, .int .i64 0, .string ⟨#[]⟩] 23)).alloc (.cells #[.int .u8 1, .string ⟨#[]⟩, .bool false, .int .u8 2, .int .i64 0, .string ⟨#[]⟩, .string ⟨#[]⟩, .string ⟨#[]⟩, .int .i64 0, .int .i64 0, .slice none 0 0] 26)).cell? ⟨w.heap.size + 1, 8, none⟩ = some (.int .i64 0) := (((C1.alloc _).alloc _).cell 8)
  have c1_9 : ((w1.alloc (.cells #[.int .u8 0, .int .i64 0, .string ⟨#[]⟩] 23)).alloc (.cells #[.int .u8 1, .string ⟨#[]⟩, .bool false, .int .u8 2, .int .i64 0, .string ⟨#[]⟩, .string ⟨#[]⟩, .string ⟨#[]⟩, .int .i64 0, .int .i64 0, .slice none 0 0] 26)).cell? ⟨w.heap.size + 1, 9, none⟩ = some (.int .i64 0) := (((C1.alloc _).alloc _).cell 9)
  have c1_10 : ((w1.alloc (.cells #[.int .u8 0, .int .i64 0, .string ⟨#[]⟩] 23)).alloc (.cells #[.int .u8 1, .string ⟨#[]⟩, .bool false, .int .u8 2, .int .i64 0, .string ⟨#[]⟩, .string ⟨#[]⟩, .string ⟨#[]⟩, .int .i64 0, .int .i64 0, .slice none 0 0] 26)).cell? ⟨w.heap.size + 1, 10, none⟩ = some (.slice none 0 0) := (((C1.alloc _).alloc _).cell 10)
  clear hW7 B0 B1 B2 B3 B4 B5 C0 C1 C2 C3 C4 C5 D2 D4 D5 E0 E1 E2 E3 E4 HE hb6 hb1 HW6
  have hz3 : w.heap.size + 1 + 1 + 1 < w1.heap.size := by omega
  have hz2 : w.heap.size + 1 < w1.heap.size := by omega
  clear hz6
  go_wp2_with fail
  rw [HW7.out]
  refine HT.out.mono ?_
  rintro e w2 ⟨rfl, hb2⟩
  go_wp2
  go_ret
  exact ⟨rfl, bto0 (bto0 hb01 hb7) hb2⟩
end
end Go.Proofs.Ytilopgfpifhccaa
/-
  The law TermHolds: its walk.
-/
namespace Go.Proofs.Ytilopgfpifhccaa
section
set_option linter.unusedSimpArgs false
set_option linter.unusedVariables false
open Go.RowKit

theorem grV_small18 : ∀ {l : List Vl} {n : Int}, 0 ≤ n → grV n l = false → (∀ v ∈ l, v.s.size ≤ 4999) ∧ n + (l.length : Int) ≤ max n 5000
  | [], n, h0, _ => ⟨by simp, by simp; omega⟩
  | v :: r, n, h0, h => by
    unfold grV at h
    split at h
    · cases h
    · rename_i hn
      obtain ⟨h1, h2⟩ := grV_small18 (l := r) (n := n + (1 + min (v.s.size : Int) 9000)) (by omega) h
      refine ⟨fun u hu => ?_, ?_⟩
      · rcases List.mem_cons.1 hu with rfl | hu
        · omega
        · exact h1 u hu
      · simp only [List.length_cons]
        omega
/-- Rows as they come in. -/
structure RowsIn (w : World) (RA : Option Addr) (rn : Nat) (rws : List Rv) : Prop where
  r : Reads w w.heap.size 1 RA rn (vRv rws)
  e : ∀ x ∈ rws, Reads w w.heap.size 3 x.A x.n (vV x.l) ∧ x.n ≤ maxLen ∧ ∀ v ∈ x.l, v.ok
  rn : rn ≤ maxLen
theorem RowsIn.below {w w' : World} {RA : Option Addr} {rn : Nat} {rws : List Rv} (h : RowsIn w RA rn rws) (hb : Below w.heap.size w w') : RowsIn w' RA rn rws :=
  ⟨(h.r.below hb).more hb.size, fun x hx => ⟨((h.e x hx).1.below hb).more hb.size, (h.e x hx).2⟩, h.rn⟩
theorem RowsIn.great {w : World} {RA : Option Addr} {rn : Nat} {rws : List Rv} (rc : Nat) (h : RowsIn w RA rn rws) : Calls Try.prog 7 #[.slice RA rn rc] w (RetB w (.bool (greR rws))) :=
  greatR_any RA rn rc rws w h.r (fun x hx => ⟨(h.e x hx).1, (h.e x hx).2.1, fun v hv => ((h.e x hx).2.2 v hv).2.2⟩) h.rn
theorem RowsIn.env {w : World} {RA : Option Addr} {rn : Nat} {rws : List Rv} (h : RowsIn w RA rn rws) (hg : greR rws = false) {TA : Option Addr} {tn : Nat} {tot : List Vl} (ht : Reads w w.heap.size 3 TA tn (vV tot)) (htn : tn ≤ maxLen) (htv : ∀ v ∈ tot, okV v) : EnvO w RA rn rws TA tn tot := by
  refine ⟨h.r, fun x hx => ⟨(h.e x hx).1, (h.e x hx).2.1, fun v hv => ⟨(h.e x hx).2.2 v hv, ?_⟩⟩, ht, h.rn, htn, htv⟩
  unfold greR at hg
  rw [Bool.or_eq_false_iff] at hg
  have h2 := hg.2
  rw [List.any_eq_false] at h2
  have h3 := h2 x hx
  have h4 := (grV_small18 (Int.le_refl 0) (by simpa using h3)).1 v hv
  omega
theorem no_tot {w : World} : Reads w w.heap.size 3 none 0 (vV []) := ⟨by simp [vV], fun h => absurd h (by omega)⟩

theorem foldmin_start18 (f : Int → Int) (l : List Int) : ∀ b c, l.foldl (fun m a => min m (f a)) (min b c) = min b (l.foldl (fun m a => min m (f a)) c) := by
  induction l with
  | nil => intro b c; rfl
  | cons x r ih =>
    intro b c
    simp only [List.foldl_cons]
    rw [show min (min b c) (f x) = min b (min c (f x)) from by omega]
    exact ih b _
theorem fold_le18 (f : Int → Int) (l : List Int) : ∀ b, l.foldl (fun m a => min m (f a)) b ≤ b := by
  intro b
  have := foldmin_start18 f l b b
  rw [show min b b = b from by omega] at this
  omega
theorem foldmin_app18 (f : Int → Int) (a b : List Int) : (a ++ b).foldl (fun m a => min m (f a)) 3 = min (a.foldl (fun m a => min m (f a)) 3) (b.foldl (fun m a => min m (f a)) 3) := by
  rw [List.foldl_append]
  have ha := fold_le18 f a 3
  have := foldmin_start18 f b (a.foldl (fun m a => min m (f a)) 3) 3
  rw [← this]
  congr 1
  omega
theorem andL_swap18 (a b : List Int) : andL (a ++ b) = andL (b ++ a) := by
  unfold andL
  rw [foldmin_app18 kn a b, foldmin_app18 kn b a]
  omega
theorem andL_turn (g : Tm → Int) (l : List Tm) (k : Nat) : andL ((l.drop k ++ l.take k).map g) = andL (l.map g) := by
  rw [List.map_append, andL_swap18, ← List.map_append, List.take_append_drop]

theorem Try.infoTm : (Try.prog.info? 26).map (fun i => (i.zero, i.size, i.bytes)) = some (some (.agg #[.int .u8 0, .string ⟨#[]⟩, .bool false, .int .u8 0, .int .i64 0, .string ⟨#[]⟩, .string ⟨#[]⟩, .string ⟨#[]⟩, .int .i64 0, .int .i64 0, .slice none 0 0]), 11, 136) := by kernel_rfl
/-- What is left of a slice of terms behind so many. -/
theorem cutlo18 (A : Option Addr) (n c k : Nat) (h1 : k ≤ n) : ∃ A1 c1, (∀ W, (Instr.slice 24 (.slice A n c) (some (.int .i64 (k : Int))) none none).run Try.prog W = .ok (.slice A1 (n - k) c1) W) ∧ ∀ (w : World) (B : Nat) (l : List Tm), n ≤ c → Reads w B 11 A n (vT l) → Reads w B 11 A1 (n - k) (vT (l.drop k)) := by
  refine ⟨if c = k then A else A.map (·.add (k * 11)), c - k, fun W => ?_, ?_⟩
  · rw [run_slice_l W 24 A n c Try.sliceT .i64 (k : Int) (by omega) (by omega), Try.elemT, Try.sizeT]
    simp only [sliced, Result.andThen, Int.toNat_natCast]
  · intro w B l hc hr
    have h := hr.cut h1 hc
    have e : (vT l).drop (k * 11) = vT (l.drop k) := by
      conv => lhs; rw [← List.take_append_drop k l, vT_app]
      have hl : (vT (l.take k)).length = k * 11 := by
        have := hr.1
        rw [vT_len] at this ⊢
        rw [List.length_take]
        congr 1
        omega
      rw [← hl, List.drop_left]
    rw [e] at h
    exact h
theorem cuthi18 (A : Option Addr) (n c k : Nat) (h1 : k ≤ c) : ∀ W, (Instr.slice 24 (.slice A n c) none (some (.int .i64 (k : Int))) none).run Try.prog W = .ok (.slice A k c) W := by
  intro W
  rw [run_slice_h W 24 A n c Try.sliceT .i64 (k : Int) (by omega) (by omega), Try.elemT, Try.sizeT]
  simp [sliced, Result.andThen, Addr.add]
theorem Reads.takeT {w : World} {B : Nat} {A : Option Addr} {n k : Nat} {l : List Tm} (hr : Reads w B 11 A n (vT l)) (hk : k ≤ n) : Reads w B 11 A k (vT (l.take k)) := by
  have hl : l.length = n := by have := hr.1; rw [vT_len] at this; omega
  refine ⟨by rw [vT_len, List.length_take]; congr 1; omega, fun h => ?_⟩
  obtain ⟨ad, hA, hb, hc⟩ := hr.2 (by omega)
  refine ⟨ad, hA, hb, fun j u hj => hc j u ?_⟩
  have hj' := lt_of_at hj
  have e : vT l = vT (l.take k) ++ vT (l.drop k) := by rw [← vT_app, List.take_append_drop]
  rw [e, List.getElem?_append_left hj']
  exact hj

set_option maxRecDepth 100000 in
set_option maxHeartbeats 8000000 in
theorem termHolds_any (A : Option Addr) (n c : Nat) (l : List Tm) (RA : Option Addr) (rn rc : Nat) (rws : List Rv) (by_ : Int) (w : World) (hrd : Reads w w.heap.size 11 A n (vT l)) (hnc : n ≤ c) (hc : c ≤ maxLen) (hin : ∀ t ∈ l, TmIn w w.heap.size t) (hR : RowsIn w RA rn rws) (hby : 0 ≤ by_ ∧ by_ ≤ 255) :
    Calls Try.prog 5 #[.slice A n c, .slice RA rn rc, .int .u8 by_] w (RetB w (.bool true)) := by
  have hl : l.length = n := by have := hrd.1; rw [vT_len] at this; omega
  have FX := Lib.hid fun W => fixed18_any W
  unfold maxLen at hc
  by_cases h20 : 20 < n
  · have g : (20 : Int) < (n : Int) := by omega
    clear hrd hin hR h20 hl
    go_enter Try.func5, Try.ntmps5
    go_wp2_with fail
    refine (FX.out _).mono ?_
    rintro e w1 ⟨rfl, hb1⟩
    go_wp2
    go_ret
    exact ⟨rfl, hb1⟩
  · have g : (n : Int) ≤ 20 := by omega
    have G := Lib.hid (hR.great rc)
    cases hgr : greR rws with
    | true =>
      rw [hgr] at G
      clear hrd hin hR h20 hl hgr
      go_enter Try.func5, Try.ntmps5
      go_wp2_with fail
      refine G.out.mono ?_
      rintro e w1 ⟨rfl, hb1⟩
      go_wp2_with fail
      refine (FX.out _).mono ?_
      rintro e w2 ⟨rfl, hb2⟩
      go_wp2
      go_ret
      exact ⟨rfl, bto0 hb1 hb2⟩
    | false =>
      rw [hgr] at G
      by_cases h0 : n = 0
      · subst h0
        clear hrd hin hR h20 hl hgr
        go_enter Try.func5, Try.ntmps5
        go_wp2_with fail
        refine G.out.mono ?_
        rintro e w1 ⟨rfl, hb1⟩
        go_wp2_with fail
        refine (FX.out _).mono ?_
        rintro e w2 ⟨rfl, hb2⟩
        go_wp2
        go_ret
        exact ⟨rfl, bto0 hb1 hb2⟩
      · have n0 : ((n : Int) == 0) = false := by simp; omega
        have n1 : (0 : Int) < (n : Int) := by omega
        obtain ⟨by0, by1⟩ := hby
        obtain ⟨k, hkd⟩ : ∃ k : Nat, by_ % (n : Int) = (k : Int) := ⟨(by_ % (n : Int)).toNat, by have := Int.emod_nonneg by_ (show (n : Int) ≠ 0 by omega); omega⟩
        have hkn : k < n := by have := Int.emod_lt_of_pos by_ n1; omega
        have tk : by_.tmod (n : Int) = (k : Int) := by rw [Int.tmod_eq_emod_of_nonneg by0, hkd]
        obtain ⟨A1, c1, hcut, hlo⟩ := cutlo18 A n c k (by omega)
        obtain ⟨m, hm⟩ : ∃ m, n - k = m := ⟨_, rfl⟩
        rw [hm] at hcut hlo
        have hhi := cuthi18 A n c k (by omega)
        have GR := Lib.hid fun (t : Tm) (W : World) (ht : t ∈ l) (hb : Below w.heap.size w W) => great18_any 21 20 t W (((hin t ht).under hb).more hb.size) (by omega) (by omega) (by omega)
        have HL := Lib.hid fun (W : World) (hb : Below w.heap.size w W) => hlo W _ l hnc ((hrd.below hb).more hb.size)
        have HH := Lib.hid fun (W : World) (hb : Below w.heap.size w W) => ((hrd.below hb).more hb.size).takeT (show k ≤ n by omega)
        obtain ⟨ev, hev⟩ : ∃ ev, ev = evT (rws.map Rv.l) [] 21 := ⟨_, rfl⟩
        have HP := Lib.hid fun (A : Option Addr) (n c : Nat) (l' : List Tm) (W : World) (hb : Below w.heap.size w W) (hs : ∀ t ∈ l', t ∈ l) (hg : ∀ t ∈ l, grT 21 20 t = false) (hn : n ≤ 1000) (hr' : Reads W W.heap.size 11 A n (vT l')) =>
          (show Calls Try.prog 19 #[.slice A n c, .slice RA rn rc] W (RetB W (.int .u8 (andL (l'.map fun t => truO (ev t))))) from hev ▸ holdsP_any A n c l' RA rn rc rws 21 W ((hR.below hb).env hgr no_tot (by decide) (by simp)) hr' hn (fun t ht => ((hin t (hs t ht)).under hb).more hb.size) (fun t ht => shV_of 21 20 t (hg t (hs t ht))))
        have HRf := Lib.hid fun (W : World) (hb : Below w.heap.size w W) (hg : ∀ t ∈ l, grT 21 20 t = false) =>
          (show Calls Try.prog 20 #[.slice A n c, .slice RA rn rc] W (RetB W (.int .i64 (andL (l.map fun t => truO (ev t))))) from hev ▸ rholds_any A n c l RA rn rc rws 21 W ((hR.below hb).env hgr no_tot (by decide) (by simp)) ((hrd.below hb).more hb.size) (by omega) (fun t ht => ((hin t ht).under hb).more hb.size) (fun t ht => shV_of 21 20 t (hg t ht)))
        have HRD := Lib.hid fun (W : World) (hb : Below w.heap.size w W) => (hrd.below hb).more hb.size
        have hbd : 0 ≤ andL (l.map fun t => truO (ev t)) ∧ andL (l.map fun t => truO (ev t)) ≤ 3 := andL_bd _ (by
          intro x hx
          obtain ⟨t, _, rfl⟩ := List.mem_map.1 hx
          exact (truO_bd _).1)
        have hturn := Lib.hid (andL_turn (fun t => truO (ev t)) l k)
        have HN := Lib.hid (show andL (([] : List Tm).map fun t => truO (ev t)) = 3 from rfl)
        have Hl := Lib.hid hl
        have hmk : m + k = n := by omega
        have HD := Lib.hid (And.intro hkn hmk)
        clear hin hR h20 hl hgr hev hlo hkd h0 hkn hmk hm
        go_enter Try.func5, Try.ntmps5
        go_wp2_with fail
        refine G.out.mono ?_
        rintro e w1 ⟨rfl, hb1⟩
        go_wp2_with fail
        obtain ⟨W1, hW1⟩ : ∃ W1, W1 = w1 := ⟨_, rfl⟩
        rw [← hW1] at hb1 ⊢
        clear hW1 w1
        go_loopw [27] (fun i wr => ∃ k : Nat, k ≤ n ∧ i = .int .i64 k ∧ (l.take k).any (grT 21 20) = false ∧ Below w.heap.size w wr) (fun i _ => n - (intOf i).toNat)
        case atStart => exact ⟨0, Nat.zero_le _, rfl, rfl, hb1⟩
        case round =>
          obtain ⟨j, hj, rfl, hany, hb⟩ := hrel
          have q0 : (0 : Int) ≤ (j : Int) := by omega
          have Hany := Lib.hid hany
          clear hany
          by_cases hlt : j < n
          · have q1 : (j : Int) < (n : Int) := by omega
            obtain ⟨ad, v, rfl, hab, hv, hat⟩ := (HRD.out _ hb).tm hlt
            have HC := fun W hbW => GR.out v W (List.mem_of_getElem? hv) hbW
            have hstep := any_take (p := grT 21 20) hv
            rw [Hany.out, Bool.false_or] at hstep
            obtain ⟨b, hbv⟩ : ∃ b, grT 21 20 v = b := ⟨_, rfl⟩
            rw [hbv] at HC hstep
            have Hstep := Lib.hid hstep
            have HCC := Lib.hid HC
            clear hv hstep hbv HC
            obtain ⟨⟨k1, op1, no1, ⟨vk1, vi1, vs1⟩, of1, nm1, tb1, cl1⟩, A1, n1, c1, l1⟩ := v
            obtain ⟨y0, y1, y2, y3, y4, y5, y6, y7, y8, y9, y10⟩ := hat
            simp only [Tm.agg, TmH.agg, Tm.h, Tm.A, Tm.n, Tm.c] at HCC y0 y1 y2 y3 y4 y5 y6 y7 y8 y9 y10
            clear hrd
            cases b
            · go_wp2_with fail
              refine (HCC.out _ (ball hb _)).mono ?_
              rintro e w2 ⟨rfl, hb2⟩
              go_wp2
              go_roundw
              case rel => exact ⟨j + 1, by omega, by go_num, Hstep.out, bto0 (ball hb _) hb2⟩
              case measure => simp [intOf]; omega
            · go_wp2_with fail
              refine (HCC.out _ (ball hb _)).mono ?_
              rintro e w2 ⟨rfl, hb2⟩
              go_wp2_with fail
              refine (FX.out _).mono ?_
              rintro e w3 ⟨rfl, hb3⟩
              go_wp2
              go_ret
              exact ⟨rfl, bto0 (bto0 (ball hb _) hb2) hb3⟩
          · obtain rfl : j = n := by omega
            have hall : ∀ t ∈ l, grT 21 20 t = false := by
              have := Hany.out
              rw [List.take_of_length_le (by rw [Hl.out]; exact Nat.le_refl _), List.any_eq_false] at this
              intro t ht
              simpa using this t ht
            obtain ⟨hkn, hmk⟩ := HD.out
            obtain ⟨x, hx⟩ : ∃ x, andL (l.map fun t => truO (ev t)) = x := ⟨_, rfl⟩
            have hx2 := hturn.out
            rw [hx] at hbd hx2
            obtain ⟨x0, x3⟩ := hbd
            have H1 := Lib.hid fun (W : World) (hb : Below w.heap.size w W) => hx ▸ HP.out A j c l W hb (fun t h => h) hall (by omega) (HRD.out _ hb)
            have H2 := Lib.hid fun (A5 : Option Addr) (c5 : Nat) (W : World) (hb : Below w.heap.size w W) (hr : Reads W W.heap.size 11 A5 (m + k) (vT (l.drop k ++ l.take k))) => hx2 ▸ HP.out A5 (m + k) c5 (l.drop k ++ l.take k) W hb (fun t h => (List.mem_append.1 h).elim List.mem_of_mem_drop List.mem_of_mem_take) hall (by omega) hr
            have H3 := Lib.hid fun (W : World) (hb : Below w.heap.size w W) => HN.out ▸ HP.out none 0 0 [] W hb (fun t h => by cases h) hall (by omega) Reads.none_
            have H4 := Lib.hid fun (W : World) (hb : Below w.heap.size w W) => hx ▸ HRf.out W hb hall
            have hE := own_empty wr 26 11 (g := wr.heap.size) rfl
            have hbE := ball hb (.cells #[] 26)
            have r1 := HL.out _ hbE
            have mI : m ≤ 20 := by omega
            have kI : k ≤ 20 := by omega
            have mk20 : m + k ≤ 20 := by omega
            have hzw := hb.size
            obtain ⟨i0, hi0, hz0, hs0, hy0⟩ := int_info8 Try.infoTm
            clear hall hlt hrd HP HRf HN hturn hx hx2 HD Hany hmk hj GR
            go_wp2_with (first | (at_builtin; refine wpList_append_any _ rfl (.tmp 40) (.tmp 43) 24 rfl wr.heap.size 26 i0 _ 11 136 Try.underlying24 hi0 hz0 hs0 hy0 rfl (by decide) _ 0 [] rfl hE _ A1 m c1 (vT (l.drop k)) rfl r1 (vT_oneCell _) (by unfold maxLen; omega) (by omega) (by simp) ?_; intro v4 w4 hown4 hg4 _; simp only [Nat.zero_add, List.nil_append] at hown4; obtain ⟨A4, c4, rfl, hc4⟩ := own_form hown4; have hb4 : Below wr.heap.size wr w4 := (ball (Below.refl _ _) _).grown hg4 (by simp) (fun g hgg => by (have := (hE.lt g hgg).1; omega)); have hb04 := bto0 hb hb4; have r4 := HH.out _ hb04; have hz4 := hb4.size) | (at_builtin; refine wpList_append_any _ rfl (.tmp 45) (.tmp 48) 24 rfl wr.heap.size 26 i0 _ 11 136 Try.underlying24 hi0 hz0 hs0 hy0 rfl (by decide) (.slice A4 m c4) m (vT (l.drop k)) rfl hown4 _ A k c (vT (l.take k)) rfl r4 (vT_oneCell _) (by unfold maxLen; omega) (by omega) hz4 ?_; intro v5 w5 hown5 hg5 _; rw [← vT_app] at hown5; obtain ⟨A5, c5, rfl, hc5⟩ := own_form hown5; have hb5 : Below wr.heap.size wr w5 := hb4.grown hg5 hz4 (fun g hgg => by (have := (hown4.lt g hgg).1; omega)); have hb05 := bto0 hb hb5; have r5 := Reads.of_own hown5) | fail)
            refine (H1.out _ hb05).mono ?_
            rintro e w6 ⟨rfl, hb6⟩
            have hb06 := bto0 hb05 hb6
            have r6 := (r5.below hb6).more hb6.size
            go_wp2_with fail
            refine (FX.out _).mono ?_
            rintro e w7 ⟨rfl, hb7⟩
            have hb07 := bto0 hb06 hb7
            have r7 := (r6.below hb7).more hb7.size
            go_wp2_with fail
            refine (H4.out _ hb07).mono ?_
            rintro e w8 ⟨rfl, hb8⟩
            have hb08 := bto0 hb07 hb8
            have r8 := (r7.below hb8).more hb8.size
            go_wp2_with fail
            refine (H2.out _ _ _ hb08 r8).mono ?_
            rintro e w9 ⟨rfl, hb9⟩
            have hb09 := bto0 hb08 hb9
            go_wp2_with fail
            refine (H3.out _ hb09).mono ?_
            rintro e w10 ⟨rfl, hb10⟩
            have hb010 := bto0 hb09 hb10
            go_wp2
            go_ret
            exact ⟨rfl, hb010⟩
end
end Go.Proofs.Ytilopgfpifhccaa

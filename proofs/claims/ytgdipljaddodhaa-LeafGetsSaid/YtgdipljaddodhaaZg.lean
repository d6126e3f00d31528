/-
  Leaf pages: the law LeafPuts: its walk.
-/
import Derived.Test.YtgdipljaddodhaaZc
import Derived.Test.YtgdipljaddodhaaZd
import Derived.Test.YtgdipljaddodhaaZe
import Derived.Test.YtgdipljaddodhaaZf
import Derived.Test.YtgdipljaddodhaaYw
set_option linter.unusedSimpArgs false
set_option linter.unusedVariables false
namespace Go.Proofs.Ytgdipljaddodhaa
open Go.RowKit

/-- Entries that are refused: both say so. -/
theorem leafPuts_err (m : Nat) (hm0 : m ≠ 0) (next : Int) (A : Option Addr) (n c : Nat) (l : List En) (w : World) (hr : Reads w w.heap.size 3 A n (vE l)) (hn : n ≤ 1000000) (hs : sumE l ≤ 72000)
    (G : ∀ W, Below w.heap.size w W → Calls Try.prog 8 #[.slice A n c] W fun e w' => e = .returned (.bool false) ∧ W = w')
    (P : ∀ W, Below w.heap.size w W → Calls Try.prog 12 #[.int .u32 next, .slice A n c] W (RetB W (.tuple #[.slice none 0 0, .int .i64 m])))
    (R : ∀ W, Below w.heap.size w W → Calls Try.prog 13 #[.int .u32 next, .slice A n c] W (RetB W (.tuple #[.string ⟨#[]⟩, .int .i64 m]))) :
    Calls Try.prog 4 #[.int .u32 next, .slice A n c] w (RetB w (.bool true)) := by
  have HG := Lib.hid G
  have HP := Lib.hid P
  have HR := Lib.hid R
  have R1 := Lib.hid fun (W : World) (hb : Below w.heap.size w W) => riseE_any A n c l W ((hr.below hb).more hb.size) hn
  have R2 := Lib.hid fun (W : World) (hb : Below w.heap.size w W) => rriseE_any A n c l W ((hr.below hb).more hb.size) hn
  have S1 := fun (W : World) (hb : Below w.heap.size w W) => leafSize_any A n c l W ((hr.below hb).more hb.size) hs
  have S2 := fun (W : World) (hb : Below w.heap.size w W) => rsize_any 8 8 A n c l W ((hr.below hb).more hb.size) hn (by omega) (by rw [size8]; omega)
  have e8 : ((sizE 8 8 l : Nat) : Int) = 8 + (sumE l : Int) := by rw [size8]; omega
  rw [e8] at S2
  obtain ⟨Z, hZ⟩ : ∃ Z : Int, 8 + (sumE l : Int) = Z := ⟨_, rfl⟩
  rw [hZ] at S1 S2
  have H1 := Lib.hid S1
  have H2 := Lib.hid S2
  have cv : ∀ W : World, (convert 34 9 (.slice none 0 0)).run Try.prog W = .ok (.string ⟨#[]⟩) W := fun W =>
    conv_reads (P := Try.prog) (w := W) (B := 0) (l := []) (Reads.none_ (size := 1)) 34 5 9 Try.underlying34 Try.underlying5 Try.underlying9 0
  have hm1 : ((m : Nat) : Int) ≠ 0 := by omega
  have hb1 : (((m : Nat) : Int) == 0) = false := by simpa using hm1
  have hb2 : (((m : Nat) : Int) != 0) = true := by simpa using hm1
  have hb3 : (m == 0) = false := by simpa using hm0
  have hb4 : (m != 0) = true := by simpa using hm0
  clear G P R hr hs S1 S2 e8 hZ hm0 hm1
  generalize riseE l = b at *
  go_enter Try.func4, Try.ntmps4
  go_wp2_with fail
  refine (HG.out _ (Below.refl _ _)).mono ?_
  rintro e w1 ⟨rfl, rfl⟩
  go_wp2_with fail
  refine (HP.out _ (Below.refl _ _)).mono ?_
  rintro e w1 ⟨rfl, hb1⟩
  go_wp2_with fail
  refine (HR.out _ (by (with_reducible repeat (first | exact Below.refl _ _ | exact hb1 | refine bto0 ?_ hb1 | refine bdr ?_ _ | refine Below.drew ?_ | refine ball ?_ _)))).mono ?_
  rintro e w2 ⟨rfl, hb2⟩
  go_wp2_with fail
  refine (fixed10_any _).mono ?_
  rintro e w3 ⟨rfl, hb3⟩
  go_wp2_with fail
  refine (R1.out _ (by (with_reducible repeat (first | exact Below.refl _ _ | exact hb3 | exact hb2 | exact hb1 | refine bto0 ?_ hb3 | refine bto0 ?_ hb2 | refine bto0 ?_ hb1 | refine bdr ?_ _ | refine Below.drew ?_ | refine ball ?_ _)))).mono ?_
  rintro e w4 ⟨rfl, hb4⟩
  go_wp2_with fail
  refine (R2.out _ (by (with_reducible repeat (first | exact Below.refl _ _ | exact hb4 | exact hb3 | exact hb2 | exact hb1 | refine bto0 ?_ hb4 | refine bto0 ?_ hb3 | refine bto0 ?_ hb2 | refine bto0 ?_ hb1 | refine bdr ?_ _ | refine Below.drew ?_ | refine ball ?_ _)))).mono ?_
  rintro e w5 ⟨rfl, hb5⟩
  go_wp2_with fail
  refine (H1.out _ (by (with_reducible repeat (first | exact Below.refl _ _ | exact hb5 | exact hb4 | exact hb3 | exact hb2 | exact hb1 | refine bto0 ?_ hb5 | refine bto0 ?_ hb4 | refine bto0 ?_ hb3 | refine bto0 ?_ hb2 | refine bto0 ?_ hb1 | refine bdr ?_ _ | refine Below.drew ?_ | refine ball ?_ _)))).mono ?_
  rintro e w6 ⟨rfl, hb6⟩
  go_wp2_with fail
  refine (H2.out _ (by (with_reducible repeat (first | exact Below.refl _ _ | exact hb6 | exact hb5 | exact hb4 | exact hb3 | exact hb2 | exact hb1 | refine bto0 ?_ hb6 | refine bto0 ?_ hb5 | refine bto0 ?_ hb4 | refine bto0 ?_ hb3 | refine bto0 ?_ hb2 | refine bto0 ?_ hb1 | refine bdr ?_ _ | refine Below.drew ?_ | refine ball ?_ _)))).mono ?_
  rintro e w7 ⟨rfl, rfl⟩
  go_wp2
  go_ret
  exact ⟨rfl, by (with_reducible repeat (first | exact Below.refl _ _ | exact hb6 | exact hb5 | exact hb4 | exact hb3 | exact hb2 | exact hb1 | refine bto0 ?_ hb6 | refine bto0 ?_ hb5 | refine bto0 ?_ hb4 | refine bto0 ?_ hb3 | refine bto0 ?_ hb2 | refine bto0 ?_ hb1 | refine bdr ?_ _ | refine Below.drew ?_ | refine ball ?_ _))⟩
theorem greatE_of (A : Option Addr) (n c : Nat) (l : List En) (w : World) (hr : Reads w w.heap.size 3 A n (vE l)) (hok : ∀ e ∈ l, e.ok) (hn : n ≤ maxLen) (b : Bool) (hg : grE 0 l = b) (W : World) (hb : Below w.heap.size w W) :
    Calls Try.prog 8 #[.slice A n c] W fun e w' => e = .returned (.bool b) ∧ W = w' := by
  have := greatE_any A n c l W w.heap.size (hr.below hb) (fun v hv => (hok v hv).1) hn
  rwa [hg] at this
set_option maxRecDepth 100000 in
set_option maxHeartbeats 4000000 in
theorem leafPuts_ok (next : Nat) (hnx : next < 4294967296) (A : Option Addr) (n c : Nat) (l : List En) (w : World) (hr : Reads w w.heap.size 3 A n (vE l)) (hok : ∀ e ∈ l, e.ok) (hm : mayEn l = true) (hf : sumE l ≤ 504)
    (G : ∀ W, Below w.heap.size w W → Calls Try.prog 8 #[.slice A n c] W fun e w' => e = .returned (.bool false) ∧ W = w') :
    Calls Try.prog 4 #[.int .u32 (next : Int), .slice A n c] w (RetB w (.bool true)) := by
  have hl : l.length = n := by have := hr.1; rw [vE_len] at this; omega
  have hn : n ≤ 63 := by have := sumE_eq l; omega
  have HG := Lib.hid G
  have HP := Lib.hid (putLeaf_ok next hnx A n c l w hr hok hm hf)
  have HR := Lib.hid fun (W : World) (hb : Below w.heap.size w W) => rleaf_ok next hnx A n c l W ((hr.below hb).more hb.size) hok hm hf
  have R1 := Lib.hid fun (W : World) (hb : Below w.heap.size w W) => riseE_any A n c l W ((hr.below hb).more hb.size) (by omega)
  have R2 := Lib.hid fun (W : World) (hb : Below w.heap.size w W) => rriseE_any A n c l W ((hr.below hb).more hb.size) (by omega)
  have S1 := fun (W : World) (hb : Below w.heap.size w W) => leafSize_any A n c l W ((hr.below hb).more hb.size) (by omega)
  have S2 := fun (W : World) (hb : Below w.heap.size w W) => rsize_any 8 8 A n c l W ((hr.below hb).more hb.size) (by omega) (by omega) (by rw [size8]; omega)
  have e8 : ((sizE 8 8 l : Nat) : Int) = 8 + (sumE l : Int) := by rw [size8]; omega
  rw [e8] at S2
  obtain ⟨Z, hZ⟩ : ∃ Z : Int, 8 + (sumE l : Int) = Z := ⟨_, rfl⟩
  rw [hZ] at S1 S2
  have H1 := Lib.hid S1
  have H2 := Lib.hid S2
  obtain ⟨p1, p2, p3, p4, p5, p6, p7, p8⟩ := leafL_page next l hnx hok hm hf
  have hz7 := allZ_rep (512 - (8 + sumE l))
  have GL : ∀ (A' : Option Addr) (c' : Nat) (W : World), Reads W W.heap.size 1 A' 512 (bL (leafL next l)) → 512 ≤ c' → Calls Try.prog 18 #[.slice A' 512 c'] W (RetGlo W next l) := fun A' c' W h hc' => by
    have := getLeaf_all A' 512 c' W.heap.size l.length (leafL next l) l (List.replicate (512 - (8 + sumE l)) 0) W h (Nat.le_refl _) (by omega) hc' p1 p2 p3 (by omega) p6 p7 false true true p8 hz7 (by simp; omega) hm
    rw [p4] at this
    exact this
  have HGL := Lib.hid GL
  have GI := Lib.hid fun (A' : Option Addr) (c' : Nat) (W : World) (h : Reads W W.heap.size 1 A' 512 (bL (leafL next l))) => getInner_op A' 512 c' W.heap.size (leafL next l) W h (Nat.le_refl _) (by omega) (.inr (by rw [p2]; decide))
  have SM := Lib.hid fun (A2 : Option Addr) (c2 : Nat) (W : World) (hb : Below w.heap.size w W) (h2 : Reads W W.heap.size 3 A2 n (vE l)) => sameE_any A n c A2 c2 l W ((hr.below hb).more hb.size) h2 (by omega)
  have Hl := Lib.hid hl
  clear G hm hf hok hl S1 S2 e8 hZ GL p1 p2 p3 p4 p6 p7 p8 hz7 hnx
  generalize riseE l = b at *
  generalize leafL next l = X at *
  have HX := Lib.hid p5
  clear p5
  go_enter Try.func4, Try.ntmps4
  go_wp2_with fail
  refine (HG.out _ (Below.refl _ _)).mono ?_
  rintro e w1 ⟨rfl, rfl⟩
  go_wp2_with fail
  refine HP.out.mono ?_
  rintro e w1 ⟨v1, rfl, own1, hb1⟩
  obtain ⟨A1, c1, rfl, hc1⟩ := own1.form
  have hrd1 := own1.reads.1
  rw [HX.out] at hrd1 hc1 own1 ⊢
  go_wp2_with fail
  refine (HR.out _ (by (with_reducible repeat (first | exact Below.refl _ _ | exact hb1 | refine bto0 ?_ hb1 | refine bdr ?_ _ | refine Below.drew ?_ | refine ball ?_ _)))).mono ?_
  rintro e w2 ⟨rfl, hb2⟩
  go_wp2_with fail
  refine (fixed10_any _).mono ?_
  rintro e w3 ⟨rfl, hb3⟩
  have hb13 : Below w1.heap.size w1 w3 := by (with_reducible repeat (first | exact Below.refl _ _ | exact hb3 | exact hb2 | refine bto0 ?_ hb3 | refine bto0 ?_ hb2 | refine bdr ?_ _ | refine Below.drew ?_ | refine ball ?_ _))
  have hrd3 := (hrd1.below hb13)
  have cv := conv_reads hrd3 34 5 9 Try.underlying34 Try.underlying5 Try.underlying9 c1
  go_wp2_with fail
  refine (R1.out _ (by (with_reducible repeat (first | exact Below.refl _ _ | exact hb3 | exact hb2 | exact hb1 | refine bto0 ?_ hb3 | refine bto0 ?_ hb2 | refine bto0 ?_ hb1 | refine bdr ?_ _ | refine Below.drew ?_ | refine ball ?_ _)))).mono ?_
  rintro e w4 ⟨rfl, hb4⟩
  go_wp2_with fail
  refine (R2.out _ (by (with_reducible repeat (first | exact Below.refl _ _ | exact hb4 | exact hb3 | exact hb2 | exact hb1 | refine bto0 ?_ hb4 | refine bto0 ?_ hb3 | refine bto0 ?_ hb2 | refine bto0 ?_ hb1 | refine bdr ?_ _ | refine Below.drew ?_ | refine ball ?_ _)))).mono ?_
  rintro e w5 ⟨rfl, hb5⟩
  go_wp2_with fail
  refine (H1.out _ (by (with_reducible repeat (first | exact Below.refl _ _ | exact hb5 | exact hb4 | exact hb3 | exact hb2 | exact hb1 | refine bto0 ?_ hb5 | refine bto0 ?_ hb4 | refine bto0 ?_ hb3 | refine bto0 ?_ hb2 | refine bto0 ?_ hb1 | refine bdr ?_ _ | refine Below.drew ?_ | refine ball ?_ _)))).mono ?_
  rintro e w6 ⟨rfl, hb6⟩
  go_wp2_with fail
  refine (H2.out _ (by (with_reducible repeat (first | exact Below.refl _ _ | exact hb6 | exact hb5 | exact hb4 | exact hb3 | exact hb2 | exact hb1 | refine bto0 ?_ hb6 | refine bto0 ?_ hb5 | refine bto0 ?_ hb4 | refine bto0 ?_ hb3 | refine bto0 ?_ hb2 | refine bto0 ?_ hb1 | refine bdr ?_ _ | refine Below.drew ?_ | refine ball ?_ _)))).mono ?_
  rintro e w7 ⟨rfl, rfl⟩
  have hb16 : Below w1.heap.size w1 w6 := by (with_reducible repeat (first | exact Below.refl _ _ | exact hb6 | exact hb5 | exact hb4 | exact hb3 | exact hb2 | refine bto0 ?_ hb6 | refine bto0 ?_ hb5 | refine bto0 ?_ hb4 | refine bto0 ?_ hb3 | refine bto0 ?_ hb2 | refine bdr ?_ _ | refine Below.drew ?_ | refine ball ?_ _))
  have hw6 : Below w.heap.size w w6 := by (with_reducible repeat (first | exact Below.refl _ _ | exact hb6 | exact hb5 | exact hb4 | exact hb3 | exact hb2 | exact hb1 | refine bto0 ?_ hb6 | refine bto0 ?_ hb5 | refine bto0 ?_ hb4 | refine bto0 ?_ hb3 | refine bto0 ?_ hb2 | refine bto0 ?_ hb1 | refine bdr ?_ _ | refine Below.drew ?_ | refine ball ?_ _))
  have own6 := own1.below hb16
  have g1 : ∀ g, (Value.slice A1 512 c1).ownBlock = some g → g < w1.heap.size := fun g hg => (own1.lt _ hg).2
  have hrd6 := (hrd1.below hb16).more hb16.size
  clear cv hrd3 hrd1 own1
  go_wp2_with fail
  refine (HGL.out _ _ _ hrd6 hc1).mono ?_
  rintro e w8 ⟨A2, c2, rfl, hc2, own8, hb8⟩
  rw [Hl.out] at own8 hc2 ⊢
  obtain ⟨w9, hclr, hcb, hch, hcs⟩ := (own6.below hb8).clear_
  have hb9 : Below w.heap.size w w9 := hcb _ _ (Nat.le_refl _) (bto0 hw6 hb8)
  have hr9 : Reads w9 w9.heap.size 3 A2 n (vE l) := by
    refine (Reads.same_ (Reads.of_own own8) (fun ad hA hlt => hch _ hlt (fun e => ?_))).more hcs
    have h1 := g1 _ e
    have h2 := own_base own8 hA
    have h3 := hb16.size
    omega
  have Hcl := Lib.hid hclr
  clear hclr hch hcb own6 own8 g1
  go_wp2_with fail
  rw [Hcl.out]
  obtain ⟨w10, c10, hcv, hfr⟩ := bytes_of_str w9 X
  have HF := Lib.hid hfr
  rw [HX.out] at hcv
  go_wp2_with fail
  have hb10 := HF.out.below
  refine (GI.out _ _ _ (by have := HF.out.reads; rw [HX.out] at this; exact this)).mono ?_
  rintro e w11 ⟨rfl, hb11⟩
  have hb911 : Below w9.heap.size w9 w11 := bto0 hb10 hb11
  go_wp2_with fail
  refine (SM.out _ _ _ (bto0 hb9 hb911) ((hr9.below hb911).more hb911.size)).mono ?_
  rintro e w12 ⟨rfl, hb12⟩
  go_wp2
  go_ret
  exact ⟨rfl, bto0 (bto0 hb9 hb911) hb12⟩
set_option maxHeartbeats 1000000 in
theorem leafPuts_any (next : Int) (hn0 : 0 ≤ next ∧ next ≤ 4294967295) (A : Option Addr) (n c : Nat) (l : List En) (w : World) (hr : Reads w w.heap.size 3 A n (vE l)) (hok : ∀ e ∈ l, e.ok) (hn : n ≤ maxLen) :
    Calls Try.prog 4 #[.int .u32 next, .slice A n c] w (RetB w (.bool true)) := by
  have hl : l.length = n := by have := hr.1; rw [vE_len] at this; omega
  have G := greatE_of A n c l w hr hok hn
  by_cases g1 : grE 0 l = true
  · have HG1 := Lib.hid (G true g1); clear G g1 hl
    go_enter Try.func4, Try.ntmps4
    go_wp2_with fail
    refine (HG1.out _ (Below.refl _ _)).mono ?_
    rintro e w1 ⟨rfl, rfl⟩
    go_wp2_with fail
    refine (fixed10_any _).mono ?_
    rintro e w2 ⟨rfl, hb2⟩
    go_wp2
    go_ret
    exact ⟨rfl, by (with_reducible repeat (first | exact Below.refl _ _ | exact hb2 | refine bto0 ?_ hb2 | refine bdr ?_ _ | refine Below.drew ?_ | refine ball ?_ _))⟩
  · have g1' : grE 0 l = false := by simpa using g1
    obtain ⟨hs, hl9, _⟩ := sumE_bd g1'
    have hn9 : n ≤ 1000000 := by omega
    have H := fun W hb => G false g1' W hb
    by_cases hm : mayEn l = true
    · by_cases hf : sumE l ≤ 504
      · obtain ⟨N, rfl⟩ : ∃ N : Nat, next = (N : Int) := ⟨next.toNat, by omega⟩
        exact leafPuts_ok N (by omega) A n c l w hr hok hm hf H
      · have hx : mayN l (8 + sumE l) = 7 := by unfold mayN; rw [hm, if_pos rfl, if_pos (by omega)]
        exact leafPuts_err 7 (by decide) next A n c l w hr hn9 hs H (fun W hb => putLeaf_full next A n c l W ((hr.below hb).more hb.size) hn9 hm hs (by omega)) (fun W hb => rleaf_no next A n c l W ((hr.below hb).more hb.size) hn9 hs 7 hx (by decide))
    · have hm' : mayEn l = false := by simpa using hm
      have hx : mayN l (8 + sumE l) = 1 := by unfold mayN; rw [hm']; rfl
      exact leafPuts_err 1 (by decide) next A n c l w hr hn9 hs H (fun W hb => putLeaf_no next A n c l W ((hr.below hb).more hb.size) hn9 hm') (fun W hb => rleaf_no next A n c l W ((hr.below hb).more hb.size) hn9 hs 1 hx (by decide))
end Go.Proofs.Ytgdipljaddodhaa

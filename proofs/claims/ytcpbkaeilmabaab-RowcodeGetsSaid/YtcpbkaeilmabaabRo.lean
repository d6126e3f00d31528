/-
  The law RowcodeGets.
-/
import Derived.Test.YtcpbkaeilmabaabRn
namespace Go.Proofs.Ytcpbkaeilmabaab
open Go.RowKit

theorem Reads.keepNe {w w' : World} {B sz n g : Nat} {A : Option Addr} {xs : List Value} (h : Reads w B sz A n xs) (hb : ∀ k, k < B → g ≤ k → w'.heap[k]? = w.heap[k]?) (hf : ∀ ad, A = some ad → g ≤ ad.block) : Reads w' B sz A n xs :=
  ⟨h.1, fun hn => by
    obtain ⟨ad, e, hlt, hc⟩ := h.2 hn
    refine ⟨ad, e, hlt, fun j u hu => ?_⟩
    refine (World.cell?_of_block (a := ad.add j) ?_).trans (hc j u hu)
    rw [block_of_add]
    exact hb _ hlt (hf _ e)⟩

set_option maxRecDepth 100000 in
set_option maxHeartbeats 4000000 in
theorem lawGets_out (A : Option Addr) (n c : Nat) (w : World) (h : 5000 < n) (hn : n ≤ 9223372036854775807) :
    Calls Try.prog 4 #[.slice A n c] w (RetB w (.bool true)) := by
  have F := Lib.hid rfixed_any
  have hI : (5000 : Int) < (n : Int) := by omega
  go_enter Try.func4, Try.ntmps4
  go_wp2_with (go_at_call 14; refine (F.out _).mono ?_; rintro e w1 ⟨rfl, hb1⟩)
  go_ret
  exact ⟨rfl, hb1⟩

set_option maxRecDepth 100000 in
set_option maxHeartbeats 4000000 in
theorem lawGets_in (A : Option Addr) (n c : Nat) (L : List UInt8) (w : World) (hr : Reads w w.heap.size 1 A n (bL L)) (hc : n ≤ c) (hn : n ≤ 5000) :
    Calls Try.prog 4 #[.slice A n c] w (RetB w (.bool true)) := by
  have F := Lib.hid rfixed_any
  have hI : (n : Int) ≤ 5000 := by omega
  have hl := hr.bytes_len
  have own0 := Own.empty w (g := w.heap.size) rfl
  have hr0 := hr.alloc (Nat.le_refl _) (.cells #[] 5)
  have hz0 : w.heap.size ≤ (w.alloc (.cells #[] 5)).heap.size := by simp
  have Hl := Lib.hid hl; clear hl
  go_enter Try.func4, Try.ntmps4
  go_wp2_with (at_builtin; refine wpList_appR rfl _ _ rfl w.heap.size _ [] L A n c w.heap.size rfl own0 rfl hr0 (by rw [Hl.out]; simp; omega) hz0 ?_; intro v1 w1 own1 kp1)
  have hb1 := kp1.below w.heap.size w (Nat.le_refl _) (ball (Below.refl _ _) _)
  rw [List.nil_append] at own1
  obtain ⟨A1, c1, rfl, hc1⟩ := own1.form
  rw [Hl.out] at own1 hc1 ⊢
  have G1 := Lib.hid (rget_any A1 n c1 L w1 own1.reads.1 hc1 (by omega))
  clear own0 hr0 hz0 kp1
  go_wp2_with fail
  refine G1.out.mono ?_
  rintro e w2 ⟨A2, c2, rfl, hr2, hc2, hb2, hf2⟩
  obtain ⟨w3, hclr, hcb, hch, hcs⟩ := (own1.below hb2).clear_
  have hb3 : Below w.heap.size w w3 := hcb _ _ (Nat.le_refl _) (bto0 hb1 hb2)
  have hr3 : Reads w3 w3.heap.size 3 A2 (decRow L).1.length (vV (decRow L).1) := by
    refine (Reads.keepNe (g := w1.heap.size) hr2 (fun k hk hg => hch k hk (fun e => ?_)) hf2).more hcs
    have := (own1.lt _ e).2
    omega
  have hrb3 := (hr.below hb3)
  have G2 := Lib.hid (rget2_any A n c L w3 (hrb3.more hb3.size) hc (by omega))
  clear hr2 hf2 hcb hch
  have hcases := decRow_cases L
  obtain ⟨D, hD⟩ : ∃ D, decRow L = D := ⟨_, rfl⟩
  rw [hD] at hcases hr3 hc2 G2 ⊢
  clear hD
  obtain ⟨row, E⟩ := D
  dsimp only at hr3 hc2 ⊢
  have Hcl := Lib.hid hclr
  clear hclr own1
  go_wp2_with fail
  rw [Hcl.out]
  go_wp2_with fail
  refine G2.out.mono ?_
  rintro e w4 ⟨A4, c4, he4, hr4, hc4, hb4, _⟩
  dsimp only at he4 hr4 hc4
  subst he4
  have hr24 := (hr3.below hb4).more hb4.size
  have hrb4 := hrb3.below (hb4.mono hb3.size)
  have hb14 : Below w.heap.size w w4 := bto0 hb3 hb4
  have hlen : row.length ≤ 255 := by
    rcases hcases with ⟨e, h1, _⟩ | ⟨l, h1, _, _, h2, _⟩
    · injection h1 with h1; subst h1; simp
    · injection h1 with h1; subst h1; exact h2
  obtain ⟨k, hk⟩ : ∃ k, row.length = k := ⟨_, rfl⟩
  have Hk := Lib.hid hk
  have Hcs := Lib.hid hcases
  rw [hk] at hr24 hr4 hc2 hc4 hlen ⊢
  clear hk hcases hr hr3 hrb3 Hcl G1 G2 hb2 hb4 hcs
  have hkI : (k : Int) ≤ 255 := by omega
  by_cases hE : E = 0
  rotate_left
  · have e1 : (E == 0) = false := by simp; omega
    have e2 : (E != 0) = true := by simp; omega
    clear hE
    go_wp2_with (first
      | (go_at_call 14; refine (F.out _).mono ?_; rintro e w5 ⟨rfl, hb5⟩)
      | (go_at_call 19; refine (same_any A2 k c2 A4 c4 row w5 ((hr24.below hb5).more hb5.size) ((hr4.below hb5).more hb5.size) (by omega)).mono ?_; rintro e w6 ⟨rfl, hb6⟩))
    go_ret
    exact ⟨rfl, bto0 (bto0 hb14 hb5) hb6⟩
  · subst hE
    have hgood : allMay row = true ∧ encRow row = L ∧ ∀ v ∈ row, v.ok := by
      rcases Hcs.out with ⟨e, h1, h2⟩ | ⟨l, h1, h3, h4, _, h5⟩
      · injection h1 with h1 h6; omega
      · injection h1 with h1 h6; subst h1; exact ⟨h3, h4, h5⟩
    obtain ⟨ha, hen, hok⟩ := hgood
    have hlt : ¬ 255 < row.length := by rw [Hk.out]; omega
    have hp0 : putE row = 0 := by unfold putE; rw [ha, if_pos rfl, if_neg hlt]
    have hpB : putB row = L := by unfold putB; rw [ha, if_pos rfl, if_neg hlt, hen]
    have hg : grV 0 row = false := by
      refine grV_of row 0 ?_
      have h1 := sum_enc row ha
      have h2 : (encRow row).length = L.length := by rw [hen]
      unfold encRow at h2
      rw [List.length_cons, Hl.out] at h2
      omega
    have HH := Lib.hid (And.intro hok (And.intro hg (And.intro hp0 hpB)))
    clear ha hen hok hlt hp0 hpB hg
    go_wp2_with (first
      | (go_at_call 14; refine (F.out _).mono ?_; rintro e w5 ⟨rfl, hb5⟩)
      | (go_at_call 19; refine (same_any A2 k c2 A4 c4 row w5 ((hr24.below hb5).more hb5.size) ((hr4.below hb5).more hb5.size) (by omega)).mono ?_; rintro e w6 ⟨rfl, hb6⟩; have hr26 := (((hr24.below hb5).more hb5.size).below hb6).more hb6.size))
    refine (rput_any A2 k c2 row w6 hr26 HH.out.1 HH.out.2.1).mono ?_
    rintro e w7 ⟨v7, rfl, own7, hb7⟩
    rw [HH.out.2.2.2] at own7
    rw [HH.out.2.2.1]
    obtain ⟨A7, c7, rfl, _⟩ := own7.form
    have hb17 : Below w.heap.size w w7 := bto0 (bto0 (bto0 hb14 hb5) hb6) hb7
    have cv7 := own7.conv
    rw [Hl.out] at cv7 ⊢
    have cvb := conv_reads (P := Try.prog) (hrb4.below ((bto0 (bto0 hb5 hb6) hb7).mono hb14.size)) 25 5 9 Try.underlying25 Try.underlying5 Try.underlying9 c
    obtain ⟨S, hS⟩ : ∃ S, str L = S := ⟨_, rfl⟩
    rw [hS] at cv7 cvb
    clear hS own7
    go_wp2
    go_ret
    exact ⟨rfl, hb17⟩
theorem lawGets_any (A : Option Addr) (n c : Nat) (l : List Int) (w : World) (hr : Reads w w.heap.size 1 A n (l.map (Value.int .u8))) (hw : ∀ x ∈ l, (Lit.int .u8 x).wf = true) (hc : n ≤ c) (hn : n ≤ maxLen) :
    Calls Try.prog 4 #[.slice A n c] w (RetB w (.bool true)) := by
  unfold maxLen at hn
  have e : ∃ L : List UInt8, l.map (Value.int .u8) = bL L := by
    refine ⟨l.map fun x => UInt8.ofNat x.toNat, ?_⟩
    unfold bL
    rw [List.map_map]
    apply List.map_congr_left
    intro x hx
    have := Go.bounds_u8 (hw x hx)
    simp only [Function.comp]
    congr 1
    simp; omega
  obtain ⟨L, e⟩ := e
  rw [e] at hr
  by_cases h : 5000 < n
  · exact lawGets_out A n c w h (by omega)
  · exact lawGets_in A n c L w hr hc (by omega)
end Go.Proofs.Ytcpbkaeilmabaab

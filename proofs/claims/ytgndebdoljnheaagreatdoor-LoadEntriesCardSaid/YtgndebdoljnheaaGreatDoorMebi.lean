/-
  Several texts in one: Ma3.
-/
import Derived.Test.YtgndebdoljnheaaGreatDoorMebg
import Derived.Test.YtgndebdoljnheaaGreatDoorMeai
import Derived.Test.YtgndebdoljnheaaGreatDoorMeay
/-
  Rows that are too great, or not.
-/
namespace Go.Proofs.YtgndebdoljnheaaGreatDoor
section
set_option linter.unusedSimpArgs false
set_option linter.unusedVariables false
open Go.RowKit

theorem gr_each : ∀ (l : List Vl) (n : Int), 0 ≤ n → grV n l = false → ∀ v ∈ l, v.s.size ≤ 5000 := by
  intro l
  induction l with
  | nil => intro n _ _ v hv; cases hv
  | cons a t ih =>
    intro n hn h v hv
    unfold grV at h
    split at h
    · cases h
    · rename_i h1
      rcases List.mem_cons.1 hv with rfl | hv
      · omega
      · exact ih _ (by omega) h v hv
/-- What is known of rows that are not too great. -/
def Small13 (rn : Nat) (rws : List Rv) : Prop := rn ≤ 1500 ∧ ∀ r ∈ rws, ∀ v ∈ r.l, v.s.size ≤ 5000
def RetGr13 (w : World) (rn : Nat) (rws : List Rv) (e : Ending) (w' : World) : Prop := ∃ b : Bool, e = .returned (.bool b) ∧ Below w.heap.size w w' ∧ (b = false → Small13 rn rws)
set_option maxRecDepth 100000 in
set_option maxHeartbeats 8000000 in
theorem great13_any (g : Nat) (RA : Option Addr) (rn rc : Nat) (rws : List Rv) (w : World) (hR : RowsIn w RA rn rws) (hg : Blk w g 22 #[.slice RA rn rc]) :
    Calls Tryz.prog 5 #[.agg #[.slice none 0 0, .slice none 0 0, .slice (some ⟨g, 0, none⟩) 1 1]] w (RetGr13 w rn rws) := by
  have hl : rws.length = rn := by have := hR.r.1; rw [vRv_len] at this; omega
  have hb0 := ball (Below.refl w.heap.size w) (.cells #[.slice none 0 0, .slice none 0 0, .slice (some ⟨g, 0, none⟩) 1 1] 28)
  have R0 := hR.below hb0
  have X0 := Blk.new w 28 #[.slice none 0 0, .slice none 0 0, .slice (some ⟨g, 0, none⟩) 1 1]
  have G0 := hg.alloc (.cells #[.slice none 0 0, .slice none 0 0, .slice (some ⟨g, 0, none⟩) 1 1] 28)
  have hrm := hR.n
  unfold maxLen at hrm
  have rI : (rn : Int) ≤ 9223372036854775807 := by omega
  obtain ⟨W0, hW0⟩ : ∃ W0, w.alloc (.cells #[.slice none 0 0, .slice none 0 0, .slice (some ⟨g, 0, none⟩) 1 1] 28) = W0 := ⟨_, rfl⟩
  rw [hW0] at hb0 R0 X0 G0
  have x0 : W0.cell? ⟨w.heap.size, 0, none⟩ = some (.slice none 0 0) := X0.cell 0
  have x1 : W0.cell? ⟨w.heap.size, 1, none⟩ = some (.slice none 0 0) := X0.cell 1
  have x2 : W0.cell? ⟨w.heap.size, 2, none⟩ = some (.slice (some ⟨g, 0, none⟩) 1 1) := X0.cell 2
  have g0 : W0.cell? ⟨g, 0, none⟩ = some (.slice RA rn rc) := G0.cell 0
  have hs0 := X0.lt
  have hsg := G0.lt
  have H0 := Lib.hid (And.intro R0 (And.intro hb0 hl))
  clear hR hg R0 X0 G0 hb0 hl
  go_enter Tryz.func5, Tryz.ntmps5
  go_wp2_with fail
  (try rw [hW0])
  clear hW0
  go_loop [3, 9] (fun u3 u9 => (u9 = .int .i64 0 ∧ u3 = .int .i64 0) ∨ (u9 = .int .i64 1 ∧ ∃ x : Nat, u3 = .int .i64 x ∧ x ≤ 1500 ∧ Small13 rn rws)) (fun _ u9 => 1 - (intOf u9).toNat)
  case atStart => exact .inl ⟨rfl, rfl⟩
  case round =>
    rcases hrel with ⟨rfl, rfl⟩ | ⟨rfl, x, rfl, hx, hsm⟩
    · go_wp2_with fail
      go_loop [3, 18] (fun u3 u18 => ∃ (k x : Nat), u3 = .int .i64 x ∧ u18 = .int .i64 k ∧ k ≤ rn ∧ k ≤ x ∧ x ≤ 1500 ∧ ∀ r ∈ rws.take k, ∀ v ∈ r.l, v.s.size ≤ 5000) (fun _ u18 => rn - (intOf u18).toNat)
      case atStart => exact ⟨0, 0, rfl, rfl, by omega, by omega, by omega, fun r hr => by simp at hr⟩
      case round =>
        obtain ⟨k, x, rfl, rfl, hk, hkx, hx, hall⟩ := hrel
        have k0 : (0 : Int) ≤ (k : Int) := by omega
        have y0 : (0 : Int) ≤ (x : Int) := by omega
        have y1 : (x : Int) ≤ 1500 := by omega
        by_cases hlt : k < rn
        · have k1 : (k : Int) < (rn : Int) := by omega
          obtain ⟨ad, r, hA, had, hr, hc⟩ := H0.out.1.r.rv_ hlt
          have hre := H0.out.1.e r (List.mem_of_getElem? hr)
          have GT := Lib.hid (great_any r.A r.n r.c r.l W0 _ hre.1 (fun v hv => (hre.2.2 v hv).2.2) hre.2.1)
          have hrm2 : r.n ≤ 9223372036854775807 := by have := hre.2.1; unfold maxLen at this; omega
          subst hA
          have HA := Lib.hid (And.intro hall hr)
          obtain ⟨q, hq⟩ : ∃ q, grV 0 r.l = q := ⟨_, rfl⟩
          rw [hq] at GT
          have HQ := Lib.hid hq
          obtain ⟨rA, rN, rC, rL⟩ := r
          simp only at hc hrm2
          have rNI : (rN : Int) ≤ 9223372036854775807 := by omega
          have rN0 : (0 : Int) ≤ (rN : Int) := by omega
          obtain ⟨mm, hmm⟩ : ∃ mm : Nat, min (rN : Int) 3000 = (mm : Int) := ⟨min rN 3000, by omega⟩
          have hm0 : (0 : Int) ≤ (mm : Int) := by omega
          have hm1 : (mm : Int) ≤ 3000 := by omega
          clear hall hr hre had hq hrm2 hrm
          by_cases h15 : 1500 < x + (1 + mm)
          · have e1 : (1500 : Int) < (x : Int) + (1 + (mm : Int)) := by omega
            go_wp2_with fail
            go_ret
            exact ⟨true, rfl, H0.out.2.1, fun h => by cases h⟩
          · have e1 : (x : Int) + (1 + (mm : Int)) ≤ 1500 := by omega
            go_wp2_with fail
            refine GT.out.mono ?_
            rintro e w' ⟨rfl, rfl⟩
            cases q with
            | true =>
              go_wp2_with fail
              go_ret
              exact ⟨true, rfl, H0.out.2.1, fun h => by cases h⟩
            | false =>
              go_wp2_with fail
              refine ⟨⟨k + 1, x + (1 + mm), by go_num, by go_num, by omega, by omega, by omega, fun r hr v hv => ?_⟩, by simp [intOf]; omega⟩
              rw [List.take_add_one, HA.out.2] at hr
              rcases List.mem_append.1 hr with h | h
              · exact HA.out.1 r h v hv
              · simp at h
                subst h
                exact gr_each _ 0 (Int.le_refl _) HQ.out v hv
        · obtain rfl : k = rn := by omega
          have hsm : Small13 k rws := ⟨by omega, fun r hr => hall r (by rw [List.take_of_length_le (by rw [H0.out.2.2]; exact Nat.le_refl _)]; exact hr)⟩
          have HSM := Lib.hid hsm
          clear hall hsm hlt
          go_wp2_with fail
          exact ⟨.inr ⟨rfl, x, rfl, hx, HSM.out⟩, by simp [intOf]⟩
    · have GN := Lib.hid (great12_any none 0 0 [] none 0 0 [] W0 Reads.none_ (fun t ht => by cases ht) Reads.none_ (by omega) (by decide) (fun t ht => by cases ht))
      have HSM := Lib.hid hsm
      clear hsm
      go_wp2_with fail
      refine GN.out.mono ?_
      rintro e w2 ⟨b, rfl, hb2, _⟩
      have x22 : w2.cell? ⟨w.heap.size, 2, none⟩ = some (.slice (some ⟨g, 0, none⟩) 1 1) := (hb2.cell hs0).trans x2
      have hs2 := hb2.size
      have hs3 : w.heap.size < w2.heap.size := by omega
      have HB := Lib.hid (bto0 H0.out.2.1 hb2)
      clear hb2
      cases b with
      | true =>
        go_wp2_with fail
        go_ret
        exact ⟨true, rfl, HB.out, fun h => by cases h⟩
      | false =>
        go_wp2_with fail
        go_ret
        exact ⟨false, rfl, HB.out, fun _ => HSM.out⟩
end
end Go.Proofs.YtgndebdoljnheaaGreatDoor

/-
  Contracts of the reference's numbers: Sum.
-/
import Derived.Test.YtegnoheaglnhhabNg
import Derived.Test.YtegnoheaglnhhabCf
namespace Go.Proofs.Ytegnoheaglnhhab
open Go.RowKit

def SRel (w : World) (ob n : Nat) (l : List Int) (v : Value) (wr : World) : Prop :=
  ∃ (i : Nat) (sg : Int) (Ao : Option Addr) (no co : Nat) (lo : List Nat), v = .int .i64 i ∧ i ≤ n ∧ Below w.heap.size w wr ∧ w.heap.size ≤ ob ∧ Blk wr ob 31 #[.int .i64 sg, .slice Ao no co] ∧ Reads wr wr.heap.size 1 Ao no (vD lo) ∧ dok lo ∧ no ≤ i + 5 ∧ no ≤ co ∧ lo.length = no ∧ (sg = 1 ∨ sg = -1) ∧ sg * ((dv lo : Nat) : Int) = (l.take i).sum

set_option maxHeartbeats 4000000 in
theorem rsum_any (A : Option Addr) (n c : Nat) (l : List Int) (w : World) (hr : Reads w w.heap.size 1 A n (vI64 l)) (hl : ∀ x ∈ l, rngP x) (hn : n ≤ 500) :
    Calls Try.prog 8 #[.slice A n c] w (RetB w (numR l.sum)) := by
  have hlen : l.length = n := by have := hr.1; rw [vI64_len] at this; omega
  have Hlen := Lib.hid hlen; clear hlen
  have HWh : Hid (∀ W, Calls Try.prog 11 #[.int .u64 (0 : Nat)] W (RetN W 1 0 4)) := fun W => whole_any 0 (by omega) W
  have Hl := Lib.hid hl; clear hl
  obtain ⟨S, hS⟩ : ∃ S, l.sum = S := ⟨_, rfl⟩
  rw [hS]
  have HS := Lib.hid hS; clear hS
  obtain ⟨RX, hRX⟩ : ∃ X, numN S = X := ⟨_, rfl⟩
  obtain ⟨RQ, hRQ⟩ : ∃ X, decide (rngP S) = X := ⟨_, rfl⟩
  have hR : numR S = .tuple #[.int .i64 RX, .bool RQ] := by unfold numR; rw [hRX, hRQ]
  rw [hR]
  have HR := Lib.hid hR; clear hR hRX hRQ
  go_enter Try.func8, Try.ntmps8
  go_wp2_with (go_at_call 11; refine (HWh.out _).mono ?_; rintro e w3 ⟨v3, rfl, ⟨A3, n3, c3, l3, rfl, hr3, hnc3, hnm3, hok3, hdv3, hl3⟩, hb3⟩; have Hdv3 := Lib.hid hdv3; clear hdv3; have Hl3 := Lib.hid hl3; clear hl3; have hz3 := hb3.size; (try simp at hz3))
  go_loopw [9] (fun v9 wr => SRel w w3.heap.size n l v9 wr) (fun v9 _ => n - (intOf v9).toNat)
  case atStart =>
    refine ⟨0, 1, A3, n3, c3, l3, rfl, by omega, ball (by (with_reducible repeat (first | exact Below.refl _ _ | exact hb3 | refine bto0 ?_ hb3 | refine bdr ?_ _ | refine Below.drew ?_ | refine ball ?_ _))) _, hb3.size, Blk.new _ _ _, hr3.al _, hok3, by omega, hnc3, Hl3.out, .inl rfl, ?_⟩
    rw [Hdv3.out]; simp
  case round =>
    obtain ⟨i, sg, Ao, no, co, lo, rfl, hi, hbw, hob, O, hro, hoko, hno, hnco, hlo, hsg, hval⟩ := hrel
    obtain ⟨ob, hobe⟩ : ∃ ob, w3.heap.size = ob := ⟨_, rfl⟩
    rw [hobe] at hob O ⊢
    clear hobe Hdv3 Hl3 hr3 hb3 hz3 hnm3 hnc3 hok3
    have Hlo := Lib.hid hlo; clear hlo
    have Hsg := Lib.hid hsg; clear hsg
    have Hval := Lib.hid hval; clear hval
    have Oc0 : wr.cell? ⟨ob, 0, none⟩ = some (.int .i64 sg) := O.cell 0; have Of0 := O.frozen 0; have Oc1 : wr.cell? ⟨ob, 1, none⟩ = some (.slice Ao no co) := O.cell 1; have Of1 := O.frozen 1
    by_cases hin : i < n
    · obtain ⟨ad1, u1, rfl, _, hx1, hc1⟩ := (hr.below hbw).at_ hin
      obtain ⟨x, hx, rfl⟩ := vI64_at hx1
      have hst := sum_take hx
      have Hst := Lib.hid hst; clear hst
      obtain ⟨r1, r2⟩ := Hl.out x (List.mem_of_getElem? hx)
      have HOf := Lib.hid fun W => of_any x W r1 r2
      have g3 : (0 : Int) ≤ (i : Int) := by omega
      have g4 : (i : Int) < (n : Int) := by omega
      clear hx hx1 hr
      go_wp2_with fail
      go_region_with (first
        | (go_at_call 19; refine (HOf.out _).mono ?_; rintro e w4 ⟨v4, sg4, x4, rfl, hsg4, hval4, ⟨A4, n4, c4, l4, rfl, hr4, hnc4, hnm4, hok4, hdv4, hl4⟩, hb4⟩; rw [← hdv4] at hval4; clear hdv4; have Hval4 := Lib.hid hval4; clear hval4; have Hsg4 := Lib.hid hsg4; clear hsg4; have Hl4 := Lib.hid hl4; clear hl4; have hz4 := hb4.size; (try simp at hz4); have O4 : Blk w4 ob 31 #[.int .i64 sg, .slice Ao no co] := blkOf hb4 O.lt (by with_reducible repeat (first | exact O | refine Blk.drew ?_ | refine Blk.drewN ?_ _)); have O4c0 : w4.cell? ⟨ob, 0, none⟩ = some (.int .i64 sg) := O4.cell 0; have O4f0 := O4.frozen 0; have O4c1 : w4.cell? ⟨ob, 1, none⟩ = some (.slice Ao no co) := O4.cell 1; have O4f1 := O4.frozen 1)
        | (go_at_call 13; refine (plus_any sg sg4 Hsg.out Hsg4.out Ao no co lo A4 n4 c4 l4 _ (hro.up (by (with_reducible repeat (first | exact Below.refl _ _ | exact hb4 | refine bto0 ?_ hb4 | refine bdr ?_ _ | refine Below.drew ?_ | refine ball ?_ _)))) (hr4.up (by (with_reducible repeat (first | exact Below.refl _ _ | exact hb4 | refine bto0 ?_ hb4 | refine bdr ?_ _ | refine Below.drew ?_ | refine ball ?_ _)))) hoko hok4 (by omega) (by omega) hnco hnc4).mono ?_; rintro e w5 ⟨v5, sg5, x5, rfl, hsg5, hval5, ⟨A5, n5, c5, l5, rfl, hr5, hnc5, hnm5, hok5, hdv5, hl5⟩, hb5⟩; rw [← hdv5] at hval5; clear hdv5; have Hval5 := Lib.hid hval5; clear hval5; have Hsg5 := Lib.hid hsg5; clear hsg5; have Hl5 := Lib.hid hl5; clear hl5; have hz5 := hb5.size; (try simp at hz5); have O5 : Blk w5 ob 31 #[.int .i64 sg, .slice Ao no co] := blkOf hb5 O4.lt (by with_reducible repeat (first | exact O4 | refine Blk.drew ?_ | refine Blk.drewN ?_ _)); have O5c0 : w5.cell? ⟨ob, 0, none⟩ = some (.int .i64 sg) := O5.cell 0; have O5f0 := O5.frozen 0; have O5c1 : w5.cell? ⟨ob, 1, none⟩ = some (.slice Ao no co) := O5.cell 1; have O5f1 := O5.frozen 1))
      all_goals go_wp2_with fail
      all_goals
        have f5 := hr5.offN O5
        have bz : Below w.heap.size w w5 := by (with_reducible repeat (first | exact Below.refl _ _ | exact hb5 | exact hb4 | exact hbw | refine bto0 ?_ hb5 | refine bto0 ?_ hb4 | refine bto0 ?_ hbw | refine bdr ?_ _ | refine Below.drew ?_ | refine ball ?_ _))
        go_roundw
        case rel =>
          refine ⟨i + 1, sg5, A5, n5, c5, l5, by go_num, by omega, bset (bset bz hob _) hob _, hob, (O5.set_ 0 _).set_ 1 _, (hr5.sf f5 _).sf f5 _, hok5, by omega, hnc5, Hl5.out, Hsg5.out, ?_⟩
          rw [Hval5.out, Hval4.out, Hval.out, Hst.out]
        case measure => simp [intOf]; omega
    · obtain rfl : n = i := by omega
      have hSv : sg * ((dv lo : Nat) : Int) = S := by rw [Hval.out, List.take_of_length_le (by rw [Hlen.out]; omega), HS.out]
      have hRt : ∀ W, Below wr.heap.size wr W → Calls Try.prog 20 #[.agg #[.int .i64 sg, .slice Ao no co]] W (RetB W (.tuple #[.int .i64 RX, .bool RQ])) := by
        intro W hb
        have h := right_any sg Hsg.out Ao no co lo W (hro.up hb) hoko (by omega) hnco
        rw [hSv, HR.out] at h
        exact h
      have HRt := Lib.hid hRt
      clear hRt hSv
      go_wp2_with (go_at_call 20; refine (HRt.out _ (by (with_reducible repeat (first | exact Below.refl _ _ | refine bdr ?_ _ | refine Below.drew ?_ | refine ball ?_ _)))).mono ?_; rintro e w5 ⟨rfl, hb5⟩)
      go_ret2
      exact ⟨rfl, by (with_reducible repeat (first | exact Below.refl _ _ | exact hb5 | exact hbw | refine bto0 ?_ hb5 | refine bto0 ?_ hbw | refine bdr ?_ _ | refine Below.drew ?_ | refine ball ?_ _))⟩
end Go.Proofs.Ytegnoheaglnhhab

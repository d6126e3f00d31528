/-
  Pool: the law's same.
-/
import Derived.Test.YtcpbkaeilmabaaaPq
import Derived.Test.YtcpbkaeilmabaaaOc
import Derived.Deep.RegionLaw
import Derived.BigQuiet
namespace Go.Proofs.Ytcpbkaeilmabaaa
set_option linter.unusedSimpArgs false
set_option linter.unusedVariables false
open Go.RowKit Go.Maps

section
variable {w : World} {lo gp gd gb gt n : Nat} {ps : List (List UInt8)} {T : List Bool} {gm size : Nat} {K : List Fr} {D : DataW Unit} {rd ht : Nat}
set_option maxRecDepth 100000 in
set_option maxHeartbeats 2000000 in
theorem poolsame_any (h : PS w lo gp gd gb gt n ps T gm size K D rd ht) {A : Option Addr} {c : Nat} (hr : RU w A K.length (pgs K)) (hK : K.length ≤ 1000) (hrd : rd ≤ 1000000) (hht : ht ≤ 1000000) :
    Calls Try.prog 41 #[.pointer (some ⟨gp, 0, none⟩), .agg #[.int .i64 size, .slice A K.length c, .int .u64 rd, .int .u64 ht]] w (RetB w (.bool true)) := by
  have hb0 := ball (Below.refl w.heap.size w) (.cells #[.int .i64 size, .slice A K.length c, .int .u64 rd, .int .u64 ht] 74)
  have h0 := h.below hb0
  have hX := Blk.new w 74 #[.int .i64 size, .slice A K.length c, .int .u64 rd, .int .u64 ht]
  have KP := Lib.hid (kept_any h0.rg (by omega))
  have hr0 := hr.below hb0
  obtain ⟨L, hL⟩ : ∃ L, pgs K = L := ⟨_, rfl⟩
  obtain ⟨N, hN⟩ : ∃ N, K.length = N := ⟨_, rfl⟩
  have hLN : L.length = N := by rw [← hL, ← hN]; unfold pgs; rw [List.length_map]
  have HPS := Lib.hid (And.intro h0 (And.intro hX hb0))
  have hrdI : (rd : Int) ≤ 1000000 := by omega
  have hhtI : (ht : Int) ≤ 1000000 := by omega
  rw [hL] at hr0
  rw [hN] at hr0 hX HPS hK ⊢
  unfold RetKept at KP
  rw [pgL_uL, hL, hN] at KP
  have HR0 := Lib.hid hr0
  clear hr h hb0 h0 hX hr0 hL hN
  have hnI : (N : Int) ≤ 1000 := by omega
  go_enter Try.func41, Try.ntmps41
  go_wp2_with fail
  refine KP.out.mono ?_
  rintro e w1 ⟨A1, c1, rfl, own1, hb1⟩
  have hX1 := HPS.out.2.1.below hb1 HPS.out.2.1.lt
  have HS : Hid (∀ W, Below w1.heap.size w1 W → W.cell? ⟨w.heap.size, 1, none⟩ = some (.slice A N c) ∧ W.cell? ⟨w.heap.size, 2, none⟩ = some (.int .u64 rd) ∧ W.cell? ⟨w.heap.size, 3, none⟩ = some (.int .u64 ht)) := fun W hW =>
    ⟨(hX1.below hW hX1.lt).cell 1, (hX1.below hW hX1.lt).cell 2, (hX1.below hW hX1.lt).cell 3⟩
  have h1 := HPS.out.1.below hb1
  have R1 := Lib.hid fun W (hW : Below w1.heap.size w1 W) => reads_any (h1.below hW)
  have R2 := Lib.hid fun W (hW : Below w1.heap.size w1 W) => hits_any (h1.below hW)
  have H1 := Lib.hid (And.intro (Reads.of_own own1) (And.intro (HR0.out.below hb1) (bto0 HPS.out.2.2 hb1)))
  have e1 : ((N : Int) != (N : Int)) = false := by simp
  have e2 : ((rd : Int) != (rd : Int)) = false := by simp
  have e3 : ((ht : Int) != (ht : Int)) = false := by simp
  clear hX1 h1 own1 hb1 KP
  go_wp2_with fail
  go_region_held3 (fun w' => w'.cell? ⟨w.heap.size, 1, none⟩ = some (.slice A N c) ∧ w'.cell? ⟨w.heap.size, 2, none⟩ = some (.int .u64 rd) ∧ w'.cell? ⟨w.heap.size, 3, none⟩ = some (.int .u64 ht))
    (first | exact HS.out _ (by with_reducible repeat (first | exact Below.refl _ _ | refine Below.drew ?_ | refine bdr ?_ _)) | assumption)
    (first
      | (go_at_call 44; refine (R1.out _ (by with_reducible repeat (first | exact Below.refl _ _ | refine Below.drew ?_ | refine bdr ?_ _))).mono ?_; rintro e w2 ⟨rfl, rfl⟩)
      | (go_at_call 45; refine (R2.out _ (by with_reducible repeat (first | exact Below.refl _ _ | refine Below.drew ?_ | refine bdr ?_ _))).mono ?_; rintro e w2 ⟨rfl, rfl⟩))
  have hb1' : Below w1.heap.size w1 w1.drew := (Below.refl _ _).drew
  clear R1 R2
  go_wp2_with fail
  go_loopw [31] (fun u31 wr => ∃ (k : Nat), u31 = .int .i64 k ∧ k ≤ N ∧ Below w1.heap.size w1 wr) (fun u31 _ => N - (intOf u31).toNat)
  case atStart => exact ⟨0, rfl, by omega, hb1'⟩
  case round =>
    clear hb1'
    obtain ⟨k, rfl, hk, hbw⟩ := hrel
    have q0 : (0 : Int) ≤ (k : Int) := by omega
    by_cases hlt : k < N
    · have q1 : (k : Int) < (N : Int) := by omega
      obtain ⟨ad4, u, rfl, _, hu, cl4⟩ := (H1.out.1.below hbw).at_ hlt
      obtain ⟨ad5, u5, rfl, _, hu5, cl5⟩ := (H1.out.2.1.below hbw).1.at_ hlt
      rw [hu] at hu5
      injection hu5 with hu5
      subst hu5
      obtain ⟨p, rfl⟩ : ∃ p : Nat, u = .int .u32 p := by
        unfold uL at hu
        rw [List.getElem?_map] at hu
        obtain ⟨x, hx, rfl⟩ := Option.map_eq_some_iff.1 hu
        exact ⟨x, rfl⟩
      have x1 := (HS.out _ hbw).1
      have HB2 := Lib.hid hbw
      have hpp : ((p : Int) != (p : Int)) = false := by simp
      clear hu hbw
      go_wp2_with fail
      go_quiet (fail)
      go_wp2
      go_roundw
      case rel => exact ⟨k + 1, by go_num, by omega, bdr HB2.out nq⟩
      case measure => simp [intOf]; omega
    · obtain rfl : k = N := by omega
      have HB2 := Lib.hid (bto0 H1.out.2.2 hbw)
      clear hbw
      go_wp2
      go_ret
      exact ⟨rfl, HB2.out⟩
end
end Go.Proofs.Ytcpbkaeilmabaaa


/-
  The reference's Answer.
-/
import Derived.Test.YtblpflobpffjnaaDoorWr
set_option linter.unusedSimpArgs false
set_option linter.unusedVariables false
namespace Go.Proofs.YtblpflobpffjnaaDoor
open Go.RowKit

set_option maxRecDepth 100000 in
set_option maxHeartbeats 4000000 in
theorem ranswer_any (NA : Option Addr) (nn nc : Nat) (names : List (List UInt8)) (RA : Option Addr) (rn rc : Nat) (rows : List Rw) (w : World) (hA : AnsIn w w.heap.size NA nn names RA rn rows) :
    Calls Tryd.prog 12 #[.agg #[.slice NA nn nc, .slice RA rn rc]] w (RetB w (.string (str (ansT names rows)))) := by
  have hbA := ball (Below.refl w.heap.size w) (.cells #[.slice NA nn nc, .slice RA rn rc] 42)
  have B0 : Blk (w.alloc (.cells #[.slice NA nn nc, .slice RA rn rc] 42)) w.heap.size 42 #[.slice NA nn nc, .slice RA rn rc] := Blk.new w _ _
  have HAI := Lib.hid fun (W : World) (hb : Below w.heap.size w W) => hA.below hb
  have HBA := Lib.hid hbA
  have HB0 := Lib.hid B0
  have HP := Lib.hid (show ansT names rows = joinB (names.map nameL) ++ [10] ++ rows.flatMap rowT from rfl)
  have HRL := Lib.hid (And.intro hA.rlen hA.nT)
  have HNL := Lib.hid (And.intro hA.nlen hA.nl)
  have HRT := Lib.hid hA.rT
  have hnn := hA.nn
  have rI : (rn : Int) ≤ 300 := by have := hA.rn; omega
  have nI : (nn : Int) ≤ 9000 := by omega
  clear hA hbA B0
  go_enter Tryd.func12, Tryd.ntmps12
  go_wp2
  go_loopw [3, 9] (fun sv kv wr => ∃ k : Nat, k ≤ nn ∧ kv = .int .i64 k ∧ sv = .string (str (joinB ((names.take k).map nameL))) ∧ Below w.heap.size w wr ∧ Blk wr w.heap.size 42 #[.slice NA nn nc, .slice RA rn rc]) (fun _ kv _ => nn - (intOf kv).toNat)
  case atStart => exact ⟨0, Nat.zero_le _, rfl, rfl, HBA.out, HB0.out⟩
  case round =>
    obtain ⟨k, hk, rfl, rfl, hb, hB⟩ := hrel
    have k0 : (0 : Int) ≤ (k : Int) := by omega
    have b0 : wr.cell? ⟨w.heap.size, 0, none⟩ = some (.slice NA nn nc) := hB.cell 0
    have b1 : wr.cell? ⟨w.heap.size, 1, none⟩ = some (.slice RA rn rc) := hB.cell 1
    have hsz : (joinB ((names.take k).map nameL)).length ≤ 9000 * 9004 := Nat.le_trans (joinB_take nameL 9001 k fun x hx => by have := nameL_len x; have := HNL.out.2 x hx; omega) (Nat.mul_le_mul_right _ (by rw [HNL.out.1]; exact hnn))
    have HB := Lib.hid (And.intro hb hB)
    by_cases hlt : k < nn
    · have k1 : (k : Int) < (nn : Int) := by omega
      obtain ⟨ad, x, rfl, hab, hx, d0⟩ := (HAI.out wr hb).nr.strs hlt
      have hnx := joinB_next nameL hx
      have hxl := HNL.out.2 x (List.mem_of_getElem? hx)
      have hj0 := fun (h : ¬ 0 < k) => joinB_zero nameL names h
      generalize joinB ((names.take k).map nameL) = J at *
      have HNX := Lib.hid hnx
      clear hx hnx hb hB
      have o1 : ¬ 9223372036854775807 < (str J).size + 3 := by rw [str_size]; omega
      have e1 : str J ++ (⟨#[32, 124, 32]⟩ : ByteArray) = str (J ++ [32, 124, 32]) := str_app30 J [32, 124, 32]
      by_cases hxe : x = []
      · have hq : ((str x).toList == []) = true := by rw [str_toList, hxe]; rfl
        have hnl : nameL x = [45] := by unfold nameL; rw [if_pos hxe]
        rw [hnl] at HNX
        have o2 : ¬ 9223372036854775807 < (str (J ++ [32, 124, 32])).size + 1 := by rw [str_size, List.length_append]; simp only [List.length_cons, List.length_nil]; omega
        have o3 : ¬ 9223372036854775807 < (str J).size + 1 := by rw [str_size]; omega
        have e2 := Lib.hid (str_app30 (J ++ [32, 124, 32]) [45])
        have e3 := Lib.hid (str_app30 J [45])
        have HZ := Lib.hid hsz
        clear hxe hnl hsz hxl
        by_cases hp : 0 < k
        · have kp : (0 : Int) < (k : Int) := by omega
          clear hj0
          go_wp2
          go_roundw
          case rel => exact ⟨k + 1, by omega, by go_num, by rw [HNX.out, if_pos hp, ← e2.out]; rfl, HB.out.1, HB.out.2⟩
          case measure => simp [intOf]; omega
        · have kp : (k : Int) ≤ 0 := by omega
          have hJ := hj0 hp
          subst hJ
          clear hj0
          go_wp2
          go_roundw
          case rel => exact ⟨k + 1, by omega, by go_num, by rw [HNX.out, if_neg hp]; exact congrArg Value.string e3.out, HB.out.1, HB.out.2⟩
          case measure => simp [intOf]; omega
      · have hq : ((str x).toList == []) = false := by rw [str_toList]; simpa using hxe
        have hnl : nameL x = x := by unfold nameL; rw [if_neg hxe]
        rw [hnl] at HNX
        have o2 : ¬ 9223372036854775807 < (str (J ++ [32, 124, 32])).size + (str x).size := by rw [str_size, str_size, List.length_append]; simp only [List.length_cons, List.length_nil]; omega
        have o3 : ¬ 9223372036854775807 < (str J).size + (str x).size := by rw [str_size, str_size]; omega
        have e2 := Lib.hid (str_app30 (J ++ [32, 124, 32]) x)
        have e3 := Lib.hid (str_app30 J x)
        clear hxe hnl hsz hxl
        by_cases hp : 0 < k
        · have kp : (0 : Int) < (k : Int) := by omega
          clear hj0
          go_wp2
          go_roundw
          case rel => exact ⟨k + 1, by omega, by go_num, by rw [HNX.out, if_pos hp, ← e2.out], HB.out.1, HB.out.2⟩
          case measure => simp [intOf]; omega
        · have kp : (k : Int) ≤ 0 := by omega
          have hJ := hj0 hp
          subst hJ
          clear hj0
          go_wp2
          go_roundw
          case rel => exact ⟨k + 1, by omega, by go_num, by rw [HNX.out, if_neg hp]; exact congrArg Value.string e3.out, HB.out.1, HB.out.2⟩
          case measure => simp [intOf]; omega
    · obtain rfl : nn = k := by omega
      have hfin : names.take nn = names := List.take_of_length_le (by rw [HNL.out.1]; omega)
      rw [hfin] at hsz
      rw [hfin]
      generalize joinB (names.map nameL) = N at *
      have o1 : ¬ 9223372036854775807 < (str N).size + 1 := by rw [str_size]; omega
      have e1 : str N ++ (⟨#[10]⟩ : ByteArray) = str (N ++ [10]) := str_app30 N [10]
      have HZ := Lib.hid hsz
      clear hsz hfin hb hB
      go_wp2
      clear o1 e1 b0 b1
      obtain ⟨wo, rfl⟩ : ∃ wo : World, wo = wr := ⟨_, rfl⟩
      go_loopw [3, 37] (fun sv kv wr => ∃ k : Nat, k ≤ rn ∧ kv = .int .i64 k ∧ sv = .string (str (N ++ [10] ++ (rows.take k).flatMap rowT)) ∧ Below w.heap.size w wr ∧ Blk wr w.heap.size 42 #[.slice NA nn nc, .slice RA rn rc]) (fun _ kv _ => rn - (intOf kv).toNat)
      case atStart => exact ⟨0, Nat.zero_le _, rfl, by simp, HB.out.1, HB.out.2⟩
      case round =>
        obtain ⟨k, hk, rfl, rfl, hb, hB⟩ := hrel
        have k0 : (0 : Int) ≤ (k : Int) := by omega
        have b0 : wr.cell? ⟨w.heap.size, 0, none⟩ = some (.slice NA nn nc) := hB.cell 0
        have b1 : wr.cell? ⟨w.heap.size, 1, none⟩ = some (.slice RA rn rc) := hB.cell 1
        have HL := Lib.hid (show (N ++ [10] ++ (rows.take k).flatMap rowT).length ≤ 100000000000 by have := HRT.out k; have := HZ.out; rw [List.length_append, List.length_append, List.length_cons, List.length_nil]; omega)
        by_cases hlt : k < rn
        · have k1 : (k : Int) < (rn : Int) := by omega
          obtain ⟨ad, r, rfl, hab, hx, d0⟩ := (HAI.out wr hb).rr.rw_ hlt
          have hrm := List.mem_of_getElem? hx
          have hro := (HAI.out wr hb).each r hrm
          have hnx := flat_take rowT hx
          rw [show rowT r = joinB (r.l.map showL) ++ [10] from rfl] at hnx
          have hrl : r.l.length ≤ 10000 := by have := hro.1.1; rw [vV_len] at this; have := hro.2.1; omega
          have hjl := rowT_len hrl hro.2.2
          unfold rowT at hjl
          rw [List.length_append, List.length_cons, List.length_nil] at hjl
          have HW := Lib.hid (line_any r.A r.n r.c r.l wr (hro.1.more hb.size) hro.2.2 hro.2.1)
          generalize joinB (r.l.map showL) = R at *
          generalize hF : (rows.take k).flatMap rowT = F at *
          have HNX : Hid ((rows.take (k + 1)).flatMap rowT = F ++ (R ++ [10])) := Lib.hid hnx
          clear hx hrm hro hnx hrl hF
          generalize hQ : N ++ [10] ++ F = Q at *
          have HQ := Lib.hid hQ
          clear hQ
          have o1 : ¬ 9223372036854775807 < (str Q).size + (str R).size := by rw [str_size, str_size]; have := HL.out; omega
          have o2 : ¬ 9223372036854775807 < (str (Q ++ R)).size + 1 := by rw [str_size, List.length_append]; have := HL.out; omega
          have e1 : str Q ++ str R = str (Q ++ R) := str_app30 _ _
          have e2 : str (Q ++ R) ++ (⟨#[10]⟩ : ByteArray) = str (Q ++ R ++ [10]) := str_app30 _ [10]
          have hbz := hb.size
          have HBB := Lib.hid (And.intro hb hB)
          clear hb hB hjl
          go_wp2_with fail
          refine HW.out.mono ?_
          rintro e w2 ⟨rfl, hb2⟩
          have hbw2 := bto0 HBB.out.1 hb2
          have hB2 := HBB.out.2.below hb2 (by have := HBB.out.2.lt; exact this)
          go_wp2
          go_roundw
          case rel => exact ⟨k + 1, by omega, by go_num, by rw [HNX.out, ← HQ.out]; simp, hbw2, hB2⟩
          case measure => simp [intOf]; omega
        · obtain rfl : rn = k := by omega
          have hfin : rows.take rn = rows := List.take_of_length_le (by rw [HRL.out.1]; omega)
          rw [hfin]
          clear hfin
          go_wp2
          go_ret
          exact ⟨by rw [HP.out, List.append_assoc]; rfl, hb⟩
end Go.Proofs.YtblpflobpffjnaaDoor

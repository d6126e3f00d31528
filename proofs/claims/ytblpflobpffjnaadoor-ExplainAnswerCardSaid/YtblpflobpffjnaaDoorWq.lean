
/-
  A line of values.
-/
import Derived.Test.YtblpflobpffjnaaDoorWp
set_option linter.unusedSimpArgs false
set_option linter.unusedVariables false
namespace Go.Proofs.YtblpflobpffjnaaDoor
open Go.RowKit

theorem kept_blk {w w' : World} {b g : Nat} {t : TypeId} {cs : Array Value} (h : Lib.OthersKept 5 (some b) w w') (hb : Blk w g t cs) (hne : g ≠ b) (ht : t ≠ 5) : Blk w' g t cs :=
  h g _ hb (by simpa using hne) (fun c fz e => by injection e with _ e2; exact ht e2)

set_option maxRecDepth 100000 in
set_option maxHeartbeats 2000000 in
theorem lineV_any (b : Nat) (L : List UInt8) (A : Option Addr) (n c B : Nat) (l : List Vl) (w : World) (hd : Bd30 w b L) (HR : ∀ W, Below b w W → Reads W B 3 A n (vV l)) (HV : ∀ W, Below b w W → VM W) (hn : n ≤ 10000) (hok : RowOk l) (hL : L.length ≤ 100000000000) :
    Calls Tryd.prog 26 #[.pointer (some ⟨b, 0, none⟩), .slice A n c, .func (.func 27) #[] #[]] w fun e w' => (∃ v, e = .returned v) ∧ Bd30 w' b (L ++ joinB (l.map showL) ++ [10]) ∧ Below b w w' := by
  have hln : l.length = n := by have := (HR w (Below.refl _ _)).1; rw [vV_len] at this; omega
  have hMM : ∀ v ∈ l, (showL v).length ≤ 10000 := fun v hv => rowok_show hok _ (List.mem_map.2 ⟨v, hv, rfl⟩)
  have HM := Lib.hid hMM
  have HOK := Lib.hid hok
  have HRR := Lib.hid HR
  have HVV := Lib.hid HV
  have HLN := Lib.hid hln
  have HLL := Lib.hid hL
  have nI : (n : Int) ≤ 10000 := by omega
  clear HR HV hln hL hMM hok
  go_enter Tryd.func26, Tryd.ntmps26
  go_wp2
  go_loopw [10] (fun kv wr => ∃ k : Nat, k ≤ n ∧ kv = .int .i64 k ∧ Bd30 wr b (L ++ joinB ((l.take k).map showL)) ∧ Below b w wr) (fun kv _ => n - (intOf kv).toNat)
  case atStart => exact ⟨0, Nat.zero_le _, rfl, by rw [joinB_zero showL l (Nat.lt_irrefl 0), List.append_nil]; exact hd, Below.refl _ _⟩
  case round =>
    clear hd
    obtain ⟨k, hk, rfl, hbd, hb⟩ := hrel
    have k0 : (0 : Int) ≤ (k : Int) := by omega
    have hsz : (joinB ((l.take k).map showL)).length ≤ 10000 * 10003 := Nat.le_trans (joinB_take showL 10000 k HM.out) (Nat.mul_le_mul_right _ (by rw [HLN.out]; exact hn))
    have hgt := hbd.lt
    by_cases hlt : k < n
    · have k1 : (k : Int) < (n : Int) := by omega
      obtain ⟨ad, x, rfl, hab, hx, d0, d1, d2⟩ := (HRR.out wr hb).val hlt
      have hnx := joinB_next showL hx
      have hxl := HM.out x (List.mem_of_getElem? hx)
      have hxo := HOK.out x (List.mem_of_getElem? hx)
      have HN := Lib.hid fun W h => show30_any x W h hxo.1 hxo.2.1 (by omega)
      generalize showL x = X at *
      have HNX := Lib.hid hnx
      have HXL := Lib.hid hxl
      have HSZ := Lib.hid hsz
      clear hx hnx hxl hsz hxo
      obtain ⟨xk, xi, xs⟩ := x
      unfold Vl.agg at HN
      simp only at *
      obtain ⟨WV, hWV⟩ : ∃ WV, wr.alloc (.cells #[.int .u8 xk, .int .i64 xi, .string xs] 55) = WV := ⟨_, rfl⟩
      have hbv : Below b w WV := hWV ▸ (hb.trans ((Below.refl b wr).alloc (Nat.le_of_lt hgt) _))
      have BV : Blk WV wr.heap.size 55 #[.int .u8 xk, .int .i64 xi, .string xs] := hWV ▸ Blk.new wr _ _
      have hbdv : Bd30 WV b (L ++ joinB ((l.take k).map showL)) := hWV ▸ hbd.below0 (ball (Below.refl _ _) _)
      have hne : wr.heap.size ≠ b := by omega
      have HNE := Lib.hid hne
      have HBV := Lib.hid (And.intro hbv BV)
      have c0 : WV.cell? ⟨wr.heap.size, 0, none⟩ = some (.int .u8 xk) := BV.cell 0
      have c1 : WV.cell? ⟨wr.heap.size, 1, none⟩ = some (.int .i64 xi) := BV.cell 1
      have c2 : WV.cell? ⟨wr.heap.size, 2, none⟩ = some (.string xs) := BV.cell 2
      clear hbd hb hbv BV hne hgt
      by_cases hp : 0 < k
      · have kp : (0 : Int) < (k : Int) := by omega
        have HW := Lib.hid (bws_str b (L ++ joinB ((l.take k).map showL)) ⟨#[32, 124, 32]⟩ WV hbdv (by have := HSZ.out; have := HLL.out; rw [List.length_append]; show _ + 3 ≤ _; omega))
        clear hbdv
        go_wp2_with fail
        refine HW.out.mono ?_
        rintro e w1 ⟨⟨v, rfl⟩, hbd1, hb1, hk1⟩
        have hbw1 := HBV.out.1.trans hb1
        have B1 := kept_blk hk1 HBV.out.2 HNE.out (by decide)
        have e0 : w1.cell? ⟨wr.heap.size, 0, none⟩ = some (.int .u8 xk) := B1.cell 0
        have e1 : w1.cell? ⟨wr.heap.size, 1, none⟩ = some (.int .i64 xi) := B1.cell 1
        have e2 : w1.cell? ⟨wr.heap.size, 2, none⟩ = some (.string xs) := B1.cell 2
        have HVM := Lib.hid (HVV.out w1 hbw1)
        clear hb1 B1 hk1 c0 c1 c2
        go_wp2_with fail
        refine (HN.out _ HVM.out).mono ?_
        rintro e w2 ⟨rfl, hb2⟩
        have hbd2 := hbd1.below0 hb2
        have hbw2 := hbw1.trans (hb2.mono (Nat.le_of_lt hbd1.lt))
        have HW2 := Lib.hid (bws_any b _ X w2 hbd2 (by have := HSZ.out; have := HLL.out; have := HXL.out; rw [List.length_append, List.length_append]; show _ + 3 + _ ≤ _; omega))
        clear hbd1 hbd2 hb2 hbw1 e0 e1 e2
        go_wp2_with fail
        refine HW2.out.mono ?_
        rintro e w3 ⟨⟨v2, rfl⟩, hbd3, hb3, -⟩
        go_wp2
        go_roundw
        case rel => exact ⟨k + 1, by omega, by go_num, by rw [HNX.out, if_pos hp]; simpa using hbd3, hbw2.trans hb3⟩
        case measure => simp [intOf]; omega
      · have kp : (k : Int) ≤ 0 := by omega
        have e0 : joinB ((l.take k).map showL) = [] := joinB_zero showL l hp
        rw [e0, List.append_nil] at hbdv
        have HVM := Lib.hid (HVV.out WV HBV.out.1)
        have HBD := Lib.hid hbdv
        clear hbdv e0
        go_wp2_with fail
        refine (HN.out _ HVM.out).mono ?_
        rintro e w2 ⟨rfl, hb2⟩
        have hbd2 := HBD.out.below0 hb2
        have hbw2 := HBV.out.1.trans (hb2.mono (Nat.le_of_lt HBD.out.lt))
        have HW2 := Lib.hid (bws_any b _ X w2 hbd2 (by have := HLL.out; have := HXL.out; omega))
        clear hbd2 hb2
        go_wp2_with fail
        refine HW2.out.mono ?_
        rintro e w3 ⟨⟨v2, rfl⟩, hbd3, hb3, -⟩
        go_wp2
        go_roundw
        case rel => exact ⟨k + 1, by omega, by go_num, by rw [HNX.out, if_neg hp]; exact hbd3, hbw2.trans hb3⟩
        case measure => simp [intOf]; omega
    · obtain rfl : k = n := by omega
      have hfin : l.take k = l := List.take_of_length_le (by rw [HLN.out]; omega)
      rw [hfin] at hbd hsz
      have HW := Lib.hid (bws_str b (L ++ joinB (l.map showL)) ⟨#[10]⟩ wr hbd (by have := HLL.out; rw [List.length_append]; show _ + 1 ≤ _; omega))
      clear hbd hfin
      go_wp2_with fail
      refine HW.out.mono ?_
      rintro e w1 ⟨⟨v, rfl⟩, hbd1, hb1, -⟩
      go_wp2
      go_end0
      exact ⟨⟨_, rfl⟩, hbd1, hb.trans hb1⟩
end Go.Proofs.YtblpflobpffjnaaDoor

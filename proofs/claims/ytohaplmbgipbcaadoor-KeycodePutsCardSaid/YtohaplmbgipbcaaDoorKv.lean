/-
  The law KeycodePuts: its walk.
-/
import Derived.Test.YtohaplmbgipbcaaDoorKu
import Derived.Test.YtohaplmbgipbcaaDoorKk
import Derived.Test.YtohaplmbgipbcaaDoorKq
set_option linter.unusedSimpArgs false
namespace Go.Proofs.YtohaplmbgipbcaaDoor
open Go.RowKit

set_option maxRecDepth 100000 in
set_option maxHeartbeats 4000000 in
theorem lputs_any (A : Option Addr) (n c : Nat) (l : List Vl) (w : World) (hm : MaxC w) (hr : Reads w w.heap.size 3 A n (vV l)) (hok : ∀ v ∈ l, v.ok) (hn : n ≤ maxLen) :
    Calls Tryd.prog 3 #[.slice A n c] w (RetB w (.bool true)) := by
  have HF := Lib.hid fun (W : World) (hb : Below w.heap.size w W) => fixed5_any W (hm.below0 hb)
  have up3 := fun (W : World) (hb : Below w.heap.size w W) => (hr.below hb).more hb.size
  have G := fun (W : World) (hb : Below w.heap.size w W) => great_any A n c l W W.heap.size (up3 W hb) (fun v hv => (hok v hv).2.2) hn
  have hl : l.length = n := by have := hr.1; rw [vV_len] at this; omega
  by_cases hg : grV 0 l = true
  · rw [hg] at G
    have HG := Lib.hid G; clear G
    clear up3 hr hok hl hm hg
    go_enter Tryd.func3, Tryd.ntmps3
    go_wp2_with fail
    refine (HG.out _ (Below.refl _ _)).mono ?_
    rintro e w' ⟨rfl, rfl⟩
    go_wp2_with fail
    refine (HF.out _ (Below.refl _ _)).mono ?_
    rintro e w1 ⟨rfl, hb1⟩
    go_wp2
    go_ret
    exact ⟨rfl, hb1⟩
  have hg' : grV 0 l = false := by simpa using hg
  clear hg
  rw [hg'] at G
  have HG := Lib.hid G; clear G
  have P1 := fun (W : World) (hb : Below w.heap.size w W) => kput_any A n c l W (hm.below0 hb) (up3 W hb) hok hg'
  have P2 := fun (W : World) (hb : Below w.heap.size w W) => rkput_any A n c l W (up3 W hb) hok hg'
  unfold RetPut at P1 P2
  by_cases ha : allMay l = false
  · have hE : kE l = 1 := by unfold kE; rw [ha]; rfl
    rw [hE] at P1 P2
    obtain ⟨s, hs⟩ : ∃ s, str (kS l) = s := ⟨_, rfl⟩
    rw [hs] at P1 P2
    have H1 := Lib.hid P1; clear P1
    have H2 := Lib.hid P2; clear P2
    clear up3 hr hok hl hm hg' ha hE hs
    go_enter Tryd.func3, Tryd.ntmps3
    go_wp2_with fail
    refine (HG.out _ (Below.refl _ _)).mono ?_
    rintro e w' ⟨rfl, rfl⟩
    go_wp2_with fail
    refine (H1.out _ (Below.refl _ _)).mono ?_
    rintro e w1 ⟨rfl, hb1⟩
    go_wp2_with fail
    refine (H2.out _ (by (with_reducible repeat (first | exact Below.refl _ _ | exact hb1 | refine bto0 ?_ hb1 | refine bdr ?_ _ | refine Below.drew ?_ | refine ball ?_ _)))).mono ?_
    rintro e w2 ⟨rfl, hb2⟩
    go_wp2_with fail
    refine (HF.out _ (by (with_reducible repeat (first | exact Below.refl _ _ | exact hb2 | exact hb1 | refine bto0 ?_ hb2 | refine bto0 ?_ hb1 | refine bdr ?_ _ | refine Below.drew ?_ | refine ball ?_ _)))).mono ?_
    rintro e w3 ⟨rfl, hb3⟩
    go_wp2
    go_ret
    exact ⟨rfl, by (with_reducible repeat (first | exact Below.refl _ _ | exact hb3 | exact hb2 | exact hb1 | refine bto0 ?_ hb3 | refine bto0 ?_ hb2 | refine bto0 ?_ hb1 | refine bdr ?_ _ | refine Below.drew ?_ | refine ball ?_ _))⟩
  have ha' : allMay l = true := by simpa using ha
  clear ha
  rw [(row_self_ok ha').1, (row_self_ok ha').2] at P1 P2
  have hsz : (str (keyR l)).size ≤ 100000 := by
    have h1 := (grV_bd hg').2.2
    show (keyR l).toArray.size ≤ 100000
    simp; omega
  have GE := fun W => kget_any (str (keyR l)) W hsz
  unfold RetGet at GE
  rw [str_list, kdR_key l hok ha'] at GE
  simp only [hl] at GE
  have hnn : n ≤ 1000000 := by have := (grV_bd hg').1; omega
  have SM := fun (W : World) (hb : Below w.heap.size w W) (A2 : Option Addr) (c2 : Nat) (h2 : Reads W W.heap.size 3 A2 n (vV l)) => same_any A2 n c2 A c l W h2 (up3 W hb) hnn
  obtain ⟨s, hs⟩ : ∃ s, str (keyR l) = s := ⟨_, rfl⟩
  rw [hs] at P1 P2 GE
  have H1 := Lib.hid P1; clear P1
  have H2 := Lib.hid P2; clear P2
  have HE := Lib.hid GE; clear GE
  have HS := Lib.hid SM; clear SM
  clear up3 hr hok hl hm hg' ha' hsz hs
  go_enter Tryd.func3, Tryd.ntmps3
  go_wp2_with fail
  refine (HG.out _ (Below.refl _ _)).mono ?_
  rintro e w' ⟨rfl, rfl⟩
  go_wp2_with fail
  refine (H1.out _ (Below.refl _ _)).mono ?_
  rintro e w1 ⟨rfl, hb1⟩
  go_wp2_with fail
  refine (H2.out _ (by (with_reducible repeat (first | exact Below.refl _ _ | exact hb1 | refine bto0 ?_ hb1 | refine bdr ?_ _ | refine Below.drew ?_ | refine ball ?_ _)))).mono ?_
  rintro e w2 ⟨rfl, hb2⟩
  go_wp2_with fail
  refine (HF.out _ (by (with_reducible repeat (first | exact Below.refl _ _ | exact hb2 | exact hb1 | refine bto0 ?_ hb2 | refine bto0 ?_ hb1 | refine bdr ?_ _ | refine Below.drew ?_ | refine ball ?_ _)))).mono ?_
  rintro e w3 ⟨rfl, hb3⟩
  go_wp2_with fail
  refine (HE.out _).mono ?_
  rintro e w4 ⟨A5, c5, rfl, hc5, hr5, hb4⟩
  go_wp2_with fail
  refine (HS.out _ (by (with_reducible repeat (first | exact Below.refl _ _ | exact hb4 | exact hb3 | exact hb2 | exact hb1 | refine bto0 ?_ hb4 | refine bto0 ?_ hb3 | refine bto0 ?_ hb2 | refine bto0 ?_ hb1 | refine bdr ?_ _ | refine Below.drew ?_ | refine ball ?_ _))) A5 c5 hr5).mono ?_
  rintro e w5 ⟨rfl, hb5⟩
  go_wp2
  go_ret
  exact ⟨rfl, by (with_reducible repeat (first | exact Below.refl _ _ | exact hb5 | exact hb4 | exact hb3 | exact hb2 | exact hb1 | refine bto0 ?_ hb5 | refine bto0 ?_ hb4 | refine bto0 ?_ hb3 | refine bto0 ?_ hb2 | refine bto0 ?_ hb1 | refine bdr ?_ _ | refine Below.drew ?_ | refine ball ?_ _))⟩
end Go.Proofs.YtohaplmbgipbcaaDoor

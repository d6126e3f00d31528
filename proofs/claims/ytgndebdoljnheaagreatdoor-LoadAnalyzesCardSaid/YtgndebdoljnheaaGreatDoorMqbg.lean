/-
  Several texts in one: Ma4.
-/
import Derived.Test.YtgndebdoljnheaaGreatDoorMqbe
import Derived.Test.YtgndebdoljnheaaGreatDoorMqbd
import Derived.Test.YtgndebdoljnheaaGreatDoorMqbf
import Derived.Test.YtgndebdoljnheaaGreatDoorMqbc
/-
  LoadAnalyzes: the walk.
-/
namespace Go.Proofs.YtgndebdoljnheaaGreatDoor
section
set_option linter.unusedSimpArgs false
set_option linter.unusedVariables false
open Go.RowKit

theorem analyze_neg (a : Int) (ha : a < 0) (RA : Option Addr) (rn rc : Nat) (w : World) :
    Calls Tryz.prog 7 #[.int .i64 a, .slice RA rn rc] w fun e w' => e = .returned (.tuple #[.slice none 0 0, .slice none 0 0]) ∧ w = w' := by
  go_enter Tryz.func7, Tryz.ntmps7
  go_wp2_with fail
  go_ret2
  exact ⟨rfl, rfl⟩
def zeroV13 : Vl := ⟨0, 0, ⟨#[]⟩⟩
def valAt (i : Nat) (r : Rv) : Vl := (r.l[i]?).getD zeroV13
theorem nn_col (i : Nat) : ∀ rws : List Rv, nn13 (rws.map (valAt i)) = col13 i rws
  | [] => rfl
  | r :: t => by
    have h := nn_col i t
    unfold nn13 col13 at *
    rw [List.map_cons, List.flatMap_cons, List.filter_cons, h]
    unfold valAt pick13
    rcases hv : r.l[i]? with _ | v
    · simp [zeroV13]
    · by_cases h0 : v.k = 0
      · simp [h0]
      · simp [h0]
theorem nul_nn : ∀ vs : List Vl, nul13 vs + (nn13 vs).length = vs.length
  | [] => rfl
  | v :: t => by
    have h := nul_nn t
    unfold nul13 nn13 at *
    simp only [ne_eq, decide_not] at h ⊢
    rw [List.filter_cons, List.filter_cons, List.length_cons]
    by_cases h0 : v.k = 0
    · simp [h0]
      omega
    · simp [h0]
      omega
theorem nul_col (i : Nat) (rws : List Rv) : (nul13 (rws.map (valAt i)) : Int) = (rws.length : Int) - ((col13 i rws).length : Int) := by
  have h := nul_nn (rws.map (valAt i))
  rw [nn_col, List.length_map] at h
  omega
theorem own_new13 {W : World} {g base : Nat} {v : Vl} (h : Blk W g 35 #[.int .u8 v.k, .int .i64 v.i, .string v.s]) (hb : base ≤ g) : W.ownsRow base 35 3 (.slice (some ⟨g, 0, none⟩) 1 1) 1 (vV [v]) :=
  ⟨rfl, .inr ⟨g, 1, _, rfl, hb, h, Nat.le_refl _, by decide, rfl, rfl⟩⟩
set_option maxRecDepth 100000 in
set_option maxHeartbeats 16000000 in
theorem loadAnalyzes_any (a : Int) (ha0 : -9223372036854775808 ≤ a) (ha1 : a ≤ 9223372036854775807) (RA : Option Addr) (rn rc : Nat) (rws : List Rv) (w : World) (hR : RowsIn w RA rn rws) :
    Calls Tryz.prog 3 #[.int .i64 a, .slice RA rn rc] w (RetB w (.bool true)) := by
  have FX := Lib.hid fun W => fixed13_any W
  have hb0 := ball (Below.refl w.heap.size w) (.cells #[.slice RA rn rc] 22)
  have GR := Lib.hid (great13_any w.heap.size RA rn rc rws _ (hR.below hb0) (Blk.new w 22 #[.slice RA rn rc]))
  have hl : rws.length = rn := by have := hR.r.1; rw [vRv_len] at this; omega
  have H0 := Lib.hid (And.intro hR (And.intro hb0 hl))
  clear hR hb0 hl
  go_enter Tryz.func3, Tryz.ntmps3
  by_cases h3 : 300 < a
  · go_wp2_with fail
    refine GR.out.mono ?_
    rintro e w1 ⟨b, rfl, hb1, _⟩
    have HB := Lib.hid (bto0 H0.out.2.1 hb1)
    clear hb1
    cases b
    all_goals
      go_wp2_with fail
      refine (FX.out _).mono ?_
      rintro e w2 ⟨rfl, hb2⟩
      have HB2 := Lib.hid (bto0 HB.out hb2)
      clear hb2
      go_wp2_with fail
      go_ret
      exact ⟨rfl, HB2.out⟩
  have h3' : a ≤ 300 := by omega
  clear h3
  go_wp2_with fail
  refine GR.out.mono ?_
  rintro e w1 ⟨b, rfl, hb1, hsm⟩
  cases b with
  | true =>
    have HB := Lib.hid (bto0 H0.out.2.1 hb1)
    clear hb1 hsm
    go_wp2_with fail
    refine (FX.out _).mono ?_
    rintro e w2 ⟨rfl, hb2⟩
    have HB2 := Lib.hid (bto0 HB.out hb2)
    clear hb2
    go_wp2_with fail
    go_ret
    exact ⟨rfl, HB2.out⟩
  | false =>
    have hsm := hsm rfl
    have b01 := bto0 H0.out.2.1 hb1
    have hR1 := H0.out.1.below b01
    by_cases hneg : a < 0
    · have AN := Lib.hid (analyze_neg a hneg RA rn rc w1)
      have hmx : max a 0 = 0 := by omega
      have HB := Lib.hid b01
      clear hb1 hsm hR1 b01
      go_wp2_with fail
      refine AN.out.mono ?_
      rintro e w2 ⟨rfl, rfl⟩
      go_wp2_with fail
      go_loopw [41] (fun u41 wr => u41 = .int .i64 0 ∧ wr = w1) (fun _ _ => 0)
      case atStart => exact ⟨rfl, rfl⟩
      case round =>
        obtain ⟨rfl, rfl⟩ := hrel
        go_wp2_with fail
        refine (FX.out _).mono ?_
        rintro e w2 ⟨rfl, hb2⟩
        have HB2 := Lib.hid (bto0 HB.out hb2)
        clear hb2
        go_wp2_with fail
        go_ret
        exact ⟨rfl, HB2.out⟩
    · obtain ⟨n, rfl⟩ : ∃ n : Nat, a = (n : Int) := ⟨a.toNat, by omega⟩
      have hn3 : n ≤ 300 := by omega
      have hmx : max (n : Int) 0 = (n : Int) := by omega
      have AN := Lib.hid (analyze_any n hn3 RA rn rc rws w1 hR1 (by have := hsm.1; omega))
      have HB := Lib.hid (And.intro b01 (And.intro hR1 hsm))
      have n0 : (0 : Int) ≤ (n : Int) := by omega
      clear hb1 hsm hR1 b01 hneg ha0 ha1
      go_wp2_with fail
      refine AN.out.mono ?_
      rintro e w3 ⟨A3, A4, c3, c4, ds, ns, rfl, hd, hnn, hb3, hdn⟩
      have b03 := bto0 HB.out.1 hb3
      have hR3 := HB.out.2.1.below hb3
      have H3 := Lib.hid (And.intro b03 (And.intro hR3 (And.intro hd (And.intro hnn hdn))))
      have rI : (rn : Int) ≤ 1500 := by have := HB.out.2.2.1; omega
      obtain ⟨iV, hiV, hzV, hsV, hyV⟩ := int_info8 Tryz.infoRw13
      clear hb3 b03 hR3 hd hnn hdn AN
      go_wp2_with fail
      go_loopw [41] (fun u41 wr => ∃ i : Nat, u41 = .int .i64 i ∧ i ≤ n ∧ Below w3.heap.size w3 wr) (fun u41 _ => n - (intOf u41).toNat)
      case atStart => exact ⟨0, rfl, by omega, Below.refl _ _⟩
      case round =>
        obtain ⟨wo, rfl⟩ : ∃ wo : World, wo = wr := ⟨_, rfl⟩
        obtain ⟨i, rfl, hi, hb⟩ := hrel
        have i0 : (0 : Int) ≤ (i : Int) := by omega
        by_cases hlt : i < n
        · have i1 : (i : Int) < (n : Int) := by omega
          have HBo := Lib.hid hb
          clear hb
          go_wp2_with fail
          go_loopw [8, 46] (fun u8 u46 wr => ∃ (k : Nat) (A8 : Option Addr) (c8 : Nat) (os : List Rv), u8 = .slice A8 k c8 ∧ u46 = .int .i64 k ∧ k ≤ rn ∧ Out13 w3.heap.size wr A8 k c8 os ((rws.map (valAt i)).take k) ∧ Below w3.heap.size w3 wr) (fun _ u46 _ => rn - (intOf u46).toNat)
          case atStart => exact ⟨0, none, 0, [], rfl, rfl, by omega, ⟨⟨rfl, .inl ⟨rfl, rfl⟩⟩, rfl, fun k x hx => by simp at hx, fun v hv => by simp at hv⟩, HBo.out⟩
          case round =>
            obtain ⟨wi, rfl⟩ : ∃ wi : World, wi = wr := ⟨_, rfl⟩
            obtain ⟨k, A8, c8, os, rfl, rfl, hk, hout, hb⟩ := hrel
            have k0 : (0 : Int) ≤ (k : Int) := by omega
            have hzi := hb.size
            by_cases hlt2 : k < rn
            · have k1 : (k : Int) < (rn : Int) := by omega
              have hRi := H3.out.2.1.below hb
              obtain ⟨ad, r, hRA, had, hr, hrc⟩ := hRi.r.rv_ hlt2
              have hre := hRi.e r (List.mem_of_getElem? hr)
              have hrl : r.l.length = r.n := by have := hre.1.1; rw [vV_len] at this; omega
              have hsz : (valAt i r).s.size ≤ 1000000 := by
                unfold valAt
                rcases hv : r.l[i]? with _ | v
                · decide
                · exact HB.out.2.2.2 r (List.mem_of_getElem? hr) v (List.mem_of_getElem? hv)
              have htk : (rws.map (valAt i)).take (k + 1) = (rws.map (valAt i)).take k ++ [valAt i r] := by rw [List.take_add_one, List.getElem?_map, hr]; rfl
              have hX := Blk.new wi 35 #[.int .u8 0, .int .i64 0, .string ⟨#[]⟩]
              have hbX := ball (Below.refl wi.heap.size wi) (.cells #[.int .u8 0, .int .i64 0, .string ⟨#[]⟩] 35)
              obtain ⟨rA, rN, rC, rL⟩ := r
              simp only at hre hrl hrc
              have hrn2 : rN ≤ maxLen := hre.2.1
              unfold maxLen at hrn2
              have rNI : (rN : Int) ≤ 9223372036854775807 := by omega
              subst hRA
              by_cases hin : i < rN
              · obtain ⟨ad2, v, hrA, had2, hv, p0, p1, p2⟩ := hre.1.val hin
                subst hrA
                have iN : (i : Int) < (rN : Int) := by omega
                have hva : valAt i ⟨some ad2, rN, rC, rL⟩ = v := by unfold valAt; simp only [hv, Option.getD_some]
                rw [hva] at hsz htk
                have hadw : ad2.block < wi.heap.size := had2
                have P0 := (hbX.cell (p := ad2.add (i * 3)) (by rw [block_of_add]; exact hadw)).trans p0
                have P1 := (hbX.cell (p := ⟨(ad2.add (i * 3)).block, (ad2.add (i * 3)).off + 1, none⟩) (by show (ad2.add (i * 3)).block < _; rw [block_of_add]; exact hadw)).trans p1
                have P2 := (hbX.cell (p := ⟨(ad2.add (i * 3)).block, (ad2.add (i * 3)).off + 2, none⟩) (by show (ad2.add (i * 3)).block < _; rw [block_of_add]; exact hadw)).trans p2
                have b0 : (wi.alloc (.cells #[.int .u8 0, .int .i64 0, .string ⟨#[]⟩] 35)).cell? ⟨wi.heap.size, 0, none⟩ = some (.int .u8 0) := hX.cell 0
                have b1 : (wi.alloc (.cells #[.int .u8 0, .int .i64 0, .string ⟨#[]⟩] 35)).cell? ⟨wi.heap.size, 1, none⟩ = some (.int .i64 0) := hX.cell 1
                have b2 : (wi.alloc (.cells #[.int .u8 0, .int .i64 0, .string ⟨#[]⟩] 35)).cell? ⟨wi.heap.size, 2, none⟩ = some (.string ⟨#[]⟩) := hX.cell 2
                have f0 := hX.frozen 0
                have f1 := hX.frozen 1
                have f2 := hX.frozen 2
                have hN6 : Blk ((wi.alloc (.cells #[.int .u8 v.k, .int .i64 v.i, .string v.s] 35)).alloc (.cells #[.int .u8 v.k, .int .i64 v.i, .string v.s] 35)) (wi.heap.size + 1) 35 #[.int .u8 v.k, .int .i64 v.i, .string v.s] := Blk.newAt (by simp)
                have hb6 := ball (ball (Below.refl wi.heap.size wi) (.cells #[.int .u8 v.k, .int .i64 v.i, .string v.s] 35)) (.cells #[.int .u8 v.k, .int .i64 v.i, .string v.s] 35)
                have o6 := hout.below hb6
                have b6 := bto0 hb hb6
                have own6 : ((wi.alloc (.cells #[.int .u8 v.k, .int .i64 v.i, .string v.s] 35)).alloc (.cells #[.int .u8 v.k, .int .i64 v.i, .string v.s] 35)).ownsRow w3.heap.size 35 3 (.slice (some ⟨wi.heap.size + 1, 0, none⟩) 1 1) 1 (vV [v]) := own_new13 (v := v) hN6 (by omega)
                have hs6 : w3.heap.size ≤ ((wi.alloc (.cells #[.int .u8 v.k, .int .i64 v.i, .string v.s] 35)).alloc (.cells #[.int .u8 v.k, .int .i64 v.i, .string v.s] 35)).heap.size := b6.size
                have hN5 := Blk.new wi 35 #[.int .u8 v.k, .int .i64 v.i, .string v.s]
                have c50 : (wi.alloc (.cells #[.int .u8 v.k, .int .i64 v.i, .string v.s] 35)).cell? ⟨wi.heap.size, 0, none⟩ = some (.int .u8 v.k) := hN5.cell 0
                have c51 : (wi.alloc (.cells #[.int .u8 v.k, .int .i64 v.i, .string v.s] 35)).cell? ⟨wi.heap.size, 1, none⟩ = some (.int .i64 v.i) := hN5.cell 1
                have c52 : (wi.alloc (.cells #[.int .u8 v.k, .int .i64 v.i, .string v.s] 35)).cell? ⟨wi.heap.size, 2, none⟩ = some (.string v.s) := hN5.cell 2
                have H6 := Lib.hid (And.intro o6 (And.intro own6 b6))
                have HK := Lib.hid (And.intro hsz htk)
                clear hN6 hN5 hb6 o6 b6 own6 hout hb hRi hre hrl hsz htk hX hbX hr had hva had2 hadw hv p0 p1 p2
                go_wp2_with (at_builtin; refine wpList_pushR (news := [.slice (some ⟨wi.heap.size + 1, 0, none⟩) 1 1]) rfl (.tmp 59) (.tmp 62) 22 rfl w3.heap.size 33 iV _ 1 24 Tryz.underlying22 hiV hzV hsV hyV rfl (by decide) (.slice A8 k c8) k _ (by first | rfl | (simp [Act.eval, Act.put]; done)) H6.out.1.h rfl _ (by first | rfl | (simp [Act.eval, Act.put]; done)) (by first | rfl | simp) rfl (by intro u hu; rw [List.mem_singleton] at hu; subst hu; rfl) (by omega) (by omega) hs6 ?_; intro v9 w9 own9 kp9 ob9; obtain ⟨A10, c10, rfl, hc10⟩ := own_form own9; have o9 := H6.out.1.push (x := ⟨some ⟨wi.heap.size + 1, 0, none⟩, 1, 1, [v]⟩) (v := v) rfl rfl H6.out.2.1 HK.out.1 own9 kp9; have b9 := (H6.out.2.2.alloc hs6 _).grown kp9 (by simp; omega) (fun g e => by have := (World.ownsRow.lt H6.out.1.h g e).1; omega); have H9 := Lib.hid (And.intro o9 b9); clear own9 kp9 ob9 o9 b9)
                exact ⟨⟨k + 1, A10, c10, os ++ [⟨some ⟨wi.heap.size + 1, 0, none⟩, 1, 1, [v]⟩], rfl, by go_num, by omega, by rw [HK.out.2]; exact H9.out.1, H9.out.2⟩, by simp [intOf]; omega⟩
              · have iN : (rN : Int) ≤ (i : Int) := by omega
                have hva : valAt i ⟨rA, rN, rC, rL⟩ = zeroV13 := by unfold valAt; simp only [List.getElem?_eq_none (show rL.length ≤ i by omega), Option.getD_none]
                rw [hva] at hsz htk
                have f0 := hX.frozen 0
                have f1 := hX.frozen 1
                have f2 := hX.frozen 2
                have hN6 : Blk ((wi.alloc (.cells #[.int .u8 0, .int .i64 0, .string ⟨#[]⟩] 35)).alloc (.cells #[.int .u8 0, .int .i64 0, .string ⟨#[]⟩] 35)) (wi.heap.size + 1) 35 #[.int .u8 0, .int .i64 0, .string ⟨#[]⟩] := Blk.newAt (by simp)
                have hb6 := ball (ball (Below.refl wi.heap.size wi) (.cells #[.int .u8 0, .int .i64 0, .string ⟨#[]⟩] 35)) (.cells #[.int .u8 0, .int .i64 0, .string ⟨#[]⟩] 35)
                have o6 := hout.below hb6
                have b6 := bto0 hb hb6
                have own6 : ((wi.alloc (.cells #[.int .u8 0, .int .i64 0, .string ⟨#[]⟩] 35)).alloc (.cells #[.int .u8 0, .int .i64 0, .string ⟨#[]⟩] 35)).ownsRow w3.heap.size 35 3 (.slice (some ⟨wi.heap.size + 1, 0, none⟩) 1 1) 1 (vV [zeroV13]) := own_new13 (v := zeroV13) hN6 (by omega)
                have hs6 : w3.heap.size ≤ ((wi.alloc (.cells #[.int .u8 0, .int .i64 0, .string ⟨#[]⟩] 35)).alloc (.cells #[.int .u8 0, .int .i64 0, .string ⟨#[]⟩] 35)).heap.size := b6.size
                have hN5 := Blk.new wi 35 #[.int .u8 0, .int .i64 0, .string ⟨#[]⟩]
                have c50 : (wi.alloc (.cells #[.int .u8 0, .int .i64 0, .string ⟨#[]⟩] 35)).cell? ⟨wi.heap.size, 0, none⟩ = some (.int .u8 0) := hN5.cell 0
                have c51 : (wi.alloc (.cells #[.int .u8 0, .int .i64 0, .string ⟨#[]⟩] 35)).cell? ⟨wi.heap.size, 1, none⟩ = some (.int .i64 0) := hN5.cell 1
                have c52 : (wi.alloc (.cells #[.int .u8 0, .int .i64 0, .string ⟨#[]⟩] 35)).cell? ⟨wi.heap.size, 2, none⟩ = some (.string ⟨#[]⟩) := hN5.cell 2
                have H6 := Lib.hid (And.intro o6 (And.intro own6 b6))
                have HK := Lib.hid (And.intro hsz htk)
                clear hN6 hN5 hb6 o6 b6 own6 hout hb hRi hre hrl hsz htk hX hbX hr had hva 
                go_wp2_with (at_builtin; refine wpList_pushR (news := [.slice (some ⟨wi.heap.size + 1, 0, none⟩) 1 1]) rfl (.tmp 59) (.tmp 62) 22 rfl w3.heap.size 33 iV _ 1 24 Tryz.underlying22 hiV hzV hsV hyV rfl (by decide) (.slice A8 k c8) k _ (by first | rfl | (simp [Act.eval, Act.put]; done)) H6.out.1.h rfl _ (by first | rfl | (simp [Act.eval, Act.put]; done)) (by first | rfl | simp) rfl (by intro u hu; rw [List.mem_singleton] at hu; subst hu; rfl) (by omega) (by omega) hs6 ?_; intro v9 w9 own9 kp9 ob9; obtain ⟨A10, c10, rfl, hc10⟩ := own_form own9; have o9 := H6.out.1.push (x := ⟨some ⟨wi.heap.size + 1, 0, none⟩, 1, 1, [zeroV13]⟩) (v := zeroV13) rfl rfl H6.out.2.1 HK.out.1 own9 kp9; have b9 := (H6.out.2.2.alloc hs6 _).grown kp9 (by simp; omega) (fun g e => by have := (World.ownsRow.lt H6.out.1.h g e).1; omega); have H9 := Lib.hid (And.intro o9 b9); clear own9 kp9 ob9 o9 b9)
                exact ⟨⟨k + 1, A10, c10, os ++ [⟨some ⟨wi.heap.size + 1, 0, none⟩, 1, 1, [zeroV13]⟩], rfl, by go_num, by omega, by rw [HK.out.2]; exact H9.out.1, H9.out.2⟩, by simp [intOf]; omega⟩
            · obtain rfl : k = rn := by omega
              have hvs : (rws.map (valAt i)).take k = rws.map (valAt i) := List.take_of_length_le (by rw [List.length_map, H0.out.2.2]; exact Nat.le_refl _)
              rw [hvs] at hout
              obtain ⟨hns, r0, hr0, hds⟩ := H3.out.2.2.2.2 i hlt
              have uds : (vI64 ds)[i]? = some (.int .i64 (r0.length : Int)) := by simp [vI64, hds]
              have uns : (vI64 ns)[i]? = some (.int .i64 ((nul13 (rws.map (valAt i)) : Nat) : Int)) := by rw [nul_col]; simp [vI64, hns]
              obtain ⟨ad3, u3, hA3, had3, hu3, hc3⟩ := (H3.out.2.2.1.below hb).at_ hlt
              rw [uds] at hu3
              obtain rfl := Option.some.inj hu3
              obtain ⟨ad4, u4', hA4, had4, hu4, hc4⟩ := (H3.out.2.2.2.1.below hb).at_ hlt
              rw [uns] at hu4
              obtain rfl := Option.some.inj hu4
              have hk1500 : k ≤ 1500 := HB.out.2.2.1
              have kI : (k : Int) ≤ 1500 := by omega
              have DF : Hid (∀ (W : World) (g : Nat), Below wi.heap.size wi W → Blk W g 3 #[.int .i64 0] → Calls Tryz.prog 8 #[.slice A8 k c8, .slice (some ⟨g, 0, none⟩) 1 1, .bool false] W (RetB W (.int .i64 (r0.length : Int)))) := Lib.hid fun W g hW hB => (different13_any A8 k c8 os _ (some ⟨g, 0, none⟩) 1 W (hout.ones.below hW) (reads_ints13 (l := [0]) hB rfl) (by omega)).mono fun e w' ⟨r, he, hr, hb'⟩ => ⟨by
                rw [nn_col] at hr
                rw [he, reps_eq eqV_eqR hr hr0 (fun x => Iff.rfl)], hb'⟩
              have NL : Hid (∀ (W : World), Below wi.heap.size wi W → Calls Tryz.prog 9 #[.slice A8 k c8, .int .i64 0] W (RetB W (.int .i64 ((nul13 (rws.map (valAt i)) : Nat) : Int)))) := Lib.hid fun W hW => nulls13_any A8 k c8 os _ W (hout.ones.below hW) (by omega)
              subst hA3
              subst hA4
              have hC : Hid (∀ W, Below wi.heap.size wi W → W.cell? (ad3.add i) = some (.int .i64 (r0.length : Int)) ∧ W.cell? (ad4.add i) = some (.int .i64 ((nul13 (rws.map (valAt i)) : Nat) : Int)) ∧ Below wi.heap.size wi W) := Lib.hid fun W hW => ⟨(hW.cell (by rw [block_of_add]; have := hb.size; omega)).trans hc3, (hW.cell (by rw [block_of_add]; have := hb.size; omega)).trans hc4, hW⟩
              obtain ⟨Q, hQ⟩ : ∃ Q, r0.length = Q := ⟨_, rfl⟩
              obtain ⟨X, hX⟩ : ∃ X, nul13 (rws.map (valAt i)) = X := ⟨_, rfl⟩
              rw [hQ] at DF hC hc3
              rw [hX] at NL hC hc4
              have HBi := Lib.hid hb
              clear hout hb hvs hns hr0 hds uds uns had3 had4 hu3 hu4 hQ hX hlt2 hk hk1500
              go_wp2_with fail
              go_region_held3 (fun W => W.cell? (ad3.add i) = some (.int .i64 (Q : Int)) ∧ W.cell? (ad4.add i) = some (.int .i64 (X : Int)) ∧ Below wi.heap.size wi W)
                (first | exact hC.out _ (by with_reducible repeat (first | exact Below.refl _ _ | exact hb2 | exact hb1 | refine Below.drew ?_ | refine bdr ?_ _ | refine ball ?_ _)) | assumption)
                (first
                  | (go_at_call 8; (with_reducible refine (DF.out _ wi.heap.size (by with_reducible repeat (first | exact Below.refl _ _ | refine Below.drew ?_ | refine bdr ?_ _ | refine ball ?_ _)) (by with_reducible repeat (first | exact Blk.new _ _ _ | exact Blk.newAt (by simp) | refine Blk.drew ?_))).mono ?_); rintro e w6 ⟨rfl, hb1'⟩; have hb1 : Below wi.heap.size wi w6 := bto0 (by with_reducible repeat (first | exact Below.refl _ _ | refine Below.drew ?_ | refine bdr ?_ _ | refine ball ?_ _)) hb1')
                  | (go_at_call 9; (with_reducible refine (NL.out _ (by with_reducible repeat (first | exact hb1 | refine Below.drew ?_ | refine bdr ?_ _ | refine ball ?_ _))).mono ?_); rintro e w7 ⟨rfl, hb2'⟩; have hb2 : Below wi.heap.size wi w7 := bto0 (by with_reducible repeat (first | exact hb1 | refine Below.drew ?_ | refine bdr ?_ _ | refine ball ?_ _)) hb2'))
              have HW7 := Lib.hid (bto0 HBi.out hb2)
              clear hb2 hb2' hb1 hb1'
              go_wp2_with fail
              exact ⟨⟨i + 1, by go_num, by omega, HW7.out⟩, by simp [intOf]; omega⟩
        · obtain rfl : i = n := by omega
          have HBo := Lib.hid (bto0 H3.out.1 hb)
          clear hb hlt
          go_wp2_with fail
          refine (FX.out _).mono ?_
          rintro e w4 ⟨rfl, hb4⟩
          have HB4 := Lib.hid (bto0 HBo.out hb4)
          clear hb4
          go_wp2_with fail
          go_ret
          exact ⟨rfl, HB4.out⟩
end
end Go.Proofs.YtgndebdoljnheaaGreatDoor

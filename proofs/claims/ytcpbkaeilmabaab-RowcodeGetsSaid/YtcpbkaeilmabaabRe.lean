/-
  Rows as bytes: contract of the reference's Put.
-/
import Derived.Test.YtcpbkaeilmabaabRd
namespace Go.Proofs.Ytcpbkaeilmabaab
open Go.RowKit

theorem reads_blk {w : World} {g n : Nat} {t : TypeId} {l : List UInt8} (h : Blk w g t (bV l)) (hn : l.length = n) : Reads w (g + 1) 1 (some ⟨g, 0, none⟩) n (bL l) := by
  refine ⟨by rw [bL_len]; omega, fun _ => ⟨_, rfl, Nat.lt_succ_self _, fun j u hu => ?_⟩⟩
  rw [add_head, h.cell, bV, List.getElem?_toArray]
  exact hu
set_option maxRecDepth 100000 in
set_option maxHeartbeats 4000000 in
theorem rput2_any (A : Option Addr) (n c : Nat) (l : List Vl) (w : World) (hr : Reads w w.heap.size 3 A n (vV l)) (hok : ∀ v ∈ l, v.ok) (hg : grV 0 l = false) :
    Calls Try.prog 16 #[.slice A n c] w (RetPut w l) := by
  obtain ⟨g1, g2, g3⟩ := grV_bd hg
  have hl : l.length = n := by have := hr.1; rw [vV_len] at this; omega
  have hn : n ≤ 5000 := by omega
  have hnI : (n : Int) ≤ 5000 := by omega
  have Hl := Lib.hid hl; clear hl hg
  go_enter Try.func16, Try.ntmps16
  go_wp2
  go_loopw [10] (fun iv wr => ∃ k : Nat, k ≤ n ∧ iv = .int .i64 k ∧ allMay (l.take k) = true ∧ Below w.heap.size w wr) (fun iv _ => n - (intOf iv).toNat)
  case atStart => exact ⟨0, by omega, rfl, rfl, Below.refl _ _⟩
  case round =>
    obtain ⟨k, hk, rfl, ha, hb⟩ := hrel
    have Ha := Lib.hid ha; clear ha
    have q0 : (0 : Int) ≤ (k : Int) := by omega
    by_cases hlt : k < n
    · have q1 : (k : Int) < (n : Int) := by omega
      obtain ⟨ad, v, rfl, hab, hv, d0, d1, d2⟩ := (hr.below hb).val hlt
      have hvok := hok v (List.mem_of_getElem? hv)
      have M := fun W => rmay_any v hvok W
      have Hv := Lib.hid hv; clear hv
      have hbs := hb.size
      by_cases hm : mayV v = true
      · rw [hm] at M
        have HM := Lib.hid hm; clear hm
        have MM := Lib.hid M; clear M
        obtain ⟨vk, vi, vs⟩ := v
        simp only at d0 d1 d2
        go_wp2_with (go_at_call 41; (with_reducible refine (MM.out _).mono ?_); rintro e w1 ⟨rfl, hb1⟩)
        go_roundw
        case rel => exact ⟨k + 1, by omega, by go_num, by rw [List.take_add_one, Hv.out]; unfold allMay; rw [List.all_append]; simp only [Option.toList, List.all_cons, List.all_nil, HM.out, Bool.and_true]; exact Ha.out, bto0 hb hb1⟩
        case measure => simp [intOf]; omega
      · have hm' : mayV v = false := by simpa using hm
        rw [hm'] at M
        have HM := Lib.hid hm'; clear hm hm'
        have MM := Lib.hid M; clear M
        have hf : allMay l = false := by
          unfold allMay
          rw [Bool.eq_false_iff]
          intro h
          rw [List.all_eq_true] at h
          have := h v (List.mem_of_getElem? Hv.out)
          rw [HM.out] at this; cases this
        have HF := Lib.hid hf; clear hf
        obtain ⟨vk, vi, vs⟩ := v
        simp only at d0 d1 d2
        go_wp2_with (go_at_call 41; (with_reducible refine (MM.out _).mono ?_); rintro e w1 ⟨rfl, hb1⟩)
        go_ret2
        exact ⟨_, by unfold putE; rw [HF.out]; rfl, by unfold putB; rw [HF.out]; exact (Own.empty _ rfl).less (bto0 hb hb1).size, ball (bto0 hb hb1) _⟩
    · obtain rfl : k = n := by omega
      have hall : allMay l = true := by have := Ha.out; rwa [List.take_of_length_le (by rw [Hl.out]; omega)] at this
      have HA := Lib.hid hall; clear hall Ha
      by_cases h255 : 255 < k
      · have hI : (255 : Int) < (k : Int) := by omega
        go_wp2
        go_ret2
        exact ⟨_, by unfold putE; rw [HA.out, Hl.out, if_pos rfl, if_pos h255]; rfl, by unfold putB; rw [HA.out, Hl.out, if_pos rfl, if_pos h255]; exact (Own.empty _ rfl).less hb.size, ball hb _⟩
      · have hI : (k : Int) ≤ 255 := by omega
        have hE : putE l = 0 := by unfold putE; rw [HA.out, Hl.out, if_pos rfl, if_neg h255]
        have hB : putB l = UInt8.ofNat k :: l.flatMap encV := by unfold putB; rw [HA.out, Hl.out, if_pos rfl, if_neg h255]; unfold encRow; rw [Hl.out]
        have HE := Lib.hid hE; clear hE
        have HB := Lib.hid hB; clear hB
        have hk8 : ((UInt8.ofNat k).toNat : Int) = (k : Int) := by rw [u8_nat]; omega
        have hown0 : Own (wr.alloc (.cells #[.int .u8 (k : Int)] 5)) w.heap.size (.slice (some ⟨wr.heap.size, 0, none⟩) 1 1) [UInt8.ofNat k] := by
          refine Own.new (l := [UInt8.ofNat k]) ?_ (by simp [maxLen]) hb.size rfl
          have e : bV [UInt8.ofNat k] = #[.int .u8 (k : Int)] := by show #[Value.int .u8 ((UInt8.ofNat k).toNat : Int)] = _; rw [hk8]
          rw [e]
          exact Blk.new _ _ _
        have hb0 : Below w.heap.size w (wr.alloc (.cells #[.int .u8 (k : Int)] 5)) := ball hb _
        clear hk8
        go_wp2
        obtain ⟨w0, hw0⟩ : ∃ w0, wr.alloc (.cells #[.int .u8 (k : Int)] 5) = w0 := ⟨_, rfl⟩
        rw [hw0] at hown0 hb0 ⊢
        clear hw0 hb
        clear hk
        have Hg2 := Lib.hid g2
        go_loopw [5, 31] (fun bv iv wr => ∃ j : Nat, j ≤ k ∧ iv = .int .i64 j ∧ Own wr w.heap.size bv (UInt8.ofNat k :: (l.take j).flatMap encV) ∧ Below w.heap.size w wr) (fun _ iv _ => k - (intOf iv).toNat)
        case atStart => exact ⟨0, by omega, rfl, by simpa using hown0, hb0⟩
        case round =>
          obtain ⟨j, hj, rfl, hown, hb⟩ := hrel
          have q0 : (0 : Int) ≤ (j : Int) := by omega
          by_cases hlt : j < k
          · have q1 : (j : Int) < (k : Int) := by omega
            obtain ⟨ad, v, rfl, hab, hv, d0, d1, d2⟩ := (hr.below hb).val hlt
            have hvok := hok v (List.mem_of_getElem? hv)
            have hvsz := Hg2.out v (List.mem_of_getElem? hv)
            have hft := flat_take_len l j
            have hll : (UInt8.ofNat k :: (l.take j).flatMap encV).length ≤ 60000 := by simp only [List.length_cons]; omega
            have HT := Lib.hid (flat_take hv)
            obtain ⟨lj, hlj⟩ : ∃ lj, UInt8.ofNat k :: (l.take j).flatMap encV = lj := ⟨_, rfl⟩
            rw [hlj] at hown hll
            have Hlj := Lib.hid hlj
            clear hv hft hlj
            have hbs := hb.size
            have hb1 : w.heap.size ≤ (wr.alloc (.cells #[.int .u8 v.k, .int .i64 v.i, .string v.s] 56)).heap.size := by simp; omega
            obtain ⟨vk, vi, vs⟩ := v
            obtain ⟨⟨hk0, hk1⟩, ⟨hi0, hi1⟩, hs⟩ := hvok
            simp only at d0 d1 d2 hk0 hk1 hi0 hi1 hs hvsz hb1
            have hkb : vk = ((UInt8.ofNat vk.toNat).toNat : Int) := by simp; omega
            have hE : encV ⟨vk, vi, vs⟩ = UInt8.ofNat vk.toNat :: (if vk = 1 then be 8 (vi % 18446744073709551616).toNat else if vk = 2 then [UInt8.ofNat (vi % 256).toNat] else if vk = 3 then UInt8.ofNat vs.size :: vs.data.toList else []) := rfl
            rw [hE] at HT
            obtain ⟨kb, hkb'⟩ : ∃ kb, UInt8.ofNat vk.toNat = kb := ⟨_, rfl⟩
            rw [hkb'] at hkb HT
            have HK := Lib.hid hkb; clear hkb hkb' hE
            have U2 : Hid (vi % 256 = ((UInt8.ofNat (vi % 256).toNat).toNat : Int)) := by show vi % 256 = _; simp; omega
            have U3 : Hid ((vs.size : Int) % 256 = ((UInt8.ofNat vs.size).toNat : Int)) := (u8_nat _).symm
            obtain ⟨U, hU⟩ : ∃ U : Nat, (vi % 18446744073709551616).toNat = U := ⟨_, rfl⟩
            have hUi : (U : Int) = vi % 18446744073709551616 := by omega
            rw [hU] at HT
            have NU := Lib.hid fun W => rnum_any vi U hUi W
            clear hU hUi
            by_cases h1 : vk = 1
            · rw [if_pos h1] at HT
              subst h1
              go_wp2_with (first
                | (at_builtin; refine wpList_pushB rfl _ _ rfl w.heap.size u5 _ kb _ rfl (hown.alloc _) _ rfl (by simp) HK.out (by omega) hb1 ?_; intro v1 w1 own1 kp1; have X1 := kp1.blk _ _ _ (by decide) (Blk.new wr 56 _); have c0 := X1.cell 0; have c1 := X1.cell 1; have c2 := X1.cell 2; have hb2 := Nat.le_trans hb1 kp1.size)
                | (go_at_call 42; (with_reducible refine (NU.out _).mono ?_); rintro e w2 ⟨rfl, hB2, hb2'⟩; have own2 := own1.below hb2'; have X2 := X1.below hb2' X1.lt; have c0' := X2.cell 0; have hbs2 := Nat.le_trans hb2 hb2'.size)
                | (at_builtin; refine wpList_appR rfl _ _ rfl w.heap.size v1 _ (be 8 U) _ _ _ (w1.heap.size + 1) rfl own2 rfl (by exact reads_blk hB2 (be_len 8 U)) (by simp [be_len]; omega) hbs2 ?_; intro v3 w3 own3 kp3; have X3 := kp3.blk _ _ _ (by decide) X2; have c0'' := X3.cell 0))
              go_roundw
              case rel => exact ⟨j + 1, by omega, by go_num, by rw [HT.out, ← List.cons_append, Hlj.out]; simpa using own3, kp3.below _ _ (Nat.le_refl _) ((kp1.below _ _ (Nat.le_refl _) (ball hb _)).trans (hb2'.mono hb2))⟩
              case measure => simp [intOf]; omega
            · rw [if_neg h1] at HT
              by_cases h2 : vk = 2
              · rw [if_pos h2] at HT
                subst h2
                clear h1
                go_wp2_with (first
                  | (at_builtin; refine wpList_pushB rfl _ _ rfl w.heap.size u5 _ kb _ rfl (hown.alloc _) _ rfl (by simp) HK.out (by omega) hb1 ?_; intro v1 w1 own1 kp1; have X1 := kp1.blk _ _ _ (by decide) (Blk.new wr 56 _); have c0 := X1.cell 0; have c1 := X1.cell 1; have c2 := X1.cell 2; have hb2 := Nat.le_trans hb1 kp1.size)
                  | (at_builtin; refine wpList_pushB rfl _ _ rfl w.heap.size v1 _ (UInt8.ofNat (vi % 256).toNat) _ rfl own1 _ rfl rfl U2.out (by simp; omega) hb2 ?_; intro v2 w2 own2 kp2; have X2 := kp2.blk _ _ _ (by decide) X1; have c0' := X2.cell 0))
                go_roundw
                case rel => exact ⟨j + 1, by omega, by go_num, by rw [HT.out, ← List.cons_append, Hlj.out]; simpa using own2, kp2.below _ _ (Nat.le_refl _) (kp1.below _ _ (Nat.le_refl _) (ball hb _))⟩
                case measure => simp [intOf]; omega
              · rw [if_neg h2] at HT
                by_cases h3 : vk = 3
                · rw [if_pos h3] at HT
                  subst h3
                  clear h1 h2
                  go_wp2_with (first
                    | (at_builtin; refine wpList_pushB rfl _ _ rfl w.heap.size u5 _ kb _ rfl (hown.alloc _) _ rfl (by simp) HK.out (by omega) hb1 ?_; intro v1 w1 own1 kp1; have X1 := kp1.blk _ _ _ (by decide) (Blk.new wr 56 _); have c0 := X1.cell 0; have c1 := X1.cell 1; have c2 := X1.cell 2; have hb2 := Nat.le_trans hb1 kp1.size)
                    | (at_builtin; refine wpList_pushB rfl _ _ rfl w.heap.size v1 _ (UInt8.ofNat vs.size) _ rfl own1 _ rfl rfl U3.out (by simp; omega) hb2 ?_; intro v2 w2 own2 kp2; have X2 := kp2.blk _ _ _ (by decide) X1; have c2' := X2.cell 2; have c0' := X2.cell 0; have hb3 := Nat.le_trans hb2 kp2.size)
                    | (at_builtin; refine wpList_appS rfl _ _ rfl w.heap.size v2 _ vs rfl own2 rfl (by simp; omega) hb3 ?_; intro v3 w3 own3 kp3; have X3 := kp3.blk _ _ _ (by decide) X2; have c0'' := X3.cell 0))
                  go_roundw
                  case rel => exact ⟨j + 1, by omega, by go_num, by rw [HT.out, ← List.cons_append, Hlj.out]; simpa using own3, kp3.below _ _ (Nat.le_refl _) (kp2.below _ _ (Nat.le_refl _) (kp1.below _ _ (Nat.le_refl _) (ball hb _)))⟩
                  case measure => simp [intOf]; omega
                · rw [if_neg h3] at HT
                  have e1 : (vk == 1) = false := by simp; omega
                  have e2 : (vk == 2) = false := by simp; omega
                  have e3 : (vk == 3) = false := by simp; omega
                  clear h1 h2 h3
                  go_wp2_with (at_builtin; refine wpList_pushB rfl _ _ rfl w.heap.size u5 _ kb _ rfl (hown.alloc _) _ rfl (by simp) HK.out (by omega) hb1 ?_; intro v1 w1 own1 kp1; have X1 := kp1.blk _ _ _ (by decide) (Blk.new wr 56 _); have c0 := X1.cell 0; have c1 := X1.cell 1; have c2 := X1.cell 2; have hb2 := Nat.le_trans hb1 kp1.size)
                  go_roundw
                  case rel => exact ⟨j + 1, by omega, by go_num, by rw [HT.out, ← List.cons_append, Hlj.out]; simpa using own1, kp1.below _ _ (Nat.le_refl _) (ball hb _)⟩
                  case measure => simp [intOf]; omega
          · obtain rfl : j = k := by omega
            have hT : l.take j = l := List.take_of_length_le (by rw [Hl.out]; omega)
            rw [hT] at hown
            clear hT
            go_wp2
            go_ret2
            exact ⟨u5, by rw [HE.out]; rfl, by rw [HB.out]; exact hown, hb⟩
end Go.Proofs.Ytcpbkaeilmabaab

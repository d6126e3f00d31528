/-
  The law ValChain: its walk.
-/
import Derived.Test.YtfokebnafmjajaaDoorVg
import Derived.Test.YtfokebnafmjajaaDoorVh
namespace Go.Proofs.YtfokebnafmjajaaDoor
open Go.RowKit

theorem Tryd.infoBo : (Tryd.prog.info? 4).map (fun i => (i.zero, i.size, i.bytes)) = some (some (.bool false), 1, 1) := by kernel_rfl
theorem grV_len : ∀ (l : List Vl) (n : Int), n ≤ 5000 → grV n l = false → n + l.length ≤ 5000
  | [], n, hn, _ => by simpa using hn
  | v :: r, n, hn, h => by
    unfold grV at h
    split at h
    · cases h
    · have ih := grV_len r _ (by omega) h
      simp only [List.length_cons]
      have : (0 : Int) ≤ min (v.s.size : Int) 9000 := by omega
      push_cast at ih ⊢
      omega
theorem oth_take (d : List Bool) (k : Nat) : ((List.range (k + 1)).map (othB d)).map Value.bool = ((List.range k).map (othB d)).map Value.bool ++ [.bool (othB d k)] := by
  rw [List.range_succ]; simp

set_option maxRecDepth 100000 in
set_option maxHeartbeats 4000000 in
theorem valChain_any (A1 A2 A3 A4 : Option Addr) (n1 c1 n2 c2 n3 c3 n4 c4 : Nat) (a b c : List Vl) (d : List Bool) (w : World) (hm : MaxC w)
    (h1 : Reads w w.heap.size 3 A1 n1 (vV a)) (h2 : Reads w w.heap.size 3 A2 n2 (vV b)) (h3 : Reads w w.heap.size 3 A3 n3 (vV c)) (h4 : Reads w w.heap.size 1 A4 n4 (d.map Value.bool)) (k1 : ∀ v ∈ a, v.ok) (k2 : ∀ v ∈ b, v.ok) (k3 : ∀ v ∈ c, v.ok) (g1 : n1 ≤ maxLen) (g2 : n2 ≤ maxLen) (g3 : n3 ≤ maxLen) (g4 : n4 ≤ maxLen) :
    Calls Tryd.prog 7 #[.slice A1 n1 c1, .slice A2 n2 c2, .slice A3 n3 c3, .slice A4 n4 c4] w (RetB w (.bool true)) := by
  have G1 := Lib.hid (great_any A1 n1 c1 a w w.heap.size h1 (fun v hv => (k1 v hv).2.2) g1)
  have G2 := Lib.hid (great_any A2 n2 c2 b w w.heap.size h2 (fun v hv => (k2 v hv).2.2) g2)
  have G3 := Lib.hid (great_any A3 n3 c3 c w w.heap.size h3 (fun v hv => (k3 v hv).2.2) g3)
  have HF := Lib.hid (fixed1_any w hm)
  unfold maxLen at g1 g2 g3 g4
  obtain ⟨x1, hx1⟩ : ∃ x, grV 0 a = x := ⟨_, rfl⟩
  obtain ⟨x2, hx2⟩ : ∃ x, grV 0 b = x := ⟨_, rfl⟩
  obtain ⟨x3, hx3⟩ : ∃ x, grV 0 c = x := ⟨_, rfl⟩
  rw [hx1] at G1
  rw [hx2] at G2
  rw [hx3] at G3
  by_cases hg : x1 = true ∨ x2 = true ∨ x3 = true ∨ 5000 < n4
  · clear h1 h2 h3 h4 k1 k2 k3 hm hx1 hx2 hx3
    have hcs : x1 = true ∨ (x1 = false ∧ x2 = true) ∨ (x1 = false ∧ x2 = false ∧ x3 = true) ∨ (x1 = false ∧ x2 = false ∧ x3 = false ∧ (5000 : Int) < (n4 : Int)) := by
      cases x1 <;> cases x2 <;> cases x3 <;> simp at hg ⊢
      omega
    clear hg
    rcases hcs with rfl | ⟨rfl, rfl⟩ | ⟨rfl, rfl, rfl⟩ | ⟨rfl, rfl, rfl, e4⟩
    all_goals
      go_enter Tryd.func7, Tryd.ntmps7
      go_wp2_with (first
        | (go_at_call 8; (with_reducible refine G1.out.mono ?_); rintro e w' ⟨rfl, rfl⟩)
        | (go_at_call 8; (with_reducible refine G2.out.mono ?_); rintro e w' ⟨rfl, rfl⟩)
        | (go_at_call 8; (with_reducible refine G3.out.mono ?_); rintro e w' ⟨rfl, rfl⟩)
        | (go_at_call 9; (with_reducible refine HF.out.mono ?_); rintro e w1 ⟨rfl, hb1⟩))
      go_ret
      exact ⟨rfl, hb1⟩
  · have e1 : x1 = false := Bool.eq_false_iff.2 fun h => hg (.inl h)
    have e2 : x2 = false := Bool.eq_false_iff.2 fun h => hg (.inr (.inl h))
    have e3 : x3 = false := Bool.eq_false_iff.2 fun h => hg (.inr (.inr (.inl h)))
    have e4 : (n4 : Int) ≤ 5000 := by have : ¬ 5000 < n4 := fun h => hg (.inr (.inr (.inr h))); omega
    subst e1 e2 e3
    have gl := grV_len a 0 (by omega) hx1
    have HMx := Lib.hid fun (W : World) (hb : Below w.heap.size w W) => fixed1_any W (hm.below0 hb)
    have up3 := fun (W : World) (hb : Below w.heap.size w W) (A : Option Addr) (n : Nat) (l : List Vl) (h : Reads w w.heap.size 3 A n (vV l)) => (h.below hb).more hb.size
    have C1 := Lib.hid fun (W : World) (hb : Below w.heap.size w W) => compareRows_any A1 A2 A4 n1 c1 n2 c2 n4 c4 a b d W (up3 W hb _ _ _ h1) (up3 W hb _ _ _ h2) ((h4.below hb).more hb.size) (by unfold maxLen; omega)
    have C2 := Lib.hid fun (W : World) (hb : Below w.heap.size w W) => compareRows_any A2 A3 A4 n2 c2 n3 c3 n4 c4 b c d W (up3 W hb _ _ _ h2) (up3 W hb _ _ _ h3) ((h4.below hb).more hb.size) (by unfold maxLen; omega)
    have C3 := Lib.hid fun (W : World) (hb : Below w.heap.size w W) => compareRows_any A1 A3 A4 n1 c1 n3 c3 n4 c4 a c d W (up3 W hb _ _ _ h1) (up3 W hb _ _ _ h3) ((h4.below hb).more hb.size) (by unfold maxLen; omega)
    have C4 := fun (W : World) (hb : Below w.heap.size w W) => compareRows_any A2 A1 A4 n2 c2 n1 c1 n4 c4 b a d W (up3 W hb _ _ _ h2) (up3 W hb _ _ _ h1) ((h4.below hb).more hb.size) (by unfold maxLen; omega)
    have C5 := Lib.hid fun (W : World) (hb : Below w.heap.size w W) (A : Option Addr) (cc : Nat) (o : List Bool) (ho : Reads W W.heap.size 1 A n1 (o.map Value.bool)) => compareRows_any A1 A2 A n1 c1 n2 c2 n1 cc a b o W (up3 W hb _ _ _ h1) (up3 W hb _ _ _ h2) ho (by unfold maxLen; omega)
    have htr := Lib.hid (rowsV_trans a b c d)
    rw [rowsV_swap a b d] at C4
    have hbd := rowsV_bd a b d
    have l1 : a.length = n1 := by have := h1.1; rw [vV_len] at this; omega
    have l2 : b.length = n2 := by have := h2.1; rw [vV_len] at this; omega
    have l4 : d.length = n4 := by have := h4.1; simp at this; omega
    have hot : Hid (n1 = n2 → ∀ o, (∀ i, i < n1 → (o[i]?).getD false = !((d[i]?).getD false)) → rowsV a b o = - rowsV a b d) := Lib.hid fun h o ho => rowsV_other a b d o (by omega) (by rw [l1]; exact ho)
    have gn1 : (n1 : Int) ≤ 5000 := by omega
    clear gl
    have L4 := Lib.hid l4
    have R4 := Lib.hid h4
    have e4' : decide ((5000 : Int) < (n4 : Int)) = false := by simp; omega
    clear e4
    clear l1 l2 l4 up3 h1 h2 h3 h4 k1 k2 k3 hm hx1 hx2 hx3 hg
    generalize rowsV a b d = x at *
    generalize rowsV b c d = y at *
    generalize rowsV a c d = z at *
    obtain ⟨n, hn⟩ : ∃ n, n = -x := ⟨_, rfl⟩
    rw [← hn] at C4
    have D4 := Lib.hid C4
    clear C4
    have hx0 := hbd.1
    have hxx := hbd.2
    have WN : Hid (n = -x) := Lib.hid hn
    clear hbd hn
    have hne : (n != -x) = false := by simp; exact WN.out
    have hcs : (decide (x ≤ 0) = false) ∨ (decide (x ≤ 0) = true ∧ decide (y ≤ 0) = false) ∨ (decide (x ≤ 0) = true ∧ decide (y ≤ 0) = true ∧ decide (0 < z) = false) := by
      by_cases q1 : x ≤ 0
      · by_cases q2 : y ≤ 0
        · refine .inr (.inr ⟨by simpa using q1, by simpa using q2, ?_⟩)
          have := (htr.out q1 q2).1
          simp; omega
        · exact .inr (.inl ⟨by simpa using q1, by simpa using q2⟩)
      · exact .inl (by simpa using q1)
    go_enter Tryd.func7, Tryd.ntmps7
    go_wp2_with (first
        | (go_at_call 8; (with_reducible refine G1.out.mono ?_); rintro e w' ⟨rfl, rfl⟩)
        | (go_at_call 8; (with_reducible refine G2.out.mono ?_); rintro e w' ⟨rfl, rfl⟩)
        | (go_at_call 8; (with_reducible refine G3.out.mono ?_); rintro e w' ⟨rfl, rfl⟩))
    refine (C1.out _ (Below.refl _ _)).mono ?_
    rintro e w1 ⟨rfl, hb1⟩
    go_wp2_with fail
    refine (C2.out _ (by (with_reducible repeat (first | exact Below.refl _ _ | exact hb1 | refine bto0 ?_ hb1 | refine bdr ?_ _ | refine Below.drew ?_ | refine ball ?_ _)))).mono ?_
    rintro e w2 ⟨rfl, hb2⟩
    go_wp2_with fail
    refine (C3.out _ (by (with_reducible repeat (first | exact Below.refl _ _ | exact hb2 | exact hb1 | refine bto0 ?_ hb2 | refine bto0 ?_ hb1 | refine bdr ?_ _ | refine Below.drew ?_ | refine ball ?_ _)))).mono ?_
    rintro e w3 ⟨rfl, hb3⟩
    rcases hcs with p1 | ⟨p1, p2⟩ | ⟨p1, p2, p3⟩
    all_goals
      go_wp2_with fail
      refine (D4.out _ (by (with_reducible repeat (first | exact Below.refl _ _ | exact hb3 | exact hb2 | exact hb1 | refine bto0 ?_ hb3 | refine bto0 ?_ hb2 | refine bto0 ?_ hb1 | refine bdr ?_ _ | refine Below.drew ?_ | refine ball ?_ _)))).mono ?_
      rintro e w4 ⟨rfl, hb4⟩
      have hbw4 : Below w.heap.size w w4 := by (with_reducible repeat (first | exact Below.refl _ _ | exact hb4 | exact hb3 | exact hb2 | exact hb1 | refine bto0 ?_ hb4 | refine bto0 ?_ hb3 | refine bto0 ?_ hb2 | refine bto0 ?_ hb1 | refine bdr ?_ _ | refine Below.drew ?_ | refine ball ?_ _))
      go_wp2_with fail
      clear hb1 hb2 hb3 hb4
      obtain ⟨i0, hi0, hz0, hs0, hy0⟩ := int_info8 Tryd.infoBo
      go_loopw [12, 63] (fun v i wr => ∃ k : Nat, k ≤ n1 ∧ i = .int .i64 k ∧ wr.ownsRow w.heap.size 4 1 v k (((List.range k).map (othB d)).map Value.bool) ∧ Below w.heap.size w wr) (fun _ i _ => n1 - (intOf i).toNat)
      case atStart => exact ⟨0, Nat.zero_le _, rfl, ⟨by simp, .inl ⟨rfl, rfl⟩⟩, hbw4⟩
      case round =>
        obtain ⟨k, hk, rfl, hown, hbw⟩ := hrel
        have hbz := hbw.size
        have q0 : (0 : Int) ≤ (k : Int) := by omega
        by_cases hlt : k < n1
        · have hs := oth_take d k
          have hv : (d[k]? = some true ∨ d[k]? = some false) ∧ k < n4 ∨ d[k]? = none ∧ ¬ k < n4 := by
            by_cases q : k < n4
            · have : d[k]? = some (d[k]'(by rw [L4.out]; exact q)) := List.getElem?_eq_getElem _
              rw [this]
              cases d[k]'(by rw [L4.out]; exact q) <;> simp [q]
            · exact .inr ⟨List.getElem?_eq_none (by rw [L4.out]; omega), q⟩
          have H1 : ∀ b : Bool, ∀ u ∈ [Value.bool b], u.oneCell' = true := by intro b u hu; rw [List.mem_singleton] at hu; subst hu; rfl
          rcases hv with ⟨hd | hd, q⟩ | ⟨hd, q⟩
          · obtain ⟨ad, x, rfl, -, hx, hc⟩ := (R4.out.below hbw).at_ q
            have e : x = .bool true := by simp [List.getElem?_map, hd] at hx; exact hx.symm
            subst e
            have e' : othB d k = false := by unfold othB; rw [hd]; rfl
            rw [e'] at hs
            have HS := Lib.hid hs
            have q4 : decide ((n4 : Int) ≤ (k : Int)) = false := by simp; omega
            have q6 : decide (n4 ≤ k) = false := by simp; omega
            have q5 : (k : Int) < (n4 : Int) := by omega
            clear hs hd e' hx
            go_wp2_with (at_builtin; go_loud (refine wpList_push rfl _ _ 30 rfl w.heap.size 4 i0 (.bool false) 1 1 Tryd.underlying30 hi0 hz0 hs0 hy0 rfl (by decide) u12 k _ rfl hown rfl rfl rfl (H1 false) (by omega) (by omega) hbz ?_); intro v1 w1 hown1 hb1)
            go_roundw
            case rel => exact ⟨k + 1, by omega, by go_num, by rw [HS.out]; exact hown1, hb1 _ _ (Nat.le_refl _) hbw⟩
            case measure => simp [intOf]; omega
          · obtain ⟨ad, x, rfl, -, hx, hc⟩ := (R4.out.below hbw).at_ q
            have e : x = .bool false := by simp [List.getElem?_map, hd] at hx; exact hx.symm
            subst e
            have e' : othB d k = true := by unfold othB; rw [hd]; rfl
            rw [e'] at hs
            have HS := Lib.hid hs
            have q4 : decide ((n4 : Int) ≤ (k : Int)) = false := by simp; omega
            have q6 : decide (n4 ≤ k) = false := by simp; omega
            have q5 : (k : Int) < (n4 : Int) := by omega
            clear hs hd e' hx
            go_wp2_with (at_builtin; go_loud (refine wpList_push rfl _ _ 30 rfl w.heap.size 4 i0 (.bool false) 1 1 Tryd.underlying30 hi0 hz0 hs0 hy0 rfl (by decide) u12 k _ rfl hown rfl rfl rfl (H1 true) (by omega) (by omega) hbz ?_); intro v1 w1 hown1 hb1)
            go_roundw
            case rel => exact ⟨k + 1, by omega, by go_num, by rw [HS.out]; exact hown1, hb1 _ _ (Nat.le_refl _) hbw⟩
            case measure => simp [intOf]; omega
          · have e' : othB d k = true := by unfold othB; rw [hd]; rfl
            rw [e'] at hs
            have HS := Lib.hid hs
            have q4 : decide ((n4 : Int) ≤ (k : Int)) = true := by simp; omega
            have q6 : decide (n4 ≤ k) = true := by simp; omega
            clear q
            clear hs hd e'
            go_wp2_with (at_builtin; go_loud (refine wpList_push rfl _ _ 30 rfl w.heap.size 4 i0 (.bool false) 1 1 Tryd.underlying30 hi0 hz0 hs0 hy0 rfl (by decide) u12 k _ rfl hown rfl rfl rfl (H1 true) (by omega) (by omega) hbz ?_); intro v1 w1 hown1 hb1)
            go_roundw
            case rel => exact ⟨k + 1, by omega, by go_num, by rw [HS.out]; exact hown1, hb1 _ _ (Nat.le_refl _) hbw⟩
            case measure => simp [intOf]; omega
        · obtain rfl : k = n1 := by omega
          obtain ⟨A5, c5, rfl, hc5⟩ := own_form hown
          have hro := Reads.of_own hown
          by_cases hnn : k = n2
          · have hv := hot.out hnn ((List.range k).map (othB d)) (fun i hi => by rw [List.getElem?_map, List.getElem?_range hi]; rfl)
            rw [← WN.out] at hv
            have C6 := C5.out wr hbw A5 c5 _ hro
            rw [hv] at C6
            have HC6 := Lib.hid C6
            have hb12 : ((k : Int) == (n2 : Int)) = true := by simp; omega
            clear hv C6 hnn
            go_wp2_with fail
            refine HC6.out.mono ?_
            rintro e w5 ⟨rfl, hb5⟩
            go_wp2_with fail
            refine (HMx.out _ (bto0 hbw (by (with_reducible repeat (first | exact Below.refl _ _ | exact hb5 | refine bto0 ?_ hb5 | refine bdr ?_ _ | refine Below.drew ?_ | refine ball ?_ _))))).mono ?_
            rintro e w6 ⟨rfl, hb6⟩
            go_wp2
            go_ret
            exact ⟨rfl, bto0 hbw (by (with_reducible repeat (first | exact Below.refl _ _ | exact hb6 | exact hb5 | refine bto0 ?_ hb6 | refine bto0 ?_ hb5 | refine bdr ?_ _ | refine Below.drew ?_ | refine ball ?_ _)))⟩
          · have hb12 : ((k : Int) == (n2 : Int)) = false := by simp; omega
            clear hnn
            go_wp2_with fail
            refine (HMx.out _ hbw).mono ?_
            rintro e w6 ⟨rfl, hb6⟩
            go_wp2
            go_ret
            exact ⟨rfl, bto0 hbw (by (with_reducible repeat (first | exact Below.refl _ _ | exact hb6 | refine bto0 ?_ hb6 | refine bdr ?_ _ | refine Below.drew ?_ | refine ball ?_ _)))⟩
end Go.Proofs.YtfokebnafmjajaaDoor

/-
  Rows as bytes and back; the law RowcodePuts.
-/
import Derived.Test.YtcpbkaeilmabaabRl
namespace Go.Proofs.Ytcpbkaeilmabaab
open Go.RowKit

theorem decN_enc : ∀ (l : List Vl) (r : List UInt8), (∀ v ∈ l, v.ok) → allMay l = true → decN l.length (l.flatMap encV ++ r) = .ok l r
  | [], r, _, _ => rfl
  | v :: t, r, ho, hm => by
    unfold allMay at hm
    rw [List.all_cons, Bool.and_eq_true] at hm
    rw [List.length_cons, List.flatMap_cons, List.append_assoc, decN_ok (dec_enc v (ho v (by simp)) hm.1 _), decN_enc t r (fun u hu => ho u (by simp [hu])) hm.2]
    rfl
theorem decRow_enc (l : List Vl) (ho : ∀ v ∈ l, v.ok) (hm : allMay l = true) (h255 : ¬ 255 < l.length) : decRow (putB l) = (l, 0) := by
  unfold putB
  rw [hm, if_pos rfl, if_neg h255]
  unfold encRow
  show finN (decN (UInt8.ofNat l.length).toNat (l.flatMap encV)) = (l, 0)
  have e : (UInt8.ofNat l.length).toNat = l.length := by simp; omega
  have h := decN_enc l [] ho hm
  rw [List.append_nil] at h
  rw [e, h]
  rfl
theorem flat_len10 : ∀ (l : List Vl), (l.flatMap encV).length ≤ 9 * l.length + (l.map fun v => 1 + v.s.size).sum
  | [] => by simp
  | v :: r => by
    have := flat_len10 r
    have hv := encV_len v
    simp only [List.length_cons, List.map_cons, List.sum_cons, List.flatMap_cons, List.length_append]
    omega
theorem putB_len2 {l : List Vl} (hg : grV 0 l = false) : (putB l).length ≤ 10000 := by
  have h1 : (l.map fun v => 1 + v.s.size).sum ≤ 5000 := by
    rcases grV_sum l 0 (by omega) hg with h | rfl
    · omega
    · simp
  have h2 := flat_len10 l
  unfold putB
  split
  · split
    · simp
    · unfold encRow; rw [List.length_cons]; omega
  · simp
theorem putE_cases (l : List Vl) : putE l = 0 ∨ putE l = 1 ∨ putE l = 15 := by
  unfold putE
  split
  · split
    · exact .inr (.inr rfl)
    · exact .inl rfl
  · exact .inr (.inl rfl)
theorem putE_zero {l : List Vl} (h : putE l = 0) : allMay l = true ∧ ¬ 255 < l.length := by
  unfold putE at h
  split at h
  · split at h
    · omega
    · exact ⟨by assumption, by assumption⟩
  · omega

set_option maxRecDepth 100000 in
set_option maxHeartbeats 4000000 in
theorem lawPuts_any (A : Option Addr) (n c : Nat) (l : List Vl) (w : World) (hr : Reads w w.heap.size 3 A n (vV l)) (hok : ∀ v ∈ l, v.ok) (hn : n ≤ maxLen) :
    Calls Try.prog 3 #[.slice A n c] w (RetB w (.bool true)) := by
  have G := great_any A n c l w w.heap.size hr (fun v hv => (hok v hv).2.2) hn
  have F := Lib.hid rfixed_any
  have hl : l.length = n := by have := hr.1; rw [vV_len] at this; omega
  unfold maxLen at hn
  by_cases hg : grV 0 l = true
  · rw [hg] at G
    have HG := Lib.hid G; clear G hg hl
    go_enter Try.func3, Try.ntmps3
    go_wp2_with (first
      | (go_at_call 13; refine HG.out.mono ?_; rintro e w' ⟨rfl, rfl⟩)
      | (go_at_call 14; refine (F.out _).mono ?_; rintro e w1 ⟨rfl, hb1⟩))
    go_ret
    exact ⟨rfl, hb1⟩
  · have hg' : grV 0 l = false := by simpa using hg
    have hln : n ≤ 5000 := by have := (grV_bd hg').1; omega
    rw [hg'] at G
    have HG := Lib.hid G
    have Hg := Lib.hid hg'
    have HO := Lib.hid hok
    have Hl := Lib.hid hl
    clear G hg hl hg' hok
    have P1 := Lib.hid (rput_any A n c l w hr HO.out Hg.out)
    go_enter Try.func3, Try.ntmps3
    go_wp2_with (go_at_call 13; refine HG.out.mono ?_; rintro e w' ⟨rfl, rfl⟩)
    go_wp2_with fail
    refine P1.out.mono ?_
    rintro e w1 ⟨v1, rfl, own1, hb1⟩
    have hr1 := (hr.below hb1).more hb1.size
    have P2 := Lib.hid (rput2_any A n c l w1 hr1 HO.out Hg.out)
    obtain ⟨A1, c1, rfl, hc1⟩ := own1.form
    have hPl := putB_len2 Hg.out
    obtain ⟨E, hE⟩ : ∃ E, putE l = E := ⟨_, rfl⟩
    have HE := Lib.hid hE
    rw [hE]
    obtain ⟨P, hP⟩ : ∃ P, putB l = P := ⟨_, rfl⟩
    have HP := Lib.hid hP
    rw [hP] at own1 hc1 hPl ⊢
    obtain ⟨m, hm⟩ : ∃ m, P.length = m := ⟨_, rfl⟩
    have Hm := Lib.hid hm
    rw [hm] at own1 hc1 hPl ⊢
    clear hE hP hm
    go_wp2_with fail
    refine P2.out.mono ?_
    rintro e w2 ⟨v2, rfl, own2, hb2⟩
    obtain ⟨A2, c2, rfl, hc2⟩ := own2.form
    rw [HE.out]
    rw [HP.out] at own2 hc2 ⊢
    rw [Hm.out] at own2 hc2 ⊢
    have own12 := own1.below hb2
    have hr2 := (hr1.below hb2).more hb2.size
    go_wp2_with fail
    refine (F.out _).mono ?_
    rintro e w3 ⟨rfl, hb3⟩
    have own13 := own12.below hb3
    have own23 := own2.below hb3
    have hr3 := (hr2.below hb3).more hb3.size
    have cv1 := own13.conv
    have cv2 := own23.conv
    obtain ⟨S, hS⟩ : ∃ S, str P = S := ⟨_, rfl⟩
    rw [hS] at cv1 cv2
    clear hS
    have Z := Lib.hid (rsize_any A n c l w3 hr3 HO.out Hg.out)
    rw [HP.out, Hm.out] at Z
    have Hown := Lib.hid own13
    clear own1 own12 own13 own2 own23 hc2 hr hr1 hr2
    have hEc := putE_cases l
    rw [HE.out] at hEc
    by_cases h0 : E = 0
    rotate_left
    · have e1 : (E == 0) = false := by simp; omega
      have e2 : (E != 0) = true := by simp; omega
      clear hEc h0
      go_wp2_with (go_at_call 17; refine Z.out.mono ?_; rintro e w4 ⟨rfl, hb4⟩)
      go_ret
      exact ⟨rfl, bto0 (bto0 (bto0 hb1 hb2) hb3) hb4⟩
    · subst h0
      obtain ⟨hall, h255⟩ := putE_zero HE.out
      have hD := decRow_enc l HO.out hall h255
      rw [HP.out] at hD
      have HD := Lib.hid hD
      clear hEc hall h255 hD
      go_wp2_with (go_at_call 17; refine Z.out.mono ?_; rintro e w4 ⟨rfl, hb4⟩; have own4 := Hown.out.below hb4; have hr4 := (hr3.below hb4).more hb4.size; have GG := Lib.hid (rget_any A1 m c1 P w4 own4.reads.1 hc1 hPl); rw [HD.out] at GG)
      refine GG.out.mono ?_
      rintro e w5 ⟨A5, c5, he5, hr5, hc5, hb5, _⟩
      dsimp only at he5 hr5 hc5
      rw [Hl.out] at he5 hr5 hc5
      subst he5
      have hr45 := (hr4.below hb5).more hb5.size
      go_wp2_with (go_at_call 19; refine (same_any A5 n c5 A c l w5 hr5 hr45 (by omega)).mono ?_; rintro e w6 ⟨rfl, hb6⟩)
      go_ret
      exact ⟨rfl, bto0 (bto0 (bto0 (bto0 (bto0 hb1 hb2) hb3) hb4) hb5) hb6⟩
end Go.Proofs.Ytcpbkaeilmabaab

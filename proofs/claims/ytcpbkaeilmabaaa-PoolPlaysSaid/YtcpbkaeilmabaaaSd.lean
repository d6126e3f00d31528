/-
  Slots of a heap page: May, Count, free, room, Room; Clone, record.
-/
import Derived.Test.YtcpbkaeilmabaaaSc
import Derived.Test.YtcpbkaeilmabaaaOw
import Derived.WalkSpells
namespace Go.Proofs.Ytcpbkaeilmabaaa
open Go.RowKit

def pE (l : List UInt8) : Nat := (endK l (hdC l)).getD 0
def pC (l : List UInt8) : Nat := if isPage l then hdC l else 0
def pRoom (l : List UInt8) : Nat := if isPage l then pE l - (12 + 4 * hdC l) else 0
theorem page_end {l : List UInt8} (h : isPage l = true) : endK l (hdC l) = some (pE l) ∧ hdC l ≤ 126 ∧ 8 + 4 * hdC l ≤ pE l ∧ pE l ≤ 512 ∧ l.length = 512 := by
  unfold isPage at h
  simp only [Bool.and_eq_true, decide_eq_true_eq] at h
  obtain ⟨h1, h2, h3, h4⟩ := h
  unfold pageEnd at h4
  unfold pE
  rcases he : endK l (hdC l) with _ | e
  · rw [he] at h4; cases h4
  · rw [he] at h4
    simp only [Bool.and_eq_true, decide_eq_true_eq] at h4
    have := endK_le l _ e he
    unfold hdOk at h1
    simp at h1
    exact ⟨rfl, by omega, h4.1, this, h1.1⟩
section
variable {w : World} {A : Option Addr} {n c B : Nat} {l : List UInt8}
theorem may_any (hr : Reads w B 1 A n (bL l)) (hB : B ≤ w.heap.size) (hn : n ≤ 1000000) (hc : n ≤ c) : Calls Try.prog 57 #[.slice A n c] w (RetB w (.bool (isPage l))) := by
  have P := Lib.hid (places_any A n c B l w hr hB hn hc)
  clear hr
  go_enter Try.func57, Try.ntmps57
  go_wp2_with fail
  refine P.out.mono ?_
  rintro e w1 ⟨Ap, m, cp, rfl, hm, hrp, hcp, hb⟩
  clear hm
  go_wp2
  go_ret
  exact ⟨rfl, hb⟩
theorem count_any (hr : Reads w B 1 A n (bL l)) (hB : B ≤ w.heap.size) (hn : n ≤ 1000000) (hc : n ≤ c) : Calls Try.prog 52 #[.slice A n c] w (RetB w (.int .i64 (pC l : Nat))) := by
  have P := Lib.hid (places_any A n c B l w hr hB hn hc)
  clear hr
  go_enter Try.func52, Try.ntmps52
  go_wp2_with fail
  refine P.out.mono ?_
  rintro e w1 ⟨Ap, m, cp, rfl, hm, hrp, hcp, hb⟩
  have hm' : Hid (pC l = m) := hm.symm
  clear hm
  go_wp2
  go_ret
  exact ⟨ret_int (by rw [hm'.out]), hb⟩
theorem Reads.plc {Ap : Option Addr} {m k : Nat} (hr : Reads w B 2 Ap m (plV l m)) (hk : k < m) : ∃ ad, Ap = some ad ∧ ad.block < B ∧ w.cell? (ad.add (k * 2)) = some (.int .i64 (two l (8 + 4 * k) : Nat)) ∧ w.cell? ⟨(ad.add (k * 2)).block, (ad.add (k * 2)).off + 1, none⟩ = some (.int .i64 (two l (8 + 4 * k + 2) : Nat)) := by
  obtain ⟨ad, hA, hb, hc⟩ := hr.2 (by omega)
  have hv : ∀ j, j < 2 → (plV l m)[k * 2 + j]? = (Go.Proofs.Ytcpbkaeilmabaaa.plc l k)[j]? := by
    intro j hj
    refine flat_at (Go.Proofs.Ytcpbkaeilmabaaa.plc l) 2 (List.range m) k k j (fun _ _ => rfl) ?_ hj
    rw [List.getElem?_range hk]
  refine ⟨ad, hA, hb, ?_, ?_⟩
  · have := hc (k * 2 + 0) _ (by rw [hv 0 (by omega)]; rfl)
    simpa using this
  · rw [field_add _ _ _ (by omega)]
    exact hc (k * 2 + 1) _ (by rw [hv 1 (by omega)]; rfl)
theorem free_any (Ap : Option Addr) (m cp e : Nat) (hr : Reads w B 2 Ap m (plV l m)) (he : endK l m = some e) (hm : m ≤ 126) : Calls Try.prog 76 #[.slice Ap m cp] w fun e' w' => e' = .returned (.int .i64 e) ∧ w = w' := by
  by_cases h0 : m = 0
  · subst h0
    obtain rfl : e = 512 := by injection he with he; exact he.symm
    go_enter Try.func76, Try.ntmps76
    go_wp2
    go_ret
    exact ⟨rfl, rfl⟩
  · obtain ⟨k, rfl⟩ : ∃ k, m = k + 1 := ⟨m - 1, by omega⟩
    obtain ⟨ad, rfl, _, c0, _⟩ := hr.plc (k := k) (by omega)
    have h1 : two l (8 + 4 * k) = e := by
      rw [endK] at he
      rcases hk : endK l k with _ | e'
      · rw [hk] at he; cases he
      · rw [hk, Option.bind_some] at he
        split at he
        · injection he
        · cases he
    rw [h1] at c0
    have e1 : (((k + 1 : Nat) : Int) == 0) = false := by simp; omega
    have g1 : (0 : Int) ≤ (k : Int) := by omega
    have g2 : (k : Int) < ((k + 1 : Nat) : Int) := by omega
    clear he h1 hr h0
    go_enter Try.func76, Try.ntmps76
    go_wp2
    go_ret
    exact ⟨rfl, rfl⟩
theorem room_any (Ap : Option Addr) (m cp e : Nat) (hr : Reads w B 2 Ap m (plV l m)) (he : endK l m = some e) (hm : m ≤ 126) (he5 : e ≤ 512) : Calls Try.prog 75 #[.slice Ap m cp] w fun e' w' => e' = .returned (.int .i64 (e - (12 + 4 * m) : Nat)) ∧ w = w' := by
  have FR := Lib.hid (free_any Ap m cp e hr he hm)
  have SA : Hid (Calls Try.prog 77 #[.int .i64 ((m : Int) + 1)] w fun e w' => e = .returned (.int .i64 (8 + ((m : Int) + 1) * 4)) ∧ w = w') := by
    have h := slotAt_any (m + 1) (by omega) w
    rw [show ((m + 1 : Nat) : Int) = (m : Int) + 1 from by omega] at h
    exact h
  have hmI : (m : Int) ≤ 126 := by omega
  have heI : (e : Int) ≤ 512 := by omega
  clear he hr
  go_enter Try.func75, Try.ntmps75
  go_wp2_with (first
    | (go_at_call 76; refine FR.out.mono ?_; rintro e w' ⟨rfl, rfl⟩)
    | (go_at_call 77; refine SA.out.mono ?_; rintro e w' ⟨rfl, rfl⟩))
  go_ret
  exact ⟨ret_int (by omega), rfl⟩
theorem Room_any (hr : Reads w B 1 A n (bL l)) (hB : B ≤ w.heap.size) (hn : n ≤ 1000000) (hc : n ≤ c) : Calls Try.prog 53 #[.slice A n c] w (RetB w (.int .i64 (pRoom l : Nat))) := by
  have P := Lib.hid (places_any A n c B l w hr hB hn hc)
  have PE := Lib.hid (@page_end l)
  clear hr
  cases hp : isPage l
  · have hq : Hid (pRoom l = 0) := by unfold Hid pRoom; rw [hp]; rfl
    unfold RetPl at P
    rw [hp] at P
    go_enter Try.func53, Try.ntmps53
    go_wp2_with fail
    refine P.out.mono ?_
    rintro e w1 ⟨Ap, m, cp, rfl, hm, hrp, hcp, hb⟩
    clear hm
    go_wp2
    go_ret
    exact ⟨ret_int (by rw [hq.out]; rfl), hb⟩
  · have hq : Hid (pRoom l = pE l - (12 + 4 * hdC l)) := by unfold Hid pRoom; rw [hp]; rfl
    unfold RetPl at P
    rw [hp] at P
    obtain ⟨e1, e2, e3, e4, e5⟩ := PE.out hp
    have HE := Lib.hid (And.intro e1 (And.intro e2 (And.intro e3 e4)))
    clear e1 e2 e3 e4 e5
    go_enter Try.func53, Try.ntmps53
    go_wp2_with fail
    refine P.out.mono ?_
    rintro e w1 ⟨Ap, m, cp, rfl, hm, hrp, hcp, hb⟩
    have hm' : m = hdC l := hm
    clear hm
    subst hm'
    have RM := Lib.hid (room_any Ap (hdC l) cp (pE l) hrp HE.out.1 HE.out.2.1 HE.out.2.2.2)
    clear hrp
    go_wp2_with (go_at_call 75; refine RM.out.mono ?_; rintro e w' ⟨rfl, rfl⟩)
    go_ret
    exact ⟨ret_int (by rw [hq.out]), hb⟩
/-- What Clone leaves. -/
def RetCl (w : World) (l : List UInt8) (e : Ending) (w' : World) : Prop := ∃ A c, e = .returned (.slice A l.length c) ∧ Own w' w.heap.size (.slice A l.length c) l ∧ l.length ≤ c ∧ Below w.heap.size w w'
theorem clone_any (hr : Reads w B 1 A n (bL l)) (hB : B ≤ w.heap.size) (hn : n ≤ 1000000) : Calls Try.prog 72 #[.slice A n c] w (RetCl w l) := by
  have hl := hr.bytes_len
  have nl := fun W => Lib.run_eql_slice_nil (P := Try.prog) W 37 5 A n c 0 0 Try.underlying37
  rcases A with _ | ad
  · have h0 : n = 0 := by
      rcases Nat.eq_zero_or_pos n with h0 | h0
      · exact h0
      · obtain ⟨ad, h, _⟩ := hr.2 h0; cases h
    subst h0
    have : l = [] := List.eq_nil_of_length_eq_zero hl
    subst this
    clear hr
    go_enter Try.func72, Try.ntmps72
    go_wp2
    go_ret
    exact ⟨none, 0, rfl, Own.nil _ _, Nat.le_refl _, Below.refl _ _⟩
  · have own0 := Own.empty w (g := w.heap.size) rfl
    have hr0 := hr.alloc hB (.cells #[] 5)
    have hz0 : w.heap.size ≤ (w.alloc (.cells #[] 5)).heap.size := by simp
    have Hl := Lib.hid hl; clear hl
    clear hr
    go_enter Try.func72, Try.ntmps72
    go_wp2_with (at_builtin; refine wpList_appR rfl _ _ rfl w.heap.size _ [] l (some ad) n c B rfl own0 rfl hr0 (by rw [Hl.out]; simp; omega) hz0 ?_; intro v1 w1 own1 kp1; rw [List.nil_append] at own1; obtain ⟨A1, c1, rfl, hc1⟩ := own1.form)
    have hb1 := kp1.below w.heap.size w (Nat.le_refl _) (ball (Below.refl _ _) _)
    clear own0 hr0 hz0 kp1
    go_ret
    exact ⟨A1, c1, rfl, own1, hc1, hb1⟩
end
end Go.Proofs.Ytcpbkaeilmabaaa

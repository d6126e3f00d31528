/-
  Several texts in one: Me7.
-/
import Derived.Test.YtgndebdoljnheaaGreatDoorMebn
import Derived.Test.YtgndebdoljnheaaGreatDoorMebk
/-
  A row's part in some columns, the reference's way; Same of two rows of entries that read the same.
-/
namespace Go.Proofs.YtgndebdoljnheaaGreatDoor
section
set_option linter.unusedSimpArgs false
set_option linter.unusedVariables false
open Go.RowKit Go.Lib

theorem part_at : ∀ (cs : List Int) (l p : List Vl) (k : Nat) (c : Int), partV cs l = some p → cs[k]? = some c → 0 ≤ c ∧ ∃ v, l[c.toNat]? = some v ∧ p[k]? = some v
  | [], l, p, k, c, _, hc => by simp at hc
  | a :: cs, l, p, k, c, h, hc => by
    unfold partV at h
    split at h
    · cases h
    · rename_i ha
      split at h
      · rename_i u q hu hq
        injection h with h
        subst h
        cases k with
        | zero =>
          simp at hc
          subst hc
          exact ⟨by omega, u, hu, rfl⟩
        | succ k =>
          obtain ⟨h1, v, h2, h3⟩ := part_at cs l q k c hq (by simpa using hc)
          exact ⟨h1, v, h2, by simpa using h3⟩
      · cases h
def RetPt (w : World) (p : List Vl) (e : Ending) (w' : World) : Prop := ∃ (A : Option Addr) (c : Nat), e = .returned (.slice A p.length c) ∧ w'.ownsRow w.heap.size 35 3 (.slice A p.length c) p.length (vV p) ∧ Below w.heap.size w w'
set_option maxRecDepth 100000 in
set_option maxHeartbeats 4000000 in
theorem partR_any (A : Option Addr) (n c : Nat) (l : List Vl) (CA : Option Addr) (cn cc : Nat) (cs : List Int) (p : List Vl) (w : World) (hp : partV cs l = some p) (h1 : Reads w w.heap.size 3 A n (vV l)) (h2 : Reads w w.heap.size 1 CA cn (vI64 cs)) (hcn : cn ≤ 20) :
    Calls Tryz.prog 13 #[.slice A n c, .slice CA cn cc] w (RetPt w p) := by
  obtain ⟨i1, hi1, hz1, hs1, hy1⟩ := int_info8 Tryz.infoV13b
  have hcl : cs.length = cn := by have := h2.1; rw [vI64_len] at this; omega
  have hl : l.length = n := by have := h1.1; rw [vV_len] at this; omega
  have hpl : p.length = cn := by rw [(part_len cs l p hp).1, hcl]
  have cI : (cn : Int) ≤ 20 := by omega
  have hE := own_empty w 35 3 (g := w.heap.size) rfl
  have hb0 := ball (Below.refl w.heap.size w) (.cells #[] 35)
  have H0 := Lib.hid (And.intro hp (And.intro hl (And.intro hpl (And.intro hE hb0))))
  clear hcl hl hpl hE hb0 hp
  go_enter Tryz.func13, Tryz.ntmps13
  go_wp2_with fail
  go_loopw [5, 10] (fun u5 u10 wr => ∃ (k : Nat) (A5 : Option Addr) (c5 : Nat), u5 = .slice A5 k c5 ∧ u10 = .int .i64 k ∧ k ≤ cn ∧ wr.ownsRow w.heap.size 35 3 (.slice A5 k c5) k (vV (p.take k)) ∧ Below w.heap.size w wr) (fun _ u10 _ => cn - (intOf u10).toNat)
  case atStart => exact ⟨0, _, 0, rfl, rfl, by omega, H0.out.2.2.2.1, H0.out.2.2.2.2⟩
  case round =>
    obtain ⟨k, A5, c5, rfl, rfl, hk, hown, hb⟩ := hrel
    have k0 : (0 : Int) ≤ (k : Int) := by omega
    have HI := Lib.hid (And.intro hown hb)
    clear hown
    by_cases hlt : k < cn
    · have k1 : (k : Int) < (cn : Int) := by omega
      obtain ⟨ad, x, rfl, hab, hx, dx⟩ := (h2.below hb).i64e hlt
      obtain ⟨hx0, v, hv, hpk⟩ := part_at cs l p k x H0.out.1 hx
      obtain ⟨m, rfl⟩ : ∃ m : Nat, x = (m : Int) := ⟨x.toNat, by omega⟩
      rw [Int.toNat_natCast] at hv
      have hmn : m < n := by have := lt_of_at hv; rw [H0.out.2.1] at this; exact this
      have m1 : (m : Int) < (n : Int) := by omega
      obtain ⟨ad2, v', rfl, hab2, hv', p0, p1, p2⟩ := (h1.below hb).val hmn
      have hvv : v' = v := Option.some.inj (hv'.symm.trans hv)
      subst hvv
      have HP := Lib.hid hpk
      have hbz := hb.size
      clear hx hv hv' hpk hb
      go_wp2_with (at_builtin; refine wpList_pushR (news := v'.cells) rfl (.tmp 13) (.tmp 21) 33 rfl w.heap.size 35 i1 _ 3 32 Tryz.underlying33 hi1 hz1 hs1 hy1 rfl (by decide) (.slice A5 k c5) k _ (by first | rfl | (simp [Act.eval, Act.put]; done)) HI.out.1 rfl _ (by first | rfl | (simp [Act.eval, Act.put]; done)) (by first | rfl | simp) rfl (by intro u hu; simp only [Vl.cells, List.mem_cons, List.not_mem_nil, or_false] at hu; rcases hu with rfl | rfl | rfl <;> rfl) (by omega) (by omega) hbz ?_; intro v9 w9 own9 kp9 ob9; obtain ⟨A10, c10, rfl, hc10⟩ := own_form own9; have b9 : Below w.heap.size w w9 := (ball HI.out.2 _).grown kp9 (by simp; omega) (fun g e => (World.ownsRow.lt HI.out.1 g e).1))
      have e9 : vV (p.take k) ++ v'.cells = vV (p.take (k + 1)) := by rw [List.take_add_one, HP.out]; simp [vV]
      rw [e9] at own9
      exact ⟨⟨k + 1, A10, c10, rfl, by go_num, by omega, own9, b9⟩, by simp [intOf]; omega⟩
    · obtain rfl : k = cn := by omega
      have k1 : ¬ (k : Int) < (k : Int) := by omega
      have hT : p.take k = p := List.take_of_length_le (by rw [H0.out.2.2.1]; exact Nat.le_refl _)
      clear hb
      go_wp2
      go_ret
      have h := HI.out.1
      rw [hT] at h
      exact ⟨A5, c5, by rw [H0.out.2.2.1]; rfl, by rw [H0.out.2.2.1]; exact h, HI.out.2⟩

set_option maxRecDepth 100000 in
set_option maxHeartbeats 2000000 in
theorem sameE13_any (A : Option Addr) (n c : Nat) (A2 : Option Addr) (c2 : Nat) (l : List En) (w : World) (hr : Reads w w.heap.size 3 A n (vE l)) (hr2 : Reads w w.heap.size 3 A2 n (vE l)) (hn : n ≤ 1000000) :
    Calls Tryz.prog 14 #[.slice A n c, .slice A2 n c2] w (RetB w (.bool true)) := by
  have hnI : (n : Int) ≤ 1000000 := by omega
  go_enter Tryz.func14, Tryz.ntmps14
  go_wp2
  go_loopw [13] (fun iv wr => ∃ j : Nat, j ≤ n ∧ iv = .int .i64 j ∧ Below w.heap.size w wr) (fun iv _ => n - (intOf iv).toNat)
  case atStart => exact ⟨0, by omega, rfl, Below.refl _ _⟩
  case round =>
    obtain ⟨j, hj, rfl, hb⟩ := hrel
    have q0 : (0 : Int) ≤ (j : Int) := by omega
    by_cases hlt : j < n
    · have q1 : (j : Int) < (n : Int) := by omega
      obtain ⟨ad, v, rfl, hab, hv, d0, d1, d2⟩ := (hr.below hb).ent hlt
      obtain ⟨ad2, v2, rfl, hab2, hv2, d20, d21, d22⟩ := (hr2.below hb).ent hlt
      rw [hv] at hv2
      injection hv2 with hv2
      subst hv2
      clear hv
      obtain ⟨vk, vi, vs⟩ := v
      simp only at d0 d1 d2 d20 d21 d22
      go_wp2
      go_quiet (fail)
      go_wp2
      go_roundw
      case rel => exact ⟨j + 1, by omega, by go_num, bdr hb _⟩
      case measure => simp [intOf]; omega
    · go_wp2
      go_ret
      exact ⟨rfl, hb⟩
end
end Go.Proofs.YtgndebdoljnheaaGreatDoor

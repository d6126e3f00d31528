/-
  Keys as rows: contract of the program's Get.
-/
import Derived.Test.YtohaplmbgipbcaaDoorKm
set_option linter.unusedSimpArgs false
namespace Go.Proofs.YtohaplmbgipbcaaDoor
open Go.RowKit

theorem Tryd.infoV : (Tryd.prog.info? 43).map (fun i => (i.zero, i.size, i.bytes)) = some (some (.agg #[.int .u8 0, .int .i64 0, .string ⟨#[]⟩]), 3, 32) := by kernel_rfl
def RetGet (w : World) (L : List UInt8) (e : Ending) (w' : World) : Prop := ∃ A c, e = .returned (.tuple #[.slice A (kdR L).1.length c, .int .i64 (kdR L).2]) ∧ (kdR L).1.length ≤ c ∧ Reads w' w'.heap.size 3 A (kdR L).1.length (vV (kdR L).1) ∧ Below w.heap.size w w'
def comb (rows : List Vl) (p : List Vl × Int) : List Vl × Int := if p.2 = 0 then (rows ++ p.1, 0) else ([], p.2)
theorem comb_ok {l r : List UInt8} {v : Vl} (rows : List Vl) (h : kdV l = .ok v r) : comb rows (kdR l) = comb (rows ++ [v]) (kdR r) := by
  rw [kdR_ok h]
  unfold comb
  by_cases h0 : (kdR r).2 = 0
  · rw [if_pos h0, if_pos rfl, if_pos h0]; simp
  · rw [if_neg h0, if_neg h0, if_neg h0]
theorem comb_bad {l : List UInt8} {e : Int} (rows : List Vl) (hl : l ≠ []) (he : e ≠ 0) (h : kdV l = .bad e) : comb rows (kdR l) = ([], e) := by
  rw [kdR_bad hl h]; unfold comb; rw [if_neg he]
theorem comb_nil (L : List UInt8) : comb [] (kdR L) = kdR L := by
  unfold comb
  by_cases h : (kdR L).2 = 0
  · rw [if_pos h]; simp; rw [← h]
  · rw [if_neg h]
    have : ∀ (n : Nat) (l : List UInt8), (kdN n l).2 ≠ 0 → (kdN n l).1 = [] := by
      intro n
      induction n with
      | zero => intro l h; exact absurd rfl h
      | succ n ih =>
        intro l h
        cases l with
        | nil => exact absurd rfl h
        | cons k s =>
          rw [kdN] at h ⊢
          cases hk : kdV (k :: s) with
          | bad e => rfl
          | ok v r =>
            rw [hk] at h
            simp only at h ⊢
            split
            · rename_i h0; rw [if_pos h0] at h; exact absurd rfl h
            · rfl
    have := this _ L h
    unfold kdR at this ⊢
    rw [← this]
theorem str_list (l : List UInt8) : (str l).data.toList = l := by simp [str]
theorem str_sz (l : List UInt8) : (str l).size = l.length := by rw [← szl, str_list]

set_option maxRecDepth 100000 in
set_option maxHeartbeats 2000000 in
theorem kget_any (s : ByteArray) (w : World) (hs : s.size ≤ 100000) : Calls Tryd.prog 13 #[.string s] w (RetGet w s.data.toList) := by
  have HSz := Lib.hid hs
  go_enter Tryd.func13, Tryd.ntmps13
  go_wp2
  go_loopw [0, 4] (fun sv rv wr => ∃ (t : ByteArray) (rows : List Vl), sv = .string t ∧ t.size + rows.length ≤ s.size ∧ wr.ownsRow w.heap.size 43 3 rv rows.length (vV rows) ∧ Below w.heap.size w wr ∧ kdR s.data.toList = comb rows (kdR t.data.toList)) (fun sv _ _ => match sv with | .string t => t.size | _ => 0)
  case atStart => exact ⟨s, [], rfl, by simp, ⟨by simp [vV], .inl ⟨rfl, rfl⟩⟩, Below.refl _ _, (comb_nil _).symm⟩
  case round =>
    obtain ⟨t, rows, rfl, hz, hown, hb, he⟩ := hrel
    have HE := Lib.hid he; clear he
    have hbs := hb.size
    have htz : t.size ≤ 100000 := by omega
    by_cases h0 : 0 < t.size
    · have q0 : (0 : Int) < (t.size : Int) := by omega
      have G := fun W => get_any t W htz h0
      obtain ⟨D, hD⟩ : ∃ D, kdV t.data.toList = D := ⟨_, rfl⟩
      rw [hD] at G
      have HD := Lib.hid hD; clear hD
      cases D with
      | bad e =>
        have hne : e ≠ 0 := by
          have := HD.out
          rw [head_at t h0] at this
          exact kd_bad_ne this
        have hfin : Hid (kdR s.data.toList = ([], e)) := Lib.hid (by
          rw [HE.out]
          refine comb_bad rows ?_ hne HD.out
          rw [head_at t h0]; simp)
        have hneb : (e != 0) = true := by simpa using hne
        have HG := Lib.hid G; clear G
        clear hne
        go_wp2_with fail
        refine (HG.out _).mono ?_
        rintro x w1 ⟨hb1, rfl⟩
        go_wp2
        go_ret2
        exact ⟨none, 0, by rw [hfin.out]; rfl, by rw [hfin.out]; exact Nat.le_refl _, by rw [hfin.out]; exact Reads.none_, bto0 hb (by (with_reducible repeat (first | exact Below.refl _ _ | exact hb1 | refine bto0 ?_ hb1 | refine bdr ?_ _ | refine Below.drew ?_ | refine ball ?_ _)))⟩
      | ok v r =>
        have hlen := kdV_len HD.out
        have hst : Hid (kdR s.data.toList = comb (rows ++ [v]) (kdR (str r).data.toList)) := Lib.hid (by rw [HE.out, comb_ok rows HD.out, str_list])
        have hrz : (str r).size + (rows ++ [v]).length ≤ s.size := by
          rw [str_sz]; rw [szl] at hlen; simp only [List.length_append, List.length_cons, List.length_nil]; omega
        have hrlt : (str r).size < t.size := by rw [str_sz]; rw [szl] at hlen; exact hlen
        obtain ⟨R, hR⟩ : ∃ R, str r = R := ⟨_, rfl⟩
        rw [hR] at hst hrz hrlt
        obtain ⟨vk, vi, vs⟩ := v
        have H2 : Hid (∀ W, Calls Tryd.prog 26 #[.string t] W fun e w' => Below W.heap.size W w' ∧ e = .returned (.tuple #[.agg #[.int .u8 vk, .int .i64 vi, .string vs], .string R, .int .i64 0])) := Lib.hid fun W => (G W).mono fun e w' h => by obtain ⟨h1, h2⟩ := h; exact ⟨h1, by rw [← hR]; exact h2⟩
        have happ : vV rows ++ (⟨vk, vi, vs⟩ : Vl).cells = vV (rows ++ [⟨vk, vi, vs⟩]) := by unfold vV; simp
        have HA := Lib.hid happ
        have hrl : rows.length ≤ 100000 := by omega
        clear G hR hlen happ
        obtain ⟨i0, hi0, hz0, hs0, hy0⟩ := int_info8 Tryd.infoV
        have H1 : ∀ u ∈ [Value.int .u8 vk, .int .i64 vi, .string vs], u.oneCell' = true := by intro u hu; simp at hu; rcases hu with rfl | rfl | rfl <;> rfl
        go_wp2_with fail
        refine (H2.out _).mono ?_
        rintro x w1 ⟨hb1, rfl⟩
        have hw1 : Below w.heap.size w w1 := bto0 hb hb1
        have hws : w.heap.size ≤ (w1.alloc (.cells #[.int .u8 vk, .int .i64 vi, .string vs] 43)).heap.size := by have := hw1.size; simp; omega
        have own1 := (World.ownsRow.kept hown (row := none) ⟨hb1.os, hb1.tape, hb1.output, hb1.size, fun i hi _ => hb1.block i hi⟩ (by cases h' : u4.ownBlock <;> simp)).alloc (.cells #[.int .u8 vk, .int .i64 vi, .string vs] 43)
        go_wp2_with (at_builtin; go_loud (refine wpList_pushG rfl _ _ 22 rfl w.heap.size 43 i0 (.agg #[.int .u8 0, .int .i64 0, .string ⟨#[]⟩]) 3 32 Tryd.underlying22 hi0 hz0 hs0 hy0 rfl (by decide) u4 rows.length _ rfl own1 rfl (w1.heap.size + 1) rfl (by simp) rfl H1 (by omega) (by omega) hws ?_); intro v2 w2 own2 kb2)
        go_roundw
        case rel => exact ⟨R, rows ++ [⟨vk, vi, vs⟩], rfl, hrz, by rw [List.length_append, ← HA.out]; exact own2, kb2 _ _ (Nat.le_refl _) (ball hw1 _), hst.out⟩
        case measure => exact hrlt
    · have hnil : Hid (kdR s.data.toList = (rows, 0)) := Lib.hid (by rw [HE.out, nil_of t h0, kdR_nil]; unfold comb; simp)
      have q0 : (t.size : Int) ≤ 0 := by omega
      obtain ⟨A5, c5, rfl, hc5⟩ := own_form hown
      have hro := Reads.of_own hown
      go_wp2
      go_ret2
      exact ⟨A5, c5, by rw [hnil.out]; rfl, by rw [hnil.out]; exact hc5, by rw [hnil.out]; exact hro, hb⟩
end Go.Proofs.YtohaplmbgipbcaaDoor

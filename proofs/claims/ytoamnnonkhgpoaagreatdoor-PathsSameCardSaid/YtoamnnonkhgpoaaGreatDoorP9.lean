/-
  A path's conditions, the program's way: Concat, Sort, Compact.
-/
import Derived.Test.YtoamnnonkhgpoaaGreatDoorP8
import Derived.Test.YtoamnnonkhgpoaaGreatDoorQp
set_option linter.unusedSimpArgs false
set_option linter.unusedVariables false
namespace Go.Proofs.YtoamnnonkhgpoaaGreatDoor
open Go.RowKit Go.Sort

theorem own_below22 {w w' : World} {base : Nat} {e : TypeId} {size n : Nat} {v : Value} {xs : List Value} (h : w.ownsRow base e size v n xs) (hb : Below w.heap.size w w') : w'.ownsRow base e size v n xs :=
  World.ownsRow.kept h (row := none) ⟨hb.os, hb.tape, hb.output, hb.size, fun i hi _ => hb.block i hi⟩ (by cases h' : v.ownBlock <;> simp)
theorem own_lower {w : World} {base base' : Nat} {e : TypeId} {size n : Nat} {v : Value} {xs : List Value} (h : w.ownsRow base e size v n xs) (hb : base' ≤ base) : w.ownsRow base' e size v n xs :=
  ⟨h.1, h.2.imp id fun ⟨g, cap, cur, hv, hg, rest⟩ => ⟨g, cap, cur, hv, Nat.le_trans hb hg, rest⟩⟩
theorem vI64_app (a b : List Int) : vI64 (a ++ b) = vI64 a ++ vI64 b := by simp [vI64]
theorem vI64_oneCell (l : List Int) : ∀ u ∈ vI64 l, u.oneCell' = true := by
  intro u hu
  obtain ⟨x, _, rfl⟩ := List.mem_map.1 hu
  rfl
set_option maxRecDepth 100000 in
set_option maxHeartbeats 8000000 in
theorem concat22_any (G : Addr) (A : Option Addr) (n c : Nat) (l : List Int) (B : Option Addr) (m d : Nat) (r : List Int) (w : World) (hG : Reads w w.heap.size 1 (some G) 2 [.slice A n c, .slice B m d]) (hl : Reads w w.heap.size 1 A n (vI64 l)) (hr : Reads w w.heap.size 1 B m (vI64 r)) (hnm : n + m ≤ 300) :
    Calls Tryz.prog 19 #[.slice (some G) 2 2] w fun e w' => ∃ v', e = .returned v' ∧ w'.ownsRow w.heap.size 3 1 v' (n + m) (vI64 (l ++ r)) ∧ Below w.heap.size w w' := by
  have nI : (n : Int) ≤ 300 := by omega
  have mI : (m : Int) ≤ 300 := by omega
  obtain ⟨i0, hi0, hz0, hs0, hy0⟩ := int_info8 Tryz.infoI22
  have HG := Lib.hid (And.intro hG (And.intro hl hr))
  have GW : Hid (∀ W, Calls Tryz.prog 29 #[.slice none 0 0, .int .i64 ((n : Int) + (m : Int))] W fun e w' => ∃ v', e = .returned v' ∧ w'.ownsRow W.heap.size 3 1 v' 0 [] ∧ Below W.heap.size W w') := Lib.hid fun W => by
    have h := grow22_any (n + m) (by omega) W
    rw [show (((n + m : Nat)) : Int) = (n : Int) + (m : Int) from by omega] at h
    exact h
  have hc0 : ∀ W, Below w.heap.size w W → W.cell? G = some (.slice A n c) ∧ W.cell? ⟨G.block, G.off + 1, none⟩ = some (.slice B m d) := by
    intro W hW
    obtain ⟨ad, hA, hab, hc⟩ := (hG.below hW).2 (by omega)
    injection hA with hA
    subst hA
    exact ⟨by have := hc 0 _ rfl; simpa [Addr.add] using this, by have := hc 1 _ rfl; simpa [Addr.add] using this⟩
  have HC0 := Lib.hid hc0
  clear hG hl hr hc0
  go_enter Tryz.func19, Tryz.ntmps19
  go_wp2_with fail
  go_loopw [3, 11] (fun s v wr => ((v = .int .i64 0 ∧ s = .int .i64 0) ∨ (v = .int .i64 1 ∧ s = .int .i64 (n : Int)) ∨ (v = .int .i64 2 ∧ s = .int .i64 ((n : Int) + (m : Int)))) ∧ Below w.heap.size w wr) (fun _ v _ => 2 - (intOf v).toNat)
  case atStart => exact ⟨.inl ⟨rfl, rfl⟩, Below.refl _ _⟩
  case round =>
    obtain ⟨hk, hb⟩ := hrel
    obtain ⟨x0, x1⟩ := HC0.out _ hb
    rcases hk with ⟨rfl, rfl⟩ | ⟨rfl, rfl⟩ | ⟨rfl, rfl⟩
    · go_wp2
      exact ⟨⟨.inr (.inl ⟨rfl, rfl⟩), hb⟩, by simp [intOf]⟩
    · go_wp2
      exact ⟨⟨.inr (.inr ⟨rfl, rfl⟩), hb⟩, by simp [intOf]⟩
    · clear x0 x1
      go_wp2_with fail
      refine (GW.out _).mono ?_
      rintro e w1 ⟨v1, rfl, own1, hb1⟩
      have hbw := bto0 hb hb1
      have hzr := hb.size
      have hz1 := hb1.size
      have own1' : w1.ownsRow w.heap.size 3 1 v1 0 [] := own_lower own1 hzr
      clear own1
      go_wp2_with fail
      obtain ⟨W1, hW1⟩ : ∃ W1, W1 = w1 := ⟨_, rfl⟩
      rw [← hW1] at own1' hbw hz1 ⊢
      clear hW1 hb1 w1
      go_loopw [6, 27] (fun u v wr => ((v = .int .i64 0 ∧ wr.ownsRow w.heap.size 3 1 u 0 []) ∨ (v = .int .i64 1 ∧ wr.ownsRow w.heap.size 3 1 u n (vI64 l)) ∨ (v = .int .i64 2 ∧ wr.ownsRow w.heap.size 3 1 u (n + m) (vI64 (l ++ r)))) ∧ Below w.heap.size w wr) (fun _ v _ => 2 - (intOf v).toNat)
      case atStart => exact ⟨.inl ⟨rfl, own1'⟩, hbw⟩
      case round =>
        clear own1' hbw hb
        obtain ⟨hk, hb⟩ := hrel
        obtain ⟨x0, x1⟩ := HC0.out _ hb
        have hzb := hb.size
        rcases hk with ⟨rfl, hown⟩ | ⟨rfl, hown⟩ | ⟨rfl, hown⟩
        · have r1 := (HG.out.2.1.below hb).more hzb
          go_wp2_with (at_builtin; refine wpList_append_any _ rfl (.tmp 31) (.tmp 32) 27 rfl w.heap.size 3 i0 _ 1 8 Tryz.underlying27 hi0 hz0 hs0 hy0 rfl (by decide) u6 0 [] rfl hown _ A n c (vI64 l) rfl r1 (vI64_oneCell _) (by unfold maxLen; omega) (by omega) hzb ?_; intro v4 w4 hown4 hg4 _; simp only [Nat.zero_add, List.nil_append] at hown4; have hb4 : Below w.heap.size w w4 := hb.grown hg4 (by omega) (fun g hgg => (hown.lt g hgg).1))
          exact ⟨⟨.inr (.inl ⟨rfl, hown4⟩), hb4⟩, by simp [intOf]⟩
        · have r1 := (HG.out.2.2.below hb).more hzb
          go_wp2_with (at_builtin; refine wpList_append_any _ rfl (.tmp 31) (.tmp 32) 27 rfl w.heap.size 3 i0 _ 1 8 Tryz.underlying27 hi0 hz0 hs0 hy0 rfl (by decide) u6 n (vI64 l) rfl hown _ B m d (vI64 r) rfl r1 (vI64_oneCell _) (by unfold maxLen; omega) (by omega) hzb ?_; intro v4 w4 hown4 hg4 _; rw [← vI64_app] at hown4; have hb4 : Below w.heap.size w w4 := hb.grown hg4 (by omega) (fun g hgg => (hown.lt g hgg).1))
          exact ⟨⟨.inr (.inr ⟨rfl, hown4⟩), hb4⟩, by simp [intOf]⟩
        · obtain ⟨A9, c9, rfl, hn9, hc9, _, _⟩ := own_cap22 hown
          go_wp2
          go_ret
          exact ⟨_, rfl, hown, hb⟩
end Go.Proofs.YtoamnnonkhgpoaaGreatDoor

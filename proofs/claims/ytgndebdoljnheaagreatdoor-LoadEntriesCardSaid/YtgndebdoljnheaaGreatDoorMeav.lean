/-
  Several texts in one: Fc.
-/
import Derived.Test.YtgndebdoljnheaaGreatDoorMeam
import Derived.Test.YtgndebdoljnheaaGreatDoorMear
import Derived.Deep.DeepCutAuto
/-
  The chapter's example: Put of a book with nothing in it; names.
-/
namespace Go.Proofs.YtgndebdoljnheaaGreatDoor
section
set_option linter.unusedSimpArgs false
set_option linter.unusedVariables false
open Go.RowKit

theorem differ_nil (w : World) : Calls Tryz.prog 94 #[.slice none 0 0] w (RetB w (.bool true)) := by
  go_enter Tryz.func94, Tryz.ntmps94
  go_wp2
  go_loop [7] (fun v => v = .int .i64 0) (fun _ => 0)
  case atStart => exact rfl
  case round =>
    subst hrel
    go_wp2
    go_ret
    exact ⟨rfl, by with_reducible repeat (first | exact Below.refl _ _ | refine bdr ?_ _ | refine Below.drew ?_ | refine ball ?_ _)⟩
theorem may_nil (w : World) : Calls Tryz.prog 49 #[.agg #[.slice none 0 0, .slice none 0 0]] w (RetB w (.bool true)) := by
  have D := Lib.hid fun W => differ_nil W
  go_enter Tryz.func49, Tryz.ntmps49
  go_wp2
  go_loop [3, 21] (fun u v => u = .slice none 0 0 ∧ v = .int .i64 0) (fun _ _ => 0)
  case atStart => exact ⟨rfl, rfl⟩
  case round =>
    obtain ⟨rfl, rfl⟩ := hrel
    go_wp2_with fail
    refine (D.out _).mono ?_
    rintro e w1 ⟨rfl, hb1⟩
    have X1 := (Blk.new w 60 #[.slice none 0 0, .slice none 0 0]).below hb1 (by simp)
    have c0 := X1.cell 0
    have c1 := X1.cell 1
    go_wp2
    go_loop [3, 40] (fun u v => u = .slice none 0 0 ∧ v = .int .i64 0) (fun _ _ => 0)
    case atStart => exact ⟨rfl, rfl⟩
    case round =>
      obtain ⟨rfl, rfl⟩ := hrel
      go_wp2_with fail
      refine (D.out _).mono ?_
      rintro e w2 ⟨rfl, hb2⟩
      go_wp2
      go_ret
      exact ⟨rfl, bto0 (bto0 (ball (Below.refl _ _) _) hb1) hb2⟩
/-- A []byte of the call's own. -/
def RetPut12 (w : World) (e : Ending) (w' : World) : Prop := ∃ A c, e = .returned (.tuple #[.slice A 2 c, .int .i64 0]) ∧ Own w' w.heap.size (.slice A 2 c) [0, 0] ∧ Below w.heap.size w w'
theorem put_nil (w : World) : Calls Tryz.prog 63 #[.agg #[.slice none 0 0, .slice none 0 0]] w (RetPut12 w) := by
  have D := Lib.hid fun W => may_nil W
  go_enter Tryz.func63, Tryz.ntmps63
  go_wp2_with fail
  refine (D.out _).mono ?_
  rintro e w1 ⟨rfl, hb1⟩
  have X1 := (Blk.new w 60 #[.slice none 0 0, .slice none 0 0]).below hb1 (by simp)
  have c0 := X1.cell 0
  have c1 := X1.cell 1
  have hz1 := hb1.size
  have c0' : ∀ o, (w1.alloc o).cell? ⟨w.heap.size, 0, none⟩ = some (.slice none 0 0) := fun o => Lib.cell?_alloc_some _ c0
  have c1' : ∀ o, (w1.alloc o).cell? ⟨w.heap.size, 1, none⟩ = some (.slice none 0 0) := fun o => Lib.cell?_alloc_some _ c1
  have c1'' : ∀ o o2, ((w1.alloc o).alloc o2).cell? ⟨w.heap.size, 1, none⟩ = some (.slice none 0 0) := fun o o2 => Lib.cell?_alloc_some _ (Lib.cell?_alloc_some _ c1)
  have lt1 : w.heap.size < w1.heap.size := by have := hb1.size; simp at this; omega
  clear hz1
  have X1_ := Lib.hid X1
  have own1 : Own (w1.alloc (.cells #[.int .u8 0] 5)) w1.heap.size (.slice (some ⟨w1.heap.size, 0, none⟩) 1 1) [0] := Own.new (Blk.new _ _ _) (by simp [maxLen]) (Nat.le_refl _) rfl
  go_wp2
  go_loopw [4, 20] (fun u v wr => ∃ A c, u = .slice A 1 c ∧ v = .int .i64 0 ∧ Own wr w1.heap.size (.slice A 1 c) [0] ∧ Below w1.heap.size w1 wr) (fun _ _ _ => 0)
  case atStart => exact ⟨_, _, rfl, rfl, own1, (Below.refl _ _).alloc (Nat.le_refl _) _⟩
  case round =>
    obtain ⟨A, c, rfl, rfl, own, hb⟩ := hrel
    have X2 := X1.below hb lt1
    have d0 : wr.cell? ⟨w.heap.size, 0, none⟩ = some (.slice none 0 0) := X2.cell 0
    have d1 : wr.cell? ⟨w.heap.size, 1, none⟩ = some (.slice none 0 0) := X2.cell 1
    have hbz := hb.size
    clear own1 c0 c1 c0' c1' c1'' D X1
    have d1' : ∀ o, (wr.alloc o).cell? ⟨w.heap.size, 1, none⟩ = some (.slice none 0 0) := fun o => Lib.cell?_alloc_some _ d1
    go_wp2_with (at_builtin; refine wpList_pushB rfl _ _ rfl w1.heap.size (.slice A 1 c) [0] 0 _ rfl own _ rfl (by simp) rfl (by simp) hbz ?_; intro v2 w2 own2 kp2; have hb2 : Below w1.heap.size w1 w2 := kp2.below _ _ (Nat.le_refl _) hb; obtain ⟨A2, c2, hv2, hc2⟩ := own2.form; rw [show ([0] ++ [0] : List UInt8).length = 2 from rfl] at hv2; subst hv2; have X3 := X1_.out.below hb2 lt1; have e0 : w2.cell? ⟨w.heap.size, 0, none⟩ = some (.slice none 0 0) := X3.cell 0; have e1 : w2.cell? ⟨w.heap.size, 1, none⟩ = some (.slice none 0 0) := X3.cell 1)
    go_loop [4, 38] (fun u v => u = .slice A2 2 c2 ∧ v = .int .i64 0) (fun _ _ => 0)
    case atStart => exact ⟨rfl, rfl⟩
    case round =>
      obtain ⟨rfl, rfl⟩ := hrel
      go_wp2
      go_ret2
      exact ⟨A2, c2, rfl, own2.less (by omega), bto0 (bto0 (ball (Below.refl _ _) _) hb1) hb2⟩
end
end Go.Proofs.YtgndebdoljnheaaGreatDoor

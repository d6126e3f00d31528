/-
  The chapter's example of stats: the part that is left.
-/
import Derived.Test.YtcflblgbgoldlaaUq
set_option linter.unusedSimpArgs false
set_option linter.unusedVariables false
namespace Go.Proofs.Ytcflblgbgoldlaa
open Go.RowKit

set_option maxHeartbeats 2000000 in
theorem part_any (gs gt gn gc g : Nat) (w : World) (h : AtSrc w gs gt gn gc) (h2 : AtTwo w g) : Calls Try.prog 18 #[.pointer (some ⟨gs, 0, none⟩), .int .u64 100, binT g] w (RetB w (.int .u64 5)) := by
  have T := Lib.hid fun (W : World) (hb : Below w.heap.size w W) => of_any2 gs gt gn gc g W (h.below hb) (h2.below hb)
  have M := Lib.hid fun (W : World) => times_100 W
  obtain ⟨hs, ht, hn, hc, s0, s1, s2, t0, t1, t2, t3, t4, n0, c0, c1, c2, c3⟩ := h
  clear h2
  go_enter Try.func18, Try.ntmps18
  go_wp2_with fail
  go_region_with (first
    | (go_at_call 22; refine (T.out _ (by with_reducible repeat (first | exact Below.refl _ _ | refine Below.drew ?_ | refine ball ?_ _))).mono ?_; rintro e w1 ⟨rfl, hb1⟩; have hz1 := hb1.size; (try simp at hz1); have lt0 : w.heap.size < w1.heap.size := (by omega); have BW := Lib.hid (bto0 (by with_reducible repeat (first | exact Below.refl _ _ | refine Below.drew ?_ | refine ball ?_ _)) hb1 : Below w.heap.size w w1); (first | (have X : Blk w1 (w.heap.size + 1) 67 #[.int .u64 0, .int .u64 0] := blkOf hb1 (by (try simp) <;> omega) (by with_reducible repeat (first | exact Blk.newAt (by simp) | refine Blk.drew ?_ | refine Blk.alloc ?_ _)); have x0 : w1.cell? ⟨w.heap.size + 1, 0, none⟩ = some (.int .u64 0) := X.cell 0; have x1 : w1.cell? ⟨w.heap.size + 1, 1, none⟩ = some (.int .u64 0) := X.cell 1; have xf0 := X.frozen 0; have xf1 := X.frozen 1; have lt1 : w.heap.size + 1 < w1.heap.size := (by omega); clear X) | skip); clear hb1))
  all_goals
    go_wp2_with fail
    refine (M.out _).mono ?_
    rintro e w2 ⟨rfl, m, rfl⟩
    go_wp2
    go_ret
    exact ⟨rfl, bdr (by first | exact ball BW.out _ | exact bset (bset BW.out (by dsimp only <;> omega) _) (by dsimp only <;> omega) _) _⟩
end Go.Proofs.Ytcflblgbgoldlaa

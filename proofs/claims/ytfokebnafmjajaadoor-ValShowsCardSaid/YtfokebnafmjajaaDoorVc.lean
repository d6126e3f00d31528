/-
  The law's fixed part (layer 1).
-/
import Derived.Test.YtfokebnafmjajaaDoorVa
namespace Go.Proofs.YtfokebnafmjajaaDoor
open Go.RowKit

def itS : ByteArray := ⟨#[39, 105, 116, 39, 39, 115, 39]⟩
theorem itS_und : und (midQ itS) = ⟨#[105, 116, 39, 115]⟩ := by decide
theorem read_it (w : World) (hm : MaxC w) : Calls Tryd.prog 18 #[.string ⟨#[39, 105, 116, 39, 39, 115, 39]⟩] w (RetB w (.tuple #[.agg #[.int .u8 3, .int .i64 0, .string ⟨#[105, 116, 39, 115]⟩], .bool true])) := by
  have h := read_q itS w hm (by decide) (by decide) (by decide) (by kernel_rfl) (by kernel_rfl) true (by kernel_rfl)
  rw [if_pos rfl] at h
  unfold vQ at h
  rw [itS_und] at h
  exact h
theorem cmp_n (w : World) : Calls Tryd.prog 10 #[.agg #[.int .u8 0, .int .i64 0, .string ⟨#[]⟩], .agg #[.int .u8 1, .int .i64 (-5), .string ⟨#[]⟩]] w (RetB w (.int .i64 (-1))) := compare_any ⟨0, 0, ⟨#[]⟩⟩ ⟨1, -5, ⟨#[]⟩⟩ w
theorem cmp_p (w : World) : Calls Tryd.prog 10 #[.agg #[.int .u8 2, .int .i64 0, .string ⟨#[]⟩], .agg #[.int .u8 1, .int .i64 5, .string ⟨#[]⟩]] w (RetB w (.int .i64 1)) := compare_any ⟨2, 0, ⟨#[]⟩⟩ ⟨1, 5, ⟨#[]⟩⟩ w

set_option maxHeartbeats 1000000 in
theorem fixed1_any (w : World) (hm : MaxC w) : Calls Tryd.prog 9 #[] w (RetB w (.bool true)) := by
  go_enter Tryd.func9, Tryd.ntmps9
  go_wp2_with fail
  refine (read_it _ hm).mono ?_
  rintro e w1 ⟨rfl, hb1⟩
  go_wp2_with fail
  refine (cmp_n _).mono ?_
  rintro e w2 ⟨rfl, hb2⟩
  go_wp2_with fail
  refine (cmp_p _).mono ?_
  rintro e w3 ⟨rfl, hb3⟩
  go_wp2
  go_ret
  exact ⟨rfl, bto0 (bto0 (ball hb1 _) hb2) hb3⟩
end Go.Proofs.YtfokebnafmjajaaDoor


/-
  ShapeTotal: the law.
-/
import Derived.Test.YthpggfcindnlcaaGreatDoorQh
import Derived.Test.YthpggfcindnlcaaGreatDoorQe
set_option linter.unusedSimpArgs false
set_option linter.unusedVariables false
namespace Go.Proofs.YthpggfcindnlcaaGreatDoor
open Go.RowKit

theorem grQ_sizes : ∀ (l : List Vl) (n : Int), 0 ≤ n → grV n l = false → ∀ v ∈ l, v.s.size ≤ 5000
  | [], _, _, _ => by simp
  | v :: r, n, hn, h => by
    unfold grV at h
    split at h
    · cases h
    · have ih := grQ_sizes r _ (by omega) h
      intro u hu
      rcases List.mem_cons.1 hu with rfl | hu
      · omega
      · exact ih u hu
theorem grQ_len : ∀ (l : List Vl) (n : Int), n ≤ 5000 → grV n l = false → n + l.length ≤ 5000
  | [], n, hn, _ => by simpa using hn
  | v :: r, n, hn, h => by
    unfold grV at h
    split at h
    · cases h
    · have ih := grQ_len r _ (by omega) h
      simp only [List.length_cons]
      have : (0 : Int) ≤ min (v.s.size : Int) 9000 := by omega
      push_cast at ih ⊢
      omega
set_option maxRecDepth 100000 in
set_option maxHeartbeats 4000000 in
theorem fixed28_any (w : World) : Calls Tryz.prog 6 #[] w (RetB w (.bool true)) := by
  have bA := ball (ball (ball (Below.refl w.heap.size w) (.cells (termQ ⟨#[]⟩) 40)) (.cells (termQ cT) 40)) (.cells (kbQ w.heap.size (w.heap.size + 1)) 36)
  have hI : Blk (((w.alloc (.cells (termQ ⟨#[]⟩) 40)).alloc (.cells (termQ cT) 40)).alloc (.cells (kbQ w.heap.size (w.heap.size + 1)) 36)) w.heap.size 40 (termQ ⟨#[]⟩) := ((Blk.new _ _ _).alloc _).alloc _
  have hT : Blk (((w.alloc (.cells (termQ ⟨#[]⟩) 40)).alloc (.cells (termQ cT) 40)).alloc (.cells (kbQ w.heap.size (w.heap.size + 1)) 36)) (w.heap.size + 1) 40 (termQ cT) := (Blk.newAt (by simp)).alloc _
  have SC := Lib.hid (shape_c hI hT)
  have H0 := Lib.hid bA
  clear bA hI hT
  go_enter Tryz.func6, Tryz.ntmps6
  go_wp2_with fail
  refine SC.out.mono ?_
  rintro e w1 ⟨A2, c2, A', c', rfl, r2, r3, hb1⟩
  have r2' := r2.al (.cells #[.slice none 0 0, .slice A2 1 c2] 43)
  have r3' := r3.al (.cells #[.slice none 0 0, .slice A2 1 c2] 43)
  have b1 := ball (bto0 H0.out hb1) (.cells #[.slice none 0 0, .slice A2 1 c2] 43)
  obtain ⟨ad2, u, rfl, h2, hu, d2⟩ := r2'.at_ (k := 0) (by omega)
  obtain rfl : _ = u := by simpa using hu
  obtain ⟨ad3, v, rfl, h3, hv, e0, e1, e2⟩ := r3'.val (k := 0) (by omega)
  obtain rfl : oneQ = v := by simpa using hv
  simp only [Nat.zero_mul, Addr.add_zero'] at d2 e0 e1 e2
  have HB := Lib.hid b1
  clear r2 r3 r2' r3' hb1 b1 SC hu hv
  go_wp2_with fail
  go_ret
  exact ⟨rfl, HB.out⟩
set_option maxRecDepth 100000 in
set_option maxHeartbeats 4000000 in
theorem shapeTotal_any {w : World} {A : Option Addr} {n c : Nat} {l : List Vl} (op : ByteArray) (hr : Reads w w.heap.size 3 A n (vV l)) (hn : n ≤ maxLen) (hok : ∀ v ∈ l, v.ok) :
    Calls Tryz.prog 3 #[.string op, .slice A n c] w (RetB w (.bool true)) := by
  have F := Lib.hid fixed28_any
  have G := Lib.hid (great_any A n c l w w.heap.size hr (fun v hv => (hok v hv).2.2) hn)
  have hl : l.length = n := by have := hr.1; rw [vV_len] at this; omega
  cases hg : grV 0 l
  rotate_left
  · rw [hg] at G
    clear hr hok
    go_enter Tryz.func3, Tryz.ntmps3
    go_wp2_with fail
    refine G.out.mono ?_
    rintro e w1 ⟨rfl, rfl⟩
    go_wp2_with fail
    refine (F.out _).mono ?_
    rintro e w2 ⟨rfl, hb2⟩
    go_wp2
    go_ret
    exact ⟨rfl, hb2⟩
  rw [hg] at G
  have hn5 : n ≤ 5000 := by have := grQ_len l 0 (by omega) hg; omega
  have hsz := grQ_sizes l 0 (by omega) hg
  obtain ⟨T, hT⟩ : ∃ T, totV op l = T := ⟨_, rfl⟩
  have P := Lib.hid (total_any (c := c) op hr (by omega) hok)
  have R := Lib.hid fun W (hW : Below w.heap.size w W) => rtotal_any (c := c) op (hr.up hW) (by omega) hok (fun v hv => Nat.le_trans (hsz v hv) (by omega))
  rw [hT] at P R
  clear hr hok hT hg hsz hl hn
  go_enter Tryz.func3, Tryz.ntmps3
  go_wp2_with fail
  refine G.out.mono ?_
  rintro e w1 ⟨rfl, rfl⟩
  go_wp2_with fail
  refine P.out.mono ?_
  rintro e w2 ⟨rfl, hb2⟩
  have X2 := Blk.new w2 26 #[.int .u8 T.1.k, .int .i64 T.1.i, .string T.1.s]
  have b2 := ball hb2 (.cells #[.int .u8 T.1.k, .int .i64 T.1.i, .string T.1.s] 26)
  have H2 := Lib.hid (And.intro X2 b2)
  clear hb2 X2 b2 P
  go_wp2_with fail
  refine (R.out _ H2.out.2).mono ?_
  rintro e w3 ⟨rfl, hb3⟩
  have X3 := (H2.out.1.below hb3 H2.out.1.lt).alloc (.cells #[.int .u8 T.1.k, .int .i64 T.1.i, .string T.1.s] 26)
  have Y3 := Blk.new w3 26 #[.int .u8 T.1.k, .int .i64 T.1.i, .string T.1.s]
  have b3 := ball (bto0 H2.out.2 hb3) (.cells #[.int .u8 T.1.k, .int .i64 T.1.i, .string T.1.s] 26)
  have H3 := Lib.hid (And.intro X3 (And.intro Y3 b3))
  clear hb3 X3 Y3 b3 R
  go_wp2_with fail
  refine (F.out _).mono ?_
  rintro e w4 ⟨rfl, hb4⟩
  have X4 := H3.out.1.below hb4 H3.out.1.lt
  have Y4 := H3.out.2.1.below hb4 H3.out.2.1.lt
  have x0 : w4.cell? ⟨w2.heap.size, 0, none⟩ = some (.int .u8 T.1.k) := X4.cell 0
  have x1 : w4.cell? ⟨w2.heap.size, 1, none⟩ = some (.int .i64 T.1.i) := X4.cell 1
  have x2 : w4.cell? ⟨w2.heap.size, 2, none⟩ = some (.string T.1.s) := X4.cell 2
  have y0 : w4.cell? ⟨w3.heap.size, 0, none⟩ = some (.int .u8 T.1.k) := Y4.cell 0
  have y1 : w4.cell? ⟨w3.heap.size, 1, none⟩ = some (.int .i64 T.1.i) := Y4.cell 1
  have y2 : w4.cell? ⟨w3.heap.size, 2, none⟩ = some (.string T.1.s) := Y4.cell 2
  have xl := X4.lt
  have yl := Y4.lt
  have H4 := Lib.hid (bto0 H3.out.2.2 hb4)
  clear hb4 X4 Y4 F
  cases hT2 : T.2
  · go_wp2
    go_ret
    exact ⟨rfl, H4.out⟩
  · go_wp2
    go_ret
    exact ⟨rfl, H4.out⟩
end Go.Proofs.YthpggfcindnlcaaGreatDoor

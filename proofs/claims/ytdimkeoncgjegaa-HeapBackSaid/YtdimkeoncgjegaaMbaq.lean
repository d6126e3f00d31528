/-
  Several texts in one: Dn.
-/
import Derived.Test.YtdimkeoncgjegaaMbap
import Derived.Deep.RegionHeld3
/-
  Heads of pages: the reference's Head.
-/
namespace Go.Proofs.Ytdimkeoncgjegaa
section
set_option linter.unusedSimpArgs false
set_option linter.unusedVariables false
open Go.RowKit

def z504 : List UInt8 := List.replicate 504 0
theorem z504_len : z504.length = 504 := List.length_replicate
def head0 (k : UInt8) (c n : Nat) : List UInt8 := [k, 0] ++ be 2 c ++ be 4 n ++ z504
theorem head0_eq (k : UInt8) (c n : Nat) : head0 k c n = headL k c n := by
  unfold head0 headL headP z504
  rw [List.take_of_length_le (by rw [be_len]; omega)]
theorem convK {W : World} {g : Nat} {b : UInt8} (h : Blk W g 5 #[.int .u8 (b.toNat : Int), .int .u8 0]) : (convert 59 9 (.slice (some ⟨g, 0, none⟩) 2 2)).run Try.prog W = .ok (.string (str [b, 0])) W :=
  conv_blk (l := [b, 0]) h _ 5 _ Try.underlying59 Try.underlying5 Try.underlying9 2 2 rfl
set_option maxRecDepth 100000 in
set_option maxHeartbeats 2000000 in
theorem rhead_any (k : UInt8) (c n : Nat) (hc : c < 65536) (hn : n < 4294967296) (w : World) : Calls Try.prog 67 #[.agg #[.int .u8 (k.toNat : Int), .int .u16 c, .int .u32 n]] w (RetB w (.string (str (headL k c n)))) := by
  have hcI : (c : Int) < 65536 := by omega
  have hnI : (n : Int) < 4294967296 := by omega
  have wc : IntKind.u64.wrap (c : Int) = (c : Int) := by rw [IntKind.wrap_u64]; omega
  have wn : IntKind.u64.wrap (n : Int) = (n : Int) := by rw [IntKind.wrap_u64]; omega
  have N2 : Hid (∀ W, Calls Try.prog 68 #[.int .u64 (c : Int), .int .i64 2] W (RetB W (.string (str (be 2 c))))) := fun W => dnum_any c 2 (by omega) (by omega) W
  have N4 : Hid (∀ W, Calls Try.prog 68 #[.int .u64 (n : Int), .int .i64 4] W (RetB W (.string (str (be 4 n))))) := fun W => dnum_any n 4 (by omega) (by omega) W
  have Z : Hid (∀ W, Calls Try.prog 22 #[.int .i64 504] W (RetB W (.string (str z504)))) := fun W => zeros_any 504 (by omega) W
  have X0 := Blk.new w 109 #[.int .u8 (k.toNat : Int), .int .u16 c, .int .u32 n]
  have hb0 : Below w.heap.size w (w.alloc (.cells #[.int .u8 (k.toNat : Int), .int .u16 c, .int .u32 n] 109)) := ball (Below.refl _ _) _
  have hz0 : w.heap.size < (w.alloc (.cells #[.int .u8 (k.toNat : Int), .int .u16 c, .int .u32 n] 109)).heap.size := by simp
  obtain ⟨W0, hW0⟩ : ∃ W0, w.alloc (.cells #[.int .u8 (k.toNat : Int), .int .u16 c, .int .u32 n] 109) = W0 := ⟨_, rfl⟩
  rw [hW0] at X0 hb0 hz0
  have HW0 := Lib.hid hW0; clear hW0
  have HS : Hid (∀ W, Below W0.heap.size W0 W → W.cell? ⟨w.heap.size, 0, none⟩ = some (.int .u8 (k.toNat : Int)) ∧ W.cell? ⟨w.heap.size, 1, none⟩ = some (.int .u16 (c : Int)) ∧ W.cell? ⟨w.heap.size, 2, none⟩ = some (.int .u32 (n : Int))) := fun W hW =>
    ⟨(X0.below hW hz0).cell 0, (X0.below hW hz0).cell 1, (X0.below hW hz0).cell 2⟩
  clear X0
  have z1 : ¬ 9223372036854775807 < (str [k, 0]).size + (str (be 2 c)).size := by rw [str_size, str_size, be_len]; simp
  have z2 : ¬ 9223372036854775807 < (str [k, 0]).size + (str (be 2 c)).size + (str (be 4 n)).size := by rw [str_size, str_size, str_size, be_len, be_len]; simp
  have z2' : ¬ 9223372036854775807 < (str [k, 0] ++ str (be 2 c)).size + (str (be 4 n)).size := by rw [str_append, str_size, str_size, List.length_append, be_len, be_len]; simp
  have z3 : ¬ 9223372036854775807 < (str [k, 0]).size + (str (be 2 c)).size + (str (be 4 n)).size + (str z504).size := by rw [str_size, str_size, str_size, str_size, be_len, be_len, z504_len]; simp
  have z3' : ¬ 9223372036854775807 < (str [k, 0] ++ str (be 2 c) ++ str (be 4 n)).size + (str z504).size := by rw [str_append, str_append, str_size, str_size, List.length_append, List.length_append, be_len, be_len, z504_len]; simp
  go_enter Try.func67, Try.ntmps67
  go_wp2
  rw [HW0.out]
  have FIN : Hid (str [k, 0] ++ str (be 2 c) ++ str (be 4 n) ++ str z504 = str (headL k c n)) := by
    show _ = _
    rw [str_append, str_append, str_append, ← head0_eq]
    rfl
  refine wp_region_held_drew (S := (fun w' => w'.cell? ⟨w.heap.size, 0, none⟩ = some (.int .u8 (k.toNat : Int)) ∧ w'.cell? ⟨w.heap.size, 1, none⟩ = some (.int .u16 (c : Int)) ∧ w'.cell? ⟨w.heap.size, 2, none⟩ = some (.int .u32 (n : Int)))) (by kernel_rfl) (HS.out _ (bdr (Below.refl _ _) _)) (fun hHeld => ?_)
  try dsimp only at hHeld
  refine wpAnyH_take (i := 0) (v := ?_) rfl (by kernel_rfl) (by kernel_rfl) (by kernel_rfl) (fun _ _ _ h => h) (Or.inl ⟨rfl, ?_⟩) hHeld ?_
  rotate_left
  focus (intro wx hSw; (try dsimp only at hSw); (try go_split_ands); go_simp; (try with_reducible rfl))
  try simp only [Act.put, List.getElem_toArray, List.getElem_cons_succ, List.getElem_cons_zero, List.setIfInBounds_toArray, List.set_cons_zero, List.set_cons_succ]
  refine wpAnyH_take (i := 1) (v := ?_) rfl (by kernel_rfl) (by kernel_rfl) (by kernel_rfl) (fun _ _ _ h => h) (Or.inl ⟨rfl, ?_⟩) hHeld ?_
  rotate_left
  focus (intro wx hSw; (try dsimp only at hSw); (try go_split_ands); go_simp; (try with_reducible rfl))
  try simp only [Act.put, List.getElem_toArray, List.getElem_cons_succ, List.getElem_cons_zero, List.setIfInBounds_toArray, List.set_cons_zero, List.set_cons_succ]
  refine wpAnyH_take (i := 4) (v := ?_) rfl (by kernel_rfl) (by kernel_rfl) (by kernel_rfl) (fun _ _ _ h => h) (Or.inl ⟨rfl, ?_⟩) hHeld ?_
  rotate_left
  focus (intro wx hSw; (try dsimp only at hSw); (try go_split_ands); go_simp; (try with_reducible rfl))
  try simp only [Act.put, List.getElem_toArray, List.getElem_cons_succ, List.getElem_cons_zero, List.setIfInBounds_toArray, List.set_cons_zero, List.set_cons_succ]
  refine wpAnyH_take (i := 5) (v := ?_) rfl (by kernel_rfl) (by kernel_rfl) (by kernel_rfl) (fun _ _ _ h => h) (Or.inl ⟨rfl, ?_⟩) hHeld ?_
  rotate_left
  focus (intro wx hSw; (try dsimp only at hSw); (try go_split_ands); go_simp; (try with_reducible rfl))
  try simp only [Act.put, List.getElem_toArray, List.getElem_cons_succ, List.getElem_cons_zero, List.setIfInBounds_toArray, List.set_cons_zero, List.set_cons_succ]
  refine wpAnyH_take (i := 6) (v := ?_) rfl (by kernel_rfl) (by kernel_rfl) (by kernel_rfl) (fun _ _ _ h => h) (Or.inl ⟨rfl, ?_⟩) hHeld ?_
  rotate_left
  focus (intro wx hSw; (try dsimp only at hSw); (try go_split_ands); go_simp; (try with_reducible rfl))
  try simp only [Act.put, List.getElem_toArray, List.getElem_cons_succ, List.getElem_cons_zero, List.setIfInBounds_toArray, List.set_cons_zero, List.set_cons_succ]
  refine wpAnyH_take (i := 9) (v := ?_) rfl (by kernel_rfl) (by kernel_rfl) (by kernel_rfl) (fun _ _ _ h => h) (Or.inl ⟨rfl, ?_⟩) hHeld ?_
  rotate_left
  focus (intro wx hSw; (try dsimp only at hSw); (try go_split_ands); go_simp; (try with_reducible rfl))
  try simp only [Act.put, List.getElem_toArray, List.getElem_cons_succ, List.getElem_cons_zero, List.setIfInBounds_toArray, List.set_cons_zero, List.set_cons_succ]
  refine wpAnyH_take (i := 10) (v := ?_) rfl (by kernel_rfl) (by kernel_rfl) (by kernel_rfl) (fun _ _ _ h => h) (Or.inl ⟨rfl, ?_⟩) hHeld ?_
  rotate_left
  focus (intro wx hSw; (try dsimp only at hSw); (try go_split_ands); go_simp; (try with_reducible rfl))
  try simp only [Act.put, List.getElem_toArray, List.getElem_cons_succ, List.getElem_cons_zero, List.setIfInBounds_toArray, List.set_cons_zero, List.set_cons_succ]
  refine wpAnyH_take (i := 11) (v := ?_) rfl (by kernel_rfl) (by kernel_rfl) (by kernel_rfl) (fun _ _ _ h => h) (Or.inl ⟨rfl, ?_⟩) hHeld ?_
  rotate_left
  focus (intro wx hSw; (try dsimp only at hSw); (try go_split_ands); go_simp; (try with_reducible rfl))
  try simp only [Act.put, List.getElem_toArray, List.getElem_cons_succ, List.getElem_cons_zero, List.setIfInBounds_toArray, List.set_cons_zero, List.set_cons_succ]
  refine wpAnyH_ready (rs := [2, 7]) (by kernel_rfl) (by simp) (AllReadyH.cons rfl (fun K hK => ?_) (AllReadyH.cons rfl (fun K hK => ?_) AllReadyH.nil))
  · go_simp
    have BK : Blk _ _ 5 #[.int .u8 (k.toNat : Int), .int .u8 0] := (Blk.new W0 5 _).drew
    refine hK.out _ _ ?_ (fun hHeld => ?_)
    · ((try dsimp only); (try dsimp only at hHeld); exact HS.out _ (by with_reducible repeat (first | exact Below.refl _ _ | refine bdr ?_ _ | refine Below.drew ?_ | refine ball ?_ _)))
    clear hK K
    try dsimp only at hHeld
    try simp only [Act.put, List.getElem_toArray, List.getElem_cons_succ, List.getElem_cons_zero, List.setIfInBounds_toArray, List.set_cons_zero, List.set_cons_succ]
    refine wpAnyH_ready (rs := [3, 7]) (by kernel_rfl) (by simp) (AllReadyH.cons rfl (fun K hK => ?_) (AllReadyH.cons rfl (fun K hK => ?_) AllReadyH.nil))
    · go_simp
      rw [convK BK]
      go_simp
      refine hK.out _ _ ?_ (fun hHeld => ?_)
      · ((try dsimp only); (try dsimp only at hHeld); exact HS.out _ (by with_reducible repeat (first | exact Below.refl _ _ | refine bdr ?_ _ | refine Below.drew ?_ | refine ball ?_ _)))
      clear hK K
      try dsimp only at hHeld
      try simp only [Act.put, List.getElem_toArray, List.getElem_cons_succ, List.getElem_cons_zero, List.setIfInBounds_toArray, List.set_cons_zero, List.set_cons_succ]
      refine wpAnyH_ready (rs := [7]) (by kernel_rfl) (by simp) (AllReadyH.cons rfl (fun K hK => ?_) AllReadyH.nil)
      go_simp
      (go_at_call 68; (with_reducible refine (N2.out _).mono ?_); rintro e w7 ⟨rfl, hb7⟩)
      go_wp2_with fail
      refine hK.out _ _ ?_ (fun hHeld => ?_)
      · ((try dsimp only); (try dsimp only at hHeld); exact HS.out _ (by with_reducible repeat (first | exact Below.refl _ _ | exact hb7 | refine bto0 ?_ hb7 | refine bdr ?_ _ | refine Below.drew ?_ | refine ball ?_ _)))
      clear hK K
      try dsimp only at hHeld
      try simp only [Act.put, List.getElem_toArray, List.getElem_cons_succ, List.getElem_cons_zero, List.setIfInBounds_toArray, List.set_cons_zero, List.set_cons_succ]
      refine wpAnyH_take (i := 8) (v := ?_) rfl (by kernel_rfl) (by kernel_rfl) (by kernel_rfl) (fun _ _ _ h => h) (Or.inl ⟨rfl, ?_⟩) hHeld ?_
      rotate_left
      focus (intro wx hSw; (try dsimp only at hSw); (try go_split_ands); go_simp; (try with_reducible rfl))
      try simp only [Act.put, List.getElem_toArray, List.getElem_cons_succ, List.getElem_cons_zero, List.setIfInBounds_toArray, List.set_cons_zero, List.set_cons_succ]
      refine wpAnyH_ready (rs := [12]) (by kernel_rfl) (by simp) (AllReadyH.cons rfl (fun K hK => ?_) AllReadyH.nil)
      go_simp
      (go_at_call 68; (with_reducible refine (N4.out _).mono ?_); rintro e w12 ⟨rfl, hb12⟩)
      go_wp2_with fail
      refine hK.out _ _ ?_ (fun hHeld => ?_)
      · ((try dsimp only); (try dsimp only at hHeld); exact HS.out _ (by with_reducible repeat (first | exact Below.refl _ _ | exact hb7 | exact hb12 | refine bto0 ?_ hb7 | refine bto0 ?_ hb12 | refine bdr ?_ _ | refine Below.drew ?_ | refine ball ?_ _)))
      clear hK K
      try dsimp only at hHeld
      try simp only [Act.put, List.getElem_toArray, List.getElem_cons_succ, List.getElem_cons_zero, List.setIfInBounds_toArray, List.set_cons_zero, List.set_cons_succ]
      refine wpAnyH_take (i := 13) (v := ?_) rfl (by kernel_rfl) (by kernel_rfl) (by kernel_rfl) (fun _ _ _ h => h) (Or.inl ⟨rfl, ?_⟩) hHeld ?_
      rotate_left
      focus (intro wx hSw; (try dsimp only at hSw); (try go_split_ands); go_simp; (try with_reducible rfl))
      try simp only [Act.put, List.getElem_toArray, List.getElem_cons_succ, List.getElem_cons_zero, List.setIfInBounds_toArray, List.set_cons_zero, List.set_cons_succ]
      refine wpAnyH_take (i := 14) (v := ?_) rfl (by kernel_rfl) (by kernel_rfl) (by kernel_rfl) (fun _ _ _ h => h) (Or.inl ⟨rfl, ?_⟩) hHeld ?_
      rotate_left
      focus (intro wx hSw; (try dsimp only at hSw); (try go_split_ands); go_simp; (try with_reducible rfl))
      try simp only [Act.put, List.getElem_toArray, List.getElem_cons_succ, List.getElem_cons_zero, List.setIfInBounds_toArray, List.set_cons_zero, List.set_cons_succ]
      refine wpAnyH_done (by kernel_rfl) ?_ _
      clear hHeld
      go_wp2_with (go_at_call 22; refine (Z.out _).mono ?_; rintro e wz ⟨rfl, hbz⟩)
      go_ret
      exact ⟨by rw [FIN.out]; rfl, bto0 hb0 (by with_reducible repeat (first | exact Below.refl _ _ | exact hbz | exact hb12 | exact hb7 | refine bto0 ?_ hbz | refine bto0 ?_ hb12 | refine bto0 ?_ hb7 | refine bdr ?_ _ | refine Below.drew ?_ | refine ball ?_ _))⟩
    · go_simp
      (go_at_call 68; (with_reducible refine (N2.out _).mono ?_); rintro e w7 ⟨rfl, hb7⟩)
      have BK7 := BK.below hb7 BK.lt
      go_wp2_with fail
      refine hK.out _ _ ?_ (fun hHeld => ?_)
      · ((try dsimp only); (try dsimp only at hHeld); exact HS.out _ (by with_reducible repeat (first | exact Below.refl _ _ | exact hb7 | refine bto0 ?_ hb7 | refine bdr ?_ _ | refine Below.drew ?_ | refine ball ?_ _)))
      clear hK K
      try dsimp only at hHeld
      try simp only [Act.put, List.getElem_toArray, List.getElem_cons_succ, List.getElem_cons_zero, List.setIfInBounds_toArray, List.set_cons_zero, List.set_cons_succ]
      refine wpAnyH_ready (rs := [3, 12]) (by kernel_rfl) (by simp) (AllReadyH.cons rfl (fun K hK => ?_) (AllReadyH.cons rfl (fun K hK => ?_) AllReadyH.nil))
      · go_simp
        rw [convK BK7]
        go_simp
        refine hK.out _ _ ?_ (fun hHeld => ?_)
        · ((try dsimp only); (try dsimp only at hHeld); exact HS.out _ (by with_reducible repeat (first | exact Below.refl _ _ | exact hb7 | refine bto0 ?_ hb7 | refine bdr ?_ _ | refine Below.drew ?_ | refine ball ?_ _)))
        clear hK K
        try dsimp only at hHeld
        try simp only [Act.put, List.getElem_toArray, List.getElem_cons_succ, List.getElem_cons_zero, List.setIfInBounds_toArray, List.set_cons_zero, List.set_cons_succ]
        refine wpAnyH_take (i := 8) (v := ?_) rfl (by kernel_rfl) (by kernel_rfl) (by kernel_rfl) (fun _ _ _ h => h) (Or.inl ⟨rfl, ?_⟩) hHeld ?_
        rotate_left
        focus (intro wx hSw; (try dsimp only at hSw); (try go_split_ands); go_simp; (try with_reducible rfl))
        try simp only [Act.put, List.getElem_toArray, List.getElem_cons_succ, List.getElem_cons_zero, List.setIfInBounds_toArray, List.set_cons_zero, List.set_cons_succ]
        refine wpAnyH_ready (rs := [12]) (by kernel_rfl) (by simp) (AllReadyH.cons rfl (fun K hK => ?_) AllReadyH.nil)
        go_simp
        (go_at_call 68; (with_reducible refine (N4.out _).mono ?_); rintro e w12 ⟨rfl, hb12⟩)
        go_wp2_with fail
        refine hK.out _ _ ?_ (fun hHeld => ?_)
        · ((try dsimp only); (try dsimp only at hHeld); exact HS.out _ (by with_reducible repeat (first | exact Below.refl _ _ | exact hb7 | exact hb12 | refine bto0 ?_ hb7 | refine bto0 ?_ hb12 | refine bdr ?_ _ | refine Below.drew ?_ | refine ball ?_ _)))
        clear hK K
        try dsimp only at hHeld
        try simp only [Act.put, List.getElem_toArray, List.getElem_cons_succ, List.getElem_cons_zero, List.setIfInBounds_toArray, List.set_cons_zero, List.set_cons_succ]
        refine wpAnyH_take (i := 13) (v := ?_) rfl (by kernel_rfl) (by kernel_rfl) (by kernel_rfl) (fun _ _ _ h => h) (Or.inl ⟨rfl, ?_⟩) hHeld ?_
        rotate_left
        focus (intro wx hSw; (try dsimp only at hSw); (try go_split_ands); go_simp; (try with_reducible rfl))
        try simp only [Act.put, List.getElem_toArray, List.getElem_cons_succ, List.getElem_cons_zero, List.setIfInBounds_toArray, List.set_cons_zero, List.set_cons_succ]
        refine wpAnyH_take (i := 14) (v := ?_) rfl (by kernel_rfl) (by kernel_rfl) (by kernel_rfl) (fun _ _ _ h => h) (Or.inl ⟨rfl, ?_⟩) hHeld ?_
        rotate_left
        focus (intro wx hSw; (try dsimp only at hSw); (try go_split_ands); go_simp; (try with_reducible rfl))
        try simp only [Act.put, List.getElem_toArray, List.getElem_cons_succ, List.getElem_cons_zero, List.setIfInBounds_toArray, List.set_cons_zero, List.set_cons_succ]
        refine wpAnyH_done (by kernel_rfl) ?_ _
        clear hHeld
        go_wp2_with (go_at_call 22; refine (Z.out _).mono ?_; rintro e wz ⟨rfl, hbz⟩)
        go_ret
        exact ⟨by rw [FIN.out]; rfl, bto0 hb0 (by with_reducible repeat (first | exact Below.refl _ _ | exact hbz | exact hb12 | exact hb7 | refine bto0 ?_ hbz | refine bto0 ?_ hb12 | refine bto0 ?_ hb7 | refine bdr ?_ _ | refine Below.drew ?_ | refine ball ?_ _))⟩
      · go_simp
        (go_at_call 68; (with_reducible refine (N4.out _).mono ?_); rintro e w12 ⟨rfl, hb12⟩)
        have BK12 := BK7.below hb12 BK7.lt
        go_wp2_with fail
        refine hK.out _ _ ?_ (fun hHeld => ?_)
        · ((try dsimp only); (try dsimp only at hHeld); exact HS.out _ (by with_reducible repeat (first | exact Below.refl _ _ | exact hb7 | exact hb12 | refine bto0 ?_ hb7 | refine bto0 ?_ hb12 | refine bdr ?_ _ | refine Below.drew ?_ | refine ball ?_ _)))
        clear hK K
        try dsimp only at hHeld
        try simp only [Act.put, List.getElem_toArray, List.getElem_cons_succ, List.getElem_cons_zero, List.setIfInBounds_toArray, List.set_cons_zero, List.set_cons_succ]
        refine wpAnyH_ready (rs := [3]) (by kernel_rfl) (by simp) (AllReadyH.cons rfl (fun K hK => ?_) AllReadyH.nil)
        go_simp
        rw [convK BK12]
        go_simp
        refine hK.out _ _ ?_ (fun hHeld => ?_)
        · ((try dsimp only); (try dsimp only at hHeld); exact HS.out _ (by with_reducible repeat (first | exact Below.refl _ _ | exact hb7 | exact hb12 | refine bto0 ?_ hb7 | refine bto0 ?_ hb12 | refine bdr ?_ _ | refine Below.drew ?_ | refine ball ?_ _)))
        clear hK K
        try dsimp only at hHeld
        try simp only [Act.put, List.getElem_toArray, List.getElem_cons_succ, List.getElem_cons_zero, List.setIfInBounds_toArray, List.set_cons_zero, List.set_cons_succ]
        refine wpAnyH_take (i := 8) (v := ?_) rfl (by kernel_rfl) (by kernel_rfl) (by kernel_rfl) (fun _ _ _ h => h) (Or.inl ⟨rfl, ?_⟩) hHeld ?_
        rotate_left
        focus (intro wx hSw; (try dsimp only at hSw); (try go_split_ands); go_simp; (try with_reducible rfl))
        try simp only [Act.put, List.getElem_toArray, List.getElem_cons_succ, List.getElem_cons_zero, List.setIfInBounds_toArray, List.set_cons_zero, List.set_cons_succ]
        refine wpAnyH_take (i := 13) (v := ?_) rfl (by kernel_rfl) (by kernel_rfl) (by kernel_rfl) (fun _ _ _ h => h) (Or.inl ⟨rfl, ?_⟩) hHeld ?_
        rotate_left
        focus (intro wx hSw; (try dsimp only at hSw); (try go_split_ands); go_simp; (try with_reducible rfl))
        try simp only [Act.put, List.getElem_toArray, List.getElem_cons_succ, List.getElem_cons_zero, List.setIfInBounds_toArray, List.set_cons_zero, List.set_cons_succ]
        refine wpAnyH_take (i := 14) (v := ?_) rfl (by kernel_rfl) (by kernel_rfl) (by kernel_rfl) (fun _ _ _ h => h) (Or.inl ⟨rfl, ?_⟩) hHeld ?_
        rotate_left
        focus (intro wx hSw; (try dsimp only at hSw); (try go_split_ands); go_simp; (try with_reducible rfl))
        try simp only [Act.put, List.getElem_toArray, List.getElem_cons_succ, List.getElem_cons_zero, List.setIfInBounds_toArray, List.set_cons_zero, List.set_cons_succ]
        refine wpAnyH_done (by kernel_rfl) ?_ _
        clear hHeld
        go_wp2_with (go_at_call 22; refine (Z.out _).mono ?_; rintro e wz ⟨rfl, hbz⟩)
        go_ret
        exact ⟨by rw [FIN.out]; rfl, bto0 hb0 (by with_reducible repeat (first | exact Below.refl _ _ | exact hbz | exact hb12 | exact hb7 | refine bto0 ?_ hbz | refine bto0 ?_ hb12 | refine bto0 ?_ hb7 | refine bdr ?_ _ | refine Below.drew ?_ | refine ball ?_ _))⟩
  · go_simp
    (go_at_call 68; (with_reducible refine (N2.out _).mono ?_); rintro e w7 ⟨rfl, hb7⟩)
    go_wp2_with fail
    refine hK.out _ _ ?_ (fun hHeld => ?_)
    · ((try dsimp only); (try dsimp only at hHeld); exact HS.out _ (by with_reducible repeat (first | exact Below.refl _ _ | exact hb7 | refine bto0 ?_ hb7 | refine bdr ?_ _ | refine Below.drew ?_ | refine ball ?_ _)))
    clear hK K
    try dsimp only at hHeld
    try simp only [Act.put, List.getElem_toArray, List.getElem_cons_succ, List.getElem_cons_zero, List.setIfInBounds_toArray, List.set_cons_zero, List.set_cons_succ]
    refine wpAnyH_ready (rs := [2, 12]) (by kernel_rfl) (by simp) (AllReadyH.cons rfl (fun K hK => ?_) (AllReadyH.cons rfl (fun K hK => ?_) AllReadyH.nil))
    · go_simp
      have BK : Blk _ _ 5 #[.int .u8 (k.toNat : Int), .int .u8 0] := Blk.new w7 5 _
      refine hK.out _ _ ?_ (fun hHeld => ?_)
      · ((try dsimp only); (try dsimp only at hHeld); exact HS.out _ (by with_reducible repeat (first | exact Below.refl _ _ | exact hb7 | refine bto0 ?_ hb7 | refine bdr ?_ _ | refine Below.drew ?_ | refine ball ?_ _)))
      clear hK K
      try dsimp only at hHeld
      try simp only [Act.put, List.getElem_toArray, List.getElem_cons_succ, List.getElem_cons_zero, List.setIfInBounds_toArray, List.set_cons_zero, List.set_cons_succ]
      refine wpAnyH_ready (rs := [3, 12]) (by kernel_rfl) (by simp) (AllReadyH.cons rfl (fun K hK => ?_) (AllReadyH.cons rfl (fun K hK => ?_) AllReadyH.nil))
      · go_simp
        rw [convK BK]
        go_simp
        refine hK.out _ _ ?_ (fun hHeld => ?_)
        · ((try dsimp only); (try dsimp only at hHeld); exact HS.out _ (by with_reducible repeat (first | exact Below.refl _ _ | exact hb7 | refine bto0 ?_ hb7 | refine bdr ?_ _ | refine Below.drew ?_ | refine ball ?_ _)))
        clear hK K
        try dsimp only at hHeld
        try simp only [Act.put, List.getElem_toArray, List.getElem_cons_succ, List.getElem_cons_zero, List.setIfInBounds_toArray, List.set_cons_zero, List.set_cons_succ]
        refine wpAnyH_take (i := 8) (v := ?_) rfl (by kernel_rfl) (by kernel_rfl) (by kernel_rfl) (fun _ _ _ h => h) (Or.inl ⟨rfl, ?_⟩) hHeld ?_
        rotate_left
        focus (intro wx hSw; (try dsimp only at hSw); (try go_split_ands); go_simp; (try with_reducible rfl))
        try simp only [Act.put, List.getElem_toArray, List.getElem_cons_succ, List.getElem_cons_zero, List.setIfInBounds_toArray, List.set_cons_zero, List.set_cons_succ]
        refine wpAnyH_ready (rs := [12]) (by kernel_rfl) (by simp) (AllReadyH.cons rfl (fun K hK => ?_) AllReadyH.nil)
        go_simp
        (go_at_call 68; (with_reducible refine (N4.out _).mono ?_); rintro e w12 ⟨rfl, hb12⟩)
        go_wp2_with fail
        refine hK.out _ _ ?_ (fun hHeld => ?_)
        · ((try dsimp only); (try dsimp only at hHeld); exact HS.out _ (by with_reducible repeat (first | exact Below.refl _ _ | exact hb7 | exact hb12 | refine bto0 ?_ hb7 | refine bto0 ?_ hb12 | refine bdr ?_ _ | refine Below.drew ?_ | refine ball ?_ _)))
        clear hK K
        try dsimp only at hHeld
        try simp only [Act.put, List.getElem_toArray, List.getElem_cons_succ, List.getElem_cons_zero, List.setIfInBounds_toArray, List.set_cons_zero, List.set_cons_succ]
        refine wpAnyH_take (i := 13) (v := ?_) rfl (by kernel_rfl) (by kernel_rfl) (by kernel_rfl) (fun _ _ _ h => h) (Or.inl ⟨rfl, ?_⟩) hHeld ?_
        rotate_left
        focus (intro wx hSw; (try dsimp only at hSw); (try go_split_ands); go_simp; (try with_reducible rfl))
        try simp only [Act.put, List.getElem_toArray, List.getElem_cons_succ, List.getElem_cons_zero, List.setIfInBounds_toArray, List.set_cons_zero, List.set_cons_succ]
        refine wpAnyH_take (i := 14) (v := ?_) rfl (by kernel_rfl) (by kernel_rfl) (by kernel_rfl) (fun _ _ _ h => h) (Or.inl ⟨rfl, ?_⟩) hHeld ?_
        rotate_left
        focus (intro wx hSw; (try dsimp only at hSw); (try go_split_ands); go_simp; (try with_reducible rfl))
        try simp only [Act.put, List.getElem_toArray, List.getElem_cons_succ, List.getElem_cons_zero, List.setIfInBounds_toArray, List.set_cons_zero, List.set_cons_succ]
        refine wpAnyH_done (by kernel_rfl) ?_ _
        clear hHeld
        go_wp2_with (go_at_call 22; refine (Z.out _).mono ?_; rintro e wz ⟨rfl, hbz⟩)
        go_ret
        exact ⟨by rw [FIN.out]; rfl, bto0 hb0 (by with_reducible repeat (first | exact Below.refl _ _ | exact hbz | exact hb12 | exact hb7 | refine bto0 ?_ hbz | refine bto0 ?_ hb12 | refine bto0 ?_ hb7 | refine bdr ?_ _ | refine Below.drew ?_ | refine ball ?_ _))⟩
      · go_simp
        (go_at_call 68; (with_reducible refine (N4.out _).mono ?_); rintro e w12 ⟨rfl, hb12⟩)
        have BK12 := BK.below hb12 BK.lt
        go_wp2_with fail
        refine hK.out _ _ ?_ (fun hHeld => ?_)
        · ((try dsimp only); (try dsimp only at hHeld); exact HS.out _ (by with_reducible repeat (first | exact Below.refl _ _ | exact hb7 | exact hb12 | refine bto0 ?_ hb7 | refine bto0 ?_ hb12 | refine bdr ?_ _ | refine Below.drew ?_ | refine ball ?_ _)))
        clear hK K
        try dsimp only at hHeld
        try simp only [Act.put, List.getElem_toArray, List.getElem_cons_succ, List.getElem_cons_zero, List.setIfInBounds_toArray, List.set_cons_zero, List.set_cons_succ]
        refine wpAnyH_ready (rs := [3]) (by kernel_rfl) (by simp) (AllReadyH.cons rfl (fun K hK => ?_) AllReadyH.nil)
        go_simp
        rw [convK BK12]
        go_simp
        refine hK.out _ _ ?_ (fun hHeld => ?_)
        · ((try dsimp only); (try dsimp only at hHeld); exact HS.out _ (by with_reducible repeat (first | exact Below.refl _ _ | exact hb7 | exact hb12 | refine bto0 ?_ hb7 | refine bto0 ?_ hb12 | refine bdr ?_ _ | refine Below.drew ?_ | refine ball ?_ _)))
        clear hK K
        try dsimp only at hHeld
        try simp only [Act.put, List.getElem_toArray, List.getElem_cons_succ, List.getElem_cons_zero, List.setIfInBounds_toArray, List.set_cons_zero, List.set_cons_succ]
        refine wpAnyH_take (i := 8) (v := ?_) rfl (by kernel_rfl) (by kernel_rfl) (by kernel_rfl) (fun _ _ _ h => h) (Or.inl ⟨rfl, ?_⟩) hHeld ?_
        rotate_left
        focus (intro wx hSw; (try dsimp only at hSw); (try go_split_ands); go_simp; (try with_reducible rfl))
        try simp only [Act.put, List.getElem_toArray, List.getElem_cons_succ, List.getElem_cons_zero, List.setIfInBounds_toArray, List.set_cons_zero, List.set_cons_succ]
        refine wpAnyH_take (i := 13) (v := ?_) rfl (by kernel_rfl) (by kernel_rfl) (by kernel_rfl) (fun _ _ _ h => h) (Or.inl ⟨rfl, ?_⟩) hHeld ?_
        rotate_left
        focus (intro wx hSw; (try dsimp only at hSw); (try go_split_ands); go_simp; (try with_reducible rfl))
        try simp only [Act.put, List.getElem_toArray, List.getElem_cons_succ, List.getElem_cons_zero, List.setIfInBounds_toArray, List.set_cons_zero, List.set_cons_succ]
        refine wpAnyH_take (i := 14) (v := ?_) rfl (by kernel_rfl) (by kernel_rfl) (by kernel_rfl) (fun _ _ _ h => h) (Or.inl ⟨rfl, ?_⟩) hHeld ?_
        rotate_left
        focus (intro wx hSw; (try dsimp only at hSw); (try go_split_ands); go_simp; (try with_reducible rfl))
        try simp only [Act.put, List.getElem_toArray, List.getElem_cons_succ, List.getElem_cons_zero, List.setIfInBounds_toArray, List.set_cons_zero, List.set_cons_succ]
        refine wpAnyH_done (by kernel_rfl) ?_ _
        clear hHeld
        go_wp2_with (go_at_call 22; refine (Z.out _).mono ?_; rintro e wz ⟨rfl, hbz⟩)
        go_ret
        exact ⟨by rw [FIN.out]; rfl, bto0 hb0 (by with_reducible repeat (first | exact Below.refl _ _ | exact hbz | exact hb12 | exact hb7 | refine bto0 ?_ hbz | refine bto0 ?_ hb12 | refine bto0 ?_ hb7 | refine bdr ?_ _ | refine Below.drew ?_ | refine ball ?_ _))⟩
    · go_simp
      (go_at_call 68; (with_reducible refine (N4.out _).mono ?_); rintro e w12 ⟨rfl, hb12⟩)
      go_wp2_with fail
      refine hK.out _ _ ?_ (fun hHeld => ?_)
      · ((try dsimp only); (try dsimp only at hHeld); exact HS.out _ (by with_reducible repeat (first | exact Below.refl _ _ | exact hb7 | exact hb12 | refine bto0 ?_ hb7 | refine bto0 ?_ hb12 | refine bdr ?_ _ | refine Below.drew ?_ | refine ball ?_ _)))
      clear hK K
      try dsimp only at hHeld
      try simp only [Act.put, List.getElem_toArray, List.getElem_cons_succ, List.getElem_cons_zero, List.setIfInBounds_toArray, List.set_cons_zero, List.set_cons_succ]
      refine wpAnyH_ready (rs := [2]) (by kernel_rfl) (by simp) (AllReadyH.cons rfl (fun K hK => ?_) AllReadyH.nil)
      go_simp
      have BK : Blk _ _ 5 #[.int .u8 (k.toNat : Int), .int .u8 0] := Blk.new w12 5 _
      refine hK.out _ _ ?_ (fun hHeld => ?_)
      · ((try dsimp only); (try dsimp only at hHeld); exact HS.out _ (by with_reducible repeat (first | exact Below.refl _ _ | exact hb7 | exact hb12 | refine bto0 ?_ hb7 | refine bto0 ?_ hb12 | refine bdr ?_ _ | refine Below.drew ?_ | refine ball ?_ _)))
      clear hK K
      try dsimp only at hHeld
      try simp only [Act.put, List.getElem_toArray, List.getElem_cons_succ, List.getElem_cons_zero, List.setIfInBounds_toArray, List.set_cons_zero, List.set_cons_succ]
      refine wpAnyH_ready (rs := [3]) (by kernel_rfl) (by simp) (AllReadyH.cons rfl (fun K hK => ?_) AllReadyH.nil)
      go_simp
      rw [convK BK]
      go_simp
      refine hK.out _ _ ?_ (fun hHeld => ?_)
      · ((try dsimp only); (try dsimp only at hHeld); exact HS.out _ (by with_reducible repeat (first | exact Below.refl _ _ | exact hb7 | exact hb12 | refine bto0 ?_ hb7 | refine bto0 ?_ hb12 | refine bdr ?_ _ | refine Below.drew ?_ | refine ball ?_ _)))
      clear hK K
      try dsimp only at hHeld
      try simp only [Act.put, List.getElem_toArray, List.getElem_cons_succ, List.getElem_cons_zero, List.setIfInBounds_toArray, List.set_cons_zero, List.set_cons_succ]
      refine wpAnyH_take (i := 8) (v := ?_) rfl (by kernel_rfl) (by kernel_rfl) (by kernel_rfl) (fun _ _ _ h => h) (Or.inl ⟨rfl, ?_⟩) hHeld ?_
      rotate_left
      focus (intro wx hSw; (try dsimp only at hSw); (try go_split_ands); go_simp; (try with_reducible rfl))
      try simp only [Act.put, List.getElem_toArray, List.getElem_cons_succ, List.getElem_cons_zero, List.setIfInBounds_toArray, List.set_cons_zero, List.set_cons_succ]
      refine wpAnyH_take (i := 13) (v := ?_) rfl (by kernel_rfl) (by kernel_rfl) (by kernel_rfl) (fun _ _ _ h => h) (Or.inl ⟨rfl, ?_⟩) hHeld ?_
      rotate_left
      focus (intro wx hSw; (try dsimp only at hSw); (try go_split_ands); go_simp; (try with_reducible rfl))
      try simp only [Act.put, List.getElem_toArray, List.getElem_cons_succ, List.getElem_cons_zero, List.setIfInBounds_toArray, List.set_cons_zero, List.set_cons_succ]
      refine wpAnyH_take (i := 14) (v := ?_) rfl (by kernel_rfl) (by kernel_rfl) (by kernel_rfl) (fun _ _ _ h => h) (Or.inl ⟨rfl, ?_⟩) hHeld ?_
      rotate_left
      focus (intro wx hSw; (try dsimp only at hSw); (try go_split_ands); go_simp; (try with_reducible rfl))
      try simp only [Act.put, List.getElem_toArray, List.getElem_cons_succ, List.getElem_cons_zero, List.setIfInBounds_toArray, List.set_cons_zero, List.set_cons_succ]
      refine wpAnyH_done (by kernel_rfl) ?_ _
      clear hHeld
      go_wp2_with (go_at_call 22; refine (Z.out _).mono ?_; rintro e wz ⟨rfl, hbz⟩)
      go_ret
      exact ⟨by rw [FIN.out]; rfl, bto0 hb0 (by with_reducible repeat (first | exact Below.refl _ _ | exact hbz | exact hb12 | exact hb7 | refine bto0 ?_ hbz | refine bto0 ?_ hb12 | refine bto0 ?_ hb7 | refine bdr ?_ _ | refine Below.drew ?_ | refine ball ?_ _))⟩
end
end Go.Proofs.Ytdimkeoncgjegaa

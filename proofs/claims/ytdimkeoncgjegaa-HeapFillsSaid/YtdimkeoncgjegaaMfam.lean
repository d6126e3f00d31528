/-
  Several texts in one: Dm Dn.
-/
import Derived.Test.YtdimkeoncgjegaaMfal
import Derived.Deep.RegionHeld3
/-
  Heads of pages: the reference's Value, Head, Get.
-/
namespace Go.Proofs.Ytdimkeoncgjegaa
section
open Go.RowKit

theorem str_get {l : List UInt8} {j : Nat} {b : UInt8} (h : j < (str l).size) (hb : l[j]? = some b) : (str l)[j] = b := by
  have := str_at l j h
  rw [hb] at this
  exact (Option.some.inj this).symm
theorem val_step (U : Nat) (b : UInt8) (hU : U < 256 ^ 6) : IntKind.u64.wrap (IntKind.u64.wrap (256 * (U : Int)) + IntKind.u64.wrap (b.toNat : Int)) = ((256 * U + b.toNat : Nat) : Int) := by
  have hb := b.toNat_lt
  rw [IntKind.wrap_u64, IntKind.wrap_u64, IntKind.wrap_u64]
  omega
set_option maxRecDepth 100000 in
set_option maxHeartbeats 1000000 in
theorem dval_any (l : List UInt8) (hl : l.length ≤ 7) (w : World) : Calls Try.prog 75 #[.string (str l)] w fun e w' => e = .returned (.int .u64 (beVal l)) ∧ w = w' := by
  have hz : (str l).size ≤ 7 := by rw [str_size]; exact hl
  have hzl := Lib.hid (str_size l)
  go_enter Try.func75, Try.ntmps75
  go_wp2
  go_loop [3, 4] (fun uv iv => ∃ j : Nat, j ≤ l.length ∧ iv = .int .i64 j ∧ uv = .int .u64 ((beVal (l.take j) : Nat) : Int)) (fun _ iv => 10 - (intOf iv).toNat)
  case atStart => exact ⟨0, by omega, rfl, rfl⟩
  case round =>
    obtain ⟨j, hj, rfl, rfl⟩ := hrel
    have q0 : (0 : Int) ≤ (j : Int) := by omega
    by_cases hlt : j < (str l).size
    · have hlt' : j < l.length := by rw [← hzl.out]; exact hlt
      have hb : l[j]? = some l[j] := List.getElem?_eq_getElem hlt'
      have hg := Lib.hid (str_get hlt hb)
      have hbt := Lib.hid (beVal_take hb)
      have hU := beVal_lt_of (l := l.take j) (n := 6) (by rw [List.length_take]; omega)
      obtain ⟨b, hbe⟩ : ∃ b, l[j] = b := ⟨_, rfl⟩
      rw [hbe] at hg hbt
      have hor := Lib.hid (val_step (beVal (l.take j)) b hU)
      obtain ⟨U, hUe⟩ : ∃ U, beVal (l.take j) = U := ⟨_, rfl⟩
      rw [hUe] at hbt hor ⊢
      clear hbe hUe hU hb
      go_wp2
      go_round
      case rel => exact ⟨j + 1, by omega, by go_num, val_int (by rw [hg.out, hbt.out]; exact hor.out)⟩
      case measure => simp [intOf]; omega
    · have h1 : j = l.length := by have := hzl.out; omega
      have h2 : Hid (l.take j = l) := Lib.hid (List.take_of_length_le (by omega))
      rw [h2.out]
      clear h1
      go_wp2
      go_ret
      exact ⟨rfl, rfl⟩
end
end Go.Proofs.Ytdimkeoncgjegaa
/-
  Heads of pages: the reference's Head.
-/
namespace Go.Proofs.Ytdimkeoncgjegaa
section
set_option linter.unusedSimpArgs false
set_option linter.unusedVariables false
open Go.RowKit

def z504 : List UInt8 := List.replicate 504 0
theorem z504_len : z504.length = 504 := List.length_replicate
def head0 (k : UInt8) (c n : Nat) : List UInt8 := [k, 0] ++ be 2 c ++ be 4 n ++ z504
theorem head0_eq (k : UInt8) (c n : Nat) : head0 k c n = headL k c n := by
  unfold head0 headL headP z504
  rw [List.take_of_length_le (by rw [be_len]; omega)]
theorem convK {W : World} {g : Nat} {b : UInt8} (h : Blk W g 5 #[.int .u8 (b.toNat : Int), .int .u8 0]) : (convert 59 9 (.slice (some ⟨g, 0, none⟩) 2 2)).run Try.prog W = .ok (.string (str [b, 0])) W :=
  conv_blk (l := [b, 0]) h _ 5 _ Try.underlying59 Try.underlying5 Try.underlying9 2 2 rfl
set_option maxRecDepth 100000 in
set_option maxHeartbeats 2000000 in
theorem rhead_any (k : UInt8) (c n : Nat) (hc : c < 65536) (hn : n < 4294967296) (w : World) : Calls Try.prog 67 #[.agg #[.int .u8 (k.toNat : Int), .int .u16 c, .int .u32 n]] w (RetB w (.string (str (headL k c n)))) := by
  have hcI : (c : Int) < 65536 := by omega
  have hnI : (n : Int) < 4294967296 := by omega
  have wc : IntKind.u64.wrap (c : Int) = (c : Int) := by rw [IntKind.wrap_u64]; omega
  have wn : IntKind.u64.wrap (n : Int) = (n : Int) := by rw [IntKind.wrap_u64]; omega
  have N2 : Hid (∀ W, Calls Try.prog 68 #[.int .u64 (c : Int), .int .i64 2] W (RetB W (.string (str (be 2 c))))) := fun W => dnum_any c 2 (by omega) (by omega) W
  have N4 : Hid (∀ W, Calls Try.prog 68 #[.int .u64 (n : Int), .int .i64 4] W (RetB W (.string (str (be 4 n))))) := fun W => dnum_any n 4 (by omega) (by omega) W
  have Z : Hid (∀ W, Calls Try.prog 22 #[.int .i64 504] W (RetB W (.string (str z504)))) := fun W => zeros_any 504 (by omega) W
  have X0 := Blk.new w 109 #[.int .u8 (k.toNat : Int), .int .u16 c, .int .u32 n]
  have hb0 : Below w.heap.size w (w.alloc (.cells #[.int .u8 (k.toNat : Int), .int .u16 c, .int .u32 n] 109)) := ball (Below.refl _ _) _
  have hz0 : w.heap.size < (w.alloc (.cells #[.int .u8 (k.toNat : Int), .int .u16 c, .int .u32 n] 109)).heap.size := by simp
  obtain ⟨W0, hW0⟩ : ∃ W0, w.alloc (.cells #[.int .u8 (k.toNat : Int), .int .u16 c, .int .u32 n] 109) = W0 := ⟨_, rfl⟩
  rw [hW0] at X0 hb0 hz0
  have HW0 := Lib.hid hW0; clear hW0
  have HS : Hid (∀ W, Below W0.heap.size W0 W → W.cell? ⟨w.heap.size, 0, none⟩ = some (.int .u8 (k.toNat : Int)) ∧ W.cell? ⟨w.heap.size, 1, none⟩ = some (.int .u16 (c : Int)) ∧ W.cell? ⟨w.heap.size, 2, none⟩ = some (.int .u32 (n : Int))) := fun W hW =>
    ⟨(X0.below hW hz0).cell 0, (X0.below hW hz0).cell 1, (X0.below hW hz0).cell 2⟩
  clear X0
  have z1 : ¬ 9223372036854775807 < (str [k, 0]).size + (str (be 2 c)).size := by rw [str_size, str_size, be_len]; simp
  have z2 : ¬ 9223372036854775807 < (str [k, 0]).size + (str (be 2 c)).size + (str (be 4 n)).size := by rw [str_size, str_size, str_size, be_len, be_len]; simp
  have z2' : ¬ 9223372036854775807 < (str [k, 0] ++ str (be 2 c)).size + (str (be 4 n)).size := by rw [str_append, str_size, str_size, List.length_append, be_len, be_len]; simp
  have z3 : ¬ 9223372036854775807 < (str [k, 0]).size + (str (be 2 c)).size + (str (be 4 n)).size + (str z504).size := by rw [str_size, str_size, str_size, str_size, be_len, be_len, z504_len]; simp
  have z3' : ¬ 9223372036854775807 < (str [k, 0] ++ str (be 2 c) ++ str (be 4 n)).size + (str z504).size := by rw [str_append, str_append, str_size, str_size, List.length_append, List.length_append, be_len, be_len, z504_len]; simp
  go_enter Try.func67, Try.ntmps67
  go_wp2
  rw [HW0.out]
  have FIN : Hid (str [k, 0] ++ str (be 2 c) ++ str (be 4 n) ++ str z504 = str (headL k c n)) := by
    show _ = _
    rw [str_append, str_append, str_append, ← head0_eq]
    rfl
  refine wp_region_held_drew (S := (fun w' => w'.cell? ⟨w.heap.size, 0, none⟩ = some (.int .u8 (k.toNat : Int)) ∧ w'.cell? ⟨w.heap.size, 1, none⟩ = some (.int .u16 (c : Int)) ∧ w'.cell? ⟨w.heap.size, 2, none⟩ = some (.int .u32 (n : Int)))) (by kernel_rfl) (HS.out _ (bdr (Below.refl _ _) _)) (fun hHeld => ?_)
  try dsimp only at hHeld
  refine wpAnyH_take (i := 0) (v := ?_) rfl (by kernel_rfl) (by kernel_rfl) (by kernel_rfl) (fun _ _ _ h => h) (Or.inl ⟨rfl, ?_⟩) hHeld ?_
  rotate_left
  focus (intro wx hSw; (try dsimp only at hSw); (try go_split_ands); go_simp; (try with_reducible rfl))
  try simp only [Act.put, List.getElem_toArray, List.getElem_cons_succ, List.getElem_cons_zero, List.setIfInBounds_toArray, List.set_cons_zero, List.set_cons_succ]
  refine wpAnyH_take (i := 1) (v := ?_) rfl (by kernel_rfl) (by kernel_rfl) (by kernel_rfl) (fun _ _ _ h => h) (Or.inl ⟨rfl, ?_⟩) hHeld ?_
  rotate_left
  focus (intro wx hSw; (try dsimp only at hSw); (try go_split_ands); go_simp; (try with_reducible rfl))
  try simp only [Act.put, List.getElem_toArray, List.getElem_cons_succ, List.getElem_cons_zero, List.setIfInBounds_toArray, List.set_cons_zero, List.set_cons_succ]
  refine wpAnyH_take (i := 4) (v := ?_) rfl (by kernel_rfl) (by kernel_rfl) (by kernel_rfl) (fun _ _ _ h => h) (Or.inl ⟨rfl, ?_⟩) hHeld ?_
  rotate_left
  focus (intro wx hSw; (try dsimp only at hSw); (try go_split_ands); go_simp; (try with_reducible rfl))
  try simp only [Act.put, List.getElem_toArray, List.getElem_cons_succ, List.getElem_cons_zero, List.setIfInBounds_toArray, List.set_cons_zero, List.set_cons_succ]
  refine wpAnyH_take (i := 5) (v := ?_) rfl (by kernel_rfl) (by kernel_rfl) (by kernel_rfl) (fun _ _ _ h => h) (Or.inl ⟨rfl, ?_⟩) hHeld ?_
  rotate_left
  focus (intro wx hSw; (try dsimp only at hSw); (try go_split_ands); go_simp; (try with_reducible rfl))
  try simp only [Act.put, List.getElem_toArray, List.getElem_cons_succ, List.getElem_cons_zero, List.setIfInBounds_toArray, List.set_cons_zero, List.set_cons_succ]
  refine wpAnyH_take (i := 6) (v := ?_) rfl (by kernel_rfl) (by kernel_rfl) (by kernel_rfl) (fun _ _ _ h => h) (Or.inl ⟨rfl, ?_⟩) hHeld ?_
  rotate_left
  focus (intro wx hSw; (try dsimp only at hSw); (try go_split_ands); go_simp; (try with_reducible rfl))
  try simp only [Act.put, List.getElem_toArray, List.getElem_cons_succ, List.getElem_cons_zero, List.setIfInBounds_toArray, List.set_cons_zero, List.set_cons_succ]
  refine wpAnyH_take (i := 9) (v := ?_) rfl (by kernel_rfl) (by kernel_rfl) (by kernel_rfl) (fun _ _ _ h => h) (Or.inl ⟨rfl, ?_⟩) hHeld ?_
  rotate_left
  focus (intro wx hSw; (try dsimp only at hSw); (try go_split_ands); go_simp; (try with_reducible rfl))
  try simp only [Act.put, List.getElem_toArray, List.getElem_cons_succ, List.getElem_cons_zero, List.setIfInBounds_toArray, List.set_cons_zero, List.set_cons_succ]
  refine wpAnyH_take (i := 10) (v := ?_) rfl (by kernel_rfl) (by kernel_rfl) (by kernel_rfl) (fun _ _ _ h => h) (Or.inl ⟨rfl, ?_⟩) hHeld ?_
  rotate_left
  focus (intro wx hSw; (try dsimp only at hSw); (try go_split_ands); go_simp; (try with_reducible rfl))
  try simp only [Act.put, List.getElem_toArray, List.getElem_cons_succ, List.getElem_cons_zero, List.setIfInBounds_toArray, List.set_cons_zero, List.set_cons_succ]
  refine wpAnyH_take (i := 11) (v := ?_) rfl (by kernel_rfl) (by kernel_rfl) (by kernel_rfl) (fun _ _ _ h => h) (Or.inl ⟨rfl, ?_⟩) hHeld ?_
  rotate_left
  focus (intro wx hSw; (try dsimp only at hSw); (try go_split_ands); go_simp; (try with_reducible rfl))
  try simp only [Act.put, List.getElem_toArray, List.getElem_cons_succ, List.getElem_cons_zero, List.setIfInBounds_toArray, List.set_cons_zero, List.set_cons_succ]
  refine wpAnyH_ready (rs := [2, 7]) (by kernel_rfl) (by simp) (AllReadyH.cons rfl (fun K hK => ?_) (AllReadyH.cons rfl (fun K hK => ?_) AllReadyH.nil))
  · go_simp
    have BK : Blk _ _ 5 #[.int .u8 (k.toNat : Int), .int .u8 0] := (Blk.new W0 5 _).drew
    refine hK.out _ _ ?_ (fun hHeld => ?_)
    · ((try dsimp only); (try dsimp only at hHeld); exact HS.out _ (by with_reducible repeat (first | exact Below.refl _ _ | refine bdr ?_ _ | refine Below.drew ?_ | refine ball ?_ _)))
    clear hK K
    try dsimp only at hHeld
    try simp only [Act.put, List.getElem_toArray, List.getElem_cons_succ, List.getElem_cons_zero, List.setIfInBounds_toArray, List.set_cons_zero, List.set_cons_succ]
    refine wpAnyH_ready (rs := [3, 7]) (by kernel_rfl) (by simp) (AllReadyH.cons rfl (fun K hK => ?_) (AllReadyH.cons rfl (fun K hK => ?_) AllReadyH.nil))
    · go_simp
      rw [convK BK]
      go_simp
      refine hK.out _ _ ?_ (fun hHeld => ?_)
      · ((try dsimp only); (try dsimp only at hHeld); exact HS.out _ (by with_reducible repeat (first | exact Below.refl _ _ | refine bdr ?_ _ | refine Below.drew ?_ | refine ball ?_ _)))
      clear hK K
      try dsimp only at hHeld
      try simp only [Act.put, List.getElem_toArray, List.getElem_cons_succ, List.getElem_cons_zero, List.setIfInBounds_toArray, List.set_cons_zero, List.set_cons_succ]
      refine wpAnyH_ready (rs := [7]) (by kernel_rfl) (by simp) (AllReadyH.cons rfl (fun K hK => ?_) AllReadyH.nil)
      go_simp
      (go_at_call 68; (with_reducible refine (N2.out _).mono ?_); rintro e w7 ⟨rfl, hb7⟩)
      go_wp2_with fail
      refine hK.out _ _ ?_ (fun hHeld => ?_)
      · ((try dsimp only); (try dsimp only at hHeld); exact HS.out _ (by with_reducible repeat (first | exact Below.refl _ _ | exact hb7 | refine bto0 ?_ hb7 | refine bdr ?_ _ | refine Below.drew ?_ | refine ball ?_ _)))
      clear hK K
      try dsimp only at hHeld
      try simp only [Act.put, List.getElem_toArray, List.getElem_cons_succ, List.getElem_cons_zero, List.setIfInBounds_toArray, List.set_cons_zero, List.set_cons_succ]
      refine wpAnyH_take (i := 8) (v := ?_) rfl (by kernel_rfl) (by kernel_rfl) (by kernel_rfl) (fun _ _ _ h => h) (Or.inl ⟨rfl, ?_⟩) hHeld ?_
      rotate_left
      focus (intro wx hSw; (try dsimp only at hSw); (try go_split_ands); go_simp; (try with_reducible rfl))
      try simp only [Act.put, List.getElem_toArray, List.getElem_cons_succ, List.getElem_cons_zero, List.setIfInBounds_toArray, List.set_cons_zero, List.set_cons_succ]
      refine wpAnyH_ready (rs := [12]) (by kernel_rfl) (by simp) (AllReadyH.cons rfl (fun K hK => ?_) AllReadyH.nil)
      go_simp
      (go_at_call 68; (with_reducible refine (N4.out _).mono ?_); rintro e w12 ⟨rfl, hb12⟩)
      go_wp2_with fail
      refine hK.out _ _ ?_ (fun hHeld => ?_)
      · ((try dsimp only); (try dsimp only at hHeld); exact HS.out _ (by with_reducible repeat (first | exact Below.refl _ _ | exact hb7 | exact hb12 | refine bto0 ?_ hb7 | refine bto0 ?_ hb12 | refine bdr ?_ _ | refine Below.drew ?_ | refine ball ?_ _)))
      clear hK K
      try dsimp only at hHeld
      try simp only [Act.put, List.getElem_toArray, List.getElem_cons_succ, List.getElem_cons_zero, List.setIfInBounds_toArray, List.set_cons_zero, List.set_cons_succ]
      refine wpAnyH_take (i := 13) (v := ?_) rfl (by kernel_rfl) (by kernel_rfl) (by kernel_rfl) (fun _ _ _ h => h) (Or.inl ⟨rfl, ?_⟩) hHeld ?_
      rotate_left
      focus (intro wx hSw; (try dsimp only at hSw); (try go_split_ands); go_simp; (try with_reducible rfl))
      try simp only [Act.put, List.getElem_toArray, List.getElem_cons_succ, List.getElem_cons_zero, List.setIfInBounds_toArray, List.set_cons_zero, List.set_cons_succ]
      refine wpAnyH_take (i := 14) (v := ?_) rfl (by kernel_rfl) (by kernel_rfl) (by kernel_rfl) (fun _ _ _ h => h) (Or.inl ⟨rfl, ?_⟩) hHeld ?_
      rotate_left
      focus (intro wx hSw; (try dsimp only at hSw); (try go_split_ands); go_simp; (try with_reducible rfl))
      try simp only [Act.put, List.getElem_toArray, List.getElem_cons_succ, List.getElem_cons_zero, List.setIfInBounds_toArray, List.set_cons_zero, List.set_cons_succ]
      refine wpAnyH_done (by kernel_rfl) ?_ _
      clear hHeld
      go_wp2_with (go_at_call 22; refine (Z.out _).mono ?_; rintro e wz ⟨rfl, hbz⟩)
      go_ret
      exact ⟨by rw [FIN.out]; rfl, bto0 hb0 (by with_reducible repeat (first | exact Below.refl _ _ | exact hbz | exact hb12 | exact hb7 | refine bto0 ?_ hbz | refine bto0 ?_ hb12 | refine bto0 ?_ hb7 | refine bdr ?_ _ | refine Below.drew ?_ | refine ball ?_ _))⟩
    · go_simp
      (go_at_call 68; (with_reducible refine (N2.out _).mono ?_); rintro e w7 ⟨rfl, hb7⟩)
      have BK7 := BK.below hb7 BK.lt
      go_wp2_with fail
      refine hK.out _ _ ?_ (fun hHeld => ?_)
      · ((try dsimp only); (try dsimp only at hHeld); exact HS.out _ (by with_reducible repeat (first | exact Below.refl _ _ | exact hb7 | refine bto0 ?_ hb7 | refine bdr ?_ _ | refine Below.drew ?_ | refine ball ?_ _)))
      clear hK K
      try dsimp only at hHeld
      try simp only [Act.put, List.getElem_toArray, List.getElem_cons_succ, List.getElem_cons_zero, List.setIfInBounds_toArray, List.set_cons_zero, List.set_cons_succ]
      refine wpAnyH_ready (rs := [3, 12]) (by kernel_rfl) (by simp) (AllReadyH.cons rfl (fun K hK => ?_) (AllReadyH.cons rfl (fun K hK => ?_) AllReadyH.nil))
      · go_simp
        rw [convK BK7]
        go_simp
        refine hK.out _ _ ?_ (fun hHeld => ?_)
        · ((try dsimp only); (try dsimp only at hHeld); exact HS.out _ (by with_reducible repeat (first | exact Below.refl _ _ | exact hb7 | refine bto0 ?_ hb7 | refine bdr ?_ _ | refine Below.drew ?_ | refine ball ?_ _)))
        clear hK K
        try dsimp only at hHeld
        try simp only [Act.put, List.getElem_toArray, List.getElem_cons_succ, List.getElem_cons_zero, List.setIfInBounds_toArray, List.set_cons_zero, List.set_cons_succ]
        refine wpAnyH_take (i := 8) (v := ?_) rfl (by kernel_rfl) (by kernel_rfl) (by kernel_rfl) (fun _ _ _ h => h) (Or.inl ⟨rfl, ?_⟩) hHeld ?_
        rotate_left
        focus (intro wx hSw; (try dsimp only at hSw); (try go_split_ands); go_simp; (try with_reducible rfl))
        try simp only [Act.put, List.getElem_toArray, List.getElem_cons_succ, List.getElem_cons_zero, List.setIfInBounds_toArray, List.set_cons_zero, List.set_cons_succ]
        refine wpAnyH_ready (rs := [12]) (by kernel_rfl) (by simp) (AllReadyH.cons rfl (fun K hK => ?_) AllReadyH.nil)
        go_simp
        (go_at_call 68; (with_reducible refine (N4.out _).mono ?_); rintro e w12 ⟨rfl, hb12⟩)
        go_wp2_with fail
        refine hK.out _ _ ?_ (fun hHeld => ?_)
        · ((try dsimp only); (try dsimp only at hHeld); exact HS.out _ (by with_reducible repeat (first | exact Below.refl _ _ | exact hb7 | exact hb12 | refine bto0 ?_ hb7 | refine bto0 ?_ hb12 | refine bdr ?_ _ | refine Below.drew ?_ | refine ball ?_ _)))
        clear hK K
        try dsimp only at hHeld
        try simp only [Act.put, List.getElem_toArray, List.getElem_cons_succ, List.getElem_cons_zero, List.setIfInBounds_toArray, List.set_cons_zero, List.set_cons_succ]
        refine wpAnyH_take (i := 13) (v := ?_) rfl (by kernel_rfl) (by kernel_rfl) (by kernel_rfl) (fun _ _ _ h => h) (Or.inl ⟨rfl, ?_⟩) hHeld ?_
        rotate_left
        focus (intro wx hSw; (try dsimp only at hSw); (try go_split_ands); go_simp; (try with_reducible rfl))
        try simp only [Act.put, List.getElem_toArray, List.getElem_cons_succ, List.getElem_cons_zero, List.setIfInBounds_toArray, List.set_cons_zero, List.set_cons_succ]
        refine wpAnyH_take (i := 14) (v := ?_) rfl (by kernel_rfl) (by kernel_rfl) (by kernel_rfl) (fun _ _ _ h => h) (Or.inl ⟨rfl, ?_⟩) hHeld ?_
        rotate_left
        focus (intro wx hSw; (try dsimp only at hSw); (try go_split_ands); go_simp; (try with_reducible rfl))
        try simp only [Act.put, List.getElem_toArray, List.getElem_cons_succ, List.getElem_cons_zero, List.setIfInBounds_toArray, List.set_cons_zero, List.set_cons_succ]
        refine wpAnyH_done (by kernel_rfl) ?_ _
        clear hHeld
        go_wp2_with (go_at_call 22; refine (Z.out _).mono ?_; rintro e wz ⟨rfl, hbz⟩)
        go_ret
        exact ⟨by rw [FIN.out]; rfl, bto0 hb0 (by with_reducible repeat (first | exact Below.refl _ _ | exact hbz | exact hb12 | exact hb7 | refine bto0 ?_ hbz | refine bto0 ?_ hb12 | refine bto0 ?_ hb7 | refine bdr ?_ _ | refine Below.drew ?_ | refine ball ?_ _))⟩
      · go_simp
        (go_at_call 68; (with_reducible refine (N4.out _).mono ?_); rintro e w12 ⟨rfl, hb12⟩)
        have BK12 := BK7.below hb12 BK7.lt
        go_wp2_with fail
        refine hK.out _ _ ?_ (fun hHeld => ?_)
        · ((try dsimp only); (try dsimp only at hHeld); exact HS.out _ (by with_reducible repeat (first | exact Below.refl _ _ | exact hb7 | exact hb12 | refine bto0 ?_ hb7 | refine bto0 ?_ hb12 | refine bdr ?_ _ | refine Below.drew ?_ | refine ball ?_ _)))
        clear hK K
        try dsimp only at hHeld
        try simp only [Act.put, List.getElem_toArray, List.getElem_cons_succ, List.getElem_cons_zero, List.setIfInBounds_toArray, List.set_cons_zero, List.set_cons_succ]
        refine wpAnyH_ready (rs := [3]) (by kernel_rfl) (by simp) (AllReadyH.cons rfl (fun K hK => ?_) AllReadyH.nil)
        go_simp
        rw [convK BK12]
        go_simp
        refine hK.out _ _ ?_ (fun hHeld => ?_)
        · ((try dsimp only); (try dsimp only at hHeld); exact HS.out _ (by with_reducible repeat (first | exact Below.refl _ _ | exact hb7 | exact hb12 | refine bto0 ?_ hb7 | refine bto0 ?_ hb12 | refine bdr ?_ _ | refine Below.drew ?_ | refine ball ?_ _)))
        clear hK K
        try dsimp only at hHeld
        try simp only [Act.put, List.getElem_toArray, List.getElem_cons_succ, List.getElem_cons_zero, List.setIfInBounds_toArray, List.set_cons_zero, List.set_cons_succ]
        refine wpAnyH_take (i := 8) (v := ?_) rfl (by kernel_rfl) (by kernel_rfl) (by kernel_rfl) (fun _ _ _ h => h) (Or.inl ⟨rfl, ?_⟩) hHeld ?_
        rotate_left
        focus (intro wx hSw; (try dsimp only at hSw); (try go_split_ands); go_simp; (try with_reducible rfl))
        try simp only [Act.put, List.getElem_toArray, List.getElem_cons_succ, List.getElem_cons_zero, List.setIfInBounds_toArray, List.set_cons_zero, List.set_cons_succ]
        refine wpAnyH_take (i := 13) (v := ?_) rfl (by kernel_rfl) (by kernel_rfl) (by kernel_rfl) (fun _ _ _ h => h) (Or.inl ⟨rfl, ?_⟩) hHeld ?_
        rotate_left
        focus (intro wx hSw; (try dsimp only at hSw); (try go_split_ands); go_simp; (try with_reducible rfl))
        try simp only [Act.put, List.getElem_toArray, List.getElem_cons_succ, List.getElem_cons_zero, List.setIfInBounds_toArray, List.set_cons_zero, List.set_cons_succ]
        refine wpAnyH_take (i := 14) (v := ?_) rfl (by kernel_rfl) (by kernel_rfl) (by kernel_rfl) (fun _ _ _ h => h) (Or.inl ⟨rfl, ?_⟩) hHeld ?_
        rotate_left
        focus (intro wx hSw; (try dsimp only at hSw); (try go_split_ands); go_simp; (try with_reducible rfl))
        try simp only [Act.put, List.getElem_toArray, List.getElem_cons_succ, List.getElem_cons_zero, List.setIfInBounds_toArray, List.set_cons_zero, List.set_cons_succ]
        refine wpAnyH_done (by kernel_rfl) ?_ _
        clear hHeld
        go_wp2_with (go_at_call 22; refine (Z.out _).mono ?_; rintro e wz ⟨rfl, hbz⟩)
        go_ret
        exact ⟨by rw [FIN.out]; rfl, bto0 hb0 (by with_reducible repeat (first | exact Below.refl _ _ | exact hbz | exact hb12 | exact hb7 | refine bto0 ?_ hbz | refine bto0 ?_ hb12 | refine bto0 ?_ hb7 | refine bdr ?_ _ | refine Below.drew ?_ | refine ball ?_ _))⟩
  · go_simp
    (go_at_call 68; (with_reducible refine (N2.out _).mono ?_); rintro e w7 ⟨rfl, hb7⟩)
    go_wp2_with fail
    refine hK.out _ _ ?_ (fun hHeld => ?_)
    · ((try dsimp only); (try dsimp only at hHeld); exact HS.out _ (by with_reducible repeat (first | exact Below.refl _ _ | exact hb7 | refine bto0 ?_ hb7 | refine bdr ?_ _ | refine Below.drew ?_ | refine ball ?_ _)))
    clear hK K
    try dsimp only at hHeld
    try simp only [Act.put, List.getElem_toArray, List.getElem_cons_succ, List.getElem_cons_zero, List.setIfInBounds_toArray, List.set_cons_zero, List.set_cons_succ]
    refine wpAnyH_ready (rs := [2, 12]) (by kernel_rfl) (by simp) (AllReadyH.cons rfl (fun K hK => ?_) (AllReadyH.cons rfl (fun K hK => ?_) AllReadyH.nil))
    · go_simp
      have BK : Blk _ _ 5 #[.int .u8 (k.toNat : Int), .int .u8 0] := Blk.new w7 5 _
      refine hK.out _ _ ?_ (fun hHeld => ?_)
      · ((try dsimp only); (try dsimp only at hHeld); exact HS.out _ (by with_reducible repeat (first | exact Below.refl _ _ | exact hb7 | refine bto0 ?_ hb7 | refine bdr ?_ _ | refine Below.drew ?_ | refine ball ?_ _)))
      clear hK K
      try dsimp only at hHeld
      try simp only [Act.put, List.getElem_toArray, List.getElem_cons_succ, List.getElem_cons_zero, List.setIfInBounds_toArray, List.set_cons_zero, List.set_cons_succ]
      refine wpAnyH_ready (rs := [3, 12]) (by kernel_rfl) (by simp) (AllReadyH.cons rfl (fun K hK => ?_) (AllReadyH.cons rfl (fun K hK => ?_) AllReadyH.nil))
      · go_simp
        rw [convK BK]
        go_simp
        refine hK.out _ _ ?_ (fun hHeld => ?_)
        · ((try dsimp only); (try dsimp only at hHeld); exact HS.out _ (by with_reducible repeat (first | exact Below.refl _ _ | exact hb7 | refine bto0 ?_ hb7 | refine bdr ?_ _ | refine Below.drew ?_ | refine ball ?_ _)))
        clear hK K
        try dsimp only at hHeld
        try simp only [Act.put, List.getElem_toArray, List.getElem_cons_succ, List.getElem_cons_zero, List.setIfInBounds_toArray, List.set_cons_zero, List.set_cons_succ]
        refine wpAnyH_take (i := 8) (v := ?_) rfl (by kernel_rfl) (by kernel_rfl) (by kernel_rfl) (fun _ _ _ h => h) (Or.inl ⟨rfl, ?_⟩) hHeld ?_
        rotate_left
        focus (intro wx hSw; (try dsimp only at hSw); (try go_split_ands); go_simp; (try with_reducible rfl))
        try simp only [Act.put, List.getElem_toArray, List.getElem_cons_succ, List.getElem_cons_zero, List.setIfInBounds_toArray, List.set_cons_zero, List.set_cons_succ]
        refine wpAnyH_ready (rs := [12]) (by kernel_rfl) (by simp) (AllReadyH.cons rfl (fun K hK => ?_) AllReadyH.nil)
        go_simp
        (go_at_call 68; (with_reducible refine (N4.out _).mono ?_); rintro e w12 ⟨rfl, hb12⟩)
        go_wp2_with fail
        refine hK.out _ _ ?_ (fun hHeld => ?_)
        · ((try dsimp only); (try dsimp only at hHeld); exact HS.out _ (by with_reducible repeat (first | exact Below.refl _ _ | exact hb7 | exact hb12 | refine bto0 ?_ hb7 | refine bto0 ?_ hb12 | refine bdr ?_ _ | refine Below.drew ?_ | refine ball ?_ _)))
        clear hK K
        try dsimp only at hHeld
        try simp only [Act.put, List.getElem_toArray, List.getElem_cons_succ, List.getElem_cons_zero, List.setIfInBounds_toArray, List.set_cons_zero, List.set_cons_succ]
        refine wpAnyH_take (i := 13) (v := ?_) rfl (by kernel_rfl) (by kernel_rfl) (by kernel_rfl) (fun _ _ _ h => h) (Or.inl ⟨rfl, ?_⟩) hHeld ?_
        rotate_left
        focus (intro wx hSw; (try dsimp only at hSw); (try go_split_ands); go_simp; (try with_reducible rfl))
        try simp only [Act.put, List.getElem_toArray, List.getElem_cons_succ, List.getElem_cons_zero, List.setIfInBounds_toArray, List.set_cons_zero, List.set_cons_succ]
        refine wpAnyH_take (i := 14) (v := ?_) rfl (by kernel_rfl) (by kernel_rfl) (by kernel_rfl) (fun _ _ _ h => h) (Or.inl ⟨rfl, ?_⟩) hHeld ?_
        rotate_left
        focus (intro wx hSw; (try dsimp only at hSw); (try go_split_ands); go_simp; (try with_reducible rfl))
        try simp only [Act.put, List.getElem_toArray, List.getElem_cons_succ, List.getElem_cons_zero, List.setIfInBounds_toArray, List.set_cons_zero, List.set_cons_succ]
        refine wpAnyH_done (by kernel_rfl) ?_ _
        clear hHeld
        go_wp2_with (go_at_call 22; refine (Z.out _).mono ?_; rintro e wz ⟨rfl, hbz⟩)
        go_ret
        exact ⟨by rw [FIN.out]; rfl, bto0 hb0 (by with_reducible repeat (first | exact Below.refl _ _ | exact hbz | exact hb12 | exact hb7 | refine bto0 ?_ hbz | refine bto0 ?_ hb12 | refine bto0 ?_ hb7 | refine bdr ?_ _ | refine Below.drew ?_ | refine ball ?_ _))⟩
      · go_simp
        (go_at_call 68; (with_reducible refine (N4.out _).mono ?_); rintro e w12 ⟨rfl, hb12⟩)
        have BK12 := BK.below hb12 BK.lt
        go_wp2_with fail
        refine hK.out _ _ ?_ (fun hHeld => ?_)
        · ((try dsimp only); (try dsimp only at hHeld); exact HS.out _ (by with_reducible repeat (first | exact Below.refl _ _ | exact hb7 | exact hb12 | refine bto0 ?_ hb7 | refine bto0 ?_ hb12 | refine bdr ?_ _ | refine Below.drew ?_ | refine ball ?_ _)))
        clear hK K
        try dsimp only at hHeld
        try simp only [Act.put, List.getElem_toArray, List.getElem_cons_succ, List.getElem_cons_zero, List.setIfInBounds_toArray, List.set_cons_zero, List.set_cons_succ]
        refine wpAnyH_ready (rs := [3]) (by kernel_rfl) (by simp) (AllReadyH.cons rfl (fun K hK => ?_) AllReadyH.nil)
        go_simp
        rw [convK BK12]
        go_simp
        refine hK.out _ _ ?_ (fun hHeld => ?_)
        · ((try dsimp only); (try dsimp only at hHeld); exact HS.out _ (by with_reducible repeat (first | exact Below.refl _ _ | exact hb7 | exact hb12 | refine bto0 ?_ hb7 | refine bto0 ?_ hb12 | refine bdr ?_ _ | refine Below.drew ?_ | refine ball ?_ _)))
        clear hK K
        try dsimp only at hHeld
        try simp only [Act.put, List.getElem_toArray, List.getElem_cons_succ, List.getElem_cons_zero, List.setIfInBounds_toArray, List.set_cons_zero, List.set_cons_succ]
        refine wpAnyH_take (i := 8) (v := ?_) rfl (by kernel_rfl) (by kernel_rfl) (by kernel_rfl) (fun _ _ _ h => h) (Or.inl ⟨rfl, ?_⟩) hHeld ?_
        rotate_left
        focus (intro wx hSw; (try dsimp only at hSw); (try go_split_ands); go_simp; (try with_reducible rfl))
        try simp only [Act.put, List.getElem_toArray, List.getElem_cons_succ, List.getElem_cons_zero, List.setIfInBounds_toArray, List.set_cons_zero, List.set_cons_succ]
        refine wpAnyH_take (i := 13) (v := ?_) rfl (by kernel_rfl) (by kernel_rfl) (by kernel_rfl) (fun _ _ _ h => h) (Or.inl ⟨rfl, ?_⟩) hHeld ?_
        rotate_left
        focus (intro wx hSw; (try dsimp only at hSw); (try go_split_ands); go_simp; (try with_reducible rfl))
        try simp only [Act.put, List.getElem_toArray, List.getElem_cons_succ, List.getElem_cons_zero, List.setIfInBounds_toArray, List.set_cons_zero, List.set_cons_succ]
        refine wpAnyH_take (i := 14) (v := ?_) rfl (by kernel_rfl) (by kernel_rfl) (by kernel_rfl) (fun _ _ _ h => h) (Or.inl ⟨rfl, ?_⟩) hHeld ?_
        rotate_left
        focus (intro wx hSw; (try dsimp only at hSw); (try go_split_ands); go_simp; (try with_reducible rfl))
        try simp only [Act.put, List.getElem_toArray, List.getElem_cons_succ, List.getElem_cons_zero, List.setIfInBounds_toArray, List.set_cons_zero, List.set_cons_succ]
        refine wpAnyH_done (by kernel_rfl) ?_ _
        clear hHeld
        go_wp2_with (go_at_call 22; refine (Z.out _).mono ?_; rintro e wz ⟨rfl, hbz⟩)
        go_ret
        exact ⟨by rw [FIN.out]; rfl, bto0 hb0 (by with_reducible repeat (first | exact Below.refl _ _ | exact hbz | exact hb12 | exact hb7 | refine bto0 ?_ hbz | refine bto0 ?_ hb12 | refine bto0 ?_ hb7 | refine bdr ?_ _ | refine Below.drew ?_ | refine ball ?_ _))⟩
    · go_simp
      (go_at_call 68; (with_reducible refine (N4.out _).mono ?_); rintro e w12 ⟨rfl, hb12⟩)
      go_wp2_with fail
      refine hK.out _ _ ?_ (fun hHeld => ?_)
      · ((try dsimp only); (try dsimp only at hHeld); exact HS.out _ (by with_reducible repeat (first | exact Below.refl _ _ | exact hb7 | exact hb12 | refine bto0 ?_ hb7 | refine bto0 ?_ hb12 | refine bdr ?_ _ | refine Below.drew ?_ | refine ball ?_ _)))
      clear hK K
      try dsimp only at hHeld
      try simp only [Act.put, List.getElem_toArray, List.getElem_cons_succ, List.getElem_cons_zero, List.setIfInBounds_toArray, List.set_cons_zero, List.set_cons_succ]
      refine wpAnyH_ready (rs := [2]) (by kernel_rfl) (by simp) (AllReadyH.cons rfl (fun K hK => ?_) AllReadyH.nil)
      go_simp
      have BK : Blk _ _ 5 #[.int .u8 (k.toNat : Int), .int .u8 0] := Blk.new w12 5 _
      refine hK.out _ _ ?_ (fun hHeld => ?_)
      · ((try dsimp only); (try dsimp only at hHeld); exact HS.out _ (by with_reducible repeat (first | exact Below.refl _ _ | exact hb7 | exact hb12 | refine bto0 ?_ hb7 | refine bto0 ?_ hb12 | refine bdr ?_ _ | refine Below.drew ?_ | refine ball ?_ _)))
      clear hK K
      try dsimp only at hHeld
      try simp only [Act.put, List.getElem_toArray, List.getElem_cons_succ, List.getElem_cons_zero, List.setIfInBounds_toArray, List.set_cons_zero, List.set_cons_succ]
      refine wpAnyH_ready (rs := [3]) (by kernel_rfl) (by simp) (AllReadyH.cons rfl (fun K hK => ?_) AllReadyH.nil)
      go_simp
      rw [convK BK]
      go_simp
      refine hK.out _ _ ?_ (fun hHeld => ?_)
      · ((try dsimp only); (try dsimp only at hHeld); exact HS.out _ (by with_reducible repeat (first | exact Below.refl _ _ | exact hb7 | exact hb12 | refine bto0 ?_ hb7 | refine bto0 ?_ hb12 | refine bdr ?_ _ | refine Below.drew ?_ | refine ball ?_ _)))
      clear hK K
      try dsimp only at hHeld
      try simp only [Act.put, List.getElem_toArray, List.getElem_cons_succ, List.getElem_cons_zero, List.setIfInBounds_toArray, List.set_cons_zero, List.set_cons_succ]
      refine wpAnyH_take (i := 8) (v := ?_) rfl (by kernel_rfl) (by kernel_rfl) (by kernel_rfl) (fun _ _ _ h => h) (Or.inl ⟨rfl, ?_⟩) hHeld ?_
      rotate_left
      focus (intro wx hSw; (try dsimp only at hSw); (try go_split_ands); go_simp; (try with_reducible rfl))
      try simp only [Act.put, List.getElem_toArray, List.getElem_cons_succ, List.getElem_cons_zero, List.setIfInBounds_toArray, List.set_cons_zero, List.set_cons_succ]
      refine wpAnyH_take (i := 13) (v := ?_) rfl (by kernel_rfl) (by kernel_rfl) (by kernel_rfl) (fun _ _ _ h => h) (Or.inl ⟨rfl, ?_⟩) hHeld ?_
      rotate_left
      focus (intro wx hSw; (try dsimp only at hSw); (try go_split_ands); go_simp; (try with_reducible rfl))
      try simp only [Act.put, List.getElem_toArray, List.getElem_cons_succ, List.getElem_cons_zero, List.setIfInBounds_toArray, List.set_cons_zero, List.set_cons_succ]
      refine wpAnyH_take (i := 14) (v := ?_) rfl (by kernel_rfl) (by kernel_rfl) (by kernel_rfl) (fun _ _ _ h => h) (Or.inl ⟨rfl, ?_⟩) hHeld ?_
      rotate_left
      focus (intro wx hSw; (try dsimp only at hSw); (try go_split_ands); go_simp; (try with_reducible rfl))
      try simp only [Act.put, List.getElem_toArray, List.getElem_cons_succ, List.getElem_cons_zero, List.setIfInBounds_toArray, List.set_cons_zero, List.set_cons_succ]
      refine wpAnyH_done (by kernel_rfl) ?_ _
      clear hHeld
      go_wp2_with (go_at_call 22; refine (Z.out _).mono ?_; rintro e wz ⟨rfl, hbz⟩)
      go_ret
      exact ⟨by rw [FIN.out]; rfl, bto0 hb0 (by with_reducible repeat (first | exact Below.refl _ _ | exact hbz | exact hb12 | exact hb7 | refine bto0 ?_ hbz | refine bto0 ?_ hb12 | refine bto0 ?_ hb7 | refine bdr ?_ _ | refine Below.drew ?_ | refine ball ?_ _))⟩
end
end Go.Proofs.Ytdimkeoncgjegaa

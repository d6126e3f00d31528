/-
  The law DiskHeads.
-/
import Derived.Test.YtcpbkaeilmabaaaDo
import Derived.Test.YtcpbkaeilmabaaaOz
namespace Go.Proofs.Ytcpbkaeilmabaaa
open Go.RowKit

theorem z512_len : z512.length = 512 := List.length_replicate
theorem reads_take {w : World} {B n k : Nat} {A : Option Addr} {l : List UInt8} (h : Reads w B 1 A n (bL l)) (hk : k ≤ n) : Reads w B 1 A k (bL (l.take k)) := by
  have := h.takec k hk
  rw [Nat.mul_one] at this
  have e : bL (l.take k) = (bL l).take k := by simp [bL, List.map_take]
  rw [e]
  exact this
theorem own_z {w : World} {b : Nat} {v : Value} {L : List UInt8} (h : Own w b v (L ++ List.replicate 512 0)) : Own w b v (L ++ z512) := by unfold z512; exact h
theorem headL_get1 (k : UInt8) (c n : Nat) : (headL k c n)[1]? = some 0 := rfl
theorem headL_ok (k : UInt8) (c n : Nat) : hdOk (headL k c n) = true := by
  unfold hdOk
  rw [show (headL k c n).length = 512 from headP_len k c n 4 (by omega), headL_get1]; rfl
theorem headL_v (k : UInt8) (c n : Nat) (hc : c < 65536) (hn : n < 4294967296) : hdV (headL k c n) = .agg #[.int .u8 (k.toNat : Int), .int .u16 (c : Int), .int .u32 (n : Int)] := by
  unfold hdV
  rw [headL_ok, if_pos rfl]
  have e1 : hdK (headL k c n) = k.toNat := rfl
  have e2 : hdC (headL k c n) = c := by
    unfold hdC
    have : ((headL k c n).drop 2).take 2 = be 2 c := by
      unfold headL headP
      rw [List.append_assoc, List.append_assoc]
      show ((be 2 c) ++ _).take 2 = _
      exact List.take_left' (be_len _ _)
    rw [this, beVal_be]; omega
  have e3 : hdN (headL k c n) = n := by
    unfold hdN
    have : ((headL k c n).drop 4).take 4 = be 4 n := by
      unfold headL headP
      have h4 : ([k, 0] ++ be 2 c).length = 4 := by simp [be_len]
      have ht : (be 4 n).take 4 = be 4 n := List.take_of_length_le (by rw [be_len]; omega)
      rw [List.append_assoc, List.drop_left' h4, ht]
      exact List.take_left' (be_len _ _)
    rw [this, beVal_be]; omega
  rw [e1, e2, e3]
theorem hdV_form (l : List UInt8) : ∃ x y z : Int, hdV l = .agg #[.int .u8 x, .int .u16 y, .int .u32 z] := by
  unfold hdV
  split <;> exact ⟨_, _, _, rfl⟩
theorem convP {W : World} {g : Nat} {k : UInt8} {c n : Nat} (h : Blk W g 5 (bV (headL k c n))) : (convert 37 9 (.slice (some ⟨g, 0, none⟩) 512 512)).run Try.prog W = .ok (.string (str (headL k c n))) W :=
  conv_blk h _ 5 _ Try.underlying37 Try.underlying5 Try.underlying9 512 512 (headP_len k c n 4 (by omega))
theorem reads_b {w : World} {g n : Nat} {t : TypeId} {l : List UInt8} (h : Blk w g t (bV l)) (hn : l.length = n) : Reads w w.heap.size 1 (some ⟨g, 0, none⟩) n (bL l) := by
  refine ⟨by rw [bL_len]; omega, fun _ => ⟨_, rfl, h.lt, fun j u hu => ?_⟩⟩
  rw [add_head, h.cell, bV, List.getElem?_toArray]
  exact hu
set_option maxRecDepth 100000 in
set_option maxHeartbeats 2000000 in
theorem lawHeads_out (k : UInt8) (c n : Nat) (A : Option Addr) (m cap : Nat) (wh : Bool) (w : World) (hm : 600 < m) (hm2 : m ≤ 9223372036854775807) :
    Calls Try.prog 5 #[.agg #[.int .u8 (k.toNat : Int), .int .u16 c, .int .u32 n], .slice A m cap, .bool wh] w (RetB w (.bool true)) := by
  have FX := Lib.hid dfixed_any
  have hmI : (600 : Int) < (m : Int) := by omega
  go_enter Try.func5, Try.ntmps5
  go_wp2_with (go_at_call 15; refine (FX.out _).mono ?_; rintro e w1 ⟨rfl, hb1⟩)
  go_ret
  exact ⟨rfl, bto0 (ball (Below.refl _ _) _) hb1⟩

set_option maxRecDepth 100000 in
set_option maxHeartbeats 8000000 in
theorem lawHeads_no (k : UInt8) (c n : Nat) (hc : c < 65536) (hn : n < 4294967296) (A : Option Addr) (m cap : Nat) (L : List UInt8) (w : World) (hr : Reads w w.heap.size 1 A m (bL L)) (hm : m ≤ 600) :
    Calls Try.prog 5 #[.agg #[.int .u8 (k.toNat : Int), .int .u16 c, .int .u32 n], .slice A m cap, .bool false] w (RetB w (.bool true)) := by
  have FX := Lib.hid dfixed_any
  have Hm := Lib.hid hr.bytes_len
  have hmI : (m : Int) ≤ 600 := by omega
  have PP := Lib.hid fun W => dput_any k c n hc hn W
  have RH := Lib.hid fun W => rhead_any k c n hc hn W
  have hok := Lib.hid (headL_ok k c n)
  have hvv := Lib.hid (headL_v k c n hc hn)
  have hll := Lib.hid (headP_len k c n 4 (by omega))
  have X0 := Blk.new w 57 #[.int .u8 (k.toNat : Int), .int .u16 c, .int .u32 n]
  have hb0 : Below w.heap.size w (w.alloc (.cells #[.int .u8 (k.toNat : Int), .int .u16 c, .int .u32 n] 57)) := ball (Below.refl _ _) _
  have hz0 : w.heap.size < (w.alloc (.cells #[.int .u8 (k.toNat : Int), .int .u16 c, .int .u32 n] 57)).heap.size := by simp
  have HX0 := Lib.hid (And.intro X0 hb0)
  clear X0 hb0
  go_enter Try.func5, Try.ntmps5
  go_wp2_with fail
  refine (PP.out _).mono ?_
  rintro e w1 ⟨g, rfl, B1, hg1, hb1⟩
  have X1 := HX0.out.1.below hb1 hz0
  have hb01 := bto0 HX0.out.2 hb1
  have G1 := Lib.hid (dget_any (some ⟨g, 0, none⟩) 512 512 _ (headL k c n) w1 (reads_b B1 hll.out) (Nat.le_refl _) (by omega))
  clear HX0 hz0
  go_wp2_with fail
  refine G1.out.mono ?_
  rintro e w2 ⟨rfl, hb2⟩
  rw [hok.out, hvv.out]
  have X3 := (X1.below hb2 X1.lt).alloc (.cells #[.int .u8 (k.toNat : Int), .int .u16 c, .int .u32 n] 57)
  have B3 := (B1.below hb2 B1.lt).alloc (.cells #[.int .u8 (k.toNat : Int), .int .u16 c, .int .u32 n] 57)
  have X8 := Blk.new w2 57 #[.int .u8 (k.toNat : Int), .int .u16 c, .int .u32 n]
  have hb03 := ball (bto0 hb01 hb2) (.cells #[.int .u8 (k.toNat : Int), .int .u16 c, .int .u32 n] 57)
  have HP3 := Lib.hid (And.intro X3 (And.intro B3 (And.intro X8 hb03)))
  clear X1 B1 X3 B3 X8 hb03 G1 hb01
  go_wp2
  obtain ⟨X3, B3, X8, hb03⟩ := HP3.out
  obtain ⟨W3, hW3⟩ : ∃ W3, w2.alloc (.cells #[.int .u8 (k.toNat : Int), .int .u16 c, .int .u32 n] 57) = W3 := ⟨_, rfl⟩
  rw [hW3] at X3 B3 X8 hb03 ⊢
  have HS : Hid (∀ W, Below W3.heap.size W3 W → W.cell? ⟨w.heap.size, 0, none⟩ = some (.int .u8 (k.toNat : Int)) ∧ W.cell? ⟨w.heap.size, 1, none⟩ = some (.int .u16 (c : Int)) ∧ W.cell? ⟨w.heap.size, 2, none⟩ = some (.int .u32 (n : Int)) ∧ W.cell? ⟨w2.heap.size, 0, none⟩ = some (.int .u8 (k.toNat : Int)) ∧ W.cell? ⟨w2.heap.size, 1, none⟩ = some (.int .u16 (c : Int)) ∧ W.cell? ⟨w2.heap.size, 2, none⟩ = some (.int .u32 (n : Int))) := fun W hW =>
    ⟨(X3.below hW X3.lt).cell 0, (X3.below hW X3.lt).cell 1, (X3.below hW X3.lt).cell 2, (X8.below hW X8.lt).cell 0, (X8.below hW X8.lt).cell 1, (X8.below hW X8.lt).cell 2⟩
  clear hW3 X3 X8
  refine wp_region_held_drew (S := (fun w' => w'.cell? ⟨w.heap.size, 0, none⟩ = some (.int .u8 (k.toNat : Int)) ∧ w'.cell? ⟨w.heap.size, 1, none⟩ = some (.int .u16 (c : Int)) ∧ w'.cell? ⟨w.heap.size, 2, none⟩ = some (.int .u32 (n : Int)) ∧ w'.cell? ⟨w2.heap.size, 0, none⟩ = some (.int .u8 (k.toNat : Int)) ∧ w'.cell? ⟨w2.heap.size, 1, none⟩ = some (.int .u16 (c : Int)) ∧ w'.cell? ⟨w2.heap.size, 2, none⟩ = some (.int .u32 (n : Int)))) (by kernel_rfl) (HS.out _ (bdr (Below.refl _ _) _)) (fun hHeld => ?_)
  try dsimp only at hHeld
  refine wpAnyH_take (i := 0) (v := ?_) rfl (by kernel_rfl) (by kernel_rfl) (by kernel_rfl) (fun _ _ _ h => h) (Or.inl ⟨rfl, ?_⟩) hHeld ?_
  rotate_left
  focus (intro wx hSw; (try dsimp only at hSw); (try go_split_ands); go_simp; (try with_reducible rfl))
  try simp only [Act.put, List.getElem_toArray, List.getElem_cons_succ, List.getElem_cons_zero, List.setIfInBounds_toArray, List.set_cons_zero, List.set_cons_succ]
  refine wpAnyH_take (i := 2) (v := ?_) rfl (by kernel_rfl) (by kernel_rfl) (by kernel_rfl) (fun _ _ _ h => h) (Or.inl ⟨rfl, ?_⟩) hHeld ?_
  rotate_left
  focus (intro wx hSw; (try dsimp only at hSw); (try go_split_ands); go_simp; (try with_reducible rfl))
  try simp only [Act.put, List.getElem_toArray, List.getElem_cons_succ, List.getElem_cons_zero, List.setIfInBounds_toArray, List.set_cons_zero, List.set_cons_succ]
  refine wpAnyH_ready (rs := [1, 3]) (by kernel_rfl) (by simp) (AllReadyH.cons rfl (fun K hK => ?_) (AllReadyH.cons rfl (fun K hK => ?_) AllReadyH.nil))
  · go_simp
    rw [convP B3.drew]
    go_simp
    refine hK.out _ _ ?_ (fun hHeld => ?_)
    · ((try dsimp only); (try dsimp only at hHeld); exact HS.out _ (by with_reducible repeat (first | exact Below.refl _ _ | refine bdr ?_ _ | refine Below.drew ?_ | refine ball ?_ _)))
    clear hK K
    try dsimp only at hHeld
    try simp only [Act.put, List.getElem_toArray, List.getElem_cons_succ, List.getElem_cons_zero, List.setIfInBounds_toArray, List.set_cons_zero, List.set_cons_succ]
    refine wpAnyH_ready (rs := [3]) (by kernel_rfl) (by simp) (AllReadyH.cons rfl (fun K hK => ?_) AllReadyH.nil)
    go_simp
    (go_at_call 31; (with_reducible refine (RH.out _).mono ?_); rintro e w4 ⟨rfl, hb4⟩)
    have BK4 := B3.drew.below hb4 B3.drew.lt
    go_wp2_with fail
    refine hK.out _ _ ?_ (fun hHeld => ?_)
    · ((try dsimp only); (try dsimp only at hHeld); exact HS.out _ (by with_reducible repeat (first | exact Below.refl _ _ | exact hb4 | refine bto0 ?_ hb4 | refine bdr ?_ _ | refine Below.drew ?_ | refine ball ?_ _)))
    clear hK K
    try dsimp only at hHeld
    try simp only [Act.put, List.getElem_toArray, List.getElem_cons_succ, List.getElem_cons_zero, List.setIfInBounds_toArray, List.set_cons_zero, List.set_cons_succ]
    refine wpAnyH_take (i := 4) (v := ?_) rfl (by kernel_rfl) (by kernel_rfl) (by kernel_rfl) (fun _ _ _ h => h) (Or.inl ⟨rfl, ?_⟩) hHeld ?_
    rotate_left
    focus (intro wx hSw; (try dsimp only at hSw); (try go_split_ands); go_simp; (try with_reducible rfl))
    try simp only [Act.put, List.getElem_toArray, List.getElem_cons_succ, List.getElem_cons_zero, List.setIfInBounds_toArray, List.set_cons_zero, List.set_cons_succ]
    refine wpAnyH_take (i := 5) (v := ?_) rfl (by kernel_rfl) (by kernel_rfl) (by kernel_rfl) (fun _ _ _ h => h) (Or.inl ⟨rfl, ?_⟩) hHeld ?_
    rotate_left
    focus (intro wx hSw; (try dsimp only at hSw); (try go_split_ands); go_simp; (try with_reducible rfl))
    try simp only [Act.put, List.getElem_toArray, List.getElem_cons_succ, List.getElem_cons_zero, List.setIfInBounds_toArray, List.set_cons_zero, List.set_cons_succ]
    refine wpAnyH_take (i := 6) (v := ?_) rfl (by kernel_rfl) (by kernel_rfl) (by kernel_rfl) (fun _ _ _ h => h) (Or.inl ⟨rfl, ?_⟩) hHeld ?_
    rotate_left
    focus (intro wx hSw; (try dsimp only at hSw); (try go_split_ands); go_simp; (try with_reducible rfl))
    try simp only [Act.put, List.getElem_toArray, List.getElem_cons_succ, List.getElem_cons_zero, List.setIfInBounds_toArray, List.set_cons_zero, List.set_cons_succ]
    refine wpAnyH_take (i := 7) (v := ?_) rfl (by kernel_rfl) (by kernel_rfl) (by kernel_rfl) (fun _ _ _ h => h) (Or.inl ⟨rfl, ?_⟩) hHeld ?_
    rotate_left
    focus (intro wx hSw; (try dsimp only at hSw); (try go_split_ands); go_simp; (try with_reducible rfl))
    try simp only [Act.put, List.getElem_toArray, List.getElem_cons_succ, List.getElem_cons_zero, List.setIfInBounds_toArray, List.set_cons_zero, List.set_cons_succ]
    refine wpAnyH_take (i := 8) (v := ?_) rfl (by kernel_rfl) (by kernel_rfl) (by kernel_rfl) (fun _ _ _ h => h) (Or.inl ⟨rfl, ?_⟩) hHeld ?_
    rotate_left
    focus (intro wx hSw; (try dsimp only at hSw); (try go_split_ands); go_simp; (try with_reducible rfl))
    try simp only [Act.put, List.getElem_toArray, List.getElem_cons_succ, List.getElem_cons_zero, List.setIfInBounds_toArray, List.set_cons_zero, List.set_cons_succ]
    refine wpAnyH_take (i := 9) (v := ?_) rfl (by kernel_rfl) (by kernel_rfl) (by kernel_rfl) (fun _ _ _ h => h) (Or.inl ⟨rfl, ?_⟩) hHeld ?_
    rotate_left
    focus (intro wx hSw; (try dsimp only at hSw); (try go_split_ands); go_simp; (try with_reducible rfl))
    try simp only [Act.put, List.getElem_toArray, List.getElem_cons_succ, List.getElem_cons_zero, List.setIfInBounds_toArray, List.set_cons_zero, List.set_cons_succ]
    refine wpAnyH_take (i := 10) (v := ?_) rfl (by kernel_rfl) (by kernel_rfl) (by kernel_rfl) (fun _ _ _ h => h) (Or.inl ⟨rfl, ?_⟩) hHeld ?_
    rotate_left
    focus (intro wx hSw; (try dsimp only at hSw); (try go_split_ands); go_simp; (try with_reducible rfl))
    try simp only [Act.put, List.getElem_toArray, List.getElem_cons_succ, List.getElem_cons_zero, List.setIfInBounds_toArray, List.set_cons_zero, List.set_cons_succ]
    refine wpAnyH_take (i := 11) (v := ?_) rfl (by kernel_rfl) (by kernel_rfl) (by kernel_rfl) (fun _ _ _ h => h) (Or.inl ⟨rfl, ?_⟩) hHeld ?_
    rotate_left
    focus (intro wx hSw; (try dsimp only at hSw); (try go_split_ands); go_simp; (try with_reducible rfl))
    try simp only [Act.put, List.getElem_toArray, List.getElem_cons_succ, List.getElem_cons_zero, List.setIfInBounds_toArray, List.set_cons_zero, List.set_cons_succ]
    refine wpAnyH_take (i := 12) (v := ?_) rfl (by kernel_rfl) (by kernel_rfl) (by kernel_rfl) (fun _ _ _ h => h) (Or.inl ⟨rfl, ?_⟩) hHeld ?_
    rotate_left
    focus (intro wx hSw; (try dsimp only at hSw); (try go_split_ands); go_simp; (try with_reducible rfl))
    try simp only [Act.put, List.getElem_toArray, List.getElem_cons_succ, List.getElem_cons_zero, List.setIfInBounds_toArray, List.set_cons_zero, List.set_cons_succ]
    refine wpAnyH_take (i := 13) (v := ?_) rfl (by kernel_rfl) (by kernel_rfl) (by kernel_rfl) (fun _ _ _ h => h) (Or.inl ⟨rfl, ?_⟩) hHeld ?_
    rotate_left
    focus (intro wx hSw; (try dsimp only at hSw); (try go_split_ands); go_simp; (try with_reducible rfl))
    try simp only [Act.put, List.getElem_toArray, List.getElem_cons_succ, List.getElem_cons_zero, List.setIfInBounds_toArray, List.set_cons_zero, List.set_cons_succ]
    refine wpAnyH_done (by kernel_rfl) ?_ _
    clear hHeld
    have hbW : Below w.heap.size w w4 := bto0 hb03 (by with_reducible repeat (first | exact Below.refl _ _ | exact hb4 | refine bto0 ?_ hb4 | refine bdr ?_ _ | refine Below.drew ?_ | refine ball ?_ _))
    have hrd4 := (hr.below hbW).more hbW.size
    have G := Lib.hid (dget_any A m cap _ L w4 hrd4 (Nat.le_refl _) (by omega))
    go_wp2_with fail
    (with_reducible refine G.out.mono ?_)
    rintro e w5 ⟨rfl, hb5⟩
    obtain ⟨hx, hy, hz, hE⟩ := hdV_form L
    have HE := Lib.hid hE; clear hE
    rw [HE.out]
    have hrd6 : ∀ o, Reads (w5.alloc o) w4.heap.size 1 A m (bL L) := fun o => (hrd4.below hb5).alloc hb5.size o
    have cvb := conv_reads (P := Try.prog) (hrd6 (.cells #[.int .u8 hx, .int .u16 hy, .int .u32 hz] 57)) 37 5 9 Try.underlying37 Try.underlying5 Try.underlying9 cap
    clear hrd6
    have G2 := Lib.hid fun W => rhget_any L (by have := Hm.out; omega) W
    have XX := Blk.new w5 57 #[.int .u8 hx, .int .u16 hy, .int .u32 hz]
    have hz6 : w5.heap.size < (w5.alloc (.cells #[.int .u8 hx, .int .u16 hy, .int .u32 hz] 57)).heap.size := by simp
    go_wp2_with fail
    refine (G2.out _).mono ?_
    rintro e w7 ⟨rfl, hb7⟩
    rw [HE.out]
    have XY := (XX.below hb7 hz6).alloc (.cells #[.int .u8 hx, .int .u16 hy, .int .u32 hz] 57)
    have XZ := Blk.new w7 57 #[.int .u8 hx, .int .u16 hy, .int .u32 hz]
    have HXY := Lib.hid (And.intro XY XZ)
    clear XX XY XZ cvb hz6
    go_wp2_with (go_at_call 15; refine (FX.out _).mono ?_; rintro e w8 ⟨rfl, hb8⟩; have y0 := (HXY.out.1.below hb8 HXY.out.1.lt); have z0 := (HXY.out.2.below hb8 HXY.out.2.lt); have p0 := y0.cell 0; have p1 := y0.cell 1; have p2 := y0.cell 2; have r0 := z0.cell 0; have r1 := z0.cell 1; have r2 := z0.cell 2)
    go_ret
    exact ⟨rfl, bto0 (ball (bto0 (ball (bto0 hbW hb5) _) hb7) _) hb8⟩
  · go_simp
    (go_at_call 31; (with_reducible refine (RH.out _).mono ?_); rintro e w4 ⟨rfl, hb4⟩)
    have BK4 := B3.drew.below hb4 B3.drew.lt
    go_wp2_with fail
    refine hK.out _ _ ?_ (fun hHeld => ?_)
    · ((try dsimp only); (try dsimp only at hHeld); exact HS.out _ (by with_reducible repeat (first | exact Below.refl _ _ | exact hb4 | refine bto0 ?_ hb4 | refine bdr ?_ _ | refine Below.drew ?_ | refine ball ?_ _)))
    clear hK K
    try dsimp only at hHeld
    try simp only [Act.put, List.getElem_toArray, List.getElem_cons_succ, List.getElem_cons_zero, List.setIfInBounds_toArray, List.set_cons_zero, List.set_cons_succ]
    refine wpAnyH_ready (rs := [1]) (by kernel_rfl) (by simp) (AllReadyH.cons rfl (fun K hK => ?_) AllReadyH.nil)
    go_simp
    rw [convP BK4]
    go_simp
    refine hK.out _ _ ?_ (fun hHeld => ?_)
    · ((try dsimp only); (try dsimp only at hHeld); exact HS.out _ (by with_reducible repeat (first | exact Below.refl _ _ | exact hb4 | refine bto0 ?_ hb4 | refine bdr ?_ _ | refine Below.drew ?_ | refine ball ?_ _)))
    clear hK K
    try dsimp only at hHeld
    try simp only [Act.put, List.getElem_toArray, List.getElem_cons_succ, List.getElem_cons_zero, List.setIfInBounds_toArray, List.set_cons_zero, List.set_cons_succ]
    refine wpAnyH_take (i := 4) (v := ?_) rfl (by kernel_rfl) (by kernel_rfl) (by kernel_rfl) (fun _ _ _ h => h) (Or.inl ⟨rfl, ?_⟩) hHeld ?_
    rotate_left
    focus (intro wx hSw; (try dsimp only at hSw); (try go_split_ands); go_simp; (try with_reducible rfl))
    try simp only [Act.put, List.getElem_toArray, List.getElem_cons_succ, List.getElem_cons_zero, List.setIfInBounds_toArray, List.set_cons_zero, List.set_cons_succ]
    refine wpAnyH_take (i := 5) (v := ?_) rfl (by kernel_rfl) (by kernel_rfl) (by kernel_rfl) (fun _ _ _ h => h) (Or.inl ⟨rfl, ?_⟩) hHeld ?_
    rotate_left
    focus (intro wx hSw; (try dsimp only at hSw); (try go_split_ands); go_simp; (try with_reducible rfl))
    try simp only [Act.put, List.getElem_toArray, List.getElem_cons_succ, List.getElem_cons_zero, List.setIfInBounds_toArray, List.set_cons_zero, List.set_cons_succ]
    refine wpAnyH_take (i := 6) (v := ?_) rfl (by kernel_rfl) (by kernel_rfl) (by kernel_rfl) (fun _ _ _ h => h) (Or.inl ⟨rfl, ?_⟩) hHeld ?_
    rotate_left
    focus (intro wx hSw; (try dsimp only at hSw); (try go_split_ands); go_simp; (try with_reducible rfl))
    try simp only [Act.put, List.getElem_toArray, List.getElem_cons_succ, List.getElem_cons_zero, List.setIfInBounds_toArray, List.set_cons_zero, List.set_cons_succ]
    refine wpAnyH_take (i := 7) (v := ?_) rfl (by kernel_rfl) (by kernel_rfl) (by kernel_rfl) (fun _ _ _ h => h) (Or.inl ⟨rfl, ?_⟩) hHeld ?_
    rotate_left
    focus (intro wx hSw; (try dsimp only at hSw); (try go_split_ands); go_simp; (try with_reducible rfl))
    try simp only [Act.put, List.getElem_toArray, List.getElem_cons_succ, List.getElem_cons_zero, List.setIfInBounds_toArray, List.set_cons_zero, List.set_cons_succ]
    refine wpAnyH_take (i := 8) (v := ?_) rfl (by kernel_rfl) (by kernel_rfl) (by kernel_rfl) (fun _ _ _ h => h) (Or.inl ⟨rfl, ?_⟩) hHeld ?_
    rotate_left
    focus (intro wx hSw; (try dsimp only at hSw); (try go_split_ands); go_simp; (try with_reducible rfl))
    try simp only [Act.put, List.getElem_toArray, List.getElem_cons_succ, List.getElem_cons_zero, List.setIfInBounds_toArray, List.set_cons_zero, List.set_cons_succ]
    refine wpAnyH_take (i := 9) (v := ?_) rfl (by kernel_rfl) (by kernel_rfl) (by kernel_rfl) (fun _ _ _ h => h) (Or.inl ⟨rfl, ?_⟩) hHeld ?_
    rotate_left
    focus (intro wx hSw; (try dsimp only at hSw); (try go_split_ands); go_simp; (try with_reducible rfl))
    try simp only [Act.put, List.getElem_toArray, List.getElem_cons_succ, List.getElem_cons_zero, List.setIfInBounds_toArray, List.set_cons_zero, List.set_cons_succ]
    refine wpAnyH_take (i := 10) (v := ?_) rfl (by kernel_rfl) (by kernel_rfl) (by kernel_rfl) (fun _ _ _ h => h) (Or.inl ⟨rfl, ?_⟩) hHeld ?_
    rotate_left
    focus (intro wx hSw; (try dsimp only at hSw); (try go_split_ands); go_simp; (try with_reducible rfl))
    try simp only [Act.put, List.getElem_toArray, List.getElem_cons_succ, List.getElem_cons_zero, List.setIfInBounds_toArray, List.set_cons_zero, List.set_cons_succ]
    refine wpAnyH_take (i := 11) (v := ?_) rfl (by kernel_rfl) (by kernel_rfl) (by kernel_rfl) (fun _ _ _ h => h) (Or.inl ⟨rfl, ?_⟩) hHeld ?_
    rotate_left
    focus (intro wx hSw; (try dsimp only at hSw); (try go_split_ands); go_simp; (try with_reducible rfl))
    try simp only [Act.put, List.getElem_toArray, List.getElem_cons_succ, List.getElem_cons_zero, List.setIfInBounds_toArray, List.set_cons_zero, List.set_cons_succ]
    refine wpAnyH_take (i := 12) (v := ?_) rfl (by kernel_rfl) (by kernel_rfl) (by kernel_rfl) (fun _ _ _ h => h) (Or.inl ⟨rfl, ?_⟩) hHeld ?_
    rotate_left
    focus (intro wx hSw; (try dsimp only at hSw); (try go_split_ands); go_simp; (try with_reducible rfl))
    try simp only [Act.put, List.getElem_toArray, List.getElem_cons_succ, List.getElem_cons_zero, List.setIfInBounds_toArray, List.set_cons_zero, List.set_cons_succ]
    refine wpAnyH_take (i := 13) (v := ?_) rfl (by kernel_rfl) (by kernel_rfl) (by kernel_rfl) (fun _ _ _ h => h) (Or.inl ⟨rfl, ?_⟩) hHeld ?_
    rotate_left
    focus (intro wx hSw; (try dsimp only at hSw); (try go_split_ands); go_simp; (try with_reducible rfl))
    try simp only [Act.put, List.getElem_toArray, List.getElem_cons_succ, List.getElem_cons_zero, List.setIfInBounds_toArray, List.set_cons_zero, List.set_cons_succ]
    refine wpAnyH_done (by kernel_rfl) ?_ _
    clear hHeld
    have hbW : Below w.heap.size w w4 := bto0 hb03 (by with_reducible repeat (first | exact Below.refl _ _ | exact hb4 | refine bto0 ?_ hb4 | refine bdr ?_ _ | refine Below.drew ?_ | refine ball ?_ _))
    have hrd4 := (hr.below hbW).more hbW.size
    have G := Lib.hid (dget_any A m cap _ L w4 hrd4 (Nat.le_refl _) (by omega))
    go_wp2_with fail
    (with_reducible refine G.out.mono ?_)
    rintro e w5 ⟨rfl, hb5⟩
    obtain ⟨hx, hy, hz, hE⟩ := hdV_form L
    have HE := Lib.hid hE; clear hE
    rw [HE.out]
    have hrd6 : ∀ o, Reads (w5.alloc o) w4.heap.size 1 A m (bL L) := fun o => (hrd4.below hb5).alloc hb5.size o
    have cvb := conv_reads (P := Try.prog) (hrd6 (.cells #[.int .u8 hx, .int .u16 hy, .int .u32 hz] 57)) 37 5 9 Try.underlying37 Try.underlying5 Try.underlying9 cap
    clear hrd6
    have G2 := Lib.hid fun W => rhget_any L (by have := Hm.out; omega) W
    have XX := Blk.new w5 57 #[.int .u8 hx, .int .u16 hy, .int .u32 hz]
    have hz6 : w5.heap.size < (w5.alloc (.cells #[.int .u8 hx, .int .u16 hy, .int .u32 hz] 57)).heap.size := by simp
    go_wp2_with fail
    refine (G2.out _).mono ?_
    rintro e w7 ⟨rfl, hb7⟩
    rw [HE.out]
    have XY := (XX.below hb7 hz6).alloc (.cells #[.int .u8 hx, .int .u16 hy, .int .u32 hz] 57)
    have XZ := Blk.new w7 57 #[.int .u8 hx, .int .u16 hy, .int .u32 hz]
    have HXY := Lib.hid (And.intro XY XZ)
    clear XX XY XZ cvb hz6
    go_wp2_with (go_at_call 15; refine (FX.out _).mono ?_; rintro e w8 ⟨rfl, hb8⟩; have y0 := (HXY.out.1.below hb8 HXY.out.1.lt); have z0 := (HXY.out.2.below hb8 HXY.out.2.lt); have p0 := y0.cell 0; have p1 := y0.cell 1; have p2 := y0.cell 2; have r0 := z0.cell 0; have r1 := z0.cell 1; have r2 := z0.cell 2)
    go_ret
    exact ⟨rfl, bto0 (ball (bto0 (ball (bto0 hbW hb5) _) hb7) _) hb8⟩

set_option maxRecDepth 100000 in
set_option maxHeartbeats 8000000 in
theorem lawHeads_yes (k : UInt8) (c n : Nat) (hc : c < 65536) (hn : n < 4294967296) (A : Option Addr) (m cap : Nat) (L : List UInt8) (w : World) (hr : Reads w w.heap.size 1 A m (bL L)) (hm : m ≤ 600) :
    Calls Try.prog 5 #[.agg #[.int .u8 (k.toNat : Int), .int .u16 c, .int .u32 n], .slice A m cap, .bool true] w (RetB w (.bool true)) := by
  have FX := Lib.hid dfixed_any
  have Hm := Lib.hid hr.bytes_len
  have hmI : (m : Int) ≤ 600 := by omega
  have PP := Lib.hid fun W => dput_any k c n hc hn W
  have RH := Lib.hid fun W => rhead_any k c n hc hn W
  have hok := Lib.hid (headL_ok k c n)
  have hvv := Lib.hid (headL_v k c n hc hn)
  have hll := Lib.hid (headP_len k c n 4 (by omega))
  have X0 := Blk.new w 57 #[.int .u8 (k.toNat : Int), .int .u16 c, .int .u32 n]
  have hb0 : Below w.heap.size w (w.alloc (.cells #[.int .u8 (k.toNat : Int), .int .u16 c, .int .u32 n] 57)) := ball (Below.refl _ _) _
  have hz0 : w.heap.size < (w.alloc (.cells #[.int .u8 (k.toNat : Int), .int .u16 c, .int .u32 n] 57)).heap.size := by simp
  have HX0 := Lib.hid (And.intro X0 hb0)
  clear X0 hb0
  go_enter Try.func5, Try.ntmps5
  go_wp2_with fail
  refine (PP.out _).mono ?_
  rintro e w1 ⟨g, rfl, B1, hg1, hb1⟩
  have X1 := HX0.out.1.below hb1 hz0
  have hb01 := bto0 HX0.out.2 hb1
  have G1 := Lib.hid (dget_any (some ⟨g, 0, none⟩) 512 512 _ (headL k c n) w1 (reads_b B1 hll.out) (Nat.le_refl _) (by omega))
  clear HX0 hz0
  go_wp2_with fail
  refine G1.out.mono ?_
  rintro e w2 ⟨rfl, hb2⟩
  rw [hok.out, hvv.out]
  have X3 := (X1.below hb2 X1.lt).alloc (.cells #[.int .u8 (k.toNat : Int), .int .u16 c, .int .u32 n] 57)
  have B3 := (B1.below hb2 B1.lt).alloc (.cells #[.int .u8 (k.toNat : Int), .int .u16 c, .int .u32 n] 57)
  have X8 := Blk.new w2 57 #[.int .u8 (k.toNat : Int), .int .u16 c, .int .u32 n]
  have hb03 := ball (bto0 hb01 hb2) (.cells #[.int .u8 (k.toNat : Int), .int .u16 c, .int .u32 n] 57)
  have HP3 := Lib.hid (And.intro X3 (And.intro B3 (And.intro X8 hb03)))
  clear X1 B1 X3 B3 X8 hb03 G1 hb01
  go_wp2
  obtain ⟨X3, B3, X8, hb03⟩ := HP3.out
  obtain ⟨W3, hW3⟩ : ∃ W3, w2.alloc (.cells #[.int .u8 (k.toNat : Int), .int .u16 c, .int .u32 n] 57) = W3 := ⟨_, rfl⟩
  rw [hW3] at X3 B3 X8 hb03 ⊢
  have HS : Hid (∀ W, Below W3.heap.size W3 W → W.cell? ⟨w.heap.size, 0, none⟩ = some (.int .u8 (k.toNat : Int)) ∧ W.cell? ⟨w.heap.size, 1, none⟩ = some (.int .u16 (c : Int)) ∧ W.cell? ⟨w.heap.size, 2, none⟩ = some (.int .u32 (n : Int)) ∧ W.cell? ⟨w2.heap.size, 0, none⟩ = some (.int .u8 (k.toNat : Int)) ∧ W.cell? ⟨w2.heap.size, 1, none⟩ = some (.int .u16 (c : Int)) ∧ W.cell? ⟨w2.heap.size, 2, none⟩ = some (.int .u32 (n : Int))) := fun W hW =>
    ⟨(X3.below hW X3.lt).cell 0, (X3.below hW X3.lt).cell 1, (X3.below hW X3.lt).cell 2, (X8.below hW X8.lt).cell 0, (X8.below hW X8.lt).cell 1, (X8.below hW X8.lt).cell 2⟩
  clear hW3 X3 X8
  refine wp_region_held_drew (S := (fun w' => w'.cell? ⟨w.heap.size, 0, none⟩ = some (.int .u8 (k.toNat : Int)) ∧ w'.cell? ⟨w.heap.size, 1, none⟩ = some (.int .u16 (c : Int)) ∧ w'.cell? ⟨w.heap.size, 2, none⟩ = some (.int .u32 (n : Int)) ∧ w'.cell? ⟨w2.heap.size, 0, none⟩ = some (.int .u8 (k.toNat : Int)) ∧ w'.cell? ⟨w2.heap.size, 1, none⟩ = some (.int .u16 (c : Int)) ∧ w'.cell? ⟨w2.heap.size, 2, none⟩ = some (.int .u32 (n : Int)))) (by kernel_rfl) (HS.out _ (bdr (Below.refl _ _) _)) (fun hHeld => ?_)
  try dsimp only at hHeld
  refine wpAnyH_take (i := 0) (v := ?_) rfl (by kernel_rfl) (by kernel_rfl) (by kernel_rfl) (fun _ _ _ h => h) (Or.inl ⟨rfl, ?_⟩) hHeld ?_
  rotate_left
  focus (intro wx hSw; (try dsimp only at hSw); (try go_split_ands); go_simp; (try with_reducible rfl))
  try simp only [Act.put, List.getElem_toArray, List.getElem_cons_succ, List.getElem_cons_zero, List.setIfInBounds_toArray, List.set_cons_zero, List.set_cons_succ]
  refine wpAnyH_take (i := 2) (v := ?_) rfl (by kernel_rfl) (by kernel_rfl) (by kernel_rfl) (fun _ _ _ h => h) (Or.inl ⟨rfl, ?_⟩) hHeld ?_
  rotate_left
  focus (intro wx hSw; (try dsimp only at hSw); (try go_split_ands); go_simp; (try with_reducible rfl))
  try simp only [Act.put, List.getElem_toArray, List.getElem_cons_succ, List.getElem_cons_zero, List.setIfInBounds_toArray, List.set_cons_zero, List.set_cons_succ]
  refine wpAnyH_ready (rs := [1, 3]) (by kernel_rfl) (by simp) (AllReadyH.cons rfl (fun K hK => ?_) (AllReadyH.cons rfl (fun K hK => ?_) AllReadyH.nil))
  · go_simp
    rw [convP B3.drew]
    go_simp
    refine hK.out _ _ ?_ (fun hHeld => ?_)
    · ((try dsimp only); (try dsimp only at hHeld); exact HS.out _ (by with_reducible repeat (first | exact Below.refl _ _ | refine bdr ?_ _ | refine Below.drew ?_ | refine ball ?_ _)))
    clear hK K
    try dsimp only at hHeld
    try simp only [Act.put, List.getElem_toArray, List.getElem_cons_succ, List.getElem_cons_zero, List.setIfInBounds_toArray, List.set_cons_zero, List.set_cons_succ]
    refine wpAnyH_ready (rs := [3]) (by kernel_rfl) (by simp) (AllReadyH.cons rfl (fun K hK => ?_) AllReadyH.nil)
    go_simp
    (go_at_call 31; (with_reducible refine (RH.out _).mono ?_); rintro e w4 ⟨rfl, hb4⟩)
    have BK4 := B3.drew.below hb4 B3.drew.lt
    go_wp2_with fail
    refine hK.out _ _ ?_ (fun hHeld => ?_)
    · ((try dsimp only); (try dsimp only at hHeld); exact HS.out _ (by with_reducible repeat (first | exact Below.refl _ _ | exact hb4 | refine bto0 ?_ hb4 | refine bdr ?_ _ | refine Below.drew ?_ | refine ball ?_ _)))
    clear hK K
    try dsimp only at hHeld
    try simp only [Act.put, List.getElem_toArray, List.getElem_cons_succ, List.getElem_cons_zero, List.setIfInBounds_toArray, List.set_cons_zero, List.set_cons_succ]
    refine wpAnyH_take (i := 4) (v := ?_) rfl (by kernel_rfl) (by kernel_rfl) (by kernel_rfl) (fun _ _ _ h => h) (Or.inl ⟨rfl, ?_⟩) hHeld ?_
    rotate_left
    focus (intro wx hSw; (try dsimp only at hSw); (try go_split_ands); go_simp; (try with_reducible rfl))
    try simp only [Act.put, List.getElem_toArray, List.getElem_cons_succ, List.getElem_cons_zero, List.setIfInBounds_toArray, List.set_cons_zero, List.set_cons_succ]
    refine wpAnyH_take (i := 5) (v := ?_) rfl (by kernel_rfl) (by kernel_rfl) (by kernel_rfl) (fun _ _ _ h => h) (Or.inl ⟨rfl, ?_⟩) hHeld ?_
    rotate_left
    focus (intro wx hSw; (try dsimp only at hSw); (try go_split_ands); go_simp; (try with_reducible rfl))
    try simp only [Act.put, List.getElem_toArray, List.getElem_cons_succ, List.getElem_cons_zero, List.setIfInBounds_toArray, List.set_cons_zero, List.set_cons_succ]
    refine wpAnyH_take (i := 6) (v := ?_) rfl (by kernel_rfl) (by kernel_rfl) (by kernel_rfl) (fun _ _ _ h => h) (Or.inl ⟨rfl, ?_⟩) hHeld ?_
    rotate_left
    focus (intro wx hSw; (try dsimp only at hSw); (try go_split_ands); go_simp; (try with_reducible rfl))
    try simp only [Act.put, List.getElem_toArray, List.getElem_cons_succ, List.getElem_cons_zero, List.setIfInBounds_toArray, List.set_cons_zero, List.set_cons_succ]
    refine wpAnyH_take (i := 7) (v := ?_) rfl (by kernel_rfl) (by kernel_rfl) (by kernel_rfl) (fun _ _ _ h => h) (Or.inl ⟨rfl, ?_⟩) hHeld ?_
    rotate_left
    focus (intro wx hSw; (try dsimp only at hSw); (try go_split_ands); go_simp; (try with_reducible rfl))
    try simp only [Act.put, List.getElem_toArray, List.getElem_cons_succ, List.getElem_cons_zero, List.setIfInBounds_toArray, List.set_cons_zero, List.set_cons_succ]
    refine wpAnyH_take (i := 8) (v := ?_) rfl (by kernel_rfl) (by kernel_rfl) (by kernel_rfl) (fun _ _ _ h => h) (Or.inl ⟨rfl, ?_⟩) hHeld ?_
    rotate_left
    focus (intro wx hSw; (try dsimp only at hSw); (try go_split_ands); go_simp; (try with_reducible rfl))
    try simp only [Act.put, List.getElem_toArray, List.getElem_cons_succ, List.getElem_cons_zero, List.setIfInBounds_toArray, List.set_cons_zero, List.set_cons_succ]
    refine wpAnyH_take (i := 9) (v := ?_) rfl (by kernel_rfl) (by kernel_rfl) (by kernel_rfl) (fun _ _ _ h => h) (Or.inl ⟨rfl, ?_⟩) hHeld ?_
    rotate_left
    focus (intro wx hSw; (try dsimp only at hSw); (try go_split_ands); go_simp; (try with_reducible rfl))
    try simp only [Act.put, List.getElem_toArray, List.getElem_cons_succ, List.getElem_cons_zero, List.setIfInBounds_toArray, List.set_cons_zero, List.set_cons_succ]
    refine wpAnyH_take (i := 10) (v := ?_) rfl (by kernel_rfl) (by kernel_rfl) (by kernel_rfl) (fun _ _ _ h => h) (Or.inl ⟨rfl, ?_⟩) hHeld ?_
    rotate_left
    focus (intro wx hSw; (try dsimp only at hSw); (try go_split_ands); go_simp; (try with_reducible rfl))
    try simp only [Act.put, List.getElem_toArray, List.getElem_cons_succ, List.getElem_cons_zero, List.setIfInBounds_toArray, List.set_cons_zero, List.set_cons_succ]
    refine wpAnyH_take (i := 11) (v := ?_) rfl (by kernel_rfl) (by kernel_rfl) (by kernel_rfl) (fun _ _ _ h => h) (Or.inl ⟨rfl, ?_⟩) hHeld ?_
    rotate_left
    focus (intro wx hSw; (try dsimp only at hSw); (try go_split_ands); go_simp; (try with_reducible rfl))
    try simp only [Act.put, List.getElem_toArray, List.getElem_cons_succ, List.getElem_cons_zero, List.setIfInBounds_toArray, List.set_cons_zero, List.set_cons_succ]
    refine wpAnyH_take (i := 12) (v := ?_) rfl (by kernel_rfl) (by kernel_rfl) (by kernel_rfl) (fun _ _ _ h => h) (Or.inl ⟨rfl, ?_⟩) hHeld ?_
    rotate_left
    focus (intro wx hSw; (try dsimp only at hSw); (try go_split_ands); go_simp; (try with_reducible rfl))
    try simp only [Act.put, List.getElem_toArray, List.getElem_cons_succ, List.getElem_cons_zero, List.setIfInBounds_toArray, List.set_cons_zero, List.set_cons_succ]
    refine wpAnyH_take (i := 13) (v := ?_) rfl (by kernel_rfl) (by kernel_rfl) (by kernel_rfl) (fun _ _ _ h => h) (Or.inl ⟨rfl, ?_⟩) hHeld ?_
    rotate_left
    focus (intro wx hSw; (try dsimp only at hSw); (try go_split_ands); go_simp; (try with_reducible rfl))
    try simp only [Act.put, List.getElem_toArray, List.getElem_cons_succ, List.getElem_cons_zero, List.setIfInBounds_toArray, List.set_cons_zero, List.set_cons_succ]
    refine wpAnyH_done (by kernel_rfl) ?_ _
    clear hHeld
    have hbW : Below w.heap.size w w4 := bto0 hb03 (by with_reducible repeat (first | exact Below.refl _ _ | exact hb4 | refine bto0 ?_ hb4 | refine bdr ?_ _ | refine Below.drew ?_ | refine ball ?_ _))
    have own0 := Own.empty w4 (g := w4.heap.size) rfl
    have hrd0 := ((hr.below hbW).more hbW.size).alloc (Nat.le_refl _) (.cells #[] 5)
    have hz0 : w4.heap.size ≤ (w4.alloc (.cells #[] 5)).heap.size := by simp
    go_wp2_with (first
      | (at_builtin; refine wpList_appR rfl _ _ rfl w4.heap.size _ [] L A m cap w4.heap.size rfl own0 rfl hrd0 (by rw [Hm.out]; simp; omega) hz0 ?_; intro v5 x5 own5 kp5; have hx5 := kp5.below w4.heap.size w4 (Nat.le_refl _) (ball (Below.refl _ _) _); rw [List.nil_append] at own5)
      | (at_builtin; refine wpList_appZ rfl _ _ rfl w4.heap.size v5 L 512 _ rfl own5 rfl rfl (by rw [Hm.out]; omega) hx5.size ?_; intro v6 x6 own6 kp6; replace own6 := own_z own6; obtain ⟨A6, c6, rfl, hc6⟩ := own6.form; rw [List.length_append, z512_len, Hm.out] at own6 hc6; have hx6 := kp6.below w4.heap.size w4 (Nat.le_refl _) hx5; have hrd4 := reads_take (k := 512) own6.reads.1 (by omega)))
    have G := Lib.hid (dget_any A6 512 c6 _ ((L ++ z512).take 512) x6 hrd4 (Nat.le_refl _) (by omega))
    
    (with_reducible refine G.out.mono ?_)
    rintro e w5 ⟨rfl, hb5⟩
    obtain ⟨hx, hy, hz, hE⟩ := hdV_form ((L ++ z512).take 512)
    have HE := Lib.hid hE; clear hE
    rw [HE.out]
    have hrd6 : ∀ o, Reads (w5.alloc o) x6.heap.size 1 A6 512 (bL ((L ++ z512).take 512)) := fun o => (hrd4.below hb5).alloc hb5.size o
    have cvb := conv_reads (P := Try.prog) (hrd6 (.cells #[.int .u8 hx, .int .u16 hy, .int .u32 hz] 57)) 37 5 9 Try.underlying37 Try.underlying5 Try.underlying9 c6
    clear hrd6
    have G2 := Lib.hid fun W => rhget_any ((L ++ z512).take 512) (by rw [List.length_take]; omega) W
    have XX := Blk.new w5 57 #[.int .u8 hx, .int .u16 hy, .int .u32 hz]
    have hz6 : w5.heap.size < (w5.alloc (.cells #[.int .u8 hx, .int .u16 hy, .int .u32 hz] 57)).heap.size := by simp
    go_wp2_with fail
    refine (G2.out _).mono ?_
    rintro e w7 ⟨rfl, hb7⟩
    rw [HE.out]
    have XY := (XX.below hb7 hz6).alloc (.cells #[.int .u8 hx, .int .u16 hy, .int .u32 hz] 57)
    have XZ := Blk.new w7 57 #[.int .u8 hx, .int .u16 hy, .int .u32 hz]
    have HXY := Lib.hid (And.intro XY XZ)
    clear XX XY XZ cvb hz6
    go_wp2_with (go_at_call 15; refine (FX.out _).mono ?_; rintro e w8 ⟨rfl, hb8⟩; have y0 := (HXY.out.1.below hb8 HXY.out.1.lt); have z0 := (HXY.out.2.below hb8 HXY.out.2.lt); have p0 := y0.cell 0; have p1 := y0.cell 1; have p2 := y0.cell 2; have r0 := z0.cell 0; have r1 := z0.cell 1; have r2 := z0.cell 2)
    go_ret
    exact ⟨rfl, bto0 (ball (bto0 (ball (bto0 (bto0 hbW hx6) hb5) _) hb7) _) hb8⟩
  · go_simp
    (go_at_call 31; (with_reducible refine (RH.out _).mono ?_); rintro e w4 ⟨rfl, hb4⟩)
    have BK4 := B3.drew.below hb4 B3.drew.lt
    go_wp2_with fail
    refine hK.out _ _ ?_ (fun hHeld => ?_)
    · ((try dsimp only); (try dsimp only at hHeld); exact HS.out _ (by with_reducible repeat (first | exact Below.refl _ _ | exact hb4 | refine bto0 ?_ hb4 | refine bdr ?_ _ | refine Below.drew ?_ | refine ball ?_ _)))
    clear hK K
    try dsimp only at hHeld
    try simp only [Act.put, List.getElem_toArray, List.getElem_cons_succ, List.getElem_cons_zero, List.setIfInBounds_toArray, List.set_cons_zero, List.set_cons_succ]
    refine wpAnyH_ready (rs := [1]) (by kernel_rfl) (by simp) (AllReadyH.cons rfl (fun K hK => ?_) AllReadyH.nil)
    go_simp
    rw [convP BK4]
    go_simp
    refine hK.out _ _ ?_ (fun hHeld => ?_)
    · ((try dsimp only); (try dsimp only at hHeld); exact HS.out _ (by with_reducible repeat (first | exact Below.refl _ _ | exact hb4 | refine bto0 ?_ hb4 | refine bdr ?_ _ | refine Below.drew ?_ | refine ball ?_ _)))
    clear hK K
    try dsimp only at hHeld
    try simp only [Act.put, List.getElem_toArray, List.getElem_cons_succ, List.getElem_cons_zero, List.setIfInBounds_toArray, List.set_cons_zero, List.set_cons_succ]
    refine wpAnyH_take (i := 4) (v := ?_) rfl (by kernel_rfl) (by kernel_rfl) (by kernel_rfl) (fun _ _ _ h => h) (Or.inl ⟨rfl, ?_⟩) hHeld ?_
    rotate_left
    focus (intro wx hSw; (try dsimp only at hSw); (try go_split_ands); go_simp; (try with_reducible rfl))
    try simp only [Act.put, List.getElem_toArray, List.getElem_cons_succ, List.getElem_cons_zero, List.setIfInBounds_toArray, List.set_cons_zero, List.set_cons_succ]
    refine wpAnyH_take (i := 5) (v := ?_) rfl (by kernel_rfl) (by kernel_rfl) (by kernel_rfl) (fun _ _ _ h => h) (Or.inl ⟨rfl, ?_⟩) hHeld ?_
    rotate_left
    focus (intro wx hSw; (try dsimp only at hSw); (try go_split_ands); go_simp; (try with_reducible rfl))
    try simp only [Act.put, List.getElem_toArray, List.getElem_cons_succ, List.getElem_cons_zero, List.setIfInBounds_toArray, List.set_cons_zero, List.set_cons_succ]
    refine wpAnyH_take (i := 6) (v := ?_) rfl (by kernel_rfl) (by kernel_rfl) (by kernel_rfl) (fun _ _ _ h => h) (Or.inl ⟨rfl, ?_⟩) hHeld ?_
    rotate_left
    focus (intro wx hSw; (try dsimp only at hSw); (try go_split_ands); go_simp; (try with_reducible rfl))
    try simp only [Act.put, List.getElem_toArray, List.getElem_cons_succ, List.getElem_cons_zero, List.setIfInBounds_toArray, List.set_cons_zero, List.set_cons_succ]
    refine wpAnyH_take (i := 7) (v := ?_) rfl (by kernel_rfl) (by kernel_rfl) (by kernel_rfl) (fun _ _ _ h => h) (Or.inl ⟨rfl, ?_⟩) hHeld ?_
    rotate_left
    focus (intro wx hSw; (try dsimp only at hSw); (try go_split_ands); go_simp; (try with_reducible rfl))
    try simp only [Act.put, List.getElem_toArray, List.getElem_cons_succ, List.getElem_cons_zero, List.setIfInBounds_toArray, List.set_cons_zero, List.set_cons_succ]
    refine wpAnyH_take (i := 8) (v := ?_) rfl (by kernel_rfl) (by kernel_rfl) (by kernel_rfl) (fun _ _ _ h => h) (Or.inl ⟨rfl, ?_⟩) hHeld ?_
    rotate_left
    focus (intro wx hSw; (try dsimp only at hSw); (try go_split_ands); go_simp; (try with_reducible rfl))
    try simp only [Act.put, List.getElem_toArray, List.getElem_cons_succ, List.getElem_cons_zero, List.setIfInBounds_toArray, List.set_cons_zero, List.set_cons_succ]
    refine wpAnyH_take (i := 9) (v := ?_) rfl (by kernel_rfl) (by kernel_rfl) (by kernel_rfl) (fun _ _ _ h => h) (Or.inl ⟨rfl, ?_⟩) hHeld ?_
    rotate_left
    focus (intro wx hSw; (try dsimp only at hSw); (try go_split_ands); go_simp; (try with_reducible rfl))
    try simp only [Act.put, List.getElem_toArray, List.getElem_cons_succ, List.getElem_cons_zero, List.setIfInBounds_toArray, List.set_cons_zero, List.set_cons_succ]
    refine wpAnyH_take (i := 10) (v := ?_) rfl (by kernel_rfl) (by kernel_rfl) (by kernel_rfl) (fun _ _ _ h => h) (Or.inl ⟨rfl, ?_⟩) hHeld ?_
    rotate_left
    focus (intro wx hSw; (try dsimp only at hSw); (try go_split_ands); go_simp; (try with_reducible rfl))
    try simp only [Act.put, List.getElem_toArray, List.getElem_cons_succ, List.getElem_cons_zero, List.setIfInBounds_toArray, List.set_cons_zero, List.set_cons_succ]
    refine wpAnyH_take (i := 11) (v := ?_) rfl (by kernel_rfl) (by kernel_rfl) (by kernel_rfl) (fun _ _ _ h => h) (Or.inl ⟨rfl, ?_⟩) hHeld ?_
    rotate_left
    focus (intro wx hSw; (try dsimp only at hSw); (try go_split_ands); go_simp; (try with_reducible rfl))
    try simp only [Act.put, List.getElem_toArray, List.getElem_cons_succ, List.getElem_cons_zero, List.setIfInBounds_toArray, List.set_cons_zero, List.set_cons_succ]
    refine wpAnyH_take (i := 12) (v := ?_) rfl (by kernel_rfl) (by kernel_rfl) (by kernel_rfl) (fun _ _ _ h => h) (Or.inl ⟨rfl, ?_⟩) hHeld ?_
    rotate_left
    focus (intro wx hSw; (try dsimp only at hSw); (try go_split_ands); go_simp; (try with_reducible rfl))
    try simp only [Act.put, List.getElem_toArray, List.getElem_cons_succ, List.getElem_cons_zero, List.setIfInBounds_toArray, List.set_cons_zero, List.set_cons_succ]
    refine wpAnyH_take (i := 13) (v := ?_) rfl (by kernel_rfl) (by kernel_rfl) (by kernel_rfl) (fun _ _ _ h => h) (Or.inl ⟨rfl, ?_⟩) hHeld ?_
    rotate_left
    focus (intro wx hSw; (try dsimp only at hSw); (try go_split_ands); go_simp; (try with_reducible rfl))
    try simp only [Act.put, List.getElem_toArray, List.getElem_cons_succ, List.getElem_cons_zero, List.setIfInBounds_toArray, List.set_cons_zero, List.set_cons_succ]
    refine wpAnyH_done (by kernel_rfl) ?_ _
    clear hHeld
    have hbW : Below w.heap.size w w4 := bto0 hb03 (by with_reducible repeat (first | exact Below.refl _ _ | exact hb4 | refine bto0 ?_ hb4 | refine bdr ?_ _ | refine Below.drew ?_ | refine ball ?_ _))
    have own0 := Own.empty w4 (g := w4.heap.size) rfl
    have hrd0 := ((hr.below hbW).more hbW.size).alloc (Nat.le_refl _) (.cells #[] 5)
    have hz0 : w4.heap.size ≤ (w4.alloc (.cells #[] 5)).heap.size := by simp
    go_wp2_with (first
      | (at_builtin; refine wpList_appR rfl _ _ rfl w4.heap.size _ [] L A m cap w4.heap.size rfl own0 rfl hrd0 (by rw [Hm.out]; simp; omega) hz0 ?_; intro v5 x5 own5 kp5; have hx5 := kp5.below w4.heap.size w4 (Nat.le_refl _) (ball (Below.refl _ _) _); rw [List.nil_append] at own5)
      | (at_builtin; refine wpList_appZ rfl _ _ rfl w4.heap.size v5 L 512 _ rfl own5 rfl rfl (by rw [Hm.out]; omega) hx5.size ?_; intro v6 x6 own6 kp6; replace own6 := own_z own6; obtain ⟨A6, c6, rfl, hc6⟩ := own6.form; rw [List.length_append, z512_len, Hm.out] at own6 hc6; have hx6 := kp6.below w4.heap.size w4 (Nat.le_refl _) hx5; have hrd4 := reads_take (k := 512) own6.reads.1 (by omega)))
    have G := Lib.hid (dget_any A6 512 c6 _ ((L ++ z512).take 512) x6 hrd4 (Nat.le_refl _) (by omega))
    
    (with_reducible refine G.out.mono ?_)
    rintro e w5 ⟨rfl, hb5⟩
    obtain ⟨hx, hy, hz, hE⟩ := hdV_form ((L ++ z512).take 512)
    have HE := Lib.hid hE; clear hE
    rw [HE.out]
    have hrd6 : ∀ o, Reads (w5.alloc o) x6.heap.size 1 A6 512 (bL ((L ++ z512).take 512)) := fun o => (hrd4.below hb5).alloc hb5.size o
    have cvb := conv_reads (P := Try.prog) (hrd6 (.cells #[.int .u8 hx, .int .u16 hy, .int .u32 hz] 57)) 37 5 9 Try.underlying37 Try.underlying5 Try.underlying9 c6
    clear hrd6
    have G2 := Lib.hid fun W => rhget_any ((L ++ z512).take 512) (by rw [List.length_take]; omega) W
    have XX := Blk.new w5 57 #[.int .u8 hx, .int .u16 hy, .int .u32 hz]
    have hz6 : w5.heap.size < (w5.alloc (.cells #[.int .u8 hx, .int .u16 hy, .int .u32 hz] 57)).heap.size := by simp
    go_wp2_with fail
    refine (G2.out _).mono ?_
    rintro e w7 ⟨rfl, hb7⟩
    rw [HE.out]
    have XY := (XX.below hb7 hz6).alloc (.cells #[.int .u8 hx, .int .u16 hy, .int .u32 hz] 57)
    have XZ := Blk.new w7 57 #[.int .u8 hx, .int .u16 hy, .int .u32 hz]
    have HXY := Lib.hid (And.intro XY XZ)
    clear XX XY XZ cvb hz6
    go_wp2_with (go_at_call 15; refine (FX.out _).mono ?_; rintro e w8 ⟨rfl, hb8⟩; have y0 := (HXY.out.1.below hb8 HXY.out.1.lt); have z0 := (HXY.out.2.below hb8 HXY.out.2.lt); have p0 := y0.cell 0; have p1 := y0.cell 1; have p2 := y0.cell 2; have r0 := z0.cell 0; have r1 := z0.cell 1; have r2 := z0.cell 2)
    go_ret
    exact ⟨rfl, bto0 (ball (bto0 (ball (bto0 (bto0 hbW hx6) hb5) _) hb7) _) hb8⟩
theorem lawHeads_any (k c n : Int) (A : Option Addr) (m cap : Nat) (l : List Int) (wh : Bool) (w : World) (hk : 0 ≤ k ∧ k ≤ 255) (hc : 0 ≤ c ∧ c ≤ 65535) (hn : 0 ≤ n ∧ n ≤ 4294967295) (hr : Reads w w.heap.size 1 A m (l.map (Value.int .u8))) (hw : ∀ x ∈ l, (Lit.int .u8 x).wf = true) (hm : m ≤ maxLen) :
    Calls Try.prog 5 #[.agg #[.int .u8 k, .int .u16 c, .int .u32 n], .slice A m cap, .bool wh] w (RetB w (.bool true)) := by
  unfold maxLen at hm
  obtain ⟨b, rfl⟩ := byte_of hk.1 hk.2
  obtain ⟨c, rfl⟩ : ∃ q : Nat, c = q := ⟨c.toNat, by omega⟩
  obtain ⟨n, rfl⟩ : ∃ q : Nat, n = q := ⟨n.toNat, by omega⟩
  have e : ∃ L : List UInt8, l.map (Value.int .u8) = bL L := by
    refine ⟨l.map fun x => UInt8.ofNat x.toNat, ?_⟩
    unfold bL
    rw [List.map_map]
    apply List.map_congr_left
    intro x hx
    have := Go.bounds_u8 (hw x hx)
    simp only [Function.comp]
    congr 1
    simp; omega
  obtain ⟨L, e⟩ := e
  rw [e] at hr
  by_cases h : 600 < m
  · exact lawHeads_out b c n A m cap wh w h (by omega)
  · cases wh
    · exact lawHeads_no b c n (by omega) (by omega) A m cap L w hr (by omega)
    · exact lawHeads_yes b c n (by omega) (by omega) A m cap L w hr (by omega)
end Go.Proofs.Ytcpbkaeilmabaaa

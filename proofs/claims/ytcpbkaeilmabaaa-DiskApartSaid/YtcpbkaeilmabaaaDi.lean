/-
  The law DiskApart's walk.
-/
import Derived.Test.YtcpbkaeilmabaaaDh
import Derived.IntWalk
namespace Go.Proofs.Ytcpbkaeilmabaaa
open Go.RowKit

/-- A page of one byte. -/
def rep (b : UInt8) : List UInt8 := List.replicate 512 b
theorem rep_len (b : UInt8) : (rep b).length = 512 := List.length_replicate
theorem bundrew {a b : World} (h : Below a.drew.heap.size a.drew b) : Below a.heap.size a b := ⟨h.os, h.tape, h.output, h.size, h.block⟩
theorem bundrewN {a b : World} {k : Nat} (h : Below (a.drewN k).heap.size (a.drewN k) b) : Below a.heap.size a b := ⟨h.os, h.tape, h.output, h.size, h.block⟩
theorem newL (n : Nat) (h1 : 1 ≤ n) (h2 : n ≤ 4096) (w : World) : Calls Try.prog 16 #[.int .i64 n] w fun e w' =>
    ∃ g gb gt, e = .returned (.tuple #[.pointer (some ⟨g, 0, none⟩), .int .i64 0]) ∧ DkL w' g gb gt n (List.replicate (n * 512) 0) ∧ w.heap.size ≤ g ∧ w.heap.size ≤ gb ∧ w.heap.size ≤ gt ∧ Below w.heap.size w w' := by
  refine (new_any n h1 h2 w).mono ?_
  rintro e w' ⟨g, gb, gt, rfl, hd, k1, k2, k3, hb⟩
  rw [zero_rep] at hd
  exact ⟨g, gb, gt, rfl, ⟨by simp, _, hd⟩, k1, k2, k3, hb⟩
theorem write_outL {w : World} {g gb gt n : Nat} {L : List UInt8} (h : DkL w g gb gt n L) (p : Nat) (hp : n ≤ p) (hp2 : (p : Int) ≤ 4294967295) (hn : n ≤ 1000000) (v : Value) :
    Calls Try.prog 20 #[.pointer (some ⟨g, 0, none⟩), .int .u32 p, v] w fun e w' => e = .returned (.int .i64 8) ∧ w = w' := by
  obtain ⟨hl, ts, hd⟩ := h
  exact write_out hd p hp (by omega) hn v
theorem imageL {w : World} {g gb gt n : Nat} {L : List UInt8} (h : DkL w g gb gt n L) (hn : n ≤ 1000000) (h1n : 1 ≤ n) :
    Calls Try.prog 28 #[.pointer (some ⟨g, 0, none⟩)] w (RetBytes w (n * 512) (bV L)) := by
  obtain ⟨hl, ts, hd⟩ := h
  exact image_any hd hn h1n (by rw [bV_toList]; exact bL_one L)
theorem pageL (b : UInt8) (w : World) : Calls Try.prog 19 #[.int .u8 (b.toNat : Int), .int .i64 512] w fun e w' =>
    e = .returned (.slice (some ⟨w.heap.size, 0, none⟩) 512 512) ∧ Reads w' (w.heap.size + 1) 1 (some ⟨w.heap.size, 0, none⟩) 512 (bL (rep b)) ∧ Blk w' w.heap.size 5 (bV (rep b)) ∧ Below w.heap.size w w' := by
  refine (page_any (b.toNat : Int) w).mono ?_
  rintro e w' ⟨rfl, hB, hb⟩
  rw [fillA_rep] at hB
  refine ⟨rfl, ⟨by rw [bL_len, rep_len], fun _ => ⟨_, rfl, Nat.lt_succ_self _, fun j u hu => ?_⟩⟩, hB, hb⟩
  rw [add_head, hB.cell, bV, List.getElem?_toArray]
  exact hu

set_option maxHeartbeats 1000000 in
theorem diskApart_out (pg : Int) (A : Option Addr) (m cap : Nat) (p : Int) (c : UInt8) (w : World) (h : pg < 1 ∨ 20 < pg ∨ 100 < m) (hm : m ≤ 9223372036854775807) :
    Calls Try.prog 7 #[.int .i64 pg, .slice A m cap, .int .u32 p, .int .u8 (c.toNat : Int)] w (RetB w (.bool true)) := by
  have F := Lib.hid dfixed_any
  by_cases h1 : pg < 1
  · go_enter Try.func7, Try.ntmps7
    go_wp2_with (go_at_call 15; refine (F.out _).mono ?_; rintro e w1 ⟨rfl, hb1⟩)
    go_ret
    exact ⟨rfl, hb1⟩
  · by_cases h2 : 20 < pg
    · go_enter Try.func7, Try.ntmps7
      go_wp2_with (go_at_call 15; refine (F.out _).mono ?_; rintro e w1 ⟨rfl, hb1⟩)
      go_ret
      exact ⟨rfl, hb1⟩
    · have h3 : 100 < m := by omega
      have h4 : (100 : Int) < (m : Int) := by omega
      go_enter Try.func7, Try.ntmps7
      go_wp2_with (go_at_call 15; refine (F.out _).mono ?_; rintro e w1 ⟨rfl, hb1⟩)
      go_ret
      exact ⟨rfl, hb1⟩

set_option maxRecDepth 100000 in
set_option maxHeartbeats 2000000 in
theorem diskApart_in (n : Nat) (A : Option Addr) (m cap : Nat) (l : List Op4) (p : Nat) (c : UInt8) (w : World) (hn1 : 1 ≤ n) (hn2 : n ≤ 20) (hm : m ≤ 100) (hr : Reads w w.heap.size 4 A m (vO l)) (hok : ∀ v ∈ l, v.ok) (hp : p ≤ 4294967295) :
    Calls Try.prog 7 #[.int .i64 n, .slice A m cap, .int .u32 p, .int .u8 (c.toNat : Int)] w (RetB w (.bool true)) := by
  have F := Lib.hid dfixed_any
  have N := Lib.hid (newL n hn1 (by omega))
  have g1 : (1 : Int) ≤ (n : Int) := by omega
  have g2 : (n : Int) ≤ 20 := by omega
  have g3 : (m : Int) ≤ 100 := by omega
  go_enter Try.func7, Try.ntmps7
  go_wp2_with fail
  refine (N.out _).mono ?_
  rintro e w1 ⟨g, gb, gt, rfl, hd, k1, k2, k3, hb1⟩
  have hr1 := hr.below hb1
  go_wp2
  go_loopw [36] (fun v wr => ∃ k : Nat, v = .int .i64 k ∧ k ≤ m ∧ (∃ L, DkL wr g gb gt n L) ∧ Below w.heap.size w wr) (fun v _ => m - (intOf v).toNat)
  case atStart => exact ⟨0, rfl, by omega, ⟨_, hd⟩, hb1⟩
  case round =>
    obtain ⟨k, rfl, hk, ⟨L, hL⟩, hb⟩ := hrel
    have q1 : (0 : Int) ≤ (k : Int) := by omega
    by_cases hlt : k < m
    · have q2 : (k : Int) < (m : Int) := by omega
      obtain ⟨ad, v, rfl, hab, hv, e0, e1, e2, e3⟩ := (hr.below hb).op hlt
      have vok := hok v (List.mem_of_getElem? hv)
      obtain ⟨vk, vp, vb, vs⟩ := v
      obtain ⟨_, ⟨v1, v2⟩, v3, v4⟩ := vok
      simp only at v1 v2 v3 v4 e0 e1 e2 e3
      obtain ⟨b, rfl⟩ := byte_of v3 v4
      obtain ⟨vp, rfl⟩ : ∃ q : Nat, vp = (q : Int) := ⟨vp.toNat, by omega⟩
      have hbA := hb.alloc hb.size (.cells #[.int .i64 vk, .int .u32 vp, .int .u8 b.toNat, .bool vs] 36)
      have hLA := hL.below (ball (Below.refl wr.heap.size wr) (.cells #[.int .i64 vk, .int .u32 vp, .int .u8 b.toNat, .bool vs] 36)) hL.lts.1 hL.lts.2.1 hL.lts.2.2
      have XO := Blk.new wr 36 #[.int .i64 vk, .int .u32 vp, .int .u8 b.toNat, .bool vs]
      obtain ⟨lt1, lt2, lt3⟩ := hL.lts
      have hzA : (wr.alloc (.cells #[.int .i64 vk, .int .u32 vp, .int .u8 b.toNat, .bool vs] 36)).heap.size = wr.heap.size + 1 := by simp
      go_wp2
      obtain ⟨WA, hWA⟩ : ∃ WA, (wr.alloc (.cells #[.int .i64 vk, .int .u32 vp, .int .u8 b.toNat, .bool vs] 36)) = WA := ⟨_, rfl⟩
      rw [hWA] at hbA hLA XO hzA ⊢
      clear hWA
      have HS : Hid (∀ W, Below WA.heap.size WA W → W.cell? ⟨wr.heap.size, 1, none⟩ = some (.int .u32 vp) ∧ W.cell? ⟨wr.heap.size, 2, none⟩ = some (.int .u8 (b.toNat : Int))) := fun W hW =>
        ⟨(XO.below hW XO.lt).cell 1, (XO.below hW XO.lt).cell 2⟩
      clear hb XO
      have hzA' : WA.heap.size ≤ wr.heap.size + 1 := by omega
      have hzA2 : wr.heap.size < WA.heap.size := by omega
      clear hzA e0 e1 e2 e3 hv
      by_cases hpn : vp < n
      · go_region_held3 (fun w' => w'.cell? ⟨wr.heap.size, 1, none⟩ = some (.int .u32 vp) ∧ w'.cell? ⟨wr.heap.size, 2, none⟩ = some (.int .u8 (b.toNat : Int)))
          (first | exact HS.out _ (Below.refl _ _) | exact HS.out _ (bdr (Below.refl _ _) _) | exact HS.out _ hB2 | exact ⟨y1, y2⟩)
          (first
            | (go_at_call 19; refine (pageL b _).mono ?_; rintro e w2 ⟨rfl, hr2, hK2, hB2'⟩; have hB2 := bundrew hB2'; clear hB2'; have hz2 := hB2.size)
            | (go_at_call 20; refine (writeL (hLA.below hB2 (by omega) (by omega) (by omega)) vp hpn (by omega) _ _ _ _ hr2).mono ?_; rintro e w3 ⟨rfl, hL3, hB3, hO3, hs3⟩; have y1 := (World.cell?_of_block (a := ⟨wr.heap.size, 1, none⟩) (hO3 wr.heap.size (by omega) (by omega))).trans (HS.out _ hB2).1; have y2 := (World.cell?_of_block (a := ⟨wr.heap.size, 2, none⟩) (hO3 wr.heap.size (by omega) (by omega))).trans (HS.out _ hB2).2))
        go_wp2
        go_roundw
        case rel => exact ⟨k + 1, by go_num, by omega, ⟨_, hL3⟩, (hbA.trans (hB2.mono hbA.size)).trans (hB3 _ k2 k3)⟩
        case measure => simp [intOf]; omega
      · go_region_held3 (fun w' => w'.cell? ⟨wr.heap.size, 1, none⟩ = some (.int .u32 vp) ∧ w'.cell? ⟨wr.heap.size, 2, none⟩ = some (.int .u8 (b.toNat : Int)))
          (first | exact HS.out _ (Below.refl _ _) | exact HS.out _ (bdr (Below.refl _ _) _) | exact HS.out _ hB2)
          (first
            | (go_at_call 19; refine (pageL b _).mono ?_; rintro e w2 ⟨rfl, hr2, hK2, hB2'⟩; have hB2 := bundrew hB2'; clear hB2'; have hz2 := hB2.size)
            | (go_at_call 20; refine (write_outL (hLA.below hB2 (by omega) (by omega) (by omega)) vp (by omega) v2 (by omega) _).mono ?_; rintro e w3 ⟨rfl, rfl⟩))
        go_wp2
        go_roundw
        case rel => exact ⟨k + 1, by go_num, by omega, ⟨_, hLA.below hB2 (by omega) (by omega) (by omega)⟩, (hbA.trans (hB2.mono hbA.size))⟩
        case measure => simp [intOf]; omega
    · have I := Lib.hid (imageL hL (by omega) hn1)
      obtain ⟨lt1, lt2, lt3⟩ := hL.lts
      have Hlen := Lib.hid hL.1
      go_wp2_with fail
      refine I.out.mono ?_
      rintro e w4 ⟨rfl, hB4, hb4⟩
      have cv4 := conv_blk (P := Try.prog) hB4 37 5 9 Try.underlying37 Try.underlying5 Try.underlying9 (n * 512) (n * 512) Hlen.out
      have hz4 := hb4.size
      have hL4 := Lib.hid (hL.below hb4 lt1 lt2 lt3)
      clear hL
      have P5 := Lib.hid (pageL c)
      by_cases hpn : p < n
      · go_wp2_with fail
        refine (P5.out _).mono ?_
        rintro e w5 ⟨rfl, hr5, hK5, hb5⟩
        have hz5 := hb5.size
        have hL5 := hL4.out.below hb5 (by omega) (by omega) (by omega)
        have W5 := Lib.hid (writeL hL5 p hpn (by omega) _ 512 _ _ hr5)
        clear hL5 hr5 hK5
        go_wp2_with fail
        refine W5.out.mono ?_
        rintro e w6 ⟨rfl, hL6, hB6, hO6, hs6⟩
        have hz6 := Nat.le_of_eq hs6.symm; clear hs6
        have I6 := Lib.hid (imageL hL6 (by omega) hn1)
        have Hlen6 := Lib.hid hL6.1
        clear hL6
        go_wp2_with fail
        refine I6.out.mono ?_
        rintro e w7 ⟨rfl, hB7, hb7⟩
        have cv7 := conv_blk (P := Try.prog) hB7 37 5 9 Try.underlying37 Try.underlying5 Try.underlying9 (n * 512) (n * 512) Hlen6.out
        have z1 : (str L).size = n * 512 := by rw [str_size]; exact Hlen.out
        have z2 : (str (splice L (p * 512) (rep c))).size = n * 512 := by rw [str_size]; exact Hlen6.out
        have hl1 : L.length = n * 512 := Hlen.out
        have hl2 : (splice L (p * 512) (rep c)).length = n * 512 := Hlen6.out
        have hp5 : ((512 : Int) * (p : Int)).toNat = p * 512 := by omega
        have hp6 : ((512 : Int) * (p : Int) + 512).toNat = p * 512 + 512 := by omega
        have sl1 := cut_hi (P := Try.prog) Try.underlying9 (splice L (p * 512) (rep c)) (L.take (p * 512)) .i64 (512 * (p : Int)) (by omega) (by omega) (by rw [hp5]; exact splice_take _ _ _ (by omega))
        have sl2 := cut_hi (P := Try.prog) Try.underlying9 L (L.take (p * 512)) .i64 (512 * (p : Int)) (by omega) (by omega) (by rw [hp5])
        have sl3 := cut_lo (P := Try.prog) Try.underlying9 (splice L (p * 512) (rep c)) (L.drop (p * 512 + 512)) .i64 (512 * (p : Int) + 512) (by omega) (by omega) (by rw [hp6]; have := splice_drop L (rep c) (p * 512) (by omega); rw [rep_len] at this; exact this)
        have sl4 := cut_lo (P := Try.prog) Try.underlying9 L (L.drop (p * 512 + 512)) .i64 (512 * (p : Int) + 512) (by omega) (by omega) (by rw [hp6])
        have sl5 := cut_mid (P := Try.prog) Try.underlying9 (splice L (p * 512) (rep c)) (rep c) .i64 .i64 (512 * (p : Int)) (512 * (p : Int) + 512) (by omega) (by omega) (by omega) (by rw [hp5, hp6, show p * 512 + 512 - p * 512 = (rep c).length from by rw [rep_len]; omega]; exact splice_mid L (rep c) (p * 512) (by omega))
        clear hp5 hp6 hl1 hl2
        obtain ⟨s1, hs1⟩ : ∃ s1, str L = s1 := ⟨_, rfl⟩
        obtain ⟨s2, hs2⟩ : ∃ s2, str (splice L (p * 512) (rep c)) = s2 := ⟨_, rfl⟩
        obtain ⟨s3, hs3⟩ : ∃ s3, str (L.take (p * 512)) = s3 := ⟨_, rfl⟩
        obtain ⟨s4, hs4⟩ : ∃ s4, str (L.drop (p * 512 + 512)) = s4 := ⟨_, rfl⟩
        obtain ⟨s5, hs5⟩ : ∃ s5, str (rep c) = s5 := ⟨_, rfl⟩
        rw [hs1] at z1 sl2 sl4 ⊢
        rw [hs2] at z2 cv7 sl1 sl3 sl5
        rw [hs3] at sl1 sl2
        rw [hs4] at sl3 sl4
        rw [hs5] at sl5
        have Hs5 := Lib.hid hs5
        clear hs1 hs2 hs3 hs4 hs5 cv4 hB4 hB7 hO6
        have Hb7 := Lib.hid hb7; clear hb7
        have q1 : (p : Int) < (n : Int) := by omega
        go_wp2
        have q2 : (512 : Int) * (p : Int) + 512 ≤ (n : Int) * 512 := by omega
        have q3 : (0 : Int) ≤ 512 * (p : Int) := by omega
        have wr1 : IntKind.i64.wrap (512 * (p : Int) + 512) = 512 * (p : Int) + 512 := IntWalk.i64_in _ (by omega)
        refine wp_region_held_drew (S := (fun w' => Below w7.heap.size w7 w')) (by kernel_rfl) (bdr (Below.refl _ _) _) (fun hHeld => ?_)
        try dsimp only at hHeld
        refine wpAnyH_ready (rs := [0]) (by kernel_rfl) (by simp) (AllReadyH.cons rfl (fun K hK => ?_) AllReadyH.nil)
        go_simp
        (go_at_call 15; refine (F.out _).mono ?_; rintro e w8 ⟨rfl, hb8'⟩)
        go_wp2_with fail
        refine hK.out _ _ ?_ (fun hHeld => ?_)
        · ((try dsimp only); (try dsimp only at hHeld); (first | exact Below.refl _ _ | exact bdr (Below.refl _ _) _ | exact bundrew hb8' | exact (bto0 (bundrew hb8') hb9) | assumption))
        clear hK K
        try dsimp only at hHeld
        try simp only [Act.put, List.getElem_toArray, List.getElem_cons_succ, List.getElem_cons_zero, List.setIfInBounds_toArray, List.set_cons_zero, List.set_cons_succ]
        refine wpAnyH_take (i := 1) (v := ?_) rfl (by kernel_rfl) (by kernel_rfl) (by kernel_rfl) (fun _ _ _ h => h) (Or.inl ⟨rfl, ?_⟩) hHeld ?_
        rotate_left
        focus (intro wx hSw; (try dsimp only at hSw); (try go_split_ands); go_simp; (try with_reducible rfl))
        try simp only [Act.put, List.getElem_toArray, List.getElem_cons_succ, List.getElem_cons_zero, List.setIfInBounds_toArray, List.set_cons_zero, List.set_cons_succ]
        refine wpAnyH_take (i := 2) (v := ?_) rfl (by kernel_rfl) (by kernel_rfl) (by kernel_rfl) (fun _ _ _ h => h) (Or.inl ⟨rfl, ?_⟩) hHeld ?_
        rotate_left
        focus (intro wx hSw; (try dsimp only at hSw); (try go_split_ands); go_simp; (try with_reducible rfl))
        try simp only [Act.put, List.getElem_toArray, List.getElem_cons_succ, List.getElem_cons_zero, List.setIfInBounds_toArray, List.set_cons_zero, List.set_cons_succ]
        refine wpAnyH_take (i := 3) (v := ?_) rfl (by kernel_rfl) (by kernel_rfl) (by kernel_rfl) (fun _ _ _ h => h) (Or.inl ⟨rfl, ?_⟩) hHeld ?_
        rotate_left
        focus (intro wx hSw; (try dsimp only at hSw); (try go_split_ands); go_simp; (try with_reducible rfl))
        try simp only [Act.put, List.getElem_toArray, List.getElem_cons_succ, List.getElem_cons_zero, List.setIfInBounds_toArray, List.set_cons_zero, List.set_cons_succ]
        refine wpAnyH_take (i := 4) (v := ?_) rfl (by kernel_rfl) (by kernel_rfl) (by kernel_rfl) (fun _ _ _ h => h) (Or.inl ⟨rfl, ?_⟩) hHeld ?_
        rotate_left
        focus (intro wx hSw; (try dsimp only at hSw); (try go_split_ands); go_simp; (try with_reducible rfl))
        try simp only [Act.put, List.getElem_toArray, List.getElem_cons_succ, List.getElem_cons_zero, List.setIfInBounds_toArray, List.set_cons_zero, List.set_cons_succ]
        refine wpAnyH_take (i := 5) (v := ?_) rfl (by kernel_rfl) (by kernel_rfl) (by kernel_rfl) (fun _ _ _ h => h) (Or.inl ⟨rfl, ?_⟩) hHeld ?_
        rotate_left
        focus (intro wx hSw; (try dsimp only at hSw); (try go_split_ands); go_simp; (try with_reducible rfl))
        try simp only [Act.put, List.getElem_toArray, List.getElem_cons_succ, List.getElem_cons_zero, List.setIfInBounds_toArray, List.set_cons_zero, List.set_cons_succ]
        refine wpAnyH_take (i := 6) (v := ?_) rfl (by kernel_rfl) (by kernel_rfl) (by kernel_rfl) (fun _ _ _ h => h) (Or.inl ⟨rfl, ?_⟩) hHeld ?_
        rotate_left
        focus (intro wx hSw; (try dsimp only at hSw); (try go_split_ands); go_simp; (try with_reducible rfl))
        try simp only [Act.put, List.getElem_toArray, List.getElem_cons_succ, List.getElem_cons_zero, List.setIfInBounds_toArray, List.set_cons_zero, List.set_cons_succ]
        refine wpAnyH_take (i := 7) (v := ?_) rfl (by kernel_rfl) (by kernel_rfl) (by kernel_rfl) (fun _ _ _ h => h) (Or.inl ⟨rfl, ?_⟩) hHeld ?_
        rotate_left
        focus (intro wx hSw; (try dsimp only at hSw); (try go_split_ands); go_simp; (try with_reducible rfl))
        try simp only [Act.put, List.getElem_toArray, List.getElem_cons_succ, List.getElem_cons_zero, List.setIfInBounds_toArray, List.set_cons_zero, List.set_cons_succ]
        refine wpAnyH_take (i := 8) (v := ?_) rfl (by kernel_rfl) (by kernel_rfl) (by kernel_rfl) (fun _ _ _ h => h) (Or.inl ⟨rfl, ?_⟩) hHeld ?_
        rotate_left
        focus (intro wx hSw; (try dsimp only at hSw); (try go_split_ands); go_simp; (try with_reducible rfl))
        try simp only [Act.put, List.getElem_toArray, List.getElem_cons_succ, List.getElem_cons_zero, List.setIfInBounds_toArray, List.set_cons_zero, List.set_cons_succ]
        refine wpAnyH_take (i := 9) (v := ?_) rfl (by kernel_rfl) (by kernel_rfl) (by kernel_rfl) (fun _ _ _ h => h) (Or.inl ⟨rfl, ?_⟩) hHeld ?_
        rotate_left
        focus (intro wx hSw; (try dsimp only at hSw); (try go_split_ands); go_simp; (try with_reducible rfl))
        try simp only [Act.put, List.getElem_toArray, List.getElem_cons_succ, List.getElem_cons_zero, List.setIfInBounds_toArray, List.set_cons_zero, List.set_cons_succ]
        refine wpAnyH_take (i := 10) (v := ?_) rfl (by kernel_rfl) (by kernel_rfl) (by kernel_rfl) (fun _ _ _ h => h) (Or.inl ⟨rfl, ?_⟩) hHeld ?_
        rotate_left
        focus (intro wx hSw; (try dsimp only at hSw); (try go_split_ands); go_simp; (try with_reducible rfl))
        try simp only [Act.put, List.getElem_toArray, List.getElem_cons_succ, List.getElem_cons_zero, List.setIfInBounds_toArray, List.set_cons_zero, List.set_cons_succ]
        refine wpAnyH_take (i := 11) (v := ?_) rfl (by kernel_rfl) (by kernel_rfl) (by kernel_rfl) (fun _ _ _ h => h) (Or.inl ⟨rfl, ?_⟩) hHeld ?_
        rotate_left
        focus (intro wx hSw; (try dsimp only at hSw); (try go_split_ands); go_simp; (try with_reducible rfl))
        try simp only [Act.put, List.getElem_toArray, List.getElem_cons_succ, List.getElem_cons_zero, List.setIfInBounds_toArray, List.set_cons_zero, List.set_cons_succ]
        refine wpAnyH_take (i := 12) (v := ?_) rfl (by kernel_rfl) (by kernel_rfl) (by kernel_rfl) (fun _ _ _ h => h) (Or.inl ⟨rfl, ?_⟩) hHeld ?_
        rotate_left
        focus (intro wx hSw; (try dsimp only at hSw); (try go_split_ands); go_simp; (try with_reducible rfl))
        try simp only [Act.put, List.getElem_toArray, List.getElem_cons_succ, List.getElem_cons_zero, List.setIfInBounds_toArray, List.set_cons_zero, List.set_cons_succ]
        refine wpAnyH_take (i := 13) (v := ?_) rfl (by kernel_rfl) (by kernel_rfl) (by kernel_rfl) (fun _ _ _ h => h) (Or.inl ⟨rfl, ?_⟩) hHeld ?_
        rotate_left
        focus (intro wx hSw; (try dsimp only at hSw); (try go_split_ands); go_simp; (try with_reducible rfl))
        try simp only [Act.put, List.getElem_toArray, List.getElem_cons_succ, List.getElem_cons_zero, List.setIfInBounds_toArray, List.set_cons_zero, List.set_cons_succ]
        refine wpAnyH_take (i := 14) (v := ?_) rfl (by kernel_rfl) (by kernel_rfl) (by kernel_rfl) (fun _ _ _ h => h) (Or.inl ⟨rfl, ?_⟩) hHeld ?_
        rotate_left
        focus (intro wx hSw; (try dsimp only at hSw); (try go_split_ands); go_simp; (try with_reducible rfl))
        try simp only [Act.put, List.getElem_toArray, List.getElem_cons_succ, List.getElem_cons_zero, List.setIfInBounds_toArray, List.set_cons_zero, List.set_cons_succ]
        refine wpAnyH_take (i := 15) (v := ?_) rfl (by kernel_rfl) (by kernel_rfl) (by kernel_rfl) (fun _ _ _ h => h) (Or.inl ⟨rfl, ?_⟩) hHeld ?_
        rotate_left
        focus (intro wx hSw; (try dsimp only at hSw); (try go_split_ands); go_simp; (try with_reducible rfl))
        try simp only [Act.put, List.getElem_toArray, List.getElem_cons_succ, List.getElem_cons_zero, List.setIfInBounds_toArray, List.set_cons_zero, List.set_cons_succ]
        refine wpAnyH_take (i := 16) (v := ?_) rfl (by kernel_rfl) (by kernel_rfl) (by kernel_rfl) (fun _ _ _ h => h) (Or.inl ⟨rfl, ?_⟩) hHeld ?_
        rotate_left
        focus (intro wx hSw; (try dsimp only at hSw); (try go_split_ands); go_simp; (try with_reducible rfl))
        try simp only [Act.put, List.getElem_toArray, List.getElem_cons_succ, List.getElem_cons_zero, List.setIfInBounds_toArray, List.set_cons_zero, List.set_cons_succ]
        refine wpAnyH_take (i := 17) (v := ?_) rfl (by kernel_rfl) (by kernel_rfl) (by kernel_rfl) (fun _ _ _ h => h) (Or.inl ⟨rfl, ?_⟩) hHeld ?_
        rotate_left
        focus (intro wx hSw; (try dsimp only at hSw); (try go_split_ands); go_simp; (try with_reducible rfl))
        try simp only [Act.put, List.getElem_toArray, List.getElem_cons_succ, List.getElem_cons_zero, List.setIfInBounds_toArray, List.set_cons_zero, List.set_cons_succ]
        refine wpAnyH_take (i := 18) (v := ?_) rfl (by kernel_rfl) (by kernel_rfl) (by kernel_rfl) (fun _ _ _ h => h) (Or.inl ⟨rfl, ?_⟩) hHeld ?_
        rotate_left
        focus (intro wx hSw; (try dsimp only at hSw); (try go_split_ands); go_simp; (try with_reducible rfl))
        try simp only [Act.put, List.getElem_toArray, List.getElem_cons_succ, List.getElem_cons_zero, List.setIfInBounds_toArray, List.set_cons_zero, List.set_cons_succ]
        refine wpAnyH_take (i := 19) (v := ?_) rfl (by kernel_rfl) (by kernel_rfl) (by kernel_rfl) (fun _ _ _ h => h) (Or.inl ⟨rfl, ?_⟩) hHeld ?_
        rotate_left
        focus (intro wx hSw; (try dsimp only at hSw); (try go_split_ands); go_simp; (try with_reducible rfl))
        try simp only [Act.put, List.getElem_toArray, List.getElem_cons_succ, List.getElem_cons_zero, List.setIfInBounds_toArray, List.set_cons_zero, List.set_cons_succ]
        refine wpAnyH_take (i := 20) (v := ?_) rfl (by kernel_rfl) (by kernel_rfl) (by kernel_rfl) (fun _ _ _ h => h) (Or.inl ⟨rfl, ?_⟩) hHeld ?_
        rotate_left
        focus (intro wx hSw; (try dsimp only at hSw); (try go_split_ands); go_simp; (try with_reducible rfl))
        try simp only [Act.put, List.getElem_toArray, List.getElem_cons_succ, List.getElem_cons_zero, List.setIfInBounds_toArray, List.set_cons_zero, List.set_cons_succ]
        refine wpAnyH_take (i := 21) (v := ?_) rfl (by kernel_rfl) (by kernel_rfl) (by kernel_rfl) (fun _ _ _ h => h) (Or.inl ⟨rfl, ?_⟩) hHeld ?_
        rotate_left
        focus (intro wx hSw; (try dsimp only at hSw); (try go_split_ands); go_simp; (try with_reducible rfl))
        try simp only [Act.put, List.getElem_toArray, List.getElem_cons_succ, List.getElem_cons_zero, List.setIfInBounds_toArray, List.set_cons_zero, List.set_cons_succ]
        refine wpAnyH_take (i := 22) (v := ?_) rfl (by kernel_rfl) (by kernel_rfl) (by kernel_rfl) (fun _ _ _ h => h) (Or.inl ⟨rfl, ?_⟩) hHeld ?_
        rotate_left
        focus (intro wx hSw; (try dsimp only at hSw); (try go_split_ands); go_simp; (try with_reducible rfl))
        try simp only [Act.put, List.getElem_toArray, List.getElem_cons_succ, List.getElem_cons_zero, List.setIfInBounds_toArray, List.set_cons_zero, List.set_cons_succ]
        refine wpAnyH_take (i := 23) (v := ?_) rfl (by kernel_rfl) (by kernel_rfl) (by kernel_rfl) (fun _ _ _ h => h) (Or.inl ⟨rfl, ?_⟩) hHeld ?_
        rotate_left
        focus (intro wx hSw; (try dsimp only at hSw); (try go_split_ands); go_simp; (try with_reducible rfl))
        try simp only [Act.put, List.getElem_toArray, List.getElem_cons_succ, List.getElem_cons_zero, List.setIfInBounds_toArray, List.set_cons_zero, List.set_cons_succ]
        refine wpAnyH_take (i := 24) (v := ?_) rfl (by kernel_rfl) (by kernel_rfl) (by kernel_rfl) (fun _ _ _ h => h) (Or.inl ⟨rfl, ?_⟩) hHeld ?_
        rotate_left
        focus (intro wx hSw; (try dsimp only at hSw); (try go_split_ands); go_simp; (try with_reducible rfl))
        try simp only [Act.put, List.getElem_toArray, List.getElem_cons_succ, List.getElem_cons_zero, List.setIfInBounds_toArray, List.set_cons_zero, List.set_cons_succ]
        refine wpAnyH_take (i := 25) (v := ?_) rfl (by kernel_rfl) (by kernel_rfl) (by kernel_rfl) (fun _ _ _ h => h) (Or.inl ⟨rfl, ?_⟩) hHeld ?_
        rotate_left
        focus (intro wx hSw; (try dsimp only at hSw); (try go_split_ands); go_simp; (try with_reducible rfl))
        try simp only [Act.put, List.getElem_toArray, List.getElem_cons_succ, List.getElem_cons_zero, List.setIfInBounds_toArray, List.set_cons_zero, List.set_cons_succ]
        refine wpAnyH_take (i := 26) (v := ?_) rfl (by kernel_rfl) (by kernel_rfl) (by kernel_rfl) (fun _ _ _ h => h) (Or.inl ⟨rfl, ?_⟩) hHeld ?_
        rotate_left
        focus (intro wx hSw; (try dsimp only at hSw); (try go_split_ands); go_simp; (try with_reducible rfl))
        try simp only [Act.put, List.getElem_toArray, List.getElem_cons_succ, List.getElem_cons_zero, List.setIfInBounds_toArray, List.set_cons_zero, List.set_cons_succ]
        refine wpAnyH_take (i := 27) (v := ?_) rfl (by kernel_rfl) (by kernel_rfl) (by kernel_rfl) (fun _ _ _ h => h) (Or.inl ⟨rfl, ?_⟩) hHeld ?_
        rotate_left
        focus (intro wx hSw; (try dsimp only at hSw); (try go_split_ands); go_simp; (try with_reducible rfl))
        try simp only [Act.put, List.getElem_toArray, List.getElem_cons_succ, List.getElem_cons_zero, List.setIfInBounds_toArray, List.set_cons_zero, List.set_cons_succ]
        refine wpAnyH_ready (rs := [28]) (by kernel_rfl) (by simp) (AllReadyH.cons rfl (fun K hK => ?_) AllReadyH.nil)
        go_simp
        (go_at_call 19; refine (P5.out _).mono ?_; rintro e w9 ⟨rfl, hr9, hK9, hb9⟩; have cv9 := conv_blk (P := Try.prog) hK9 37 5 9 Try.underlying37 Try.underlying5 Try.underlying9 512 512 (rep_len _); rw [Hs5.out] at cv9)
        go_wp2_with fail
        refine hK.out _ _ ?_ (fun hHeld => ?_)
        · ((try dsimp only); (try dsimp only at hHeld); (first | exact Below.refl _ _ | exact bdr (Below.refl _ _) _ | exact bundrew hb8' | exact (bto0 (bundrew hb8') hb9) | assumption))
        clear hK K
        try dsimp only at hHeld
        try simp only [Act.put, List.getElem_toArray, List.getElem_cons_succ, List.getElem_cons_zero, List.setIfInBounds_toArray, List.set_cons_zero, List.set_cons_succ]
        refine wpAnyH_ready (rs := [29]) (by kernel_rfl) (by simp) (AllReadyH.cons rfl (fun K hK => ?_) AllReadyH.nil)
        go_simp
        refine hK.out _ _ ?_ (fun hHeld => ?_)
        · ((try dsimp only); (try dsimp only at hHeld); (first | exact Below.refl _ _ | exact bdr (Below.refl _ _) _ | exact bundrew hb8' | exact (bto0 (bundrew hb8') hb9) | assumption))
        clear hK K
        try dsimp only at hHeld
        try simp only [Act.put, List.getElem_toArray, List.getElem_cons_succ, List.getElem_cons_zero, List.setIfInBounds_toArray, List.set_cons_zero, List.set_cons_succ]
        refine wpAnyH_take (i := 30) (v := ?_) rfl (by kernel_rfl) (by kernel_rfl) (by kernel_rfl) (fun _ _ _ h => h) (Or.inl ⟨rfl, ?_⟩) hHeld ?_
        rotate_left
        focus (intro wx hSw; (try dsimp only at hSw); (try go_split_ands); go_simp; (try with_reducible rfl))
        try simp only [Act.put, List.getElem_toArray, List.getElem_cons_succ, List.getElem_cons_zero, List.setIfInBounds_toArray, List.set_cons_zero, List.set_cons_succ]
        refine wpAnyH_take (i := 31) (v := ?_) rfl (by kernel_rfl) (by kernel_rfl) (by kernel_rfl) (fun _ _ _ h => h) (Or.inl ⟨rfl, ?_⟩) hHeld ?_
        rotate_left
        focus (intro wx hSw; (try dsimp only at hSw); (try go_split_ands); go_simp; (try with_reducible rfl))
        try simp only [Act.put, List.getElem_toArray, List.getElem_cons_succ, List.getElem_cons_zero, List.setIfInBounds_toArray, List.set_cons_zero, List.set_cons_succ]
        refine wpAnyH_take (i := 32) (v := ?_) rfl (by kernel_rfl) (by kernel_rfl) (by kernel_rfl) (fun _ _ _ h => h) (Or.inl ⟨rfl, ?_⟩) hHeld ?_
        rotate_left
        focus (intro wx hSw; (try dsimp only at hSw); (try go_split_ands); go_simp; (try with_reducible rfl))
        try simp only [Act.put, List.getElem_toArray, List.getElem_cons_succ, List.getElem_cons_zero, List.setIfInBounds_toArray, List.set_cons_zero, List.set_cons_succ]
        refine wpAnyH_done (by kernel_rfl) ?_ _
        go_wp2
        go_ret
        exact ⟨rfl, bto0 (bto0 (bto0 ((bto0 (bto0 hb hb4) hb5).trans (hB6 _ k2 k3)) Hb7.out) (bundrew hb8')) hb9⟩
      · go_wp2_with fail
        refine (P5.out _).mono ?_
        rintro e w5 ⟨rfl, hr5, hK5, hb5⟩
        have hz5 := hb5.size
        have W5 := Lib.hid (write_outL (hL4.out.below hb5 (by omega) (by omega) (by omega)) p (by omega) (by omega) (by omega) (.slice (some ⟨w4.heap.size, 0, none⟩) 512 512))
        have I5 := Lib.hid (imageL (hL4.out.below hb5 (by omega) (by omega) (by omega)) (by omega) hn1)
        clear hr5 hK5
        go_wp2_with fail
        refine W5.out.mono ?_
        rintro e w6 ⟨rfl, rfl⟩
        go_wp2_with fail
        refine I5.out.mono ?_
        rintro e w7 ⟨rfl, hB7, hb7⟩
        have cv7 := conv_blk (P := Try.prog) hB7 37 5 9 Try.underlying37 Try.underlying5 Try.underlying9 (n * 512) (n * 512) Hlen.out
        have q1 : (n : Int) ≤ (p : Int) := by omega
        clear cv4 hB4 hB7
        go_wp2_with (go_at_call 15; refine (F.out _).mono ?_; rintro e w8 ⟨rfl, hb8⟩)
        go_ret
        exact ⟨rfl, bto0 hb (bto0 hb4 (bto0 hb5 (bto0 hb7 hb8)))⟩
theorem diskApart_any (pg : Int) (A : Option Addr) (m cap : Nat) (l : List Op4) (p c : Int) (w : World) (hm : m ≤ maxLen) (hr : Reads w w.heap.size 4 A m (vO l)) (hok : ∀ v ∈ l, v.ok) (hp : 0 ≤ p ∧ p ≤ 4294967295) (hc : 0 ≤ c ∧ c ≤ 255) :
    Calls Try.prog 7 #[.int .i64 pg, .slice A m cap, .int .u32 p, .int .u8 c] w (RetB w (.bool true)) := by
  unfold maxLen at hm
  obtain ⟨b, rfl⟩ := byte_of hc.1 hc.2
  by_cases h : pg < 1 ∨ 20 < pg ∨ 100 < m
  · exact diskApart_out pg A m cap p b w h (by omega)
  · obtain ⟨n, rfl⟩ : ∃ n : Nat, pg = n := ⟨pg.toNat, by omega⟩
    obtain ⟨q, rfl⟩ : ∃ q : Nat, p = q := ⟨p.toNat, by omega⟩
    exact diskApart_in n A m cap l q b w (by omega) (by omega) (by omega) hr hok (by omega)
end Go.Proofs.Ytcpbkaeilmabaaa

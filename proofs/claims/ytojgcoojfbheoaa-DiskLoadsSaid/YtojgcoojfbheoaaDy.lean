/-
  The law DiskLoads.
-/
import Derived.Test.YtojgcoojfbheoaaDx
import Derived.Test.YtojgcoojfbheoaaOp
namespace Go.Proofs.Ytojgcoojfbheoaa
open Go.RowKit

theorem blk_fill {w : World} {g n : Nat} {t : TypeId} {c : Int} {b : UInt8} {l : List UInt8} (h : Blk w g t (fillA c n n)) (hc : c = (b.toNat : Int)) (hl : List.replicate n b = l) : Blk w g t (bV l) := by
  subst hc hl
  rwa [fillA_rep] at h

theorem blk_at {w : World} {g g' : Nat} {t : TypeId} {cs : Array Value} (h : Blk w g t cs) (e : g = g') : Blk w g' t cs := by subst e; exact h
theorem reads_blk {w : World} {g : Nat} {t : TypeId} {l : List UInt8} (h : Blk w g t (bV l)) {n : Nat} (hn : l.length = n) : Reads w (g + 1) 1 (some ⟨g, 0, none⟩) n (bL l) := by
  refine ⟨by rw [bL_len]; omega, fun _ => ⟨_, rfl, Nat.lt_succ_self _, fun j u hu => ?_⟩⟩
  rw [add_head, h.cell, bV, List.getElem?_toArray]
  exact hu
theorem blk_sx {w : World} {g : Nat} {t : TypeId} {x : UInt8} {sx : List UInt8} (h : Blk w g t #[.int .u8 (x.toNat : Int)]) (hs : [x] = sx) : Blk w g t (bV sx) := by subst hs; exact h
set_option maxRecDepth 100000 in
set_option maxHeartbeats 4000000 in
theorem diskLoads_in (A : Option Addr) (n c : Nat) (ks : List UInt8) (r : Nat) (Ao : Option Addr) (mo co : Nat) (w : World) (hr : Reads w w.heap.size 1 A n (bL ks)) (hn : n ≤ 20) (hrr : r ≤ 65535) (hmo : mo ≤ 50) :
    Calls Try.prog 4 #[.slice A n c, .int .u16 r, .slice Ao mo co] w (RetB w (.bool true)) := by
  have g1 : (n : Int) ≤ 20 := by omega
  have g2 : (mo : Int) ≤ 50 := by omega
  have HP : Hid (∀ (c : Int) (W : World), Calls Try.prog 19 #[.int .u8 c, .int .i64 511] W (RetPage W c 511)) := fun c W => pageN_any c 511 (by omega) W
  go_enter Try.func4, Try.ntmps4
  go_wp2_with fail
  go_loopw [7, 28] (fun u7 u28 wr => ∃ k : Nat, u7 = .string (str (imgK ks k)) ∧ u28 = .int .i64 k ∧ k ≤ n ∧ Below w.heap.size w wr) (fun _ u28 _ => n - (intOf u28).toNat)
  case atStart => exact ⟨0, rfl, rfl, by omega, Below.refl _ _⟩
  case round =>
    obtain ⟨k, rfl, rfl, hk, hb⟩ := hrel
    have q0 : (0 : Int) ≤ (k : Int) := by omega
    have hik := imgK_len ks k
    by_cases hlt : k < n
    · have q1 : (k : Int) < (n : Int) := by omega
      obtain ⟨ad, x, rfl, hab, hx, d1⟩ := (hr.below hb).byte hlt
      have HI := Lib.hid (imgK_succ ks k x hx)
      obtain ⟨sx, hsx⟩ : ∃ sx, [x] = sx := ⟨_, rfl⟩
      obtain ⟨sf, hsf⟩ : ∃ sf, fl5 (UInt8.ofNat k) = sf := ⟨_, rfl⟩
      obtain ⟨si, hsi⟩ : ∃ si, imgK ks k = si := ⟨_, rfl⟩
      have Z1 : Hid (sx.length = 1 ∧ sf.length = 511) := ⟨by rw [← hsx]; rfl, by rw [← hsf, fl5_len]⟩
      have e1 : (str sx).size = 1 := by rw [str_size, Z1.out.1]
      have e2 : (str sf).size = 511 := by rw [str_size, Z1.out.2]
      have e3 : (str si).size = k * 512 := by rw [str_size, ← hsi, hik]
      have HW8 : Hid (IntKind.u8.wrap (k : Int) = ((UInt8.ofNat k).toNat : Int)) := by unfold Hid; rw [u8_nat]; simp [IntKind.wrap, IntKind.signed, IntKind.bits]
      have hz1 : ¬ (9223372036854775807 < k * 512 + 512) := by omega
      have HF : Hid (List.replicate 511 (UInt8.ofNat k) = sf) := hsf
      rw [hsx, hsf, hsi] at HI
      rw [hsi]
      have HX : Hid ([x] = sx) := hsx
      clear hsx hsf hsi hx hik
      go_wp2_with fail
      refine wp_region_held_drew (S := (fun _ => True)) (by kernel_rfl) trivial (fun hHeld => ?_)
      try dsimp only at hHeld
      refine wpAnyH_take (i := 0) (v := ?_) rfl (by kernel_rfl) (by kernel_rfl) (by kernel_rfl) (fun _ _ _ h => h) (Or.inl ⟨rfl, ?_⟩) hHeld ?_
      rotate_left
      focus (intro wx hSw; (try dsimp only at hSw); (try go_split_ands); go_simp; (try with_reducible rfl))
      try simp only [Act.put, List.getElem_toArray, List.getElem_cons_succ, List.getElem_cons_zero, List.setIfInBounds_toArray, List.set_cons_zero, List.set_cons_succ]
      refine wpAnyH_take (i := 1) (v := ?_) rfl (by kernel_rfl) (by kernel_rfl) (by kernel_rfl) (fun _ _ _ h => h) (Or.inl ⟨rfl, ?_⟩) hHeld ?_
      rotate_left
      focus (intro wx hSw; (try dsimp only at hSw); (try go_split_ands); go_simp; (try with_reducible rfl))
      try simp only [Act.put, List.getElem_toArray, List.getElem_cons_succ, List.getElem_cons_zero, List.setIfInBounds_toArray, List.set_cons_zero, List.set_cons_succ]
      refine wpAnyH_take (i := 4) (v := ?_) rfl (by kernel_rfl) (by kernel_rfl) (by kernel_rfl) (fun _ _ _ h => h) (Or.inl ⟨rfl, ?_⟩) hHeld ?_
      rotate_left
      focus (intro wx hSw; (try dsimp only at hSw); (try go_split_ands); go_simp; (try with_reducible rfl))
      try simp only [Act.put, List.getElem_toArray, List.getElem_cons_succ, List.getElem_cons_zero, List.setIfInBounds_toArray, List.set_cons_zero, List.set_cons_succ]
      refine wpAnyH_take (i := 5) (v := ?_) rfl (by kernel_rfl) (by kernel_rfl) (by kernel_rfl) (fun _ _ _ h => h) (Or.inl ⟨rfl, ?_⟩) hHeld ?_
      rotate_left
      focus (intro wx hSw; (try dsimp only at hSw); (try go_split_ands); go_simp; (try with_reducible rfl))
      try simp only [Act.put, List.getElem_toArray, List.getElem_cons_succ, List.getElem_cons_zero, List.setIfInBounds_toArray, List.set_cons_zero, List.set_cons_succ]
      refine wpAnyH_ready (rs := [2, 6]) (by kernel_rfl) (by simp) (AllReadyH.cons rfl (fun K hK => ?_) (AllReadyH.cons rfl (fun K hK => ?_) AllReadyH.nil))
      · go_simp
        have BK := blk_sx ((Blk.new wr 5 #[.int .u8 (x.toNat : Int)]).drew) HX.out
        refine hK.out _ _ ?_ (fun hHeld => ?_)
        · ((try dsimp only); (try dsimp only at hHeld); try trivial)
        clear hK K
        try dsimp only at hHeld
        try simp only [Act.put, List.getElem_toArray, List.getElem_cons_succ, List.getElem_cons_zero, List.setIfInBounds_toArray, List.set_cons_zero, List.set_cons_succ]
        refine wpAnyH_ready (rs := [3, 6]) (by kernel_rfl) (by simp) (AllReadyH.cons rfl (fun K hK => ?_) (AllReadyH.cons rfl (fun K hK => ?_) AllReadyH.nil))
        · go_simp
          first | rw [conv_blk (P := Try.prog) (l := sx) BK 37 5 9 Try.underlying37 Try.underlying5 Try.underlying9 1 1 Z1.out.1] | rw [conv_blk (P := Try.prog) (l := sx) (BK.alloc _) 37 5 9 Try.underlying37 Try.underlying5 Try.underlying9 1 1 Z1.out.1]
          go_simp
          refine hK.out _ _ ?_ (fun hHeld => ?_)
          · ((try dsimp only); (try dsimp only at hHeld); try trivial)
          clear hK K
          try dsimp only at hHeld
          try simp only [Act.put, List.getElem_toArray, List.getElem_cons_succ, List.getElem_cons_zero, List.setIfInBounds_toArray, List.set_cons_zero, List.set_cons_succ]
          refine wpAnyH_ready (rs := [6]) (by kernel_rfl) (by simp) (AllReadyH.cons rfl (fun K hK => ?_) AllReadyH.nil)
          go_simp
          (go_at_call 19; (with_reducible refine (HP.out _ _).mono ?_); rintro e w6 ⟨rfl, hK6, hb6⟩)
          have hKp := blk_fill (b := UInt8.ofNat k) (l := sf) hK6 (by first | exact HW8.out | (simp; omega)) HF.out
          have hKp := blk_at hKp (show _ = wr.heap.size + 1 from by simp)
          clear hK6
          have BK6 := BK.below hb6 BK.lt
          go_wp2_with fail
          refine hK.out _ _ ?_ (fun hHeld => ?_)
          · ((try dsimp only); (try dsimp only at hHeld); try trivial)
          clear hK K
          try dsimp only at hHeld
          try simp only [Act.put, List.getElem_toArray, List.getElem_cons_succ, List.getElem_cons_zero, List.setIfInBounds_toArray, List.set_cons_zero, List.set_cons_succ]
          refine wpAnyH_ready (rs := [7]) (by kernel_rfl) (by simp) (AllReadyH.cons rfl (fun K hK => ?_) AllReadyH.nil)
          go_simp
          first | rw [conv_blk (P := Try.prog) (l := sf) hKp 37 5 9 Try.underlying37 Try.underlying5 Try.underlying9 511 511 Z1.out.2] | rw [conv_blk (P := Try.prog) (l := sf) (hKp.alloc _) 37 5 9 Try.underlying37 Try.underlying5 Try.underlying9 511 511 Z1.out.2]
          go_simp
          refine hK.out _ _ ?_ (fun hHeld => ?_)
          · ((try dsimp only); (try dsimp only at hHeld); try trivial)
          clear hK K
          try dsimp only at hHeld
          try simp only [Act.put, List.getElem_toArray, List.getElem_cons_succ, List.getElem_cons_zero, List.setIfInBounds_toArray, List.set_cons_zero, List.set_cons_succ]
          refine wpAnyH_take (i := 8) (v := ?_) rfl (by kernel_rfl) (by kernel_rfl) (by kernel_rfl) (fun _ _ _ h => h) (Or.inl ⟨rfl, ?_⟩) hHeld ?_
          rotate_left
          focus (intro wx hSw; (try dsimp only at hSw); (try go_split_ands); go_simp; (try with_reducible rfl))
          try simp only [Act.put, List.getElem_toArray, List.getElem_cons_succ, List.getElem_cons_zero, List.setIfInBounds_toArray, List.set_cons_zero, List.set_cons_succ]
          refine wpAnyH_take (i := 9) (v := ?_) rfl (by kernel_rfl) (by kernel_rfl) (by kernel_rfl) (fun _ _ _ h => h) (Or.inl ⟨rfl, ?_⟩) hHeld ?_
          rotate_left
          focus (intro wx hSw; (try dsimp only at hSw); (try go_split_ands); go_simp; (try with_reducible rfl))
          try simp only [Act.put, List.getElem_toArray, List.getElem_cons_succ, List.getElem_cons_zero, List.setIfInBounds_toArray, List.set_cons_zero, List.set_cons_succ]
          refine wpAnyH_take (i := 10) (v := ?_) rfl (by kernel_rfl) (by kernel_rfl) (by kernel_rfl) (fun _ _ _ h => h) (Or.inl ⟨rfl, ?_⟩) hHeld ?_
          rotate_left
          focus (intro wx hSw; (try dsimp only at hSw); (try go_split_ands); go_simp; (try with_reducible rfl))
          try simp only [Act.put, List.getElem_toArray, List.getElem_cons_succ, List.getElem_cons_zero, List.setIfInBounds_toArray, List.set_cons_zero, List.set_cons_succ]
          refine wpAnyH_done (by kernel_rfl) ?_ _
          clear hHeld
          go_wp2
          go_roundw
          case rel => exact ⟨k + 1, by rw [HI.out, str_app, str_app], by go_num, by omega, bto0 hb (by with_reducible repeat (first | exact Below.refl _ _ | exact hb6 | refine bto0 ?_ hb6 | refine bdr ?_ _ | refine Below.drew ?_ | refine ball ?_ _))⟩
          case measure => simp [intOf]; omega
        · go_simp
          (go_at_call 19; (with_reducible refine (HP.out _ _).mono ?_); rintro e w6 ⟨rfl, hK6, hb6⟩)
          have hKp := blk_fill (b := UInt8.ofNat k) (l := sf) hK6 (by first | exact HW8.out | (simp; omega)) HF.out
          have hKp := blk_at hKp (show _ = wr.heap.size + 1 from by simp)
          clear hK6
          have BK6 := BK.below hb6 BK.lt
          go_wp2_with fail
          refine hK.out _ _ ?_ (fun hHeld => ?_)
          · ((try dsimp only); (try dsimp only at hHeld); try trivial)
          clear hK K
          try dsimp only at hHeld
          try simp only [Act.put, List.getElem_toArray, List.getElem_cons_succ, List.getElem_cons_zero, List.setIfInBounds_toArray, List.set_cons_zero, List.set_cons_succ]
          refine wpAnyH_ready (rs := [3, 7]) (by kernel_rfl) (by simp) (AllReadyH.cons rfl (fun K hK => ?_) (AllReadyH.cons rfl (fun K hK => ?_) AllReadyH.nil))
          · go_simp
            first | rw [conv_blk (P := Try.prog) (l := sx) BK6 37 5 9 Try.underlying37 Try.underlying5 Try.underlying9 1 1 Z1.out.1] | rw [conv_blk (P := Try.prog) (l := sx) (BK6.alloc _) 37 5 9 Try.underlying37 Try.underlying5 Try.underlying9 1 1 Z1.out.1]
            go_simp
            refine hK.out _ _ ?_ (fun hHeld => ?_)
            · ((try dsimp only); (try dsimp only at hHeld); try trivial)
            clear hK K
            try dsimp only at hHeld
            try simp only [Act.put, List.getElem_toArray, List.getElem_cons_succ, List.getElem_cons_zero, List.setIfInBounds_toArray, List.set_cons_zero, List.set_cons_succ]
            refine wpAnyH_ready (rs := [7]) (by kernel_rfl) (by simp) (AllReadyH.cons rfl (fun K hK => ?_) AllReadyH.nil)
            go_simp
            first | rw [conv_blk (P := Try.prog) (l := sf) hKp 37 5 9 Try.underlying37 Try.underlying5 Try.underlying9 511 511 Z1.out.2] | rw [conv_blk (P := Try.prog) (l := sf) (hKp.alloc _) 37 5 9 Try.underlying37 Try.underlying5 Try.underlying9 511 511 Z1.out.2]
            go_simp
            refine hK.out _ _ ?_ (fun hHeld => ?_)
            · ((try dsimp only); (try dsimp only at hHeld); try trivial)
            clear hK K
            try dsimp only at hHeld
            try simp only [Act.put, List.getElem_toArray, List.getElem_cons_succ, List.getElem_cons_zero, List.setIfInBounds_toArray, List.set_cons_zero, List.set_cons_succ]
            refine wpAnyH_take (i := 8) (v := ?_) rfl (by kernel_rfl) (by kernel_rfl) (by kernel_rfl) (fun _ _ _ h => h) (Or.inl ⟨rfl, ?_⟩) hHeld ?_
            rotate_left
            focus (intro wx hSw; (try dsimp only at hSw); (try go_split_ands); go_simp; (try with_reducible rfl))
            try simp only [Act.put, List.getElem_toArray, List.getElem_cons_succ, List.getElem_cons_zero, List.setIfInBounds_toArray, List.set_cons_zero, List.set_cons_succ]
            refine wpAnyH_take (i := 9) (v := ?_) rfl (by kernel_rfl) (by kernel_rfl) (by kernel_rfl) (fun _ _ _ h => h) (Or.inl ⟨rfl, ?_⟩) hHeld ?_
            rotate_left
            focus (intro wx hSw; (try dsimp only at hSw); (try go_split_ands); go_simp; (try with_reducible rfl))
            try simp only [Act.put, List.getElem_toArray, List.getElem_cons_succ, List.getElem_cons_zero, List.setIfInBounds_toArray, List.set_cons_zero, List.set_cons_succ]
            refine wpAnyH_take (i := 10) (v := ?_) rfl (by kernel_rfl) (by kernel_rfl) (by kernel_rfl) (fun _ _ _ h => h) (Or.inl ⟨rfl, ?_⟩) hHeld ?_
            rotate_left
            focus (intro wx hSw; (try dsimp only at hSw); (try go_split_ands); go_simp; (try with_reducible rfl))
            try simp only [Act.put, List.getElem_toArray, List.getElem_cons_succ, List.getElem_cons_zero, List.setIfInBounds_toArray, List.set_cons_zero, List.set_cons_succ]
            refine wpAnyH_done (by kernel_rfl) ?_ _
            clear hHeld
            go_wp2
            go_roundw
            case rel => exact ⟨k + 1, by rw [HI.out, str_app, str_app], by go_num, by omega, bto0 hb (by with_reducible repeat (first | exact Below.refl _ _ | exact hb6 | refine bto0 ?_ hb6 | refine bdr ?_ _ | refine Below.drew ?_ | refine ball ?_ _))⟩
            case measure => simp [intOf]; omega
          · go_simp
            first | rw [conv_blk (P := Try.prog) (l := sf) hKp 37 5 9 Try.underlying37 Try.underlying5 Try.underlying9 511 511 Z1.out.2] | rw [conv_blk (P := Try.prog) (l := sf) (hKp.alloc _) 37 5 9 Try.underlying37 Try.underlying5 Try.underlying9 511 511 Z1.out.2]
            go_simp
            refine hK.out _ _ ?_ (fun hHeld => ?_)
            · ((try dsimp only); (try dsimp only at hHeld); try trivial)
            clear hK K
            try dsimp only at hHeld
            try simp only [Act.put, List.getElem_toArray, List.getElem_cons_succ, List.getElem_cons_zero, List.setIfInBounds_toArray, List.set_cons_zero, List.set_cons_succ]
            refine wpAnyH_ready (rs := [3]) (by kernel_rfl) (by simp) (AllReadyH.cons rfl (fun K hK => ?_) AllReadyH.nil)
            go_simp
            first | rw [conv_blk (P := Try.prog) (l := sx) BK6 37 5 9 Try.underlying37 Try.underlying5 Try.underlying9 1 1 Z1.out.1] | rw [conv_blk (P := Try.prog) (l := sx) (BK6.alloc _) 37 5 9 Try.underlying37 Try.underlying5 Try.underlying9 1 1 Z1.out.1]
            go_simp
            refine hK.out _ _ ?_ (fun hHeld => ?_)
            · ((try dsimp only); (try dsimp only at hHeld); try trivial)
            clear hK K
            try dsimp only at hHeld
            try simp only [Act.put, List.getElem_toArray, List.getElem_cons_succ, List.getElem_cons_zero, List.setIfInBounds_toArray, List.set_cons_zero, List.set_cons_succ]
            refine wpAnyH_take (i := 8) (v := ?_) rfl (by kernel_rfl) (by kernel_rfl) (by kernel_rfl) (fun _ _ _ h => h) (Or.inl ⟨rfl, ?_⟩) hHeld ?_
            rotate_left
            focus (intro wx hSw; (try dsimp only at hSw); (try go_split_ands); go_simp; (try with_reducible rfl))
            try simp only [Act.put, List.getElem_toArray, List.getElem_cons_succ, List.getElem_cons_zero, List.setIfInBounds_toArray, List.set_cons_zero, List.set_cons_succ]
            refine wpAnyH_take (i := 9) (v := ?_) rfl (by kernel_rfl) (by kernel_rfl) (by kernel_rfl) (fun _ _ _ h => h) (Or.inl ⟨rfl, ?_⟩) hHeld ?_
            rotate_left
            focus (intro wx hSw; (try dsimp only at hSw); (try go_split_ands); go_simp; (try with_reducible rfl))
            try simp only [Act.put, List.getElem_toArray, List.getElem_cons_succ, List.getElem_cons_zero, List.setIfInBounds_toArray, List.set_cons_zero, List.set_cons_succ]
            refine wpAnyH_take (i := 10) (v := ?_) rfl (by kernel_rfl) (by kernel_rfl) (by kernel_rfl) (fun _ _ _ h => h) (Or.inl ⟨rfl, ?_⟩) hHeld ?_
            rotate_left
            focus (intro wx hSw; (try dsimp only at hSw); (try go_split_ands); go_simp; (try with_reducible rfl))
            try simp only [Act.put, List.getElem_toArray, List.getElem_cons_succ, List.getElem_cons_zero, List.setIfInBounds_toArray, List.set_cons_zero, List.set_cons_succ]
            refine wpAnyH_done (by kernel_rfl) ?_ _
            clear hHeld
            go_wp2
            go_roundw
            case rel => exact ⟨k + 1, by rw [HI.out, str_app, str_app], by go_num, by omega, bto0 hb (by with_reducible repeat (first | exact Below.refl _ _ | exact hb6 | refine bto0 ?_ hb6 | refine bdr ?_ _ | refine Below.drew ?_ | refine ball ?_ _))⟩
            case measure => simp [intOf]; omega
      · go_simp
        (go_at_call 19; (with_reducible refine (HP.out _ _).mono ?_); rintro e w6 ⟨rfl, hK6, hb6⟩)
        have hKp := blk_fill (b := UInt8.ofNat k) (l := sf) hK6 (by first | exact HW8.out | (simp; omega)) HF.out
        have hKp := blk_at hKp (show _ = wr.heap.size from by simp)
        clear hK6
        go_wp2_with fail
        refine hK.out _ _ ?_ (fun hHeld => ?_)
        · ((try dsimp only); (try dsimp only at hHeld); try trivial)
        clear hK K
        try dsimp only at hHeld
        try simp only [Act.put, List.getElem_toArray, List.getElem_cons_succ, List.getElem_cons_zero, List.setIfInBounds_toArray, List.set_cons_zero, List.set_cons_succ]
        refine wpAnyH_ready (rs := [2, 7]) (by kernel_rfl) (by simp) (AllReadyH.cons rfl (fun K hK => ?_) (AllReadyH.cons rfl (fun K hK => ?_) AllReadyH.nil))
        · go_simp
          have BK := blk_sx (Blk.new w6 5 #[.int .u8 (x.toNat : Int)]) HX.out
          refine hK.out _ _ ?_ (fun hHeld => ?_)
          · ((try dsimp only); (try dsimp only at hHeld); try trivial)
          clear hK K
          try dsimp only at hHeld
          try simp only [Act.put, List.getElem_toArray, List.getElem_cons_succ, List.getElem_cons_zero, List.setIfInBounds_toArray, List.set_cons_zero, List.set_cons_succ]
          refine wpAnyH_ready (rs := [3, 7]) (by kernel_rfl) (by simp) (AllReadyH.cons rfl (fun K hK => ?_) (AllReadyH.cons rfl (fun K hK => ?_) AllReadyH.nil))
          · go_simp
            first | rw [conv_blk (P := Try.prog) (l := sx) BK 37 5 9 Try.underlying37 Try.underlying5 Try.underlying9 1 1 Z1.out.1] | rw [conv_blk (P := Try.prog) (l := sx) (BK.alloc _) 37 5 9 Try.underlying37 Try.underlying5 Try.underlying9 1 1 Z1.out.1]
            go_simp
            refine hK.out _ _ ?_ (fun hHeld => ?_)
            · ((try dsimp only); (try dsimp only at hHeld); try trivial)
            clear hK K
            try dsimp only at hHeld
            try simp only [Act.put, List.getElem_toArray, List.getElem_cons_succ, List.getElem_cons_zero, List.setIfInBounds_toArray, List.set_cons_zero, List.set_cons_succ]
            refine wpAnyH_ready (rs := [7]) (by kernel_rfl) (by simp) (AllReadyH.cons rfl (fun K hK => ?_) AllReadyH.nil)
            go_simp
            first | rw [conv_blk (P := Try.prog) (l := sf) hKp 37 5 9 Try.underlying37 Try.underlying5 Try.underlying9 511 511 Z1.out.2] | rw [conv_blk (P := Try.prog) (l := sf) (hKp.alloc _) 37 5 9 Try.underlying37 Try.underlying5 Try.underlying9 511 511 Z1.out.2]
            go_simp
            refine hK.out _ _ ?_ (fun hHeld => ?_)
            · ((try dsimp only); (try dsimp only at hHeld); try trivial)
            clear hK K
            try dsimp only at hHeld
            try simp only [Act.put, List.getElem_toArray, List.getElem_cons_succ, List.getElem_cons_zero, List.setIfInBounds_toArray, List.set_cons_zero, List.set_cons_succ]
            refine wpAnyH_take (i := 8) (v := ?_) rfl (by kernel_rfl) (by kernel_rfl) (by kernel_rfl) (fun _ _ _ h => h) (Or.inl ⟨rfl, ?_⟩) hHeld ?_
            rotate_left
            focus (intro wx hSw; (try dsimp only at hSw); (try go_split_ands); go_simp; (try with_reducible rfl))
            try simp only [Act.put, List.getElem_toArray, List.getElem_cons_succ, List.getElem_cons_zero, List.setIfInBounds_toArray, List.set_cons_zero, List.set_cons_succ]
            refine wpAnyH_take (i := 9) (v := ?_) rfl (by kernel_rfl) (by kernel_rfl) (by kernel_rfl) (fun _ _ _ h => h) (Or.inl ⟨rfl, ?_⟩) hHeld ?_
            rotate_left
            focus (intro wx hSw; (try dsimp only at hSw); (try go_split_ands); go_simp; (try with_reducible rfl))
            try simp only [Act.put, List.getElem_toArray, List.getElem_cons_succ, List.getElem_cons_zero, List.setIfInBounds_toArray, List.set_cons_zero, List.set_cons_succ]
            refine wpAnyH_take (i := 10) (v := ?_) rfl (by kernel_rfl) (by kernel_rfl) (by kernel_rfl) (fun _ _ _ h => h) (Or.inl ⟨rfl, ?_⟩) hHeld ?_
            rotate_left
            focus (intro wx hSw; (try dsimp only at hSw); (try go_split_ands); go_simp; (try with_reducible rfl))
            try simp only [Act.put, List.getElem_toArray, List.getElem_cons_succ, List.getElem_cons_zero, List.setIfInBounds_toArray, List.set_cons_zero, List.set_cons_succ]
            refine wpAnyH_done (by kernel_rfl) ?_ _
            clear hHeld
            go_wp2
            go_roundw
            case rel => exact ⟨k + 1, by rw [HI.out, str_app, str_app], by go_num, by omega, bto0 hb (by with_reducible repeat (first | exact Below.refl _ _ | exact hb6 | refine bto0 ?_ hb6 | refine bdr ?_ _ | refine Below.drew ?_ | refine ball ?_ _))⟩
            case measure => simp [intOf]; omega
          · go_simp
            first | rw [conv_blk (P := Try.prog) (l := sf) hKp 37 5 9 Try.underlying37 Try.underlying5 Try.underlying9 511 511 Z1.out.2] | rw [conv_blk (P := Try.prog) (l := sf) (hKp.alloc _) 37 5 9 Try.underlying37 Try.underlying5 Try.underlying9 511 511 Z1.out.2]
            go_simp
            refine hK.out _ _ ?_ (fun hHeld => ?_)
            · ((try dsimp only); (try dsimp only at hHeld); try trivial)
            clear hK K
            try dsimp only at hHeld
            try simp only [Act.put, List.getElem_toArray, List.getElem_cons_succ, List.getElem_cons_zero, List.setIfInBounds_toArray, List.set_cons_zero, List.set_cons_succ]
            refine wpAnyH_ready (rs := [3]) (by kernel_rfl) (by simp) (AllReadyH.cons rfl (fun K hK => ?_) AllReadyH.nil)
            go_simp
            first | rw [conv_blk (P := Try.prog) (l := sx) BK 37 5 9 Try.underlying37 Try.underlying5 Try.underlying9 1 1 Z1.out.1] | rw [conv_blk (P := Try.prog) (l := sx) (BK.alloc _) 37 5 9 Try.underlying37 Try.underlying5 Try.underlying9 1 1 Z1.out.1]
            go_simp
            refine hK.out _ _ ?_ (fun hHeld => ?_)
            · ((try dsimp only); (try dsimp only at hHeld); try trivial)
            clear hK K
            try dsimp only at hHeld
            try simp only [Act.put, List.getElem_toArray, List.getElem_cons_succ, List.getElem_cons_zero, List.setIfInBounds_toArray, List.set_cons_zero, List.set_cons_succ]
            refine wpAnyH_take (i := 8) (v := ?_) rfl (by kernel_rfl) (by kernel_rfl) (by kernel_rfl) (fun _ _ _ h => h) (Or.inl ⟨rfl, ?_⟩) hHeld ?_
            rotate_left
            focus (intro wx hSw; (try dsimp only at hSw); (try go_split_ands); go_simp; (try with_reducible rfl))
            try simp only [Act.put, List.getElem_toArray, List.getElem_cons_succ, List.getElem_cons_zero, List.setIfInBounds_toArray, List.set_cons_zero, List.set_cons_succ]
            refine wpAnyH_take (i := 9) (v := ?_) rfl (by kernel_rfl) (by kernel_rfl) (by kernel_rfl) (fun _ _ _ h => h) (Or.inl ⟨rfl, ?_⟩) hHeld ?_
            rotate_left
            focus (intro wx hSw; (try dsimp only at hSw); (try go_split_ands); go_simp; (try with_reducible rfl))
            try simp only [Act.put, List.getElem_toArray, List.getElem_cons_succ, List.getElem_cons_zero, List.setIfInBounds_toArray, List.set_cons_zero, List.set_cons_succ]
            refine wpAnyH_take (i := 10) (v := ?_) rfl (by kernel_rfl) (by kernel_rfl) (by kernel_rfl) (fun _ _ _ h => h) (Or.inl ⟨rfl, ?_⟩) hHeld ?_
            rotate_left
            focus (intro wx hSw; (try dsimp only at hSw); (try go_split_ands); go_simp; (try with_reducible rfl))
            try simp only [Act.put, List.getElem_toArray, List.getElem_cons_succ, List.getElem_cons_zero, List.setIfInBounds_toArray, List.set_cons_zero, List.set_cons_succ]
            refine wpAnyH_done (by kernel_rfl) ?_ _
            clear hHeld
            go_wp2
            go_roundw
            case rel => exact ⟨k + 1, by rw [HI.out, str_app, str_app], by go_num, by omega, bto0 hb (by with_reducible repeat (first | exact Below.refl _ _ | exact hb6 | refine bto0 ?_ hb6 | refine bdr ?_ _ | refine Below.drew ?_ | refine ball ?_ _))⟩
            case measure => simp [intOf]; omega
        · go_simp
          first | rw [conv_blk (P := Try.prog) (l := sf) hKp 37 5 9 Try.underlying37 Try.underlying5 Try.underlying9 511 511 Z1.out.2] | rw [conv_blk (P := Try.prog) (l := sf) (hKp.alloc _) 37 5 9 Try.underlying37 Try.underlying5 Try.underlying9 511 511 Z1.out.2]
          go_simp
          refine hK.out _ _ ?_ (fun hHeld => ?_)
          · ((try dsimp only); (try dsimp only at hHeld); try trivial)
          clear hK K
          try dsimp only at hHeld
          try simp only [Act.put, List.getElem_toArray, List.getElem_cons_succ, List.getElem_cons_zero, List.setIfInBounds_toArray, List.set_cons_zero, List.set_cons_succ]
          refine wpAnyH_ready (rs := [2]) (by kernel_rfl) (by simp) (AllReadyH.cons rfl (fun K hK => ?_) AllReadyH.nil)
          go_simp
          have BK := blk_sx (Blk.new w6 5 #[.int .u8 (x.toNat : Int)]) HX.out
          refine hK.out _ _ ?_ (fun hHeld => ?_)
          · ((try dsimp only); (try dsimp only at hHeld); try trivial)
          clear hK K
          try dsimp only at hHeld
          try simp only [Act.put, List.getElem_toArray, List.getElem_cons_succ, List.getElem_cons_zero, List.setIfInBounds_toArray, List.set_cons_zero, List.set_cons_succ]
          refine wpAnyH_ready (rs := [3]) (by kernel_rfl) (by simp) (AllReadyH.cons rfl (fun K hK => ?_) AllReadyH.nil)
          go_simp
          first | rw [conv_blk (P := Try.prog) (l := sx) BK 37 5 9 Try.underlying37 Try.underlying5 Try.underlying9 1 1 Z1.out.1] | rw [conv_blk (P := Try.prog) (l := sx) (BK.alloc _) 37 5 9 Try.underlying37 Try.underlying5 Try.underlying9 1 1 Z1.out.1]
          go_simp
          refine hK.out _ _ ?_ (fun hHeld => ?_)
          · ((try dsimp only); (try dsimp only at hHeld); try trivial)
          clear hK K
          try dsimp only at hHeld
          try simp only [Act.put, List.getElem_toArray, List.getElem_cons_succ, List.getElem_cons_zero, List.setIfInBounds_toArray, List.set_cons_zero, List.set_cons_succ]
          refine wpAnyH_take (i := 8) (v := ?_) rfl (by kernel_rfl) (by kernel_rfl) (by kernel_rfl) (fun _ _ _ h => h) (Or.inl ⟨rfl, ?_⟩) hHeld ?_
          rotate_left
          focus (intro wx hSw; (try dsimp only at hSw); (try go_split_ands); go_simp; (try with_reducible rfl))
          try simp only [Act.put, List.getElem_toArray, List.getElem_cons_succ, List.getElem_cons_zero, List.setIfInBounds_toArray, List.set_cons_zero, List.set_cons_succ]
          refine wpAnyH_take (i := 9) (v := ?_) rfl (by kernel_rfl) (by kernel_rfl) (by kernel_rfl) (fun _ _ _ h => h) (Or.inl ⟨rfl, ?_⟩) hHeld ?_
          rotate_left
          focus (intro wx hSw; (try dsimp only at hSw); (try go_split_ands); go_simp; (try with_reducible rfl))
          try simp only [Act.put, List.getElem_toArray, List.getElem_cons_succ, List.getElem_cons_zero, List.setIfInBounds_toArray, List.set_cons_zero, List.set_cons_succ]
          refine wpAnyH_take (i := 10) (v := ?_) rfl (by kernel_rfl) (by kernel_rfl) (by kernel_rfl) (fun _ _ _ h => h) (Or.inl ⟨rfl, ?_⟩) hHeld ?_
          rotate_left
          focus (intro wx hSw; (try dsimp only at hSw); (try go_split_ands); go_simp; (try with_reducible rfl))
          try simp only [Act.put, List.getElem_toArray, List.getElem_cons_succ, List.getElem_cons_zero, List.setIfInBounds_toArray, List.set_cons_zero, List.set_cons_succ]
          refine wpAnyH_done (by kernel_rfl) ?_ _
          clear hHeld
          go_wp2
          go_roundw
          case rel => exact ⟨k + 1, by rw [HI.out, str_app, str_app], by go_num, by omega, bto0 hb (by with_reducible repeat (first | exact Below.refl _ _ | exact hb6 | refine bto0 ?_ hb6 | refine bdr ?_ _ | refine Below.drew ?_ | refine ball ?_ _))⟩
          case measure => simp [intOf]; omega
    · obtain rfl : n = k := by omega
      obtain ⟨R, hR⟩ : ∃ R, r % 1024 = R := ⟨_, rfl⟩
      have hRI : (r : Int) % 1024 = (R : Int) := by omega
      have hRl : R < 1024 := by omega
      have HQ : Hid (∀ W, Calls Try.prog 19 #[.int .u8 7, .int .i64 (R : Int)] W (RetPage W 7 R)) := fun W => pageN_any 7 R (by omega) W
      obtain ⟨sr, hsr⟩ : ∃ sr, List.replicate R (7 : UInt8) = sr := ⟨_, rfl⟩
      obtain ⟨si, hsi⟩ : ∃ si, imgK ks n = si := ⟨_, rfl⟩
      rw [hsi] at hik ⊢
      have e3 : (str si).size = n * 512 := by rw [str_size, hik]
      have hsl : sr.length = R := by rw [← hsr, List.length_replicate]
      have e4 : (str sr).size = R := by rw [str_size, hsl]
      have hz1 : ¬ (9223372036854775807 < n * 512 + R) := by omega
      have HR := Lib.hid (And.intro hsr (And.intro hik hsl))
      clear hsr hsi hik hsl hR
      go_wp2_with fail
      refine (HQ.out _).mono ?_
      rintro e w2 ⟨rfl, hK2, hb2⟩
      have hKp := blk_fill (b := 7) (l := sr) hK2 (by rfl) HR.out.1
      have cv2 := conv_blk (P := Try.prog) hKp 37 5 9 Try.underlying37 Try.underlying5 Try.underlying9 R R HR.out.2.2
      obtain ⟨w3, c3, cvb, hF⟩ := bytes_of_str w2 (si ++ sr)
      have hm : (si ++ sr).length = n * 512 + R := by rw [List.length_append, HR.out.2.1, HR.out.2.2]
      rw [← str_app, hm] at cvb
      have hFr := hF.reads
      rw [hm] at hFr
      have hbb3 : Below w.heap.size w w3 := bto0 (bto0 hb hb2) hF.below
      have hz3 := hF.size
      have HFF := Lib.hid hF
      have HM := Lib.hid hm
      obtain ⟨m, hmm⟩ : ∃ m, n * 512 + R = m := ⟨_, rfl⟩
      have hmI : (n : Int) * 512 + (R : Int) = (m : Int) := by omega
      have hml : m ≤ 20000 := by omega
      rw [hmm] at hFr hz1 HM
      clear hF hm hK2 hKp
      by_cases hbad : m % 512 ≠ 0 ∨ m = 0
      · have LB := Lib.hid (dload_bad (some ⟨w2.heap.size, 0, none⟩) m c3 hbad (by omega) w3)
        have LR := Lib.hid (rload_bad (si ++ sr) m HM.out hbad (by omega) w3)
        rw [← str_app] at LR
        rw [hmm] at cvb
        clear hmm hFr hbad
        go_wp2_with (first
          | (go_at_call 26; refine LB.out.mono ?_; rintro e w' ⟨rfl, rfl⟩)
          | (go_at_call 27; refine LR.out.mono ?_; rintro e w5 ⟨rfl, hb5⟩))
        have hW5 := ball hb5 (.cells #[.slice none 0 0, .slice none 0 0] 31)
        obtain ⟨w6, hcl, hcb, _, _⟩ := clear_row (w := w5.alloc (.cells #[.slice none 0 0, .slice none 0 0] 31)) w2.heap.size m c3 (fun j hj => by rw [hW5.cell (by show w2.heap.size < _; omega)]; exact HFF.out.isC j (by rw [HM.out]; exact hj)) (fun j hj => by rw [hW5.frozen (by show w2.heap.size < _; omega)]; exact HFF.out.free j (by rw [HM.out]; exact hj))
        have hb6 : Below w.heap.size w w6 := hcb _ _ (by have h1 := hb.size; have h2 := hb2.size; omega) (bto0 hbb3 hW5)
        have Hcl := Lib.hid hcl
        clear hcl hcb
        rw [Hcl.out]
        go_wp2_with (go_at_call 15; refine (dfixed_any _).mono ?_; rintro e w7 ⟨rfl, hb7⟩)
        go_ret
        exact ⟨rfl, bto0 hb6 hb7⟩
      · obtain ⟨N, rfl⟩ : ∃ N, m = N * 512 := ⟨m / 512, by omega⟩
        have hN1 : 1 ≤ N := by omega
        have hN2 : N ≤ 40 := by omega
        have LB := Lib.hid (dload_ok (some ⟨w2.heap.size, 0, none⟩) N c3 w3.heap.size (si ++ sr) w3 hFr (Nat.le_refl _) hN1 (by omega))
        have LR := Lib.hid fun W => rload_ok (si ++ sr) N hN1 (by omega) HM.out W
        have hfl := Lib.hid (pagesOf_all (si ++ sr) N HM.out)
        rw [← str_app] at LR
        rw [hmm] at cvb
        obtain ⟨ps, hps⟩ : ∃ ps, pagesOf (si ++ sr) N = ps := ⟨_, rfl⟩
        obtain ⟨T, hT⟩ : ∃ T, marksOf (si ++ sr) N = T := ⟨_, rfl⟩
        have HPS := Lib.hid (And.intro hps hT)
        rw [hps, hT] at LB LR
        rw [hps] at hfl
        clear hmm hFr hbad hps hT
        go_wp2_with fail
        refine LB.out.mono ?_
        rintro e w4 ⟨g, gb, gt, rfl, hd4, k1, k2, k3, hb4⟩
        go_wp2_with fail
        refine (LR.out _).mono ?_
        rintro e w5 ⟨Ar, cr, Ar2, cr2, rfl, hra, hrb, hca, hcb', hia, hib, hb5⟩
        go_wp2_with fail
        have MX := Blk.new w5 31 #[.slice Ar N cr, .slice Ar2 N cr2]
        have s4 := hb4.size
        have s5 := hb5.size
        have hW5 : Below w3.heap.size w3 (w5.alloc (.cells #[.slice Ar N cr, .slice Ar2 N cr2] 31)) := (bto0 hb4 hb5).alloc (by omega) _
        have hW4 : Below w4.heap.size w4 (w5.alloc (.cells #[.slice Ar N cr, .slice Ar2 N cr2] 31)) := ball hb5 _
        have hW0 : Below w.heap.size w (w5.alloc (.cells #[.slice Ar N cr, .slice Ar2 N cr2] 31)) := bto0 hbb3 hW5
        have hra2 := (hra.alloc (Nat.le_refl _) (.cells #[.slice Ar N cr, .slice Ar2 N cr2] 31))
        have hrb2 := (hrb.alloc (Nat.le_refl _) (.cells #[.slice Ar N cr, .slice Ar2 N cr2] 31))
        have hdl := hd4.lts
        have hd5 := hd4.below hW4 hdl.1 hdl.2.1 hdl.2.2
        obtain ⟨w6, hcl, hcb, hch, hcs⟩ := clear_row (w := w5.alloc (.cells #[.slice Ar N cr, .slice Ar2 N cr2] 31)) w2.heap.size (N * 512) c3 (fun j hj => by rw [hW5.cell (by show w2.heap.size < _; omega)]; exact HFF.out.isC j (by rw [HM.out]; exact hj)) (fun j hj => by rw [hW5.frozen (by show w2.heap.size < _; omega)]; exact HFF.out.free j (by rw [HM.out]; exact hj))
        have hz5 : (w5.alloc (.cells #[.slice Ar N cr, .slice Ar2 N cr2] 31)).heap.size = w5.heap.size + 1 := by simp
        have hb6 : Below w.heap.size w w6 := hcb _ _ (by have h1 := hb.size; have h2 := hb2.size; omega) hW0
        rw [hz5] at hch hcs
        have hd6 : DP w6 g gb gt N ps T := ⟨⟨hd5.dk.d.same_ (hch g (by omega) (by omega)), hd5.dk.b.same_ (hch gb (by omega) (by omega)), hd5.dk.t.same_ (hch gt (by omega) (by omega)), hd5.dk.hb, hd5.dk.ht⟩, hd5.full, hd5.hp⟩
        have M6 := MX.same_ (hch w5.heap.size (by omega) (by omega))
        have hv6 : RD w6 w6.heap.size N (.agg #[.slice Ar N cr, .slice Ar2 N cr2]) ps T := ⟨Ar, cr, Ar2, cr2, rfl,
          (hra2.same_ fun ad h hb => hch _ (by omega) (by have := hia ad h; omega)).more (by omega), (hrb2.same_ fun ad h hb => hch _ (by omega) (by have := hib ad h; omega)).more (by omega), hca, hcb'⟩
        have Hcl := Lib.hid hcl
        have mc0 : w6.cell? ⟨w5.heap.size, 0, none⟩ = some (.slice Ar N cr) := M6.cell 0
        have mc1 : w6.cell? ⟨w5.heap.size, 1, none⟩ = some (.slice Ar2 N cr2) := M6.cell 1
        have SM := Lib.hid (same_any hd6 hv6 (by omega) hN1)
        have HH := Lib.hid (And.intro hd6 (And.intro hv6 (And.intro M6 hb6)))
        have hM6 := M6.lt
        have hl6 := hd6.lts
        clear hcl hcb hch MX hW5 hW4 hW0 hra2 hrb2 hd5 hd4 hd6 M6 hv6 hb6 hra hrb hia hib hb5 hb4 LB LR hcs hz5 hdl s4 s5
        rw [Hcl.out]
        go_wp2_with (go_at_call 25; refine SM.out.mono ?_; rintro e w7 ⟨rfl, hb7⟩)
        have hd7 := HH.out.1.below hb7 hl6.1 hl6.2.1 hl6.2.2
        have I7 := Lib.hid (image_any hd7.dk (by omega) hN1 (by rw [bV_toList]; exact bL_one _))
        go_wp2_with fail
        refine I7.out.mono ?_
        rintro e w8 ⟨rfl, hB8, hb8⟩
        have hfl2 : ps.flatten.length = N * 512 := by rw [hfl.out]; exact HM.out
        have LB8 := Lib.hid (dload_ok (some ⟨w7.heap.size, 0, none⟩) N (N * 512) (w7.heap.size + 1) (si ++ sr) w8 (by rw [← hfl.out]; exact reads_blk hB8 hfl2) (by have := hB8.lt; omega) hN1 (by omega))
        rw [HPS.out.1, HPS.out.2] at LB8
        clear hB8 hd7 hfl2 I7 SM
        go_wp2_with fail
        refine LB8.out.mono ?_
        rintro e w9 ⟨g9, gb9, gt9, rfl, hd9, _, _, _, hb9⟩
        have hb69 : Below w6.heap.size w6 w9 := bto0 (bto0 hb7 hb8) hb9
        have hl9 := hd9.lts
        have SX : Hid (∀ W, Below w9.heap.size w9 W → W.cell? ⟨w5.heap.size, 0, none⟩ = some (.slice Ar N cr) ∧ W.cell? ⟨w5.heap.size, 1, none⟩ = some (.slice Ar2 N cr2) ∧ Calls Try.prog 25 #[.pointer (some ⟨g9, 0, none⟩), .agg #[.slice Ar N cr, .slice Ar2 N cr2]] W (RetB W (.bool true))) := by
          intro W hW
          have b := bto0 hb69 hW
          have M := HH.out.2.2.1.below b hM6
          exact ⟨M.cell 0, M.cell 1, same_any (hd9.below hW hl9.1 hl9.2.1 hl9.2.2) ((HH.out.2.1.below b (Nat.le_refl _)).more b.size) (by omega) hN1⟩
        clear hd9 LB8
        go_wp2_with (first
          | (go_at_call 15; refine (dfixed_any _).mono ?_; rintro e w10 ⟨rfl, hb10⟩; have mm0 := (SX.out _ hb10).1; have mm1 := (SX.out _ hb10).2.1)
          | (go_at_call 25; refine (SX.out _ hb10).2.2.mono ?_; rintro e w11 ⟨rfl, hb11⟩))
        go_ret
        exact ⟨rfl, bto0 (bto0 (bto0 HH.out.2.2.2 hb69) hb10) hb11⟩

theorem diskLoads_out (A : Option Addr) (n c : Nat) (r : Int) (Ao : Option Addr) (mo co : Nat) (w : World) (h : 20 < n ∨ 50 < mo) (hn : n ≤ 9223372036854775807) (hmo : mo ≤ 9223372036854775807) :
    Calls Try.prog 4 #[.slice A n c, .int .u16 r, .slice Ao mo co] w (RetB w (.bool true)) := by
  by_cases h1 : 20 < n
  · have h4 : (20 : Int) < (n : Int) := by omega
    go_enter Try.func4, Try.ntmps4
    go_wp2_with (go_at_call 15; refine (dfixed_any _).mono ?_; rintro e w1 ⟨rfl, hb1⟩)
    all_goals (go_ret; exact ⟨rfl, hb1⟩)
  · have h4 : (50 : Int) < (mo : Int) := by omega
    have h5 : (n : Int) ≤ 20 := by omega
    go_enter Try.func4, Try.ntmps4
    go_wp2_with (go_at_call 15; refine (dfixed_any _).mono ?_; rintro e w1 ⟨rfl, hb1⟩)
    all_goals (go_ret; exact ⟨rfl, hb1⟩)
theorem diskLoads_any (A : Option Addr) (n c : Nat) (ks : List UInt8) (r : Int) (Ao : Option Addr) (mo co : Nat) (w : World) (hr : Reads w w.heap.size 1 A n (bL ks)) (hn : n ≤ maxLen) (hmo : mo ≤ maxLen) (hrr : 0 ≤ r ∧ r ≤ 65535) :
    Calls Try.prog 4 #[.slice A n c, .int .u16 r, .slice Ao mo co] w (RetB w (.bool true)) := by
  unfold maxLen at hn hmo
  by_cases h : 20 < n ∨ 50 < mo
  · exact diskLoads_out A n c r Ao mo co w h (by omega) (by omega)
  · obtain ⟨q, rfl⟩ : ∃ q : Nat, r = q := ⟨r.toNat, by omega⟩
    exact diskLoads_in A n c ks q Ao mo co w hr (by omega) (by omega) (by omega)
theorem ints_bL (l : List Int) (hw : ∀ x ∈ l, (Lit.int .u8 x).wf = true) : ∃ L : List UInt8, l.map (Value.int .u8) = bL L := by
  refine ⟨l.map fun x => UInt8.ofNat x.toNat, ?_⟩
  unfold bL
  rw [List.map_map]
  apply List.map_congr_left
  intro x hx
  have := Go.bounds_u8 (hw x hx)
  simp only [Function.comp]
  refine val_int ?_
  rw [u8_nat]; omega
theorem diskLoads_all (A : Option Addr) (n c : Nat) (l : List Int) (r : Int) (Ao : Option Addr) (mo co : Nat) (w : World) (hr : Reads w w.heap.size 1 A n (l.map (Value.int .u8))) (hw : ∀ x ∈ l, (Lit.int .u8 x).wf = true) (hn : n ≤ maxLen) (hmo : mo ≤ maxLen) (hrr : 0 ≤ r ∧ r ≤ 65535) :
    Calls Try.prog 4 #[.slice A n c, .int .u16 r, .slice Ao mo co] w (RetB w (.bool true)) := by
  obtain ⟨L, hL⟩ := ints_bL l hw
  rw [hL] at hr
  exact diskLoads_any A n c L r Ao mo co w hr hn hmo hrr
end Go.Proofs.Ytojgcoojfbheoaa

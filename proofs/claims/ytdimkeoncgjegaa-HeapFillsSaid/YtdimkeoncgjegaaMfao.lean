/-
  Several texts in one: Sf Sg Sh.
-/
import Derived.Test.YtdimkeoncgjegaaMfan
/-
  Slots of a heap page: putTwo, Add, New, Link.
-/
namespace Go.Proofs.Ytdimkeoncgjegaa
section
open Go.RowKit

/-- Bytes, and what else the block holds behind them. -/
def bT (l : List UInt8) (tl : List Value) : Array Value := (bL l ++ tl).toArray
theorem bT_set (l : List UInt8) (tl : List Value) (i : Nat) (b : UInt8) (h : i < l.length) : (bT l tl).setIfInBounds i (.int .u8 (b.toNat : Int)) = bT (l.set i b) tl := by
  unfold bT
  rw [List.setIfInBounds_toArray, List.set_append_left _ _ (by rw [bL_len]; exact h)]
  simp [bL, List.map_set]
theorem bT_at (l : List UInt8) (tl : List Value) (i : Nat) (h : i < l.length) : ∃ b : UInt8, (bT l tl)[i]? = some (.int .u8 (b.toNat : Int)) := by
  refine ⟨l[i], ?_⟩
  unfold bT
  rw [List.getElem?_toArray, List.getElem?_append_left (by rw [bL_len]; exact h)]
  exact bL_at (List.getElem?_eq_getElem h)
theorem Own.open_ {w : World} {base : Nat} {A : Option Addr} {n c : Nat} {l : List UInt8} (h : Own w base (.slice A n c) l) (hn : 0 < n) : ∃ g tl, A = some ⟨g, 0, none⟩ ∧ base ≤ g ∧ Blk w g 5 (bT l tl) ∧ (bL l ++ tl).length = c ∧ c ≤ maxLen := by
  have hl := h.reads.2
  rcases h.2 with ⟨e, _⟩ | ⟨g, cap, cur, e, hb, hh, hnc, hcm, hcs, ht⟩
  · injection e with _ e2 _; omega
  · injection e with e1 e2 e3
    subst e3
    have hcur : cur.toList = bL l ++ cur.toList.drop l.length := by
      have := List.take_append_drop l.length cur.toList
      rw [Nat.mul_one] at ht
      rw [ht] at this
      exact this.symm
    have hc : cur = bT l (cur.toList.drop l.length) := by unfold bT; rw [← hcur]
    refine ⟨g, cur.toList.drop l.length, e1, hb, ?_, ?_, hcm⟩
    · unfold Blk; rw [← hc]; exact hh
    · rw [← hcur, Array.length_toList, hcs, Nat.mul_one]
theorem Own.shut {w : World} {base g n c : Nat} {l : List UInt8} {tl : List Value} (h : Blk w g 5 (bT l tl)) (hc : (bL l ++ tl).length = c) (hm : c ≤ maxLen) (hb : base ≤ g) (hn : n = l.length) : Own w base (.slice (some ⟨g, 0, none⟩) n c) l := by
  subst hn
  have hl : l.length ≤ c := by rw [← hc, List.length_append, bL_len]; omega
  refine ⟨by rw [bL_len]; omega, .inr ⟨g, c, bT l tl, rfl, hb, h, hl, hm, ?_, ?_⟩⟩
  · unfold bT; rw [List.size_toArray, hc, Nat.mul_one]
  · unfold bT
    rw [Nat.mul_one]
    exact List.take_left' (bL_len l)
theorem cut_row (g n c i : Nat) (k : IntKind) (x : Int) (hx : x = i) (hi : i ≤ n) (hic : i < c) (W : World) : (Instr.slice 59 (.slice (some ⟨g, 0, none⟩) n c) (some (.int k x)) none none).run Try.prog W = .ok (.slice (some ⟨g, i, none⟩) (n - i) (c - i)) W := by
  subst hx
  rw [run_slice_l W 59 (some ⟨g, 0, none⟩) n c Try.sliceB k (i : Int) (by omega) (by omega), Try.elemB, Try.sizeB]
  have e : (⟨g, 0, none⟩ : Addr).add i = ⟨g, i, none⟩ := add_head g i
  have hne : ¬ c = i := by omega
  simp [sliced, Result.andThen, e, hne]
theorem splice_bT (l r : List UInt8) (tl : List Value) (k : Nat) (h : k + r.length ≤ l.length) : (splice (bL l ++ tl) k (bL r)).toArray = bT (splice l k r) tl := by
  unfold bT splice
  rw [List.take_append_of_le_length (by rw [bL_len]; omega), List.drop_append_of_le_length (by rw [bL_len, bL_len]; exact h), bL_len]
  simp [bL, List.map_take, List.map_drop]
def RetPut (w : World) (g : Nat) (l : List UInt8) (tl : List Value) (e : Ending) (w' : World) : Prop := e = .returned (.tuple #[]) ∧ Blk w' g 5 (bT l tl) ∧ (∀ B w0, B ≤ g → Below B w0 w → Below B w0 w')
set_option maxRecDepth 100000 in
theorem put_two (g n c i v : Nat) (l : List UInt8) (tl : List Value) (w : World) (h : Blk w g 5 (bT l tl)) (hi : i + 1 < l.length) (hn : l.length = n) (hn6 : n ≤ 1000000) (hv : v < 65536) :
    Calls Try.prog 48 #[.slice (some ⟨g, 0, none⟩) n c, .int .i64 i, .int .i64 v] w (RetPut w g ((l.set i (UInt8.ofNat (v / 256))).set (i + 1) (UInt8.ofNat v)) tl) := by
  obtain ⟨b0, h0⟩ := bT_at l tl i (by omega)
  obtain ⟨b1, h1⟩ := bT_at l tl (i + 1) (by omega)
  have c0 := (h.cell i).trans h0
  have c1 := (h.cell (i + 1)).trans h1
  have f0 := h.frozen i
  have f1 := h.frozen (i + 1)
  have iI : (0 : Int) ≤ (i : Int) := by omega
  have i1 : (i : Int) < (n : Int) := by omega
  have i2 : (i : Int) + 1 < (n : Int) := by omega
  have i3 : (n : Int) ≤ 1000000 := by omega
  have v0 : (0 : Int) ≤ (v : Int) := by omega
  have v1 : (v : Int) < 65536 := by omega
  have HV : Hid ((v : Int) % 256 = ((UInt8.ofNat v).toNat : Int)) := by unfold Hid; rw [u8_nat]
  have HI := Lib.hid (And.intro hi h)
  clear h0 h1 hi hn h hv
  go_enter Try.func48, Try.ntmps48
  go_wp2_with fail
  refine bodyPost_ret (v := .tuple #[]) (by simp [results, Try.results48, go_sem]) rfl ?_
  have hs1 : (Value.int .u8 ((v : Int) / 256)) = .int .u8 ((UInt8.ofNat (v / 256)).toNat : Int) := val_int (by rw [u8_nat]; omega)
  have hs2 : (Value.int .u8 ((v : Int) % 256)) = .int .u8 ((UInt8.ofNat v).toNat : Int) := val_int HV.out
  rw [hs1, hs2]
  refine ⟨rfl, ?_, fun B w0 hB hb => (hb.setCell (by exact hB) _).setCell (by exact hB) _⟩
  have h2 := (HI.out.2.set_ i (.int .u8 ((UInt8.ofNat (v / 256)).toNat : Int))).set_ (i + 1) (.int .u8 ((UInt8.ofNat v).toNat : Int))
  rw [bT_set _ _ _ _ (by have := HI.out.1; omega), bT_set _ _ _ _ (by rw [List.length_set]; exact HI.out.1)] at h2
  exact h2
section
variable {w : World} {A A2 : Option Addr} {n c B n2 c2 B2 : Nat} {l r : List UInt8}
theorem add_no (hp : isPage l = false) (hr : Reads w B 1 A n (bL l)) (hB : B ≤ w.heap.size) (hn : n ≤ 1000000) (hc : n ≤ c) : Calls Try.prog 27 #[.slice A n c, .slice A2 n2 c2] w (RetB w (.tuple #[.slice none 0 0, .int .i64 0, .int .i64 2])) := by
  have P := Lib.hid (places_any A n c B l w hr hB hn hc)
  unfold RetPl at P
  rw [hp] at P
  clear hr hp
  go_enter Try.func27, Try.ntmps27
  go_wp2_with fail
  refine P.out.mono ?_
  rintro e w1 ⟨Ap, m, cp, rfl, hm, hrp, hcp, hb⟩
  clear hm
  go_wp2
  refine bodyPost_ret (v := .tuple #[.slice none 0 0, .int .i64 0, .int .i64 2]) (by simp [results, Try.results27, go_sem]) rfl ?_
  exact ⟨rfl, hb⟩
theorem add_arg (hp : isPage l = true) (hr : Reads w B 1 A n (bL l)) (hB : B ≤ w.heap.size) (hn : n ≤ 1000000) (hc : n ≤ c) : Calls Try.prog 27 #[.slice A n c, .slice A2 0 c2] w (RetB w (.tuple #[.slice none 0 0, .int .i64 0, .int .i64 1])) := by
  have P := Lib.hid (places_any A n c B l w hr hB hn hc)
  unfold RetPl at P
  rw [hp] at P
  clear hr hp
  go_enter Try.func27, Try.ntmps27
  go_wp2_with fail
  refine P.out.mono ?_
  rintro e w1 ⟨Ap, m, cp, rfl, hm, hrp, hcp, hb⟩
  clear hm
  go_wp2
  refine bodyPost_ret (v := .tuple #[.slice none 0 0, .int .i64 0, .int .i64 1]) (by simp [results, Try.results27, go_sem]) rfl ?_
  exact ⟨rfl, hb⟩
theorem add_full (hp : isPage l = true) (hr : Reads w B 1 A n (bL l)) (hB : B ≤ w.heap.size) (hn : n ≤ 1000000) (hc : n ≤ c) (h0 : 0 < n2) (hf : pE l - (12 + 4 * hdC l) < n2) : Calls Try.prog 27 #[.slice A n c, .slice A2 n2 c2] w (RetB w (.tuple #[.slice none 0 0, .int .i64 0, .int .i64 7])) := by
  have P := Lib.hid (places_any A n c B l w hr hB hn hc)
  have PE := Lib.hid (page_end hp)
  unfold RetPl at P
  rw [hp] at P
  obtain ⟨C, hC⟩ : ∃ C, hdC l = C := ⟨_, rfl⟩
  obtain ⟨E, hE⟩ : ∃ E, pE l = E := ⟨_, rfl⟩
  rw [hC, hE] at hf
  have HC := Lib.hid (And.intro hC hE)
  rw [hC] at P
  have e1 : ((n2 : Int) == 0) = false := by simp; omega
  have e2 : ((E - (12 + 4 * C) : Nat) : Int) < (n2 : Int) := by omega
  obtain ⟨R, hR⟩ : ∃ R, E - (12 + 4 * C) = R := ⟨_, rfl⟩
  have HR := Lib.hid hR
  rw [hR] at e2
  clear hr hp hC hE hf h0 hR
  go_enter Try.func27, Try.ntmps27
  go_wp2_with fail
  refine P.out.mono ?_
  rintro e w1 ⟨Ap, m, cp, rfl, hm, hrp, hcp, hb⟩
  obtain rfl : m = C := hm
  have RM : Hid (Calls Try.prog 43 #[.slice Ap m cp] w1 fun e' w' => e' = .returned (.int .i64 (R : Int)) ∧ w1 = w') := by
    have h := PE.out
    rw [HC.out.1, HC.out.2] at h
    have := room_any Ap m cp E hrp h.1 h.2.1 h.2.2.2.1
    rwa [HR.out] at this
  clear hrp
  go_wp2_with (go_at_call 43; refine RM.out.mono ?_; rintro e w' ⟨rfl, rfl⟩)
  refine bodyPost_ret (v := .tuple #[.slice none 0 0, .int .i64 0, .int .i64 7]) (by simp [results, Try.results27, go_sem]) rfl ?_
  exact ⟨rfl, hb⟩
def RetAdd (w : World) (C : Nat) (l : List UInt8) (e : Ending) (w' : World) : Prop := ∃ A c, e = .returned (.tuple #[.slice A 512 c, .int .i64 C, .int .i64 0]) ∧ Own w' w.heap.size (.slice A 512 c) l ∧ 512 ≤ c ∧ Below w.heap.size w w'
set_option maxRecDepth 100000 in
set_option maxHeartbeats 400000 in
theorem add_ok (hp : isPage l = true) (hr : Reads w B 1 A n (bL l)) (hB : B ≤ w.heap.size) (hn : n ≤ 1000000) (hc : n ≤ c) (hr2 : Reads w B2 1 A2 n2 (bL r)) (hB2 : B2 ≤ w.heap.size) (h0 : 0 < n2) (hf : n2 ≤ pE l - (12 + 4 * hdC l)) : Calls Try.prog 27 #[.slice A n c, .slice A2 n2 c2] w (RetAdd w (hdC l) (addL l r (hdC l) (pE l))) := by
  have P := Lib.hid (places_any A n c B l w hr hB hn hc)
  have PE := Lib.hid (page_end hp)
  unfold RetPl at P
  rw [hp] at P
  have hl2 := hr2.bytes_len
  have hl5 := (page_end hp).2.2.2.2
  have hE5 := (page_end hp).2.2.2.1
  obtain rfl : n = 512 := by have := hr.bytes_len; omega
  obtain ⟨C, hC⟩ : ∃ C, hdC l = C := ⟨_, rfl⟩
  obtain ⟨E, hE⟩ : ∃ E, pE l = E := ⟨_, rfl⟩
  rw [hC, hE] at hf ⊢
  rw [hE] at hE5
  have HC := Lib.hid (And.intro hC hE)
  rw [hC] at P
  obtain ⟨R, hR⟩ : ∃ R, E - (12 + 4 * C) = R := ⟨_, rfl⟩
  have HR := Lib.hid hR
  obtain ⟨b0, hb0⟩ : ∃ b0, E - n2 = b0 := ⟨_, rfl⟩
  have hEb : E = b0 + n2 := by omega
  have hb12 : 12 + 4 * C ≤ b0 := by omega
  have hbT : b0 + n2 ≤ 512 := by omega
  subst hEb
  have e1 : ((n2 : Int) == 0) = false := by simp; omega
  have e2 : (n2 : Int) ≤ (R : Int) := by omega
  have e3 : ((b0 + n2 : Nat) : Int) - (n2 : Int) = (b0 : Int) := by omega
  have CL := Lib.hid fun W (hW : Below w.heap.size w W) => clone_any (c := c) (hr.below (hW.mono hB)) (Nat.le_trans hB hW.size) (by omega)
  have HR2 := Lib.hid (And.intro hr2 (And.intro hB2 (And.intro hl2 (And.intro hl5 (And.intro hb12 hbT)))))
  have h0I : (0 : Int) < (n2 : Int) := by omega
  have bI : (b0 : Int) + (n2 : Int) ≤ 512 := by omega
  have b0I : (0 : Int) ≤ (b0 : Int) := by omega
  have CI : (C : Int) ≤ 126 := by have := (page_end hp).2.1; omega
  clear hr hr2 hp hC hE hf hR hb0 hl2 hl5 hE5
  go_enter Try.func27, Try.ntmps27
  go_wp2_with fail
  refine P.out.mono ?_
  rintro e w1 ⟨Ap, m, cp, rfl, hm, hrp, hcp, hb⟩
  obtain rfl : m = C := hm
  have RM : Hid (Calls Try.prog 43 #[.slice Ap m cp] w1 fun e' w' => e' = .returned (.int .i64 (R : Int)) ∧ w1 = w') := by
    have h := PE.out
    rw [HC.out.1, HC.out.2] at h
    have := room_any Ap m cp _ hrp h.1 h.2.1 h.2.2.2.1
    rwa [HR.out] at this
  have HRP := Lib.hid hrp
  clear hrp
  go_wp2_with (go_at_call 43; refine RM.out.mono ?_; rintro e w' ⟨rfl, rfl⟩)
  refine (CL.out _ hb).mono ?_
  rintro e w3 ⟨A3, c3, rfl, own3, hc3, hb3⟩
  have FR : Hid (Calls Try.prog 46 #[.slice Ap m cp] w3 fun e' w' => e' = .returned (.int .i64 ((b0 + n2 : Nat) : Int)) ∧ w3 = w') := by
    have h := PE.out
    rw [HC.out.1, HC.out.2] at h
    exact free_any Ap m cp _ ((HRP.out.below hb3).more hb3.size) h.1 h.2.1
  rw [HR2.out.2.2.2.1] at own3 hc3 ⊢
  obtain ⟨g, tl, rfl, hg, hblk, htl, hcm⟩ := own3.open_ (by omega)
  have hi8 : (Try.prog.info? 5).map (·.size) = some 1 := by
    obtain ⟨i0, hi0, _, hs0, _⟩ := int_info8 Try.infoB
    rw [hi0, Option.map_some, hs0]
  have HI := Lib.hid hi8
  have hbW := bto0 hb hb3
  have HCP : Hid (n2 = r.length ∧ l.length = 512 ∧ b0 + n2 ≤ 512 ∧ 12 + 4 * m ≤ b0 ∧ (bL l ++ tl).length = c3 ∧ c3 ≤ maxLen ∧ w.heap.size ≤ g) := ⟨HR2.out.2.2.1.symm, HR2.out.2.2.2.1, HR2.out.2.2.2.2.2, HR2.out.2.2.2.2.1, htl, hcm, Nat.le_trans hb.size hg⟩
  have HSRC : Hid (∀ W, Below w.heap.size w W → 0 < n2 → ∃ ad, A2 = some ad ∧ ∀ j v, (bL r)[j]? = some v → W.cell? (ad.add j) = some v) := by
    intro W hW hpos
    obtain ⟨ad, hA, _, hcl⟩ := (HR2.out.1.below (hW.mono HR2.out.2.1)).2 hpos
    exact ⟨ad, hA, hcl⟩
  have HB3 := Lib.hid (And.intro hblk hbW)
  have hgw : w.heap.size ≤ g := Nat.le_trans hb.size hg
  clear hblk hbW hi8 htl hcm
  go_wp2_with (first
    | (go_at_call 46; refine FR.out.mono ?_; rintro e w' ⟨rfl, rfl⟩)
    | (refine wpList_copy_splice rfl _ _ 59 59 rfl 5 Try.underlying59 HI.out (some ⟨g, b0, none⟩) A2 (512 - b0) (c3 - b0) n2 c2 rfl rfl g b0 (bL l ++ tl) 5 HB3.out.1 (bL r) (by rw [bL_len, ← HCP.out.1]; have := HCP.out.2.2.1; show n2 = min n2 (512 - b0); omega) (fun hq => ⟨rfl, HSRC.out _ HB3.out.2 (by rw [bL_len, ← HCP.out.1] at hq; exact hq)⟩) (by rw [bL_len, ← HCP.out.1, List.length_append, bL_len, HCP.out.2.1]; have := HCP.out.2.2.1; omega) (bL_one r) w.heap.size w HB3.out.2 hgw ?_; intro w4 hg4 hb4))
  have SA := Lib.hid slotAt_any
  have hblk4 : Blk w4 g 5 (bT (splice l b0 r) tl) := by
    have h := hg4.out
    rw [splice_bT l r tl b0 (by rw [HCP.out.2.1, ← HCP.out.1]; exact HCP.out.2.2.1)] at h
    exact h
  have hls : (splice l b0 r).length = 512 := by rw [length_splice l b0 r (by rw [HCP.out.2.1, ← HCP.out.1]; exact HCP.out.2.2.1)]; exact HCP.out.2.1
  obtain ⟨l1, hl1⟩ : ∃ l1, splice l b0 r = l1 := ⟨_, rfl⟩
  have HL1 := Lib.hid hl1
  rw [hl1] at hblk4 hls
  have P1 := Lib.hid (put_two g 512 c3 (8 + 4 * m) b0 l1 tl w4 hblk4 (by omega) hls (by omega) (by omega))
  rw [show ((8 + 4 * m : Nat) : Int) = 8 + (m : Int) * 4 from by omega] at P1
  clear hg4 hblk4 hl1 HB3 HSRC HI
  go_wp2_with (go_at_call 47; refine (SA.out m (by have := HCP.out.2.2.2.1; omega) _).mono ?_; rintro e w' ⟨rfl, rfl⟩)
  with_reducible refine P1.out.mono ?_
  rintro e w5 ⟨rfl, hblk5, hb5⟩
  have hbw5 := hb5 _ _ hgw hb4
  have hls2 : ((l1.set (8 + 4 * m) (UInt8.ofNat (b0 / 256))).set (8 + 4 * m + 1) (UInt8.ofNat b0)).length = 512 := by rw [List.length_set, List.length_set]; exact hls
  obtain ⟨l2, hl2⟩ : ∃ l2, (l1.set (8 + 4 * m) (UInt8.ofNat (b0 / 256))).set (8 + 4 * m + 1) (UInt8.ofNat b0) = l2 := ⟨_, rfl⟩
  have HL2 := Lib.hid hl2
  rw [hl2] at hblk5 hls2
  have P2 := Lib.hid (put_two g 512 c3 (8 + 4 * m + 2) n2 l2 tl w5 hblk5 (by omega) hls2 (by omega) (by omega))
  rw [show ((8 + 4 * m + 2 : Nat) : Int) = 8 + (m : Int) * 4 + 2 from by omega] at P2
  clear hblk5 hl2 P1
  go_wp2_with fail
  with_reducible refine P2.out.mono ?_
  rintro e w6 ⟨rfl, hblk6, hb6⟩
  have hbw6 := hb6 _ _ hgw hbw5
  have hls3 : ((l2.set (8 + 4 * m + 2) (UInt8.ofNat (n2 / 256))).set (8 + 4 * m + 2 + 1) (UInt8.ofNat n2)).length = 512 := by rw [List.length_set, List.length_set]; exact hls2
  obtain ⟨l3, hl3⟩ : ∃ l3, (l2.set (8 + 4 * m + 2) (UInt8.ofNat (n2 / 256))).set (8 + 4 * m + 2 + 1) (UInt8.ofNat n2) = l3 := ⟨_, rfl⟩
  have HL3 := Lib.hid hl3
  rw [hl3] at hblk6 hls3
  have P3 := Lib.hid (put_two g 512 c3 2 (m + 1) l3 tl w6 hblk6 (by omega) hls3 (by omega) (by omega))
  rw [show ((m + 1 : Nat) : Int) = (m : Int) + 1 from by omega, show ((2 : Nat) : Int) = 2 from rfl] at P3
  clear hblk6 hl3 P2
  go_wp2_with fail
  with_reducible refine P3.out.mono ?_
  rintro e w7 ⟨rfl, hblk7, hb7⟩
  have hbw7 := hb7 _ _ hgw hbw6
  have hfin : (l3.set 2 (UInt8.ofNat ((m + 1) / 256))).set (2 + 1) (UInt8.ofNat (m + 1)) = addL l r m (b0 + n2) := by
    rw [← HL3.out, ← HL2.out, ← HL1.out]
    unfold addL
    rw [← HCP.out.1, Nat.add_sub_cancel]
  rw [hfin] at hblk7
  have hls4 : (addL l r m (b0 + n2)).length = 512 := by rw [← hfin, List.length_set, List.length_set]; exact hls3
  have hcl : (bL (addL l r m (b0 + n2)) ++ tl).length = c3 := by
    have := HCP.out.2.2.2.2.1
    rw [List.length_append, bL_len] at this ⊢
    rw [hls4, ← HCP.out.2.1]; exact this
  have own7 := Own.shut (base := w.heap.size) (n := 512) hblk7 hcl HCP.out.2.2.2.2.2.1 hgw hls4.symm
  have HF := Lib.hid (And.intro own7 hbw7)
  clear hfin hcl own7 hbw7 hblk7 hls4 HL1 HL2 HL3 hb5 hb6 hb7 P3 hbw5 hbw6 hb4
  go_wp2
  go_ret3
  exact ⟨some ⟨g, 0, none⟩, c3, rfl, HF.out.1, hc3, HF.out.2⟩
end
end
end Go.Proofs.Ytdimkeoncgjegaa
/-
  Slots of a heap page: New, Link.
-/
namespace Go.Proofs.Ytdimkeoncgjegaa
section
open Go.RowKit

section
variable {ops : Array Oper} {o : Oper} {a : Act} {K : Act → World → Prop} {Q : Exit → Act → World → Prop} {E : Prop} {w : World}
/-- append(own, r...), r a slice of bytes, as one step of a region that draws. -/
theorem step_appR (hgd : o.guard = none) (sl x : Operand) (ho : o.op = .call { callee := .builtin .append, args := #[sl, x], argTypes := #[59, 59] })
    (base : Nat) (v : Value) (l r : List UInt8) (A : Option Addr) (m c B : Nat) (hs : a.eval sl = v) (hown : Own w base v l)
    (hx : a.eval x = .slice A m c) (hr : Reads w B 1 A m (bL r)) (h63 : l.length + r.length ≤ 1000000000) (hbase : base ≤ w.heap.size)
    (h : ∀ v' w', Own w' base v' (l ++ r) → Keeps base w w' → K (a.put o.dst v') w') :
    if Region.wanted o (yielded ops a.tmps) = true then Oper.wp Try.prog o a w K Q else E := by
  obtain ⟨i0, hi0, hz0, hs0, hy0⟩ := int_info8 Try.infoB
  have hm : r.length = m := by have := hr.1; rw [bL_len] at this; omega
  refine step_append_any w hgd sl x 59 ho base 5 i0 (.int .u8 0) 1 1 Try.underlying59 hi0 hz0 hs0 hy0 rfl (by decide) v l.length (bL l) hs hown B A m c (bL r) hx hr (bL_one r) (by unfold maxLen; omega) (by omega) hbase ?_
  intro v' w' h2 h3 _
  refine h v' w' ?_ ?_
  · unfold Own
    have e2 : bL (l ++ r) = bL l ++ bL r := by simp [bL]
    rw [List.length_append, hm, e2]
    exact h2
  · exact keeps_grown hown h3 hbase
end
theorem Own.first {w : World} {base g n c k : Nat} {l : List UInt8} (h : Own w base (.slice (some ⟨g, 0, none⟩) n c) l) (hk : k ≤ n) : Own w base (.slice (some ⟨g, 0, none⟩) k c) (l.take k) := by
  have hl := h.reads.2
  have hkl : (l.take k).length = k := by rw [List.length_take]; omega
  rcases h.2 with ⟨e, _⟩ | ⟨g', cap, cur, e, hb, hh, hnc, hcm, hcs, ht⟩
  · injection e with e _ _; cases e
  · injection e with e1 e2 e3
    injection e1 with e1
    injection e1 with e1
    subst e3; subst e1
    refine ⟨by rw [bL_len]; omega, .inr ⟨g, c, cur, by rw [hkl], hb, hh, by omega, hcm, hcs, ?_⟩⟩
    rw [hkl, Nat.mul_one]
    have e2 : bL (l.take k) = (bL l).take k := by simp [bL, List.map_take]
    rw [e2, ← ht, Nat.mul_one, List.take_take, Nat.min_eq_left (by omega)]
def RetNew (w : World) (l : List UInt8) (e : Ending) (w' : World) : Prop := ∃ A c, e = .returned (.slice A 512 c) ∧ Own w' w.heap.size (.slice A 512 c) l ∧ 512 ≤ c ∧ Below w.heap.size w w'
theorem snew_any (next : Nat) (hn : next < 4294967296) (w : World) : Calls Try.prog 24 #[.int .u32 next] w (RetNew w (layL next [])) := by
  have D := Lib.hid (dput_any 1 0 next (by omega) hn w)
  rw [show (((1 : UInt8).toNat : Nat) : Int) = 1 from rfl, show ((0 : Nat) : Int) = 0 from rfl] at D
  clear hn
  go_enter Try.func24, Try.ntmps24
  go_wp2_with fail
  with_reducible refine D.out.mono ?_
  rintro e w1 ⟨g, rfl, hblk, hg, hb⟩
  have hl : (headL 1 0 next).length = 512 := headP_len _ _ _ _ (by omega)
  have own := Own.new hblk (by rw [hl]; unfold maxLen; omega) hg hl.symm
  rw [lay_new] at own
  have HO := Lib.hid own
  clear own hblk hl
  go_wp2
  go_ret
  exact ⟨some ⟨g, 0, none⟩, 512, rfl, HO.out, Nat.le_refl _, hb⟩
section
variable {w : World} {A : Option Addr} {n c B : Nat} {l : List UInt8}
theorem link_no (next : Nat) (hp : isPage l = false) (hr : Reads w B 1 A n (bL l)) (hB : B ≤ w.heap.size) (hn : n ≤ 1000000) (hc : n ≤ c) : Calls Try.prog 44 #[.slice A n c, .int .u32 next] w (RetB w (.tuple #[.slice none 0 0, .int .i64 2])) := by
  have P := Lib.hid (places_any A n c B l w hr hB hn hc)
  unfold RetPl at P
  rw [hp] at P
  clear hr hp
  go_enter Try.func44, Try.ntmps44
  go_wp2_with fail
  refine P.out.mono ?_
  rintro e w1 ⟨Ap, m, cp, rfl, hm, hrp, hcp, hb⟩
  clear hm
  go_wp2
  go_ret2
  exact ⟨rfl, hb⟩
def RetLink (w : World) (l : List UInt8) (e : Ending) (w' : World) : Prop := ∃ A c, e = .returned (.tuple #[.slice A 512 c, .int .i64 0]) ∧ Own w' w.heap.size (.slice A 512 c) l ∧ 512 ≤ c ∧ Below w.heap.size w w'
def linkL (l : List UInt8) (next : Nat) : List UInt8 := (headL 1 (hdC l) next).take 8 ++ l.drop 8
theorem headL8 (k : UInt8) (c n : Nat) : ((headL k c n).take 8).length = 8 := by
  rw [List.length_take]; unfold headL; rw [headP_len _ _ _ _ (by omega)]; rfl
set_option maxRecDepth 100000 in
theorem link_ok (next : Nat) (hx : next < 4294967296) (hp : isPage l = true) (hr : Reads w B 1 A n (bL l)) (hB : B ≤ w.heap.size) (hn : n ≤ 1000000) (hc : n ≤ c) : Calls Try.prog 44 #[.slice A n c, .int .u32 next] w (RetLink w (linkL l next)) := by
  have P := Lib.hid (places_any A n c B l w hr hB hn hc)
  unfold RetPl at P
  rw [hp] at P
  have hl5 := (page_end hp).2.2.2.2
  have hC6 := (page_end hp).2.1
  obtain rfl : n = 512 := by have := hr.bytes_len; omega
  obtain ⟨C, hC⟩ : ∃ C, hdC l = C := ⟨_, rfl⟩
  have HLK : Hid (linkL l next = (headL 1 C next).take 8 ++ l.drop 8) := by unfold Hid linkL; rw [hC]
  rw [hC] at P hC6
  have CI : (C : Int) ≤ 126 := by omega
  have D := Lib.hid fun W => dput_any 1 C next (by omega) hx W
  rw [show (((1 : UInt8).toNat : Nat) : Int) = 1 from rfl] at D
  have HR := Lib.hid (And.intro hr (And.intro hB hl5))
  clear hr hp hC hl5 hx
  go_enter Try.func44, Try.ntmps44
  go_wp2_with fail
  refine P.out.mono ?_
  rintro e w1 ⟨Ap, m, cp, rfl, hm, hrp, hcp, hb⟩
  obtain rfl : m = C := hm
  clear hrp
  go_wp2_with fail
  with_reducible refine (D.out _).mono ?_
  rintro e w2 ⟨g, rfl, hblk, hg, hb2⟩
  have hl : (headL 1 m next).length = 512 := headP_len _ _ _ _ (by omega)
  have own2 : Own w2 w1.heap.size (.slice (some ⟨g, 0, none⟩) 512 512) (headL 1 m next) := Own.new hblk (by rw [hl]; unfold maxLen; omega) hg hl.symm
  have own3 := own2.first (k := 8) (by omega)
  have hb02 := bto0 hb hb2
  obtain ⟨A', sl, hrd⟩ := cutb_lo (A := A) (n := 512) (c := c) .i64 8 8 rfl (by omega) hc
  rw [show 512 - 8 = 504 from rfl] at sl hrd
  have hrd2 := hrd w2 B l (HR.out.1.below (hb02.mono HR.out.2.1))
  have HW := Lib.hid (And.intro own3 (And.intro hb02 (And.intro hrd2 (headL8 1 m next))))
  have hq : Hid (((headL 1 m next).take 8).length + (l.drop 8).length ≤ 1000000000) := by unfold Hid; rw [headL8, List.length_drop, HR.out.2.2]; omega
  have hq2 : Hid (((headL 1 m next).take 8 ++ l.drop 8).length = 512) := by unfold Hid; rw [List.length_append, headL8, List.length_drop, HR.out.2.2]
  have hzz := hb2.size
  clear own2 own3 hb02 hrd hrd2 hblk hb2
  obtain ⟨L, hL⟩ : ∃ L, (headL 1 m next).take 8 ++ l.drop 8 = L := ⟨_, rfl⟩
  have HL := Lib.hid hL
  rw [hL] at HLK hq2
  clear hL
  go_wp2_with fail
  go_region_law (refine step_appR rfl (.tmp 23) (.tmp 25) rfl w1.heap.size (.slice (some ⟨g, 0, none⟩) 8 512) ((headL 1 m next).take 8) (l.drop 8) A' 504 (c - 8) B (by simp [Act.eval, Act.put]) HW.out.1 (by simp [Act.eval, Act.put]) HW.out.2.2.1 hq.out hzz ?_; intro v' w3 own3 kp3; rw [HL.out] at own3; obtain ⟨A3, c3, rfl, hc3⟩ := own3.form; rw [hq2.out] at own3 hc3 ⊢)
  have hb3 := kp3.below _ _ hb.size (Below.drew HW.out.2.1)
  go_wp2
  go_ret2
  rw [HLK.out]
  exact ⟨A3, c3, rfl, own3.less hb.size, hc3, hb3⟩
end
end
end Go.Proofs.Ytdimkeoncgjegaa
/-
  Slots of a heap page: a family of rows, each in a block of its own.
-/
namespace Go.Proofs.Ytdimkeoncgjegaa
section
open Go.RowKit

/-- The slices of a family of rows: each row's block and capacity. -/
def famV : List (List UInt8) → List (Nat × Nat) → List Value
  | r :: rs, f :: fs => Value.slice (some ⟨f.1, 0, none⟩) r.length f.2 :: famV rs fs
  | _, _ => []
theorem famV_len : ∀ (rs : List (List UInt8)) (fs : List (Nat × Nat)), fs.length ≤ rs.length → (famV rs fs).length = fs.length
  | [], [], _ => rfl
  | [], _ :: _, h => by simp at h
  | _ :: _, [], _ => rfl
  | _ :: rs, _ :: fs, h => by simp only [famV, List.length_cons]; rw [famV_len rs fs (by simpa using h)]
theorem famV_snoc : ∀ (rs : List (List UInt8)) (fs : List (Nat × Nat)) (r : List UInt8) (f : Nat × Nat), rs[fs.length]? = some r → famV rs (fs ++ [f]) = famV rs fs ++ [Value.slice (some ⟨f.1, 0, none⟩) r.length f.2]
  | [], _, _, _, h => by simp at h
  | x :: rs, [], r, f, h => by
    simp only [List.length_nil, List.getElem?_cons_zero, Option.some.injEq] at h
    subst h
    simp [famV]
  | x :: rs, y :: fs, r, f, h => by
    simp only [List.length_cons, List.getElem?_cons_succ] at h
    simp only [List.cons_append, famV]
    rw [famV_snoc rs fs r f h]
theorem famV_at : ∀ (rs : List (List UInt8)) (fs : List (Nat × Nat)) (i : Nat) (r : List UInt8) (f : Nat × Nat), rs[i]? = some r → fs[i]? = some f → (famV rs fs)[i]? = some (Value.slice (some ⟨f.1, 0, none⟩) r.length f.2)
  | [], _, _, _, _, h, _ => by simp at h
  | _ :: _, [], _, _, _, _, h => by simp at h
  | x :: rs, y :: fs, 0, r, f, h, h' => by
    simp only [List.getElem?_cons_zero, Option.some.injEq] at h h'
    subst h; subst h'
    rfl
  | x :: rs, y :: fs, i + 1, r, f, h, h' => by
    simp only [List.getElem?_cons_succ] at h h'
    simp only [famV, List.getElem?_cons_succ]
    exact famV_at rs fs i r f h h'
/-- The family while it is made. -/
def famP (rs : List (List UInt8)) (fs : List (Nat × Nat)) (m : Nat) : Array Value := (famV rs fs ++ List.replicate (m - fs.length) (Value.slice none 0 0)).toArray
theorem famP_zero (rs : List (List UInt8)) (m : Nat) : madeCells #[.slice none 0 0] m = famP rs [] m := by
  unfold famP
  have h : famV rs [] = [] := by cases rs <;> rfl
  rw [h]
  apply Array.ext
  · simp [size_madeCells]
  · intro j h1 h2
    simp [madeCells, Nat.mod_one]
theorem famP_at (rs : List (List UInt8)) (fs : List (Nat × Nat)) (m : Nat) (h : fs.length < m) (hr : fs.length ≤ rs.length) : (famP rs fs m)[fs.length]? = some (.slice none 0 0) := by
  unfold famP
  rw [List.getElem?_toArray, List.getElem?_append_right (by rw [famV_len _ _ hr]; exact Nat.le_refl _), famV_len _ _ hr, List.getElem?_replicate, if_pos (by omega)]
theorem famP_set (rs : List (List UInt8)) (fs : List (Nat × Nat)) (m : Nat) (f : Nat × Nat) (r : List UInt8) (h : fs.length < m) (hr : rs[fs.length]? = some r) : (famP rs fs m).setIfInBounds fs.length (Value.slice (some ⟨f.1, 0, none⟩) r.length f.2) = famP rs (fs ++ [f]) m := by
  unfold famP
  have hl := lt_of_at hr
  have e : m - fs.length = (m - (fs.length + 1)) + 1 := by omega
  rw [List.setIfInBounds_toArray, List.set_append_right _ _ (by rw [famV_len _ _ (by omega)]; exact Nat.le_refl _), famV_len _ _ (by omega), Nat.sub_self, e, List.replicate_succ, List.set_cons_zero, famV_snoc rs fs r f hr, List.length_append, List.append_assoc]
  rfl
theorem famP_end (rs : List (List UInt8)) (fs : List (Nat × Nat)) : famP rs fs fs.length = (famV rs fs).toArray := by simp [famP]
/-- Each row of a family lies in a block of its own, later ones in later blocks. -/
structure Fam (w : World) (base : Nat) (rs : List (List UInt8)) (fs : List (Nat × Nat)) : Prop where
  own : ∀ (i : Nat) (f : Nat × Nat) (r : List UInt8), fs[i]? = some f → rs[i]? = some r → Own w base (.slice (some ⟨f.1, 0, none⟩) r.length f.2) r
  cap : ∀ (i : Nat) (f : Nat × Nat) (r : List UInt8), fs[i]? = some f → rs[i]? = some r → r.length ≤ f.2
  lt : ∀ (i j : Nat) (f f' : Nat × Nat), i < j → fs[i]? = some f → fs[j]? = some f' → f.1 < f'.1
theorem Fam.nil (w : World) (base : Nat) (rs : List (List UInt8)) : Fam w base rs [] := ⟨by simp, by simp, by simp⟩
theorem Fam.below {w w' : World} {base : Nat} {rs : List (List UInt8)} {fs : List (Nat × Nat)} (h : Fam w base rs fs) (hb : Below w.heap.size w w') : Fam w' base rs fs :=
  ⟨fun i f r hf hr => (h.own i f r hf hr).below hb, h.cap, h.lt⟩
theorem Fam.less {w : World} {base base' : Nat} {rs : List (List UInt8)} {fs : List (Nat × Nat)} (h : Fam w base rs fs) (hb : base' ≤ base) : Fam w base' rs fs :=
  ⟨fun i f r hf hr => (h.own i f r hf hr).less hb, h.cap, h.lt⟩
theorem Own.block_lt {w : World} {base g n c : Nat} {l : List UInt8} (h : Own w base (.slice (some ⟨g, 0, none⟩) n c) l) : base ≤ g ∧ g < w.heap.size := World.ownsRow.lt h g rfl
theorem Fam.snoc {w w' : World} {base B : Nat} {rs : List (List UInt8)} {fs : List (Nat × Nat)} {r : List UInt8} {g c : Nat} (h : Fam w base rs fs) (hb : Below w.heap.size w w') (hr : rs[fs.length]? = some r)
    (ho : Own w' B (.slice (some ⟨g, 0, none⟩) r.length c) r) (hc : r.length ≤ c) (h1 : w.heap.size ≤ B) (h2 : base ≤ w.heap.size) : Fam w' base rs (fs ++ [(g, c)]) := by
  have hlt := lt_of_at hr
  refine ⟨fun i f x hf hx => ?_, fun i f x hf hx => ?_, fun i j f f' hij hf hf' => ?_⟩
  · rcases Nat.lt_or_ge i fs.length with hi | hi
    · rw [List.getElem?_append_left hi] at hf
      exact (h.own i f x hf hx).below hb
    · have hi' := lt_of_at hf
      have : i = fs.length := by simp at hi'; omega
      subst this
      rw [List.getElem?_append_right (Nat.le_refl _), Nat.sub_self] at hf
      injection hf with hf
      subst hf
      rw [hr] at hx
      injection hx with hx
      subst hx
      exact ho.less (by omega)
  · rcases Nat.lt_or_ge i fs.length with hi | hi
    · rw [List.getElem?_append_left hi] at hf
      exact h.cap i f x hf hx
    · have hi' := lt_of_at hf
      have : i = fs.length := by simp at hi'; omega
      subst this
      rw [List.getElem?_append_right (Nat.le_refl _), Nat.sub_self] at hf
      injection hf with hf
      subst hf
      rw [hr] at hx
      injection hx with hx
      subst hx
      exact hc
  · have hj' := lt_of_at hf'
    have hi : i < fs.length := by simp at hj'; omega
    rw [List.getElem?_append_left hi] at hf
    rcases Nat.lt_or_ge j fs.length with hj | hj
    · rw [List.getElem?_append_left hj] at hf'
      exact h.lt i j f f' hij hf hf'
    · have : j = fs.length := by simp at hj'; omega
      subst this
      rw [List.getElem?_append_right (Nat.le_refl _), Nat.sub_self] at hf'
      injection hf' with hf'
      subst hf'
      have hi2 : rs[i]? = some (rs[i]'(by omega)) := List.getElem?_eq_getElem (by omega)
      have := (h.own i f _ hf hi2).block_lt
      have := ho.block_lt
      show f.1 < g
      omega
theorem Own.same_ {w w' : World} {base g n c : Nat} {l : List UInt8} (h : Own w base (.slice (some ⟨g, 0, none⟩) n c) l) (e : w'.heap[g]? = w.heap[g]?) : Own w' base (.slice (some ⟨g, 0, none⟩) n c) l := by
  refine ⟨h.1, ?_⟩
  rcases h.2 with hn | ⟨g', cap, cur, hv, hb, hgg, rest⟩
  · exact .inl hn
  · refine .inr ⟨g', cap, cur, hv, hb, ?_, rest⟩
    injection hv with hv
    injection hv with hv
    injection hv with hv
    subst hv
    rw [e]; exact hgg
theorem Fam.store {w : World} {base g : Nat} {rs : List (List UInt8)} {fs : List (Nat × Nat)} {t : TypeId} {cs : Array Value} (h : Fam w base rs fs) (hb : Blk w g t cs) (ht : 5 ≠ t) (j : Nat) (u : Value) : Fam (w.setCell ⟨g, j, none⟩ u) base rs fs :=
  ⟨fun i f r hf hr => (h.own i f r hf hr).same_ (Below.heap_setCell w _ u f.1 (fun e => own_blk_ne (h.own i f r hf hr) hb ht (by show some f.1 = some g; rw [e]))), h.cap, h.lt⟩
end
end Go.Proofs.Ytdimkeoncgjegaa

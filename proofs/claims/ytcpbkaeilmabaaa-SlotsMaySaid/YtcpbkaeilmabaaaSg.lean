/-
  Slots of a heap page: New, Link.
-/
import Derived.Test.YtcpbkaeilmabaaaSf
namespace Go.Proofs.Ytcpbkaeilmabaaa
open Go.RowKit

section
variable {ops : Array Oper} {o : Oper} {a : Act} {K : Act → World → Prop} {Q : Exit → Act → World → Prop} {E : Prop} {w : World}
/-- append(own, r...), r a slice of bytes, as one step of a region that draws. -/
theorem step_appR (hgd : o.guard = none) (sl x : Operand) (ho : o.op = .call { callee := .builtin .append, args := #[sl, x], argTypes := #[37, 37] })
    (base : Nat) (v : Value) (l r : List UInt8) (A : Option Addr) (m c B : Nat) (hs : a.eval sl = v) (hown : Own w base v l)
    (hx : a.eval x = .slice A m c) (hr : Reads w B 1 A m (bL r)) (h63 : l.length + r.length ≤ 1000000000) (hbase : base ≤ w.heap.size)
    (h : ∀ v' w', Own w' base v' (l ++ r) → Keeps base w w' → K (a.put o.dst v') w') :
    if Region.wanted o (yielded ops a.tmps) = true then Oper.wp Try.prog o a w K Q else E := by
  obtain ⟨i0, hi0, hz0, hs0, hy0⟩ := int_info8 Try.infoB
  have hm : r.length = m := by have := hr.1; rw [bL_len] at this; omega
  refine step_append_any w hgd sl x 37 ho base 5 i0 (.int .u8 0) 1 1 Try.underlying37 hi0 hz0 hs0 hy0 rfl (by decide) v l.length (bL l) hs hown B A m c (bL r) hx hr (bL_one r) (by unfold maxLen; omega) (by omega) hbase ?_
  intro v' w' h2 h3 _
  refine h v' w' ?_ ?_
  · unfold Own
    have e2 : bL (l ++ r) = bL l ++ bL r := by simp [bL]
    rw [List.length_append, hm, e2]
    exact h2
  · exact keeps_grown hown h3 hbase
end
theorem Own.first {w : World} {base g n c k : Nat} {l : List UInt8} (h : Own w base (.slice (some ⟨g, 0, none⟩) n c) l) (hk : k ≤ n) : Own w base (.slice (some ⟨g, 0, none⟩) k c) (l.take k) := by
  have hl := h.reads.2
  have hkl : (l.take k).length = k := by rw [List.length_take]; omega
  rcases h.2 with ⟨e, _⟩ | ⟨g', cap, cur, e, hb, hh, hnc, hcm, hcs, ht⟩
  · injection e with e _ _; cases e
  · injection e with e1 e2 e3
    injection e1 with e1
    injection e1 with e1
    subst e3; subst e1
    refine ⟨by rw [bL_len]; omega, .inr ⟨g, c, cur, by rw [hkl], hb, hh, by omega, hcm, hcs, ?_⟩⟩
    rw [hkl, Nat.mul_one]
    have e2 : bL (l.take k) = (bL l).take k := by simp [bL, List.map_take]
    rw [e2, ← ht, Nat.mul_one, List.take_take, Nat.min_eq_left (by omega)]
def RetNew (w : World) (l : List UInt8) (e : Ending) (w' : World) : Prop := ∃ A c, e = .returned (.slice A 512 c) ∧ Own w' w.heap.size (.slice A 512 c) l ∧ 512 ≤ c ∧ Below w.heap.size w w'
theorem snew_any (next : Nat) (hn : next < 4294967296) (w : World) : Calls Try.prog 48 #[.int .u32 next] w (RetNew w (layL next [])) := by
  have D := Lib.hid (dput_any 1 0 next (by omega) hn w)
  rw [show (((1 : UInt8).toNat : Nat) : Int) = 1 from rfl, show ((0 : Nat) : Int) = 0 from rfl] at D
  clear hn
  go_enter Try.func48, Try.ntmps48
  go_wp2_with fail
  with_reducible refine D.out.mono ?_
  rintro e w1 ⟨g, rfl, hblk, hg, hb⟩
  have hl : (headL 1 0 next).length = 512 := headP_len _ _ _ _ (by omega)
  have own := Own.new hblk (by rw [hl]; unfold maxLen; omega) hg hl.symm
  rw [lay_new] at own
  have HO := Lib.hid own
  clear own hblk hl
  go_wp2
  go_ret
  exact ⟨some ⟨g, 0, none⟩, 512, rfl, HO.out, Nat.le_refl _, hb⟩
section
variable {w : World} {A : Option Addr} {n c B : Nat} {l : List UInt8}
theorem link_no (next : Nat) (hp : isPage l = false) (hr : Reads w B 1 A n (bL l)) (hB : B ≤ w.heap.size) (hn : n ≤ 1000000) (hc : n ≤ c) : Calls Try.prog 54 #[.slice A n c, .int .u32 next] w (RetB w (.tuple #[.slice none 0 0, .int .i64 2])) := by
  have P := Lib.hid (places_any A n c B l w hr hB hn hc)
  unfold RetPl at P
  rw [hp] at P
  clear hr hp
  go_enter Try.func54, Try.ntmps54
  go_wp2_with fail
  refine P.out.mono ?_
  rintro e w1 ⟨Ap, m, cp, rfl, hm, hrp, hcp, hb⟩
  clear hm
  go_wp2
  go_ret2
  exact ⟨rfl, hb⟩
def RetLink (w : World) (l : List UInt8) (e : Ending) (w' : World) : Prop := ∃ A c, e = .returned (.tuple #[.slice A 512 c, .int .i64 0]) ∧ Own w' w.heap.size (.slice A 512 c) l ∧ 512 ≤ c ∧ Below w.heap.size w w'
def linkL (l : List UInt8) (next : Nat) : List UInt8 := (headL 1 (hdC l) next).take 8 ++ l.drop 8
theorem headL8 (k : UInt8) (c n : Nat) : ((headL k c n).take 8).length = 8 := by
  rw [List.length_take]; unfold headL; rw [headP_len _ _ _ _ (by omega)]; rfl
set_option maxRecDepth 100000 in
theorem link_ok (next : Nat) (hx : next < 4294967296) (hp : isPage l = true) (hr : Reads w B 1 A n (bL l)) (hB : B ≤ w.heap.size) (hn : n ≤ 1000000) (hc : n ≤ c) : Calls Try.prog 54 #[.slice A n c, .int .u32 next] w (RetLink w (linkL l next)) := by
  have P := Lib.hid (places_any A n c B l w hr hB hn hc)
  unfold RetPl at P
  rw [hp] at P
  have hl5 := (page_end hp).2.2.2.2
  have hC6 := (page_end hp).2.1
  obtain rfl : n = 512 := by have := hr.bytes_len; omega
  obtain ⟨C, hC⟩ : ∃ C, hdC l = C := ⟨_, rfl⟩
  have HLK : Hid (linkL l next = (headL 1 C next).take 8 ++ l.drop 8) := by unfold Hid linkL; rw [hC]
  rw [hC] at P hC6
  have CI : (C : Int) ≤ 126 := by omega
  have D := Lib.hid fun W => dput_any 1 C next (by omega) hx W
  rw [show (((1 : UInt8).toNat : Nat) : Int) = 1 from rfl] at D
  have HR := Lib.hid (And.intro hr (And.intro hB hl5))
  clear hr hp hC hl5 hx
  go_enter Try.func54, Try.ntmps54
  go_wp2_with fail
  refine P.out.mono ?_
  rintro e w1 ⟨Ap, m, cp, rfl, hm, hrp, hcp, hb⟩
  obtain rfl : m = C := hm
  clear hrp
  go_wp2_with fail
  with_reducible refine (D.out _).mono ?_
  rintro e w2 ⟨g, rfl, hblk, hg, hb2⟩
  have hl : (headL 1 m next).length = 512 := headP_len _ _ _ _ (by omega)
  have own2 : Own w2 w1.heap.size (.slice (some ⟨g, 0, none⟩) 512 512) (headL 1 m next) := Own.new hblk (by rw [hl]; unfold maxLen; omega) hg hl.symm
  have own3 := own2.first (k := 8) (by omega)
  have hb02 := bto0 hb hb2
  obtain ⟨A', sl, hrd⟩ := cutb_lo (A := A) (n := 512) (c := c) .i64 8 8 rfl (by omega) hc
  rw [show 512 - 8 = 504 from rfl] at sl hrd
  have hrd2 := hrd w2 B l (HR.out.1.below (hb02.mono HR.out.2.1))
  have HW := Lib.hid (And.intro own3 (And.intro hb02 (And.intro hrd2 (headL8 1 m next))))
  have hq : Hid (((headL 1 m next).take 8).length + (l.drop 8).length ≤ 1000000000) := by unfold Hid; rw [headL8, List.length_drop, HR.out.2.2]; omega
  have hq2 : Hid (((headL 1 m next).take 8 ++ l.drop 8).length = 512) := by unfold Hid; rw [List.length_append, headL8, List.length_drop, HR.out.2.2]
  have hzz := hb2.size
  clear own2 own3 hb02 hrd hrd2 hblk hb2
  obtain ⟨L, hL⟩ : ∃ L, (headL 1 m next).take 8 ++ l.drop 8 = L := ⟨_, rfl⟩
  have HL := Lib.hid hL
  rw [hL] at HLK hq2
  clear hL
  go_wp2_with fail
  go_region_law (refine step_appR rfl (.tmp 23) (.tmp 25) rfl w1.heap.size (.slice (some ⟨g, 0, none⟩) 8 512) ((headL 1 m next).take 8) (l.drop 8) A' 504 (c - 8) B (by simp [Act.eval, Act.put]) HW.out.1 (by simp [Act.eval, Act.put]) HW.out.2.2.1 hq.out hzz ?_; intro v' w3 own3 kp3; rw [HL.out] at own3; obtain ⟨A3, c3, rfl, hc3⟩ := own3.form; rw [hq2.out] at own3 hc3 ⊢)
  have hb3 := kp3.below _ _ hb.size (Below.drew HW.out.2.1)
  go_wp2
  go_ret2
  rw [HLK.out]
  exact ⟨A3, c3, rfl, own3.less hb.size, hc3, hb3⟩
end
end Go.Proofs.Ytcpbkaeilmabaaa

/-
  Entries of a tree as bytes: contracts of the reference's entry, page.
-/
import Derived.Test.YtgdipljaddodhaaZa
import Derived.Test.YtgdipljaddodhaaYo
import Derived.Test.YtgdipljaddodhaaZn
set_option linter.unusedSimpArgs false
namespace Go.Proofs.Ytgdipljaddodhaa
open Go.RowKit

set_option maxRecDepth 100000 in
set_option maxHeartbeats 4000000 in
theorem rentry_any (e : En) (he : e.ok) (hs : e.s.size ≤ 10000) (w : World) : Calls Try.prog 36 #[e.agg] w (RetB w (.string (str (enL e)))) := by
  obtain ⟨s, p, q⟩ := e
  obtain ⟨_, ⟨hp0, hp1⟩, ⟨hq0, hq1⟩⟩ := he
  simp only at hp0 hp1 hq0 hq1 hs
  obtain ⟨P, rfl⟩ : ∃ P : Nat, p = (P : Int) := ⟨p.toNat, by omega⟩
  obtain ⟨Q, rfl⟩ : ∃ Q : Nat, q = (Q : Int) := ⟨q.toNat, by omega⟩
  have hen : str (enL ⟨s, P, Q⟩) = str (be 2 s.size) ++ s ++ str (be 4 P) ++ str (be 2 Q) := by
    show str (be 2 s.size ++ s.data.toList ++ be 4 P ++ be 2 Q) = _
    rw [← str_append, ← str_append, ← str_append, str_of]
  have HE := Lib.hid hen; clear hen
  have c1 : IntKind.u64.wrap (s.size : Int) = (s.size : Int) := by rw [IntKind.wrap_u64]; omega
  have c2 : IntKind.u64.wrap (P : Int) = (P : Int) := by rw [IntKind.wrap_u64]; omega
  have c3 : IntKind.u64.wrap (Q : Int) = (Q : Int) := by rw [IntKind.wrap_u64]; omega
  have z1 : ¬ 9223372036854775807 < (str (be 2 s.size)).size + s.size := by rw [str_size, be_len]; omega
  have z2 : ¬ 9223372036854775807 < (str (be 2 s.size)).size + s.size + (str (be 4 P)).size := by rw [str_size, str_size, be_len, be_len]; omega
  have z2' : ¬ 9223372036854775807 < (str (be 2 s.size) ++ s).size + (str (be 4 P)).size := by rw [ByteArray.size_append, str_size, str_size, be_len, be_len]; omega
  have z3 : ¬ 9223372036854775807 < (str (be 2 s.size)).size + s.size + (str (be 4 P)).size + (str (be 2 Q)).size := by rw [str_size, str_size, str_size, be_len, be_len, be_len]; omega
  have z3' : ¬ 9223372036854775807 < (str (be 2 s.size) ++ s ++ str (be 4 P)).size + (str (be 2 Q)).size := by rw [ByteArray.size_append, ByteArray.size_append, str_size, str_size, str_size, be_len, be_len, be_len]; omega
  have N1 : Hid (∀ W, Calls Try.prog 43 #[.int .u64 (s.size : Nat), .int .i64 2] W (RetB W (.string (str (be 2 s.size))))) := Lib.hid fun W => dnum_any s.size 2 (by omega) (by omega) W
  have N2 : Hid (∀ W, Calls Try.prog 43 #[.int .u64 (P : Nat), .int .i64 4] W (RetB W (.string (str (be 4 P))))) := Lib.hid fun W => dnum_any P 4 (by omega) (by omega) W
  have N3 : Hid (∀ W, Calls Try.prog 43 #[.int .u64 (Q : Nat), .int .i64 2] W (RetB W (.string (str (be 2 Q))))) := Lib.hid fun W => dnum_any Q 2 (by omega) (by omega) W
  have hS : Hid (∀ W, Below (w.alloc (.cells #[.string s, .int .u32 (P : Int), .int .u16 (Q : Int)] 27)).heap.size (w.alloc (.cells #[.string s, .int .u32 (P : Int), .int .u16 (Q : Int)] 27)) W → W.cell? ⟨w.heap.size, 0, none⟩ = some (.string s) ∧ W.cell? ⟨w.heap.size, 1, none⟩ = some (.int .u32 (P : Int)) ∧ W.cell? ⟨w.heap.size, 2, none⟩ = some (.int .u16 (Q : Int)) ∧ Below w.heap.size w W) := by
    refine Lib.hid fun W hW => ?_
    obtain ⟨q0, q1, q2⟩ := (AtE.new w ⟨s, P, Q⟩ 27).below hW
    exact ⟨q0, q1, q2, bto0 (ball (Below.refl _ _) _) hW⟩
  clear hp1 hq1 hs hp0 hq0
  unfold En.agg
  simp only
  go_enter Try.func36, Try.ntmps36
  go_wp2_with fail
  obtain ⟨WA, hWA⟩ : ∃ WA, w.alloc (.cells #[.string s, .int .u32 (P : Int), .int .u16 (Q : Int)] 27) = WA := ⟨_, rfl⟩
  rw [hWA] at hS ⊢
  clear hWA
  obtain ⟨q0, q1, q2, -⟩ := hS.out WA (Below.refl _ _)
  go_region_held3 (fun W => W.cell? ⟨w.heap.size, 0, none⟩ = some (.string s) ∧ W.cell? ⟨w.heap.size, 1, none⟩ = some (.int .u32 (P : Int)) ∧ W.cell? ⟨w.heap.size, 2, none⟩ = some (.int .u16 (Q : Int)) ∧ Below w.heap.size w W)
    (first | exact hS.out _ (by (with_reducible repeat (first | exact Below.refl _ _ | exact hb3 | exact hb2 | exact hb1 | refine bto0 ?_ hb3 | refine bto0 ?_ hb2 | refine bto0 ?_ hb1 | refine bdr ?_ _ | refine Below.drew ?_ | refine ball ?_ _))) | assumption)
    (first
      | (go_at_call 43; (with_reducible refine (N1.out _).mono ?_); rintro e w1 ⟨rfl, hb1⟩)
      | (go_at_call 43; (with_reducible refine (N2.out _).mono ?_); rintro e w2 ⟨rfl, hb2⟩)
      | (go_at_call 43; (with_reducible refine (N3.out _).mono ?_); rintro e w3 ⟨rfl, hb3⟩))
  go_wp2
  go_ret
  exact ⟨by rw [HE.out]; rfl, (hS.out _ (by (with_reducible repeat (first | exact Below.refl _ _ | exact hb3 | exact hb2 | exact hb1 | refine bto0 ?_ hb3 | refine bto0 ?_ hb2 | refine bto0 ?_ hb1 | refine bdr ?_ _ | refine Below.drew ?_ | refine ball ?_ _)))).2.2.2⟩

set_option maxHeartbeats 4000000 in
theorem rpage_any (k : UInt8) (x : Int) (hx : x = (k.toNat : Int)) (c n : Nat) (hc : c < 65536) (hn : n < 4294967296) (L : List UInt8) (hL : L.length ≤ 504) (w : World) :
    Calls Try.prog 37 #[.agg #[.int .u8 x, .int .u16 c, .int .u32 n], .string (str L)] w (RetB w (.string (str (((headL k c n).take 8 ++ L) ++ List.replicate (512 - (8 + L.length)) 0)))) := by
  have H := Lib.hid fun W => rhead_any k c n hc hn W
  rw [← hx] at H
  have h8 : ((headL k c n).take 8).length = 8 := by rw [List.length_take, headL_len]; rfl
  have sl : ∀ W, (Instr.slice 9 (.string (str (headL k c n))) none (some (.int .i64 8)) none).run Try.prog W = .ok (.string (str ((headL k c n).take 8))) W := cut_hi (P := Try.prog) Try.underlying9 (headL k c n) ((headL k c n).take 8) .i64 8 (by omega) (by rw [headL_len]; omega) rfl
  obtain ⟨X, hX⟩ : ∃ X, (headL k c n).take 8 ++ L = X := ⟨_, rfl⟩
  have hcat : str ((headL k c n).take 8) ++ str L = str X := by rw [str_append, hX]
  have hXl : (str X).size = 8 + L.length := by rw [str_size, ← hX, List.length_append, h8]
  have hXl' : (str ((headL k c n).take 8)).size + (str L).size = 8 + L.length := by rw [str_size, str_size, h8]
  obtain ⟨d, hd⟩ : ∃ d : Nat, 512 - (8 + L.length) = d := ⟨_, rfl⟩
  have hdI : 512 - ((8 + L.length : Nat) : Int) = (d : Int) := by omega
  obtain ⟨i0, hi0, hz0, hs0, hy0⟩ := int_info8 Try.infoB
  have hm : madeCells #[.int .u8 0] d = bV (List.replicate d 0) := by
    apply Array.ext
    · simp [size_madeCells, bV_size]
    · intro j h1 h2
      have hj : j < d := by simpa [size_madeCells] using h1
      have : (bV (List.replicate d 0))[j]? = some (.int .u8 ((0 : UInt8).toNat : Int)) := bV_at (by simp [hj])
      rw [Array.getElem?_eq_getElem h2] at this
      rw [Option.some.inj this]
      simp [madeCells, Nat.mod_one]
  have mk0 : ∀ W, (Instr.makeSlice 34 (.int .i64 (d : Int)) (.int .i64 (d : Int))).run Try.prog W = .ok (.slice (some ⟨W.heap.size, 0, none⟩) d d) (W.alloc (.cells (bV (List.replicate d 0)) 5)) := by
    intro W
    have h := run_make (P := Try.prog) W 34 5 i0 (.int .u8 0) Try.underlying34 hi0 hz0 .i64 .i64 d d (by omega) (by omega) (by rw [hy0]; omega) (by omega)
    rw [hs0, Int.toNat_natCast, Nat.mul_one] at h
    rw [← hm]
    exact h
  have cv : ∀ W : World, (convert 34 9 (.slice (some ⟨W.heap.size, 0, none⟩) d d)).run Try.prog (W.alloc (.cells (bV (List.replicate d 0)) 5)) = .ok (.string (str (List.replicate d 0))) (W.alloc (.cells (bV (List.replicate d 0)) 5)) := fun W =>
    conv_blk (l := List.replicate d 0) (Blk.new W 5 _) _ 5 _ Try.underlying34 Try.underlying5 Try.underlying9 d d List.length_replicate
  have hz1 : (str (List.replicate d 0)).size = d := by rw [str_size, List.length_replicate]
  have fin : str ((X) ++ List.replicate d 0) = str X ++ str (List.replicate d 0) := by rw [str_append]
  have FIN := Lib.hid (And.intro hX (And.intro hd fin))
  have z1 : ¬ 9223372036854775807 < (str ((headL k c n).take 8)).size + (str L).size := by rw [hXl']; omega
  have z2 : ¬ 9223372036854775807 < 8 + L.length + d := by omega
  obtain ⟨S0, hS0⟩ : ∃ S0, str (List.replicate d 0) = S0 := ⟨_, rfl⟩
  rw [hS0] at cv hz1 FIN
  obtain ⟨a0, ha0⟩ : ∃ a, bV (List.replicate d 0) = a := ⟨_, rfl⟩
  rw [ha0] at cv mk0
  have z3 : ¬ 9223372036854775807 < (str X).size + S0.size := by rw [hXl, hz1]; omega
  clear hi0 hz0 hs0 hy0 hm hS0 ha0 hX hd fin h8 hx hc hn hL hXl' hz1 z2
  obtain ⟨M, hM⟩ : ∃ M, 8 + L.length = M := ⟨_, rfl⟩
  rw [hM] at hXl hdI
  clear hM
  go_enter Try.func37, Try.ntmps37
  go_wp2_with fail
  refine (H.out _).mono ?_
  rintro e w1 ⟨rfl, hb1⟩
  go_wp2
  go_ret
  exact ⟨by rw [FIN.out.1, FIN.out.2.1, FIN.out.2.2]; rfl, by (with_reducible repeat (first | exact Below.refl _ _ | exact hb1 | refine bto0 ?_ hb1 | refine bdr ?_ _ | refine Below.drew ?_ | refine ball ?_ _))⟩
end Go.Proofs.Ytgdipljaddodhaa

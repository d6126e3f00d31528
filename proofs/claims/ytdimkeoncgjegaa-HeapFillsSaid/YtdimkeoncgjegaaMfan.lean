/-
  Several texts in one: Sk Do Se.
-/
import Derived.Test.YtdimkeoncgjegaaMfal
import Derived.Test.YtdimkeoncgjegaaMfam
import Derived.Test.YtdimkeoncgjegaaMfag
import Derived.Deep.RegionHeld3
import Derived.Deep.RegionLaw
/-
  Slots of a heap page: the reference's Lay.
-/
namespace Go.Proofs.Ytdimkeoncgjegaa
section
open Go.RowKit

theorem strs_append (a b : List UInt8) : str a ++ str b = str (a ++ b) := str_append a b
theorem bk_take {rs : List (List UInt8)} {i : Nat} {r : List UInt8} (h : rs[i]? = some r) : bk (rs.take (i + 1)) = r ++ bk (rs.take i) := by
  rw [List.take_add_one, h]; exact bk_snoc _ _
theorem slB_take {rs : List (List UInt8)} {i e : Nat} {r : List UInt8} (h : rs[i]? = some r) : slB e (rs.take (i + 1)) = slB e (rs.take i) ++ (be 2 (e - (bk (rs.take (i + 1))).length) ++ be 2 r.length) := by
  rw [bk_take h, List.take_add_one, h]
  show slB e (rs.take i ++ [r]) = _
  rw [slB_snoc, List.length_append]
  congr 3
  omega
theorem mk_zs (n : Nat) (hn : n ≤ 3000000) (k : IntKind) (W : World) : (Instr.makeSlice 59 (.int k (n : Int)) (.int k (n : Int))).run Try.prog W = .ok (.slice (some ⟨W.heap.size, 0, none⟩) n n) (W.alloc (.cells (bV (zs n)) 5)) := by
  obtain ⟨i0, hi0, hz0, hs0, hy0⟩ := int_info8 Try.infoB
  have hm : madeCells #[.int .u8 0] n = bV (zs n) := by
    unfold zs
    apply Array.ext
    · simp [size_madeCells, bV_size]
    · intro j h1 h2
      have hj : j < n := by simpa [size_madeCells] using h1
      have : (bV (List.replicate n 0))[j]? = some (.int .u8 ((0 : UInt8).toNat : Int)) := bV_at (by simp [hj])
      rw [Array.getElem?_eq_getElem h2] at this
      rw [Option.some.inj this]
      simp [madeCells, Nat.mod_one]
  have h := run_make (P := Try.prog) W 59 5 i0 (.int .u8 0) Try.underlying59 hi0 hz0 k k n n (by omega) (by omega) (by rw [hy0]; omega) (by omega)
  rw [hs0, Int.toNat_natCast, Nat.mul_one] at h
  rw [← hm]
  exact h
theorem cv_zs (n : Nat) (w : World) : (convert 59 9 (.slice (some ⟨w.heap.size, 0, none⟩) n n)).run Try.prog (w.alloc (.cells (bV (zs n)) 5)) = .ok (.string (str (zs n))) (w.alloc (.cells (bV (zs n)) 5)) :=
  conv_blk (l := zs n) (Blk.new w 5 _) _ 5 _ Try.underlying59 Try.underlying5 Try.underlying9 n n List.length_replicate
section
variable {w : World} {A : Option Addr} {n c : Nat} {rs : List (List UInt8)}
set_option maxRecDepth 100000 in
set_option maxHeartbeats 1000000 in
theorem lay_any (next : Nat) (hx : next < 4294967296) (hr : Reads w w.heap.size 1 A n (sL rs)) (hf : Fits rs) :
    Calls Try.prog 54 #[.agg #[.int .u32 next, .slice A n c]] w (RetB w (.string (str (layL next rs)))) := by
  have hl : rs.length = n := by have := hr.1; rw [sL_len] at this; omega
  have h1 := hf.1
  rw [hl] at h1
  have hn6 : n ≤ 126 := by omega
  have hnI : (n : Int) ≤ 126 := by omega
  have HT : Hid (tot rs + (8 + 4 * n) ≤ 512) := by unfold Hid; omega
  have HLL : Hid (layL next rs = hd8 n next ++ (slB 512 rs ++ (zs (504 - 4 * n - tot rs) ++ bk rs))) := by unfold Hid layL; rw [hl]
  have HL := Lib.hid hl; clear hl h1 hf
  have hX := Blk.new w 41 #[.int .u32 next, .slice A n c]
  have hb := ball (Below.refl w.heap.size w) (.cells #[.int .u32 next, .slice A n c] 41)
  have RH := Lib.hid fun W => rhead_any 1 n next (by omega) hx W
  rw [show (((1 : UInt8).toNat : Nat) : Int) = 1 from rfl] at RH
  have ct := fun W => (cut_hi (P := Try.prog) Try.underlying9 (headL 1 n next) (hd8 n next) .i64 8 (by omega) (by unfold headL; rw [headP_len _ _ _ _ (by omega)]; decide) (hd8_of n next) W)
  obtain ⟨H, hH⟩ : ∃ H, headL 1 n next = H := ⟨_, rfl⟩
  rw [hH] at RH ct
  clear hH hx
  go_enter Try.func54, Try.ntmps54
  go_wp2_with fail
  refine (RH.out _).mono ?_
  rintro e w1 ⟨rfl, hb1⟩
  have hX1 := hX.below hb1 hX.lt
  have hb01 := bto0 hb hb1
  have c1 := hX1.cell 1
  have N2 := Lib.hid (dnum_any)
  clear hX hb hb1 RH
  go_wp2_with fail
  clear ct
  go_loopw [3, 4, 18] (fun u3 u4 u18 wr => ∃ (k : Nat), u3 = .string (str (hd8 n next ++ slB 512 (rs.take k))) ∧ u4 = .string (str (bk (rs.take k))) ∧ u18 = .int .i64 k ∧ k ≤ n ∧ Blk wr w.heap.size 41 #[.int .u32 next, .slice A n c] ∧ Below w.heap.size w wr) (fun _ _ u18 _ => n - (intOf u18).toNat)
  case atStart => exact ⟨0, by rw [List.take_zero, slB, List.append_nil], rfl, rfl, by omega, hX1, hb01⟩
  case round =>
    clear hX1 hb01 c1
    obtain ⟨k, rfl, rfl, rfl, hk, hXr, hbr⟩ := hrel
    have q0 : (0 : Int) ≤ (k : Int) := by omega
    have c1 := hXr.cell 1
    by_cases hlt : k < n
    · have q1 : (k : Int) < (n : Int) := by omega
      obtain ⟨ad, r, rfl, hab, hx, d2⟩ := (hr.below hbr).text hlt
      have HBK := Lib.hid (bk_take hx)
      have HSL := Lib.hid (slB_take (e := 512) hx)
      have htt : tot (rs.take k) + r.length ≤ tot rs := by have := tot_take_at hx; have := tot_takes rs (k + 1); omega
      have ht2 := HT.out
      have z4 : (str (bk (rs.take k))).size = tot (rs.take k) := str_size _
      have z3 : (str (hd8 n next ++ slB 512 (rs.take k))).size = 8 + 4 * k := by rw [str_size, List.length_append, hd8_len, slB_len, List.length_take, HL.out]; omega
      have zr := str_size r
      have z5 : (str (bk (rs.take (k + 1)))).size = tot (rs.take k) + r.length := by rw [str_size, HBK.out, List.length_append]; unfold tot; omega
      have hap : str r ++ str (bk (rs.take k)) = str (bk (rs.take (k + 1))) := by rw [str_append, HBK.out]
      have zb : (bk (rs.take (k + 1))).length = tot (rs.take k) + r.length := by rw [← z5, str_size]
      rw [zb] at HSL
      have y1 : (str (be 2 (512 - (tot (rs.take k) + r.length)))).size = 2 := by rw [str_size, be_len]
      have y2 : (str (be 2 r.length)).size = 2 := by rw [str_size, be_len]
      have hap2 : (str (hd8 n next ++ slB 512 (rs.take k)) ++ str (be 2 (512 - (tot (rs.take k) + r.length)))) ++ str (be 2 r.length) = str (hd8 n next ++ slB 512 (rs.take (k + 1))) := by
        rw [str_append, str_append, HSL.out]; simp only [List.append_assoc]
      have y3 : (str (hd8 n next ++ slB 512 (rs.take k)) ++ str (be 2 (512 - (tot (rs.take k) + r.length)))).size = 10 + 4 * k := by
        rw [str_append, str_size, List.length_append, List.length_append, hd8_len, slB_len, be_len, List.length_take, HL.out]; omega
      obtain ⟨T, hT⟩ : ∃ T, tot (rs.take k) + r.length = T := ⟨_, rfl⟩
      obtain ⟨R, hR⟩ : ∃ R, r.length = R := ⟨_, rfl⟩
      have hT5 : T ≤ 504 := by omega
      have hR5 : R ≤ T := by omega
      have z4' : (str (bk (rs.take k))).size ≤ 504 := by omega
      rw [hT] at z5 hap2 y1 y3
      rw [hR] at zr hap2 y2
      have HTa := Lib.hid (show tot (rs.take k) + r.length = T from hT)
      clear hT hR htt ht2 zb hx HBK HSL z4
      obtain ⟨s3, hs3⟩ : ∃ s3, str (hd8 n next ++ slB 512 (rs.take k)) = s3 := ⟨_, rfl⟩
      rw [hs3] at z3 hap2 y3 ⊢
      obtain ⟨s4, hs4⟩ : ∃ s4, str (bk (rs.take k)) = s4 := ⟨_, rfl⟩
      rw [hs4] at z4' hap ⊢
      obtain ⟨sr, hsr⟩ : ∃ sr, str r = sr := ⟨_, rfl⟩
      rw [hsr] at zr hap d2
      obtain ⟨s5, hs5⟩ : ∃ s5, str (bk (rs.take (k + 1))) = s5 := ⟨_, rfl⟩
      have HS5 := Lib.hid hs5
      rw [hs5] at z5 hap
      have N1 : Hid (∀ W, Calls Try.prog 68 #[.int .u64 (IntKind.u64.wrap (IntKind.i64.wrap (512 - (s5.size : Int)))), .int .i64 2] W (RetB W (.string (str (be 2 (512 - T)))))) := by
        intro W
        have h := N2.out (512 - T) 2 (by omega) (by omega) W
        rw [show ((512 - T : Nat) : Int) = IntKind.u64.wrap (IntKind.i64.wrap (512 - (s5.size : Int))) from by rw [IntKind.wrap_i64, IntKind.wrap_u64]; omega] at h
        exact h
      have N3 : Hid (∀ W, Calls Try.prog 68 #[.int .u64 (IntKind.u64.wrap (sr.size : Int)), .int .i64 2] W (RetB W (.string (str (be 2 R))))) := by
        intro W
        have h := N2.out R 2 (by omega) (by omega) W
        rw [show ((R : Nat) : Int) = IntKind.u64.wrap (sr.size : Int) from by rw [IntKind.wrap_u64]; omega] at h
        exact h
      obtain ⟨b1, hb1'⟩ : ∃ b1, str (be 2 (512 - T)) = b1 := ⟨_, rfl⟩
      rw [hb1'] at y1 hap2 y3 N1
      obtain ⟨b2, hb2'⟩ : ∃ b2, str (be 2 R) = b2 := ⟨_, rfl⟩
      rw [hb2'] at y2 hap2 N3
      obtain ⟨s6, hs6⟩ : ∃ s6, s3 ++ b1 = s6 := ⟨_, rfl⟩
      rw [hs6] at hap2 y3
      obtain ⟨s7, hs7⟩ : ∃ s7, str (hd8 n next ++ slB 512 (rs.take (k + 1))) = s7 := ⟨_, rfl⟩
      have HS7 := Lib.hid hs7
      rw [hs7] at hap2
      have x1 : ¬ 9223372036854775807 < sr.size + s4.size := by omega
      have x2 : ¬ 9223372036854775807 < s3.size + b1.size := by omega
      have x3 : ¬ 9223372036854775807 < s6.size + b2.size := by omega
      have x5 : (s5.size : Int) ≤ 504 := by omega
      have x6 : (sr.size : Int) ≤ 504 := by omega
      have HS : Hid (∀ W, Below wr.heap.size wr W → W.cell? ⟨w.heap.size, 1, none⟩ = some (.slice (some ad) n c) ∧ W.cell? (ad.add k) = some (.string sr)) := by
        intro W hW
        have hz := hXr.lt
        exact ⟨(hXr.below hW hz).cell 1, (hW.cell (p := ad.add k) (by rw [block_of_add]; omega)).trans d2⟩
      have HXB := Lib.hid (And.intro hXr hbr)
      clear z3 z5 zr y1 y2 y3 z4' hT5 hR5 hs3 hs4 hsr hs5 hb1' hb2' hs7 N2 hXr hbr HTa
      go_wp2_with fail
      go_region_held3 (fun w' => w'.cell? ⟨w.heap.size, 1, none⟩ = some (.slice (some ad) n c) ∧ w'.cell? (ad.add k) = some (.string sr) ∧ Below wr.heap.size wr w')
        (first | exact ⟨(HS.out _ (Below.refl _ _)).1, (HS.out _ (Below.refl _ _)).2, Below.refl _ _⟩ | exact ⟨(HS.out _ (Below.drew (Below.refl _ _))).1, (HS.out _ (Below.drew (Below.refl _ _))).2, Below.drew (Below.refl _ _)⟩ | exact ⟨(HS.out _ hb4).1, (HS.out _ hb4).2, hb4⟩ | exact ⟨(HS.out _ hb2).1, (HS.out _ hb2).2, hb2⟩ | assumption)
        (first
          | (go_at_call 68; (with_reducible refine (N3.out _).mono ?_); rintro e w3 ⟨rfl, hb3'⟩; have hb4 : Below wr.heap.size wr w3 := bto0 (by with_reducible repeat (first | exact Below.refl _ _ | exact hb2 | refine Below.drew ?_ | refine bdr ?_ _)) hb3')
          | (go_at_call 68; (with_reducible refine (N1.out _).mono ?_); rintro e w2 ⟨rfl, hb2'⟩; have hb2 : Below wr.heap.size wr w2 := bto0 (by with_reducible repeat (first | exact Below.refl _ _ | refine Below.drew ?_ | refine bdr ?_ _)) hb2'))
      go_wp2
      go_roundw
      case rel => exact ⟨k + 1, by rw [HS7.out], by rw [HS5.out], by go_num, by omega, HXB.out.1.below hb4 HXB.out.1.lt, bto0 HXB.out.2 hb4⟩
      case measure => simp [intOf]; omega
    · obtain rfl : k = n := by omega
      have ht2 := HT.out
      have e1 : rs.take k = rs := List.take_of_length_le (by rw [HL.out]; exact Nat.le_refl _)
      rw [e1]
      have z3 : (str (hd8 k next ++ slB 512 rs)).size = 8 + 4 * k := by rw [str_size, List.length_append, hd8_len, slB_len, HL.out]
      have z4 : (str (bk rs)).size = tot rs := str_size _
      obtain ⟨Z, hZ⟩ : ∃ Z, 504 - 4 * k - tot rs = Z := ⟨_, rfl⟩
      have zz : (str (zs Z)).size = Z := by rw [str_size, zs_len]
      have hap : (str (hd8 k next ++ slB 512 rs) ++ str (zs Z)) ++ str (bk rs) = str (layL next rs) := by
        rw [HLL.out, hZ, str_append, str_append]; simp only [List.append_assoc]
      have z6 : (str (hd8 k next ++ slB 512 rs) ++ str (zs Z)).size = 8 + 4 * k + Z := by
        rw [str_append, str_size, List.length_append, List.length_append, hd8_len, slB_len, zs_len, HL.out]
      obtain ⟨s3, hs3⟩ : ∃ s3, str (hd8 k next ++ slB 512 rs) = s3 := ⟨_, rfl⟩
      rw [hs3] at z3 hap z6 ⊢
      obtain ⟨s4, hs4⟩ : ∃ s4, str (bk rs) = s4 := ⟨_, rfl⟩
      rw [hs4] at z4 hap ⊢
      have mk0 := mk_zs Z (by omega) .i64
      have cv := cv_zs Z
      rw [show ((Z : Nat) : Int) = 512 - (s3.size : Int) - (s4.size : Int) from by omega] at mk0
      obtain ⟨az, haz⟩ : ∃ az, bV (zs Z) = az := ⟨_, rfl⟩
      rw [haz] at mk0 cv
      obtain ⟨sz, hsz⟩ : ∃ sz, str (zs Z) = sz := ⟨_, rfl⟩
      rw [hsz] at cv hap zz z6
      obtain ⟨s6, hs6⟩ : ∃ s6, s3 ++ sz = s6 := ⟨_, rfl⟩
      rw [hs6] at hap z6
      obtain ⟨s7, hs7⟩ : ∃ s7, str (layL next rs) = s7 := ⟨_, rfl⟩
      rw [hs7] at hap
      have HS7 := Lib.hid hs7
      have x1 : ¬ 9223372036854775807 < s3.size + sz.size := by omega
      have x2 : ¬ 9223372036854775807 < s6.size + s4.size := by omega
      have x3 : (s3.size : Int) ≤ 512 := by omega
      have x4 : (s4.size : Int) ≤ 512 := by omega
      clear hs3 hs4 haz hsz hs7 z3 z4 z6 zz hZ ht2 e1 N2 hXr
      go_wp2
      go_ret
      exact ⟨by rw [HS7.out]; rfl, ball hbr _⟩
end
end
end Go.Proofs.Ytdimkeoncgjegaa
/-
  Heads of pages: the reference's Get.
-/
namespace Go.Proofs.Ytdimkeoncgjegaa
section
set_option linter.unusedSimpArgs false
set_option linter.unusedVariables false
open Go.RowKit

set_option maxRecDepth 100000 in
set_option maxHeartbeats 2000000 in
theorem rhget_any (l : List UInt8) (hn : l.length ≤ 1000000000) (w : World) : Calls Try.prog 74 #[.string (str l)] w (RetHd w l) := by
  have hz := str_size l
  by_cases h5 : l.length = 512
  rotate_left
  · have ho : hdOk l = false := by unfold hdOk; simp [h5]
    have hv : hdV l = .agg #[.int .u8 0, .int .u16 0, .int .u32 0] := by unfold hdV; rw [ho]; rfl
    have HH := Lib.hid (And.intro ho hv)
    have e1 : ((str l).size == 512) = false := by rw [hz]; simpa using h5
    have e2 : (((str l).size : Int) == 512) = false := by rw [hz]; simp; omega
    have e3 : ((str l).size != 512) = true := by rw [hz]; simpa using h5
    have e4 : (((str l).size : Int) != 512) = true := by rw [hz]; simp; omega
    clear ho hv h5 hz
    go_enter Try.func74, Try.ntmps74
    go_wp2
    exact bodyPost_ret (v := .tuple #[.agg #[.int .u8 0, .int .u16 0, .int .u32 0], .bool false]) (by simp [results, Try.results74, go_sem]) rfl ⟨by rw [HH.out.1, HH.out.2], ball (Below.refl _ _) _⟩
  · have hz5 : (str l).size = 512 := by rw [hz, h5]
    have g1 : 1 < (str l).size := by omega
    have g0 : 0 < (str l).size := by omega
    have hx1 : l[1]? = some l[1] := List.getElem?_eq_getElem (by omega)
    have hx0 : l[0]? = some l[0] := List.getElem?_eq_getElem (by omega)
    have hg1 := str_get g1 hx1
    have hg0 := str_get g0 hx0
    obtain ⟨x1, hx1e⟩ : ∃ x, l[1] = x := ⟨_, rfl⟩
    obtain ⟨x0, hx0e⟩ : ∃ x, l[0] = x := ⟨_, rfl⟩
    rw [hx1e] at hx1 hg1
    rw [hx0e] at hx0 hg0
    by_cases hz1 : x1 = 0
    rotate_left
    · have hz' : ¬ x1.toNat = 0 := fun e => hz1 (UInt8.toNat_inj.1 e)
      have ho : hdOk l = false := by unfold hdOk; rw [hx1]; simp [hz1]
      have hv : hdV l = .agg #[.int .u8 0, .int .u16 0, .int .u32 0] := by unfold hdV; rw [ho]; rfl
      have HH := Lib.hid (And.intro ho hv)
      have e1 : ((str l)[1].toNat == 0) = false := by rw [hg1]; simpa using hz'
      have e2 : (((str l)[1].toNat : Int) == 0) = false := by rw [hg1]; simp; omega
      have e3 : ((str l)[1].toNat != 0) = true := by rw [hg1]; simpa using hz'
      have e4 : (((str l)[1].toNat : Int) != 0) = true := by rw [hg1]; simp; omega
      clear ho hv hx1 hx0 hg1 hg0 hz1 hz' hz hx1e hx0e
      go_enter Try.func74, Try.ntmps74
      go_wp2
      exact bodyPost_ret (v := .tuple #[.agg #[.int .u8 0, .int .u16 0, .int .u32 0], .bool false]) (by simp [results, Try.results74, go_sem]) rfl ⟨by rw [HH.out.1, HH.out.2], ball (Below.refl _ _) _⟩
    · subst hz1
      have ho : hdOk l = true := by unfold hdOk; rw [h5, hx1]; rfl
      have hK : hdK l = x0.toNat := by unfold hdK; rw [List.getD_eq_getElem?_getD, hx0]; rfl
      have e0 : (str l)[1].toNat = 0 := by rw [hg1]; rfl
      have e00 : (((str l)[0].toNat : Nat) : Int) = (x0.toNat : Int) := by rw [hg0]
      have sl1 : ∀ W, (Instr.slice 9 (.string (str l)) (some (.int .i64 2)) (some (.int .i64 4)) none).run Try.prog W = .ok (.string (str ((l.drop 2).take 2))) W := cut_mid (P := Try.prog) Try.underlying9 l ((l.drop 2).take 2) .i64 .i64 2 4 (by omega) (by omega) (by omega) rfl
      have sl2 : ∀ W, (Instr.slice 9 (.string (str l)) (some (.int .i64 4)) (some (.int .i64 8)) none).run Try.prog W = .ok (.string (str ((l.drop 4).take 4))) W := cut_mid (P := Try.prog) Try.underlying9 l ((l.drop 4).take 4) .i64 .i64 4 8 (by omega) (by omega) (by omega) rfl
      have VC := Lib.hid fun W => dval_any ((l.drop 2).take 2) (by rw [List.length_take]; omega) W
      have VN := Lib.hid fun W => dval_any ((l.drop 4).take 4) (by rw [List.length_take]; omega) W
      have hCb := beVal_lt_of (l := (l.drop 2).take 2) (n := 2) (by rw [List.length_take]; omega)
      have hNb := beVal_lt_of (l := (l.drop 4).take 4) (n := 4) (by rw [List.length_take]; omega)
      have hv : hdV l = .agg #[.int .u8 (x0.toNat : Int), .int .u16 ((beVal ((l.drop 2).take 2) : Nat) : Int), .int .u32 ((beVal ((l.drop 4).take 4) : Nat) : Int)] := by unfold hdV; rw [ho, if_pos rfl, hK]; rfl
      have HH := Lib.hid (And.intro ho hv)
      obtain ⟨C, hC⟩ : ∃ C, beVal ((l.drop 2).take 2) = C := ⟨_, rfl⟩
      obtain ⟨Nn, hNn⟩ : ∃ N, beVal ((l.drop 4).take 4) = N := ⟨_, rfl⟩
      rw [hC] at VC hCb HH
      rw [hNn] at VN hNb HH
      have hCI : (C : Int) < 65536 := by omega
      have hNI : (Nn : Int) < 4294967296 := by omega
      have wC : IntKind.u16.wrap (C : Int) = (C : Int) := by simp [IntKind.wrap, IntKind.bits, IntKind.signed]; omega
      have wN : IntKind.u32.wrap (Nn : Int) = (Nn : Int) := by simp [IntKind.wrap, IntKind.bits, IntKind.signed]; omega
      clear ho hv hx1 hx0 hg1 hg0 hz hx1e hx0e hC hNn hCb hNb hK h5 hCI hNI
      go_enter Try.func74, Try.ntmps74
      go_wp2
      refine wp_region_held_drew (S := (fun w' => w.heap.size ≤ w'.heap.size)) (by kernel_rfl) (by simp) (fun hHeld => ?_)
      try dsimp only at hHeld
      refine wpAnyH_take (i := 0) (v := ?_) rfl (by kernel_rfl) (by kernel_rfl) (by kernel_rfl) (fun _ _ _ h => h) (Or.inl ⟨rfl, ?_⟩) hHeld ?_
      rotate_left
      focus (intro wx hSw; (try dsimp only at hSw); (try go_split_ands); go_simp; (try with_reducible rfl))
      try simp only [Act.put, List.getElem_toArray, List.getElem_cons_succ, List.getElem_cons_zero, List.setIfInBounds_toArray, List.set_cons_zero, List.set_cons_succ]
      refine wpAnyH_take (i := 1) (v := ?_) rfl (by kernel_rfl) (by kernel_rfl) (by kernel_rfl) (fun _ _ _ h => h) (Or.inl ⟨rfl, ?_⟩) hHeld ?_
      rotate_left
      focus (intro wx hSw; (try dsimp only at hSw); (try go_split_ands); go_simp; (try with_reducible rfl))
      try simp only [Act.put, List.getElem_toArray, List.getElem_cons_succ, List.getElem_cons_zero, List.setIfInBounds_toArray, List.set_cons_zero, List.set_cons_succ]
      refine wpAnyH_take (i := 2) (v := ?_) rfl (by kernel_rfl) (by kernel_rfl) (by kernel_rfl) (fun _ _ _ h => h) (Or.inl ⟨rfl, ?_⟩) hHeld ?_
      rotate_left
      focus (intro wx hSw; (try dsimp only at hSw); (try go_split_ands); go_simp; (try with_reducible rfl))
      try simp only [Act.put, List.getElem_toArray, List.getElem_cons_succ, List.getElem_cons_zero, List.setIfInBounds_toArray, List.set_cons_zero, List.set_cons_succ]
      refine wpAnyH_take (i := 3) (v := ?_) rfl (by kernel_rfl) (by kernel_rfl) (by kernel_rfl) (fun _ _ _ h => h) (Or.inl ⟨rfl, ?_⟩) hHeld ?_
      rotate_left
      focus (intro wx hSw; (try dsimp only at hSw); (try go_split_ands); go_simp; (try with_reducible rfl))
      try simp only [Act.put, List.getElem_toArray, List.getElem_cons_succ, List.getElem_cons_zero, List.setIfInBounds_toArray, List.set_cons_zero, List.set_cons_succ]
      refine wpAnyH_take (i := 6) (v := ?_) rfl (by kernel_rfl) (by kernel_rfl) (by kernel_rfl) (fun _ _ _ h => h) (Or.inl ⟨rfl, ?_⟩) hHeld ?_
      rotate_left
      focus (intro wx hSw; (try dsimp only at hSw); (try go_split_ands); go_simp; (try with_reducible rfl))
      try simp only [Act.put, List.getElem_toArray, List.getElem_cons_succ, List.getElem_cons_zero, List.setIfInBounds_toArray, List.set_cons_zero, List.set_cons_succ]
      refine wpAnyH_take (i := 7) (v := ?_) rfl (by kernel_rfl) (by kernel_rfl) (by kernel_rfl) (fun _ _ _ h => h) (Or.inl ⟨rfl, ?_⟩) hHeld ?_
      rotate_left
      focus (intro wx hSw; (try dsimp only at hSw); (try go_split_ands); go_simp; (try with_reducible rfl))
      try simp only [Act.put, List.getElem_toArray, List.getElem_cons_succ, List.getElem_cons_zero, List.setIfInBounds_toArray, List.set_cons_zero, List.set_cons_succ]
      refine wpAnyH_ready (rs := [4]) (by kernel_rfl) (by simp) (AllReadyH.cons rfl (fun K hK => ?_) AllReadyH.nil)
      go_simp
      (go_at_call 75; (with_reducible refine (VC.out _).mono ?_); rintro e w' ⟨rfl, rfl⟩)
      go_wp2_with fail
      refine hK.out _ _ ?_ (fun hHeld => ?_)
      · ((try dsimp only); (try dsimp only at hHeld); (first | exact hHeld | (simp; done) | (simp; omega)))
      clear hK K
      try dsimp only at hHeld
      try simp only [Act.put, List.getElem_toArray, List.getElem_cons_succ, List.getElem_cons_zero, List.setIfInBounds_toArray, List.set_cons_zero, List.set_cons_succ]
      refine wpAnyH_take (i := 5) (v := ?_) rfl (by kernel_rfl) (by kernel_rfl) (by kernel_rfl) (fun _ _ _ h => h) (Or.inl ⟨rfl, ?_⟩) hHeld ?_
      rotate_left
      focus (intro wx hSw; (try dsimp only at hSw); (try go_split_ands); go_simp; (try with_reducible rfl))
      try simp only [Act.put, List.getElem_toArray, List.getElem_cons_succ, List.getElem_cons_zero, List.setIfInBounds_toArray, List.set_cons_zero, List.set_cons_succ]
      refine wpAnyH_ready (rs := [8]) (by kernel_rfl) (by simp) (AllReadyH.cons rfl (fun K hK => ?_) AllReadyH.nil)
      go_simp
      (go_at_call 75; (with_reducible refine (VN.out _).mono ?_); rintro e w' ⟨rfl, rfl⟩)
      go_wp2_with fail
      refine hK.out _ _ ?_ (fun hHeld => ?_)
      · ((try dsimp only); (try dsimp only at hHeld); (first | exact hHeld | (simp; done) | (simp; omega)))
      clear hK K
      try dsimp only at hHeld
      try simp only [Act.put, List.getElem_toArray, List.getElem_cons_succ, List.getElem_cons_zero, List.setIfInBounds_toArray, List.set_cons_zero, List.set_cons_succ]
      refine wpAnyH_take (i := 9) (v := ?_) rfl (by kernel_rfl) (by kernel_rfl) (by kernel_rfl) (fun _ _ _ h => h) (Or.inl ⟨rfl, ?_⟩) hHeld ?_
      rotate_left
      focus (intro wx hSw; (try dsimp only at hSw); (try go_split_ands); go_simp; (try with_reducible rfl))
      try simp only [Act.put, List.getElem_toArray, List.getElem_cons_succ, List.getElem_cons_zero, List.setIfInBounds_toArray, List.set_cons_zero, List.set_cons_succ]
      refine wpAnyH_take (i := 10) (v := ?_) rfl (by kernel_rfl) (by kernel_rfl) (by kernel_rfl) (fun _ _ _ h => h) (Or.inl ⟨rfl, ?_⟩) hHeld ?_
      rotate_left
      focus (intro wx hSw; (try dsimp only at hSw); (try go_split_ands); go_simp; (try with_reducible rfl))
      try simp only [Act.put, List.getElem_toArray, List.getElem_cons_succ, List.getElem_cons_zero, List.setIfInBounds_toArray, List.set_cons_zero, List.set_cons_succ]
      refine wpAnyH_ready (rs := [11]) (by kernel_rfl) (by simp) (AllReadyH.cons rfl (fun K hK => ?_) AllReadyH.nil)
      go_simp
      refine hK.out _ _ ?_ (fun hHeld => ?_)
      · ((try dsimp only); (try dsimp only at hHeld); (first | exact hHeld | (simp; done) | (simp; omega)))
      clear hK K
      try dsimp only at hHeld
      try simp only [Act.put, List.getElem_toArray, List.getElem_cons_succ, List.getElem_cons_zero, List.setIfInBounds_toArray, List.set_cons_zero, List.set_cons_succ]
      refine wpAnyH_take (i := 12) (v := ?_) rfl (by kernel_rfl) (by kernel_rfl) (by kernel_rfl) (fun _ _ _ h => h) (Or.inl ⟨rfl, ?_⟩) hHeld ?_
      rotate_left
      focus (intro wx hSw; (try dsimp only at hSw); (try go_split_ands); go_simp; (try with_reducible rfl))
      try simp only [Act.put, List.getElem_toArray, List.getElem_cons_succ, List.getElem_cons_zero, List.setIfInBounds_toArray, List.set_cons_zero, List.set_cons_succ]
      refine wpAnyH_done (by kernel_rfl) ?_ _
      go_wp2
      exact bodyPost_ret (v := .tuple #[.agg #[.int .u8 (x0.toNat : Int), .int .u16 (C : Int), .int .u32 (Nn : Int)], .bool true]) (by simp [results, Try.results74, go_sem]) rfl ⟨by rw [HH.out.1, HH.out.2], by with_reducible repeat (first | exact Below.refl _ _ | refine Below.drew ?_ | refine ball ?_ _)⟩
end
end Go.Proofs.Ytdimkeoncgjegaa
/-
  Slots of a heap page: a record, Get.
-/
namespace Go.Proofs.Ytdimkeoncgjegaa
section
open Go.RowKit

section
variable {w : World} {A : Option Addr} {n c B : Nat} {l : List UInt8}
set_option maxRecDepth 100000 in
theorem record_any (a b : Nat) (hr : Reads w B 1 A n (bL l)) (hB : B ≤ w.heap.size) (hn : n ≤ 1000000) (hc : n ≤ c) (hab : a + b ≤ n) : Calls Try.prog 60 #[.slice A n c, .agg #[.int .i64 a, .int .i64 b]] w (RetCl w ((l.drop a).take b)) := by
  have hX := Blk.new w 137 #[.int .i64 a, .int .i64 b]
  have hb := ball (Below.refl w.heap.size w) (.cells #[.int .i64 a, .int .i64 b] 137)
  have hz : (w.alloc (.cells #[.int .i64 a, .int .i64 b] 137)).heap.size = w.heap.size + 1 := by simp
  go_enter Try.func60, Try.ntmps60
  go_wp2_with fail
  obtain ⟨WA, hW⟩ : ∃ W, (w.alloc (.cells #[.int .i64 a, .int .i64 b] 137)) = W := ⟨_, rfl⟩
  rw [hW] at hX hb hz ⊢
  clear hW
  have hzz : w.heap.size ≤ WA.heap.size := by omega
  have hrA := hr.below (hb.mono hB)
  obtain ⟨A', sl, hrd⟩ := cutb_mid (A := A) (n := n) (c := c) .i64 .i64 a (a + b) (a : Int) ((a : Int) + (b : Int)) rfl (by omega) (by omega) hab hc
  rw [Nat.add_sub_cancel_left] at sl hrd
  have EN := Lib.hid (end_any a b (by omega) (by omega))
  have CL := Lib.hid fun W (hW : Below WA.heap.size WA W) => clone_any (c := c - a) (hrd W B l (hrA.below (hW.mono (Nat.le_trans hB hzz)))) (Nat.le_trans hB (Nat.le_trans hzz hW.size)) (by omega)
  have HS : Hid (∀ W, Below WA.heap.size WA W → W.cell? ⟨w.heap.size, 0, none⟩ = some (.int .i64 a) ∧ W.cell? ⟨w.heap.size, 1, none⟩ = some (.int .i64 b)) := fun W hW =>
    ⟨(hX.below hW hX.lt).cell 0, (hX.below hW hX.lt).cell 1⟩
  have HH := Lib.hid hb
  obtain ⟨L', hL'⟩ : ∃ L', (l.drop a).take b = L' := ⟨_, rfl⟩
  have HL := Lib.hid hL'
  rw [hL'] at CL
  have hlL : Hid (L'.length = b) := by
    have := hr.bytes_len
    unfold Hid
    rw [← hL', List.length_take, List.length_drop]; omega
  clear hX hr hrA hrd hb hz hL'
  go_region_held3 (fun w' => w'.cell? ⟨w.heap.size, 0, none⟩ = some (.int .i64 a) ∧ w'.cell? ⟨w.heap.size, 1, none⟩ = some (.int .i64 b) ∧ Below WA.heap.size WA w')
    (first | exact ⟨(HS.out _ (Below.refl _ _)).1, (HS.out _ (Below.refl _ _)).2, Below.refl _ _⟩ | exact ⟨(HS.out _ (Below.drew (Below.refl _ _))).1, (HS.out _ (Below.drew (Below.refl _ _))).2, Below.drew (Below.refl _ _)⟩ | exact ⟨(HS.out _ hb4).1, (HS.out _ hb4).2, hb4⟩ | exact ⟨(HS.out _ hb2).1, (HS.out _ hb2).2, hb2⟩ | assumption)
    (first
      | (go_at_call 63; refine (EN.out _).mono ?_; rintro e w2 ⟨rfl, hb2'⟩; have hb2 : Below WA.heap.size WA w2 := bto0 (by with_reducible repeat (first | exact Below.refl _ _ | refine Below.drew ?_ | refine bdr ?_ _)) hb2')
      | (go_at_call 45; refine (CL.out _ (by with_reducible repeat (first | exact Below.refl _ _ | exact hb2 | refine Below.drew ?_ | refine bdr ?_ _))).mono ?_; rintro e w3 ⟨A3, c3, rfl, own3, hc3, hb3⟩; have own4 := own3.less (Nat.le_trans hzz hb2.size); have hb4 : Below WA.heap.size WA w3 := bto0 hb2 hb3))
  go_wp2
  go_ret
  rw [HL.out]
  exact ⟨A3, c3, rfl, own4, hc3, HH.out.trans (hb4.mono hzz)⟩
theorem get_no (k : Int) (hp : isPage l = false) (hr : Reads w B 1 A n (bL l)) (hB : B ≤ w.heap.size) (hn : n ≤ 1000000) (hc : n ≤ c) : Calls Try.prog 38 #[.slice A n c, .int .i64 k] w (RetB w (.tuple #[.slice none 0 0, .int .i64 2])) := by
  have P := Lib.hid (places_any A n c B l w hr hB hn hc)
  unfold RetPl at P
  rw [hp] at P
  clear hr hp
  go_enter Try.func38, Try.ntmps38
  go_wp2_with fail
  refine P.out.mono ?_
  rintro e w1 ⟨Ap, m, cp, rfl, hm, hrp, hcp, hb⟩
  clear hm
  go_wp2
  go_ret2
  exact ⟨rfl, hb⟩
theorem get_out (k : Int) (hp : isPage l = true) (hk : k < 0 ∨ (hdC l : Int) ≤ k) (hr : Reads w B 1 A n (bL l)) (hB : B ≤ w.heap.size) (hn : n ≤ 1000000) (hc : n ≤ c) : Calls Try.prog 38 #[.slice A n c, .int .i64 k] w (RetB w (.tuple #[.slice none 0 0, .int .i64 9])) := by
  have P := Lib.hid (places_any A n c B l w hr hB hn hc)
  unfold RetPl at P
  rw [hp] at P
  clear hr hp
  obtain ⟨C, hC⟩ : ∃ C, hdC l = C := ⟨_, rfl⟩
  rw [hC] at hk P
  clear hC
  by_cases h0 : k < 0
  · clear hk
    go_enter Try.func38, Try.ntmps38
    go_wp2_with fail
    refine P.out.mono ?_
    rintro e w1 ⟨Ap, m, cp, rfl, hm, hrp, hcp, hb⟩
    clear hm
    go_wp2
    go_ret2
    exact ⟨rfl, hb⟩
  · have h1 : (C : Int) ≤ k := by omega
    have h2 : (0 : Int) ≤ k := by omega
    clear hk
    go_enter Try.func38, Try.ntmps38
    go_wp2_with fail
    refine P.out.mono ?_
    rintro e w1 ⟨Ap, m, cp, rfl, hm, hrp, hcp, hb⟩
    obtain rfl : m = C := hm
    go_wp2
    go_ret2
    exact ⟨rfl, hb⟩
/-- What Get leaves of a record. -/
def RetGot (w : World) (l : List UInt8) (e : Ending) (w' : World) : Prop := ∃ A c, e = .returned (.tuple #[.slice A l.length c, .int .i64 0]) ∧ Own w' w.heap.size (.slice A l.length c) l ∧ l.length ≤ c ∧ Below w.heap.size w w'
theorem get_ok (k : Nat) (hp : isPage l = true) (hk : k < hdC l) (hr : Reads w B 1 A n (bL l)) (hB : B ≤ w.heap.size) (hn : n ≤ 1000000) (hc : n ≤ c) : Calls Try.prog 38 #[.slice A n c, .int .i64 k] w (RetGot w (recK l k)) := by
  obtain ⟨e1, e2, e3, e4, e5⟩ := page_end hp
  have hl := hr.bytes_len
  obtain ⟨f, _, f2, _, f4, _⟩ := endK_some e1 hk
  have P := Lib.hid (places_any A n c B l w hr hB hn hc)
  unfold RetPl at P
  rw [hp] at P
  have h0 : (0 : Int) ≤ (k : Int) := by omega
  have h1 : (k : Int) < (hdC l : Int) := by omega
  have REC := Lib.hid fun W (hW : Below w.heap.size w W) => record_any (two l (8 + 4 * k)) (two l (8 + 4 * k + 2)) (hr.below (hW.mono hB)) (Nat.le_trans hB hW.size) hn hc (by omega)
  have HK := Lib.hid hk
  obtain ⟨C, hC⟩ : ∃ C, hdC l = C := ⟨_, rfl⟩
  rw [hC] at P h1 HK
  clear hr hp hk e1 e2 e3 e4 e5 f2 f4 hC hl
  go_enter Try.func38, Try.ntmps38
  go_wp2_with fail
  refine P.out.mono ?_
  rintro e w1 ⟨Ap, m, cp, rfl, hm, hrp, hcp, hb⟩
  obtain rfl : m = C := hm
  obtain ⟨ad, rfl, hab, c0, c1⟩ := hrp.plc HK.out
  obtain ⟨a, ha⟩ : ∃ a, two l (8 + 4 * k) = a := ⟨_, rfl⟩
  obtain ⟨b, hb'⟩ : ∃ b, two l (8 + 4 * k + 2) = b := ⟨_, rfl⟩
  have HR : Hid (recK l k = (l.drop a).take b) := by unfold Hid recK; rw [ha, hb']
  rw [ha, hb'] at REC
  obtain ⟨L', hL'⟩ : ∃ L', (l.drop a).take b = L' := ⟨_, rfl⟩
  rw [hL'] at REC HR
  clear hL'
  rw [ha] at c0
  rw [hb'] at c1
  clear ha hb' hrp
  go_wp2_with fail
  refine (REC.out _ hb).mono ?_
  rintro e w3 ⟨A3, c3, rfl, own3, hc3, hb3⟩
  go_wp2
  go_ret2
  rw [HR.out]
  exact ⟨A3, c3, rfl, own3.less hb.size, hc3, bto0 hb hb3⟩
end
end
end Go.Proofs.Ytdimkeoncgjegaa

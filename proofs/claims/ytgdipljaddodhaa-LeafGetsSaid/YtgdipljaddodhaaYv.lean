/-
  What a leaf page has: contract of GetLeaf, of a page that is right.
-/
import Derived.Test.YtgdipljaddodhaaYu
set_option linter.unusedSimpArgs false
namespace Go.Proofs.Ytgdipljaddodhaa
open Go.RowKit

theorem wpList_pushG {P : Program} {w : World} {ops : Array Oper} {rest : List Oper} {o : Oper} {a : Act} {Q : Exit → Act → World → Prop} {news : List Value} {arr : Array Value} (hgd : o.guard = none) (s x : Operand) (t : TypeId)
    (ho : o.op = .call { callee := .builtin .append, args := #[s, x], argTypes := #[t, t] })
    (base : Nat) (e : TypeId) (i : TypeInfo) (z : Value) (size bytes : Nat) (ht : P.underlying t = some (.slice e)) (hi : P.info? e = some i) (hz : i.zero = some z)
    (hsize : i.size = size) (hby : i.bytes = bytes) (hzs : z.cells.size = size) (hsz : 0 < size)
    (v : Value) (n : Nat) (xs : List Value) (hs : a.eval s = v) (hown : w.ownsRow base e size v n xs)
    (harr : arr = news.toArray) (g : Nat) (hx : a.eval x = .slice (some ⟨g, 0, none⟩) 1 1) (hg : g = w.heap.size) (hl : news.length = size) (h1 : ∀ u ∈ news, u.oneCell' = true)
    (h63 : n + 1 ≤ 1000000000) (hbytes : bytes ≤ 10000) (hbase : base ≤ w.heap.size)
    (h : ∀ v' w', w'.ownsRow base e size v' (n + 1) (xs ++ news) → (∀ B w0, B ≤ base → Below B w0 w → Below B w0 w') → wpList P ops Q rest (a.put o.dst v') w') : wpList P ops Q (o :: rest) a (w.alloc (.cells arr e)) := by
  subst hg
  exact wpList_push hgd s x t ho base e i z size bytes ht hi hz hsize hby hzs hsz v n xs hs hown harr hx hl h1 h63 hbytes hbase h
theorem vE_snoc (l : List En) (e : En) : vE (l ++ [e]) = vE l ++ e.cells := by simp [vE]
theorem cells_oneE (v : En) : ∀ u ∈ v.cells, u.oneCell' = true := by
  intro u hu
  simp only [En.cells, List.mem_cons, List.not_mem_nil, or_false] at hu
  rcases hu with rfl | rfl | rfl <;> rfl
theorem Try.infoE : (Try.prog.info? 27).map (fun i => (i.zero, i.size, i.bytes)) = some (some (.agg #[.string ⟨#[]⟩, .int .u32 0, .int .u16 0]), 3, 24) := by kernel_rfl
def rdMany : Nat → List UInt8 → List En
  | 0, _ => []
  | n + 1, r => rdE r :: rdMany n (rdR r)
def rdRest : Nat → List UInt8 → List UInt8
  | 0, r => r
  | n + 1, r => rdRest n (rdR r)
def rdSh : Nat → List UInt8 → Bool
  | 0, _ => false
  | n + 1, r => rdS r || rdSh n (rdR r)
theorem rdMany_len : ∀ n r, (rdMany n r).length = n
  | 0, _ => rfl
  | n + 1, r => by rw [rdMany, List.length_cons, rdMany_len n]
theorem rd_step : ∀ (n : Nat) (r : List UInt8), rdMany (n + 1) r = rdMany n r ++ [rdE (rdRest n r)] ∧ rdRest (n + 1) r = rdR (rdRest n r) ∧ rdSh (n + 1) r = (rdSh n r || rdS (rdRest n r))
  | 0, r => ⟨rfl, rfl, by simp [rdSh, rdRest]⟩
  | n + 1, r => by
    obtain ⟨a, b, c⟩ := rd_step n (rdR r)
    refine ⟨?_, ?_, ?_⟩
    · rw [rdMany, a]; rfl
    · rw [rdRest, b]; rfl
    · rw [rdSh, c]; simp [rdSh, rdRest, Bool.or_assoc]
theorem own_ne {w : World} {g n : Nat} {t : TypeId} {v : Value} {xs : List Value} (h : w.ownsRow (g + 1) t 3 v n xs) : v.ownBlock = none ∨ v.ownBlock ≠ some g := by
  rcases h.2 with ⟨rfl, _⟩ | ⟨g', cap, cur, rfl, hb, _⟩
  · exact .inl rfl
  · refine .inr ?_
    show some g' ≠ some g
    intro e
    injection e with e
    omega
theorem Rd.below {w w' : World} {g B : Nat} {r : List UInt8} {sh : Bool} (h : Rd w g B r sh) (hb : Below (g + 1) w w') : Rd w' g B r sh := by
  obtain ⟨A, m, c, h1, h2, h3, h4⟩ := h
  exact ⟨A, m, c, h1.below hb (by omega), h2.below (hb.mono (by omega)), h3, h4⟩
theorem below_but {a b c : World} {g B : Nat} (h : Below B a b) (k : b.grownBy c (some g)) (hg : B ≤ g) (hs : g ≤ b.heap.size) : Below B a c :=
  h.trans ⟨k.os, k.tape, k.output, k.size, fun i hi => by
    rcases Nat.lt_or_ge i b.heap.size with h1 | h1
    · exact k.block i h1 (fun e => by injection e with e; omega)
    · omega⟩

def RetGl (w : World) (N : Nat) (l : List En) (e : Ending) (w' : World) : Prop := ∃ A c, e = .returned (.tuple #[.int .u32 (N : Int), .slice A l.length c, .int .i64 0]) ∧ l.length ≤ c ∧ Reads w' w'.heap.size 3 A l.length (vE l) ∧ Below w.heap.size w w'
set_option maxRecDepth 100000 in
set_option maxHeartbeats 4000000 in
theorem getLeaf_ok (A : Option Addr) (n c B C : Nat) (l : List UInt8) (L : List En) (R : List UInt8) (w : World) (hr : Reads w B 1 A n (bL l)) (hB : B ≤ w.heap.size) (hn : n ≤ 1000000) (hc : n ≤ c) (ho : hdOk l = true) (hk : hdK l = 2) (hC : hdC l = C) (hC2 : C ≤ 60000)
    (hL : rdMany C (l.drop 8) = L) (hR : rdRest C (l.drop 8) = R) (hS : rdSh C (l.drop 8) = false) (hz : allZ R = true) (hRl : R.length ≤ 1000000) (hm : mayEn L = true) :
    Calls Try.prog 18 #[.slice A n c] w (RetGl w (hdN l) L) := by
  have O := Lib.hid (open_ok A n c B l 2 w hr hB hn hc ho hk)
  unfold RetOp at O
  rw [hk, hC] at O
  generalize hdN l = N at *
  generalize l.drop 8 = r0 at *
  have hLl : L.length = C := by rw [← hL, rdMany_len]
  have HL := Lib.hid (And.intro hL (And.intro hR (And.intro hS (And.intro hz (And.intro hm hLl)))))
  have HRl := Lib.hid hRl
  clear hr hn hc ho hk hC hL hR hS hz hm hLl hRl
  have hCI : (C : Int) ≤ 60000 := by omega
  obtain ⟨i0, hi0, hz0, hs0, hy0⟩ := int_info8 Try.infoE
  go_enter Try.func18, Try.ntmps18
  go_wp2_with fail
  refine O.out.mono ?_
  rintro e w1 ⟨g, rfl, hg, hrd, hb1⟩
  have hgl : g < w1.heap.size := by obtain ⟨_, _, _, h1, _⟩ := hrd; exact h1.lt
  have hBg : B ≤ g := by omega
  have X0 := Blk.new w1 70 #[.int .u8 2, .int .u16 (C : Int), .int .u32 (N : Int)]
  have hrd0 : Rd (w1.alloc (.cells #[.int .u8 2, .int .u16 (C : Int), .int .u32 (N : Int)] 70)) g B r0 false := hrd.but (but_alloc w1 w1.heap.size _) (by omega) (by omega)
  have hbw : Below w.heap.size w (w1.alloc (.cells #[.int .u8 2, .int .u16 (C : Int), .int .u32 (N : Int)] 70)) := ball (bto0 (Below.refl _ _) hb1) _
  clear hrd hb1
  have HX0 := Lib.hid (And.intro X0 (And.intro hrd0 hbw))
  clear X0 hrd0 hbw
  have cz : (w1.alloc (.cells #[.int .u8 2, .int .u16 (C : Int), .int .u32 (N : Int)] 70)).cell? ⟨w1.heap.size, 1, none⟩ = some (.int .u16 (C : Int)) := HX0.out.1.cell 1
  go_wp2_with fail
  obtain ⟨X0, hrd0, hbw0⟩ := HX0.out
  have hs0' : w1.heap.size + 1 = (w1.alloc (.cells #[.int .u8 2, .int .u16 (C : Int), .int .u32 (N : Int)] 70)).heap.size := by simp
  obtain ⟨W0, hW0⟩ : ∃ W0, w1.alloc (.cells #[.int .u8 2, .int .u16 (C : Int), .int .u32 (N : Int)] 70) = W0 := ⟨_, rfl⟩
  rw [hW0] at X0 hrd0 hbw0 hs0' ⊢
  clear hW0 HX0 cz
  obtain ⟨h, hh⟩ : ∃ h, w1.heap.size = h := ⟨_, rfl⟩
  rw [hh] at X0 hgl hs0' ⊢
  clear hh
  go_loopw [8, 19] (fun rv iv wr => ∃ j : Nat, j ≤ C ∧ iv = .int .u16 (j : Int) ∧ wr.ownsRow (h + 1) 27 3 rv (rdMany j r0).length (vE (rdMany j r0)) ∧ Rd wr g B (rdRest j r0) (rdSh j r0) ∧ Blk wr h 70 #[.int .u8 2, .int .u16 (C : Int), .int .u32 (N : Int)] ∧ Below w.heap.size w wr ∧ h + 1 ≤ wr.heap.size) (fun _ iv _ => C - (intOf iv).toNat)
  case atStart => exact ⟨0, by omega, rfl, ⟨rfl, .inl ⟨rfl, rfl⟩⟩, hrd0, X0, hbw0, by omega⟩
  case round =>
    clear X0 hrd0 hbw0
    obtain ⟨j, hj, rfl, hown, hrd, hX, hb, hsz⟩ := hrel
    have r0' : (0 : Int) ≤ (j : Int) := by omega
    by_cases hlt : j < C
    · have r1 : (j : Int) < (C : Int) := by omega
      obtain ⟨st1, st2, st3⟩ := rd_step j r0
      have HST := Lib.hid (And.intro st1 (And.intro st2 st3))
      clear st1 st2 st3
      have EN := Lib.hid (entry_any g B (rdRest j r0) (rdSh j r0) wr hrd)
      have hjl : (rdMany j r0).length ≤ 60000 := by rw [rdMany_len]; omega
      obtain ⟨E, hE⟩ : ∃ E, rdE (rdRest j r0) = E := ⟨_, rfl⟩
      unfold RetEn at EN
      rw [hE] at EN
      have HE := Lib.hid hE; clear hE
      obtain ⟨es, ep, eq⟩ := E
      unfold En.agg at EN
      simp only at EN
      go_wp2_with fail
      refine EN.out.mono ?_
      rintro e w2 ⟨rfl, hrd2, hbt⟩
      have hown2 := World.ownsRow.kept (row := some g) hown hbt (by
        rcases own_ne (g := h) hown with h1 | h1
        · exact .inl h1
        · rcases hown.2 with ⟨hv, _⟩ | ⟨g', cap, cur, hv, hb', _⟩
          · exact .inl (by rw [hv]; rfl)
          · refine .inr ?_
            rw [hv]
            show some g' ≠ some g
            intro e; injection e with e; omega)
      have hX2 := hX.grown hbt (by simp; omega)
      have hb2 : Below w.heap.size w w2 := below_but hb hbt hg (by have := hX.lt; omega)
      have hsz2 := Nat.le_trans hsz hbt.size
      clear hown hrd hX hb hbt
      go_wp2_with (at_builtin; go_loud (refine wpList_pushG (news := En.cells ⟨es, ep, eq⟩) rfl _ _ 29 rfl (h + 1) 27 i0 _ 3 24 Try.underlying29 hi0 hz0 hs0 hy0 rfl (by decide) u8 (rdMany j r0).length _ rfl hown2 rfl _ rfl rfl rfl (cells_oneE _) (by omega) (by omega) hsz2 ?_); intro v3 w3 hown3 hk3)
      have hk4 := hk3 (h + 1) w2 (Nat.le_refl _) (Below.refl _ _)
      go_roundw
      case rel => exact ⟨j + 1, by omega, by go_num, by rw [HST.out.1, HE.out, vE_snoc, List.length_append]; exact hown3, by rw [HST.out.2.1, HST.out.2.2]; exact hrd2.below (hk4.mono (by omega)), hX2.below hk4 (by omega), hk3 _ _ (by omega) hb2, Nat.le_trans hsz2 hk4.size⟩
      case measure => simp [intOf]; omega
    · obtain rfl : j = C := by omega
      obtain ⟨e1, e2, e3, e4, e5, e6⟩ := HL.out
      rw [e1] at hown
      rw [e2, e3] at hrd
      have ED := Lib.hid (ended_any g B R false wr hrd HRl.out)
      rw [e4] at ED
      obtain ⟨A5, c5, rfl, hc5⟩ := own_form hown
      have hro := Reads.of_own hown
      have MY := mayE_any A5 L.length c5 L wr hro (by rw [e6]; omega)
      rw [e5] at MY
      have HM := Lib.hid MY; clear MY e1 e2 e3 e4 e5 e6 hown hrd
      go_wp2_with fail
      refine ED.out.mono ?_
      rintro e w' ⟨rfl, rfl⟩
      go_wp2_with fail
      refine HM.out.mono ?_
      rintro e w3 ⟨rfl, hb3⟩
      have X3 := hX.below hb3 hX.lt
      have y2 : w3.cell? ⟨h, 2, none⟩ = some (.int .u32 (N : Int)) := X3.cell 2
      go_wp2
      exact bodyPost_ret (v := .tuple #[.int .u32 (N : Int), .slice A5 L.length c5, .int .i64 0]) (by simp [results, Try.results18, go_sem]) rfl ⟨A5, c5, rfl, hc5, (hro.below hb3).more hb3.size, bto0 hb hb3⟩
end Go.Proofs.Ytgdipljaddodhaa

/-
  Several texts in one: Hc Hd2.
-/
import Derived.Test.YtdimkeoncgjegaaMfar
import Derived.Test.YtdimkeoncgjegaaMfal
/-
  Heap: the reference's Scan.
-/
namespace Go.Proofs.Ytdimkeoncgjegaa
section
set_option linter.unusedSimpArgs false
set_option linter.unusedVariables false
open Go.RowKit

/-- What the reference's Scan answers. -/
def RetRS (w : World) (R : List It × Nat × Int) (e : Ending) (w' : World) : Prop :=
  ∃ A c, e = .returned (.tuple #[.slice A R.1.length c, .int .i64 R.2.1, .int .i64 R.2.2]) ∧ Reads w' w'.heap.size 3 A R.1.length (iV R.1) ∧ Below w.heap.size w w'
theorem reads_empty (w : World) (t : TypeId) (size : Nat) {g : Nat} (hg : g = w.heap.size) : Reads (w.alloc (.cells #[] t)) (w.alloc (.cells #[] t)).heap.size size (some ⟨g, 0, none⟩) 0 [] := ⟨by simp, fun h => absurd h (by omega)⟩
theorem own_belowR2 {w w' : World} {base : Nat} {e : TypeId} {size n : Nat} {v : Value} {xs : List Value} (h : w.ownsRow base e size v n xs) (hb : Below w.heap.size w w') : w'.ownsRow base e size v n xs := own_kept_below h hb
/-- What another kind's block holds stays where a row of the call's own grows. -/
theorem blk_own_ne {w w' : World} {base : Nat} {e : TypeId} {size n : Nat} {v : Value} {xs : List Value} {g : Nat} {t : TypeId} {cs : Array Value} (h : w.ownsRow base e size v n xs) (hb : Blk w g t cs) (hg : w.grownBy w' v.ownBlock) (hne : e ≠ t) : Blk w' g t cs :=
  hb.grown hg fun e' => own_blk_ne h hb hne e'.symm
theorem reads_apart {w w' : World} {B size n : Nat} {A : Option Addr} {xs : List Value} {row : Option Nat} (h : Reads w B size A n xs) (hg : w.grownBy w' row) (hne : ∀ ad, A = some ad → row ≠ some ad.block) : Reads w' B size A n xs := by
  refine ⟨h.1, fun hn => ?_⟩
  obtain ⟨ad, e1, hb, hc⟩ := h.2 hn
  refine ⟨ad, e1, hb, fun j u hj => ?_⟩
  have hcu := hc j u hj
  have hk := hg.block (ad.add j).block (cell_block hcu) (by rw [block_of_add]; exact fun e => hne ad e1 e.symm)
  unfold World.cell? at hcu ⊢
  rw [hk]
  exact hcu
theorem itK_all (p : Nat) (rs : List (List UInt8)) (k : Nat) : ∀ x ∈ itK p rs k, x.p = p := by
  intro x hx
  unfold itK at hx
  obtain ⟨i, _, rfl⟩ := List.mem_map.1 hx
  rfl
set_option maxRecDepth 100000 in
set_option maxHeartbeats 8000000 in
theorem rscan_any {w : World} {n : Nat} (A : Option Addr) (c : Nat) (A2 : Option Addr) (c2 : Nat) (ps : List (List UInt8)) (hr : Reads w w.heap.size 1 A n (sL ps)) (hps : ps.length = n) (hf : Full ps) (hn : n ≤ 1000) (p0 : Nat) (hp0 : p0 ≤ 4294967295) :
    Calls Try.prog 20 #[.agg #[.slice A n c, .slice A2 n c2], .int .u32 p0] w (RetRS w (outH ps n p0 [] 0)) := by
  obtain ⟨i0, hi0, hz0, hs0, hy0⟩ := int_info8 Try.infoRI
  obtain ⟨R, hR⟩ : ∃ R, outH ps n p0 [] 0 = R := ⟨_, rfl⟩
  have HP := Lib.hid (And.intro hr (And.intro hps hf))
  have hb0 := ball (ball (Below.refl w.heap.size w) (.cells #[.slice A n c, .slice A2 n c2] 32)) (.cells #[] 73)
  have hX0 := (Blk.new w 32 #[.slice A n c, .slice A2 n c2]).alloc (.cells #[] 73)
  have hE0 := own_empty (w.alloc (.cells #[.slice A n c, .slice A2 n c2] 32)) 73 3 (g := w.heap.size + 1) (by simp)
  have H0 := Lib.hid (And.intro hb0 (And.intro hX0 hE0))
  have hnI : (n : Int) ≤ 1000 := by omega
  have HR := Lib.hid hR
  rw [hR]
  clear hb0 hX0 hE0 hr hps hf hR
  go_enter Try.func20, Try.ntmps20
  go_wp2
  go_loopw [7, 8, 9] (fun u7 u8 u9 wr => ∃ (f p k : Nat) (acc : List It), u8 = .int .u32 p ∧ u9 = .int .i64 ((k : Int) + 1) ∧ f + k = n ∧ p ≤ 4294967295 ∧ acc.length ≤ k * 126 ∧ wr.ownsRow (w.heap.size + 1) 73 3 u7 acc.length (iV acc) ∧ Blk wr w.heap.size 32 #[.slice A n c, .slice A2 n c2] ∧ Below w.heap.size w wr ∧ outH ps f p acc k = R) (fun _ _ u9 _ => n + 1 - (intOf u9).toNat)
  case atStart =>
    exact ⟨n, p0, 0, [], rfl, rfl, by omega, hp0, by simp, by simpa [iV] using H0.out.2.2, H0.out.2.1, H0.out.1, HR.out⟩
  case round =>
    obtain ⟨wo, rfl⟩ : ∃ wo : World, wo = wr := ⟨_, rfl⟩
    obtain ⟨f, p, k, acc, rfl, rfl, hfk, hp, hal, hown, hX, hb, hout⟩ := hrel
    have x0 : wo.cell? ⟨w.heap.size, 0, none⟩ = some (.slice A n c) := hX.cell 0
    have x1 : wo.cell? ⟨w.heap.size, 1, none⟩ = some (.slice A2 n c2) := hX.cell 1
    have k0 : (0 : Int) ≤ (k : Int) + 1 := by omega
    by_cases hf0 : f = 0
    · subst hf0
      have hRe : R = ([], 0, 2) := by rw [← hout]; rfl
      have e1 : decide ((k : Int) + 1 ≤ (n : Int)) = false := by simp; omega
      have HB := Lib.hid hb
      clear hout hX hown hb
      go_wp2
      go_ret3
      rw [hRe]
      exact ⟨_, _, rfl, reads_empty _ _ _ rfl, ball HB.out _⟩
    · obtain ⟨f, rfl⟩ : ∃ g, f = g + 1 := ⟨f - 1, by omega⟩
      have e1 : decide ((k : Int) + 1 ≤ (n : Int)) = true := by simp; omega
      have PG := Lib.hid (rpage_any A c A2 c2 ps ((HP.out.1.below hb).more hb.size) HP.out.2.1 HP.out.2.2 (by omega) p hp)
      have HO := Lib.hid hout
      have H1 := Lib.hid (And.intro hown (And.intro hX hb))
      clear hout hX hown hb
      go_wp2_with fail
      refine PG.out.mono ?_
      rintro e w1 (⟨E, hE, rfl, hb1⟩ | ⟨q, A3, c3, hq, hpg, rfl, hr3, hc3, hlo3, hb1⟩)
      · have hRe : R = ([], 0, E) := by
          rw [← HO.out]
          rcases hE with ⟨h1, rfl⟩ | ⟨q, h1, h2, rfl⟩
          · exact outH_none h1
          · exact outH_no h1 h2
        have e2 : (E != 0) = true := by rcases hE with ⟨h1, rfl⟩ | ⟨q, h1, h2, rfl⟩ <;> rfl
        have HB := Lib.hid (bto0 H1.out.2.2 hb1)
        clear hE hb1
        go_wp2
        go_ret3
        rw [hRe]
        exact ⟨_, _, rfl, reads_empty _ _ _ (by simp), ball (ball HB.out _) _⟩
      · have hC6 := (page_end hpg).2.1
        have RL : Hid (∀ k, k < hdC q → (recs q)[k]? = some (recK q k)) := fun k h => recs_at q h
        have hN2 := hdN_lt q (page_hd hpg).1
        have HO2 : Hid (outH ps (f + 1) p acc k = if hdN q = 0 then (acc ++ itK p (recs q) (hdC q), k + 1, 0) else outH ps f (hdN q) (acc ++ itK p (recs q) (hdC q)) (k + 1)) := by
          unfold Hid
          split
          · rename_i h; exact outH_end hq hpg h
          · rename_i h; exact outH_next hq hpg h
        obtain ⟨C, hC⟩ : ∃ C, hdC q = C := ⟨_, rfl⟩
        obtain ⟨N, hN⟩ : ∃ N, hdN q = N := ⟨_, rfl⟩
        obtain ⟨rs, hrs⟩ : ∃ rs, recs q = rs := ⟨_, rfl⟩
        rw [hC, hrs] at hr3
        rw [hC] at hc3 RL hC6
        rw [hrs] at RL
        rw [hN] at hN2
        rw [hC, hN, hrs] at HO2
        rw [hC, hN]
        have hown1 := own_belowR2 H1.out.1 hb1
        have hX1 := H1.out.2.1.below hb1 H1.out.2.1.lt
        have hPg := Blk.new w1 41 #[.int .u32 (N : Int), .slice A3 C c3]
        have H3 := Lib.hid (And.intro (bto0 H1.out.2.2 hb1) (And.intro hX1 (And.intro hown1 (And.intro hr3 hPg))))
        have hz1 := H1.out.2.1.lt
        have hz2 := hb1.size
        clear hb1 hr3 hown1 hX1 hPg hC hN hrs hq hpg
        go_wp2
        go_loopw [7, 35] (fun u7 u35 wr => ∃ i : Nat, i ≤ C ∧ u35 = .int .i64 i ∧ wr.ownsRow (w.heap.size + 1) 73 3 u7 (acc.length + i) (iV (acc ++ itK p rs i)) ∧ Blk wr w.heap.size 32 #[.slice A n c, .slice A2 n c2] ∧ Below w.heap.size w wr ∧ Reads wr w1.heap.size 1 A3 C (sL rs) ∧ Blk wr w1.heap.size 41 #[.int .u32 (N : Int), .slice A3 C c3] ∧ (∀ g, u7.ownBlock = some g → g < wo.heap.size ∨ w1.heap.size ≤ g) ∧ w1.heap.size ≤ wr.heap.size) (fun _ u35 _ => C - (intOf u35).toNat)
        case atStart => exact ⟨0, by omega, rfl, by simpa [itK] using World.ownsRow.alloc H3.out.2.2.1 _, H3.out.2.1.alloc _, ball H3.out.1 _, H3.out.2.2.2.1.alloc (Nat.le_refl _) _, H3.out.2.2.2.2, fun g e => .inl (World.ownsRow.lt H1.out.1 g e).2, by simp⟩
        case round =>
          obtain ⟨wi, rfl⟩ : ∃ wi : World, wi = wr := ⟨_, rfl⟩
          obtain ⟨i, hiC, rfl, hown, hX, hb, hrd, hPg, hob, hzw⟩ := hrel
          have i00 : (0 : Int) ≤ (i : Int) := by omega
          have y0 : wi.cell? ⟨w1.heap.size, 0, none⟩ = some (.int .u32 (N : Int)) := hPg.cell 0
          have y1 : wi.cell? ⟨w1.heap.size, 1, none⟩ = some (.slice A3 C c3) := hPg.cell 1
          by_cases hlt : i < C
          · have i1 : (i : Int) < (C : Int) := by omega
            have i2 : (i : Int) ≤ 65535 := by omega
            have hzi := hPg.lt
            obtain ⟨ad, r, rfl, hadb, hr2, hcell⟩ := hrd.text hlt
            have hrr : rs.getD i [] = r := by rw [List.getD_eq_getElem?_getD, hr2]; rfl
            have HL := Lib.hid (And.intro hown (And.intro hX (And.intro hb (And.intro hrd (And.intro hPg hrr)))))
            clear hown hX hb hrd hPg hrr
            go_wp2_with (at_builtin; refine wpList_pushR (news := [.int .u32 (p : Int), .int .u16 (i : Int), .string (str r)]) rfl (.tmp 38) (.tmp 49) 69 rfl (w.heap.size + 1) 73 i0 _ 3 24 Try.underlying69 hi0 hz0 hs0 hy0 rfl (by decide) u7 (acc.length + i) _ (by first | rfl | (simp [Act.eval, Act.put]; done)) HL.out.1 rfl _ (by first | rfl | (simp [Act.eval, Act.put]; done)) (by first | rfl | simp) rfl (by intro u hu; simp only [List.mem_cons, List.not_mem_nil, or_false] at hu; rcases hu with rfl | rfl | rfl <;> rfl) (by omega) (by omega) (by omega) ?_; intro v8 w8 own8 kp8 ob8)
            have oa := World.ownsRow.alloc HL.out.1 (.cells #[.int .u32 (p : Int), .int .u16 (i : Int), .string (str r)] 73)
            have ra := HL.out.2.2.2.1.alloc (o := .cells #[.int .u32 (p : Int), .int .u16 (i : Int), .string (str r)] 73) (by omega)
            refine ⟨⟨i + 1, by omega, rfl, ?_, blk_far_grown oa (HL.out.2.1.alloc _) kp8 (by omega), bgrow (ball HL.out.2.2.1 _) kp8 oa (by omega) (by simp; omega), ?_, ?_⟩, by simp [intOf]; omega⟩
            · rw [itK_succ, ← List.append_assoc, iV_snoc, HL.out.2.2.2.2.2]; exact own8
            · exact reads_apart ra kp8 (fun ad' e e2 => by injection e with e; subst e; have h1 := hlo3 _ rfl; rcases hob _ e2 with h2 | h2 <;> omega)
            · refine ⟨blk_own_ne oa (HL.out.2.2.2.2.1.alloc _) kp8 (by decide), fun g e => ?_, by have := kp8.size; simp at this; omega⟩
              rcases ob8 with h1 | h1
              · exact hob g (h1 ▸ e)
              · rw [h1] at e; injection e with e; omega
          · obtain rfl : C = i := by omega
            have HL := Lib.hid (And.intro hown (And.intro hX hb))
            have x0' : wi.cell? ⟨w.heap.size, 0, none⟩ = some (.slice A n c) := hX.cell 0
            by_cases hN0 : N = 0
            · subst hN0
              obtain ⟨A7, c7, rfl, hc7⟩ := own_form hown
              have hRe : Hid (R = (acc ++ itK p rs C, k + 1, 0)) := by unfold Hid; rw [← HO.out, HO2.out, if_pos rfl]
              clear hown hX hb hrd hPg
              go_wp2
              go_ret3
              rw [hRe.out]
              have e4 : (acc ++ itK p rs C).length = acc.length + C := by rw [List.length_append, itK_len]
              exact ⟨A7, c7, by rw [e4]; rfl, by rw [e4]; exact Reads.of_own HL.out.1, HL.out.2.2⟩
            · have e3 : ((N : Int) == 0) = false := by simp; omega
              have hRe : Hid (outH ps f N (acc ++ itK p rs C) (k + 1) = R) := by unfold Hid; rw [← HO.out, HO2.out, if_neg hN0]
              clear hown hX hb hrd hPg
              go_wp2
              have e4 : (acc ++ itK p rs C).length = acc.length + C := by rw [List.length_append, itK_len]
              exact ⟨⟨f, N, k + 1, acc ++ itK p rs C, rfl, by rw [show ((k + 1 : Nat) : Int) = (k : Int) + 1 from by omega], by omega, by omega, by rw [e4]; omega, by rw [e4]; exact HL.out.1, HL.out.2.1, HL.out.2.2, hRe.out⟩, by simp [intOf]; omega⟩
end
end Go.Proofs.Ytdimkeoncgjegaa
/-
  Heap: what a scan has in hand: the pool, the list of items; the closure that takes an item more.
-/
namespace Go.Proofs.Ytdimkeoncgjegaa
section
set_option linter.unusedSimpArgs false
set_option linter.unusedVariables false
open Go.RowKit Go.Maps

/-- An item of the program's: the record's block and capacity. -/
structure PIt where
  it : It
  a : Nat
  c : Nat
def pV (l : List PIt) : List Value := l.flatMap fun x => [.int .u32 x.it.p, .int .u16 x.it.s, .slice (some ⟨x.a, 0, none⟩) x.it.r.length x.c]
theorem pV_snoc (l : List PIt) (x : PIt) : pV (l ++ [x]) = pV l ++ [.int .u32 x.it.p, .int .u16 x.it.s, .slice (some ⟨x.a, 0, none⟩) x.it.r.length x.c] := by simp [pV]
theorem pV_len (l : List PIt) : (pV l).length = l.length * 3 := flat_len _ 3 l (by simp)
def LOk (w : World) (base : Nat) (l : List PIt) : Prop := ∀ x ∈ l, Own w base (.slice (some ⟨x.a, 0, none⟩) x.it.r.length x.c) x.it.r ∧ x.it.r.length ≤ x.c
theorem Try.infoPI : (Try.prog.info? 62).map (fun i => (i.zero, i.size, i.bytes)) = some (some (.agg #[.int .u32 0, .int .u16 0, .slice none 0 0]), 3, 32) := by kernel_rfl
theorem ownR_stays {w w' : World} {base : Nat} {e : TypeId} {size n : Nat} {v : Value} {xs : List Value} (h : w.ownsRow base e size v n xs) (he : ∀ g cs, v.ownBlock = some g → Blk w g e cs → w'.heap[g]? = w.heap[g]?) : w'.ownsRow base e size v n xs := by
  refine ⟨h.1, ?_⟩
  rcases h.2 with hn | ⟨g, cap, cur, rfl, hb, hgg, rest⟩
  · exact .inl hn
  · refine .inr ⟨g, cap, cur, rfl, hb, ?_, rest⟩
    rw [he g cur rfl hgg]
    exact hgg
theorem ownR_blk {w : World} {base : Nat} {e : TypeId} {size n g : Nat} {v : Value} {xs : List Value} (h : w.ownsRow base e size v n xs) (hv : v.ownBlock = some g) : ∃ cs, Blk w g e cs := by
  rcases h.2 with ⟨rfl, _⟩ | ⟨g', cap, cur, rfl, hb, hgg, rest⟩
  · cases hv
  · injection hv with hv
    subst hv
    exact ⟨cur, hgg⟩
theorem own_cap {w : World} {base n c size : Nat} {e : TypeId} {A : Option Addr} {xs : List Value} (h : w.ownsRow base e size (.slice A n c) n xs) : c ≤ maxLen := by
  rcases h.2 with ⟨h1, _⟩ | ⟨g, cap, cs, h1, _, _, _, h2, _⟩
  · injection h1 with _ _ h3
    rw [h3]
    simp
  · injection h1 with _ _ h3
    rw [h3]
    exact h2
/-- Only blocks of items and lists of them change. -/
structure Chg (w w' : World) : Prop where
  os : w'.os = w.os
  tape : w'.tape = w.tape
  output : w'.output = w.output
  size : w.heap.size ≤ w'.heap.size
  heap : ∀ g, (∀ cs, ¬ Blk w g 62 cs) → (∀ cs, ¬ Blk w g 55 cs) → g < w.heap.size → w'.heap[g]? = w.heap[g]?
theorem Chg.blk {w w' : World} (h : Chg w w') {g : Nat} {t : TypeId} {cs : Array Value} (hb : Blk w g t cs) (h1 : t ≠ 62) (h2 : t ≠ 55) : Blk w' g t cs :=
  (h.heap g (fun cs' h' => hb.ne_ h' h1 rfl) (fun cs' h' => hb.ne_ h' h2 rfl) hb.lt).trans hb
theorem Chg.own {w w' : World} (h : Chg w w') {base : Nat} {v : Value} {l : List UInt8} (ho : Own w base v l) : Own w' base v l :=
  ho.stays fun g cs _ hb => h.heap g (fun cs' h' => hb.ne_ h' (by decide) rfl) (fun cs' h' => hb.ne_ h' (by decide) rfl) hb.lt
section
variable {w0 W W' : World} {lo gp gd gb gt n : Nat} {ps : List (List UInt8)} {T : List Bool} {gm size : Nat} {K0 : List Fr} {m gl : Nat} {acc : List PIt}
structure WS (w0 : World) (lo gp gd gb gt n : Nat) (ps : List (List UInt8)) (T : List Bool) (gm size : Nat) (K0 : List Fr) (m gl : Nat) (acc : List PIt) (W : World) : Prop where
  pool : ∃ K D rd ht, PS W lo gp gd gb gt n ps T gm size K D rd ht ∧ rd ≤ m ∧ ht ≤ m ∧ ∀ (j : Nat) (f : Fr), K[j]? = some f → (∃ i : Nat, K0[i]? = some f) ∨ w0.heap.size ≤ f.g
  turn : Turn w0 W lo gp gm K0
  list : ∃ u, Blk W gl 55 #[u] ∧ W.ownsRow (gl + 1) 62 3 u acc.length (pV acc)
  ok : LOk W w0.heap.size acc
  lo : lo ≤ w0.heap.size
  hi : w0.heap.size ≤ gl
theorem WS.below (h : WS w0 lo gp gd gb gt n ps T gm size K0 m gl acc W) (hb : Below W.heap.size W W') : WS w0 lo gp gd gb gt n ps T gm size K0 m gl acc W' := by
  obtain ⟨K, D, rd, ht, h1, h2, h3, h4⟩ := h.pool
  obtain ⟨u, u1, u2⟩ := h.list
  exact ⟨⟨K, D, rd, ht, h1.below hb, h2, h3, h4⟩, h.turn.more hb h.lo, ⟨u, u1.below hb u1.lt, own_kept_below u2 hb⟩, fun x hx => ⟨(h.ok x hx).1.below hb, (h.ok x hx).2⟩, h.lo, h.hi⟩
/-- What Head leaves, in these words. -/
theorem WS.head (h : WS w0 lo gp gd gb gt n ps T gm size K0 m gl acc W) (hn : n ≤ 1000) (hm : m ≤ 900000) (p : Nat) (hp : p ≤ 4294967295) (k : Int) :
    Calls Try.prog 37 #[.pointer (some ⟨gp, 0, none⟩), .int .u32 p, .int .u8 k] W fun e W' => WS w0 lo gp gd gb gt n ps T gm size K0 (m + 1) gl acc W' ∧ W.heap.size ≤ W'.heap.size ∧
      ((n ≤ p ∧ e = .returned (.tuple #[hd0, .slice none 0 0, .int .i64 8])) ∨
       (∃ q, ps[p]? = some q ∧ (hdOk q = false ∨ (hdK q : Int) ≠ k) ∧ e = .returned (.tuple #[hd0, .slice none 0 0, .int .i64 2])) ∨
       (∃ q A c, ps[p]? = some q ∧ hdOk q = true ∧ (hdK q : Int) = k ∧ e = .returned (.tuple #[hdV q, .slice A 512 c, .int .i64 0]) ∧ Own W' W.heap.size (.slice A 512 c) q)) := by
  obtain ⟨K, D, rd, ht, h1, h2, h3, h4⟩ := h.pool
  obtain ⟨u, u1, u2⟩ := h.list
  have hlo : lo ≤ W.heap.size := Nat.le_trans h.lo h.turn.size
  refine (headv_any h1 p k hp hn m (by omega) h2 h3 hlo).mono ?_
  rintro e W' ⟨⟨K', D', rd', ht', p1, p2, p3, p4⟩, tn, hc⟩
  refine ⟨⟨⟨K', D', rd', ht', p1, p2, p3, fun j f hj => ?_⟩, h.turn.trans tn fun j f hj => h4 j f hj, ⟨u, h1.turn_blk tn u1 (by decide) (by decide), ?_⟩, fun x hx => ⟨h1.turn_own tn (h.ok x hx).1, (h.ok x hx).2⟩, h.lo, h.hi⟩, tn.size, hc⟩
  · rcases p4 j f hj with ⟨i, hi⟩ | hi
    · exact h4 i f hi
    · exact .inr (Nat.le_trans h.turn.size hi)
  · exact ownR_stays u2 fun g cs _ hb => tn.heap g hb.lt (hb.ne_ h1.rg.pool (by decide)) (h1.mp.ne_ hb) (fun j f hj => hb.ne_ (h1.rg.fr j f hj).1 (by decide))
theorem WS.push {x : PIt} {u' : Value} (h : WS w0 lo gp gd gb gt n ps T gm size K0 m gl acc W) (hc : Chg W W') (hbel : Below w0.heap.size W W') (hl : Blk W' gl 55 #[u']) (ho : W'.ownsRow (gl + 1) 62 3 u' (acc ++ [x]).length (pV (acc ++ [x])))
    (hx : Own W' w0.heap.size (.slice (some ⟨x.a, 0, none⟩) x.it.r.length x.c) x.it.r ∧ x.it.r.length ≤ x.c) : WS w0 lo gp gd gb gt n ps T gm size K0 m gl (acc ++ [x]) W' := by
  obtain ⟨K, D, rd, ht, h1, h2, h3, h4⟩ := h.pool
  refine ⟨⟨K, D, rd, ht, h1.keep _ _ hc.heap (fun t e => by rcases e with rfl | rfl <;> decide), h2, h3, h4⟩, h.turn.base hbel h.lo, ⟨u', hl, ho⟩, fun y hy => ?_, h.lo, h.hi⟩
  rcases List.mem_append.1 hy with h5 | h5
  · exact ⟨hc.own (h.ok y h5).1, (h.ok y h5).2⟩
  · rw [List.mem_singleton] at h5; subst h5; exact hx
set_option maxRecDepth 100000 in
set_option maxHeartbeats 4000000 in
theorem clos_any (h : WS w0 lo gp gd gb gt n ps T gm size K0 m gl acc W) (p s a c : Nat) (r : List UInt8) (hs : s ≤ 65535) (hal : acc.length ≤ 1000000) (ho : Own W w0.heap.size (.slice (some ⟨a, 0, none⟩) r.length c) r) (hc : r.length ≤ c) :
    Calls Try.prog 36 #[.agg #[.int .u32 p, .int .u16 s], .slice (some ⟨a, 0, none⟩) r.length c, .pointer (some ⟨gl, 0, none⟩)] W fun e W' => e = .returned (.bool true) ∧ WS w0 lo gp gd gb gt n ps T gm size K0 m gl (acc ++ [⟨⟨p, s, r⟩, a, c⟩]) W' ∧ Chg W W' := by
  obtain ⟨u, u1, u2⟩ := h.list
  obtain ⟨i0, hi0, hz0, hs0, hy0⟩ := int_info8 Try.infoPI
  have c0 : (W.alloc (.cells #[.int .u32 p, .int .u16 s] 50)).cell? ⟨gl, 0, none⟩ = some u := (u1.alloc _).cell 0
  have hz := u1.lt
  have uo := World.ownsRow.alloc u2 (.cells #[.int .u32 p, .int .u16 s] 50)
  have H := Lib.hid (And.intro h (And.intro u1 (And.intro u2 (And.intro uo (And.intro ho hc)))))
  clear h u1 u2 uo ho hc
  go_enter Try.func36, Try.ntmps36
  go_wp2_with (at_builtin; refine wpList_pushR (news := [.int .u32 (p : Int), .int .u16 (s : Int), .slice (some ⟨a, 0, none⟩) r.length c]) rfl (.tmp 6) (.tmp 10) 55 rfl (gl + 1) 62 i0 _ 3 32 Try.underlying55 hi0 hz0 hs0 hy0 rfl (by decide) u acc.length _ (by first | rfl | (simp [Act.eval, Act.put]; done)) H.out.2.2.2.1 rfl _ (by first | rfl | (simp [Act.eval, Act.put]; done)) (by first | rfl | simp) rfl (by intro u hu; simp only [List.mem_cons, List.not_mem_nil, or_false] at hu; rcases hu with rfl | rfl | rfl <;> rfl) (by omega) (by omega) (by simp; omega) ?_; intro v8 w8 own8 kp8 ob8; obtain ⟨A8, c8, rfl, hc8⟩ := own_form own8; have B8 := blk_far_grown (World.ownsRow.alloc H.out.2.2.2.1 (.cells #[.int .u32 (p : Int), .int .u16 (s : Int), .slice (some ⟨a, 0, none⟩) r.length c] 62)) ((H.out.2.1.alloc _).alloc _) kp8 (by omega); have x8 : w8.cell? ⟨gl, 0, none⟩ = some u := B8.cell 0; have f8 : w8.frozen? ⟨gl, 0, none⟩ = false := B8.frozen 0; have z8 := B8.lt; have H8 := Lib.hid (And.intro own8 (And.intro kp8 (And.intro ob8 B8))); clear own8 kp8 ob8 B8)
  go_ret
  have hi := H.out.1.hi
  have ob : ∀ g, u.ownBlock = some g → gl + 1 ≤ g := fun g e => (World.ownsRow.lt H.out.2.2.1 g e).1
  have bel : Below w0.heap.size W (w8.setCell ⟨gl, 0, none⟩ (.slice A8 (acc.length + 1) c8)) :=
    ((((Below.refl w0.heap.size W).alloc (by omega) _).alloc (by simp; omega) _).grown H8.out.2.1 (by simp; omega) (fun g e => by have := ob g e; omega)).setCell (by show w0.heap.size ≤ gl; exact hi) _
  have chg : Chg W (w8.setCell ⟨gl, 0, none⟩ (.slice A8 (acc.length + 1) c8)) := by
    refine ⟨bel.os, bel.tape, bel.output, bel.size, fun g h1 h2 hg => ?_⟩
    have hne : g ≠ gl := fun e => by subst e; exact h2 _ H.out.2.1
    have hno : some g ≠ u.ownBlock := fun e => by
      obtain ⟨cs, hcs⟩ := ownR_blk H.out.2.2.1 e.symm
      exact h1 cs hcs
    rw [Below.heap_setCell _ _ _ _ hne, H8.out.2.1.block g (by simp; omega) hno, Below.heap_alloc _ _ _ (by simp; omega), Below.heap_alloc _ _ _ hg]
  refine ⟨rfl, H.out.1.push chg bel (H8.out.2.2.2.set_ 0 _) ?_ ⟨chg.own H.out.2.2.2.2.1, H.out.2.2.2.2.2⟩, chg⟩
  rw [pV_snoc, List.length_append]
  exact own_far2 H8.out.1 gl (by omega) _ _
end
end
end Go.Proofs.Ytdimkeoncgjegaa

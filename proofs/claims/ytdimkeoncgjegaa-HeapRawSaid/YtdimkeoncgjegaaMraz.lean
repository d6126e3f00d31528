/-
  Several texts in one: Hd2 He2.
-/
import Derived.Test.YtdimkeoncgjegaaMraq
import Derived.Test.YtdimkeoncgjegaaMray
/-
  Heap: what a scan has in hand: the pool, the list of items; the closure that takes an item more.
-/
namespace Go.Proofs.Ytdimkeoncgjegaa
section
set_option linter.unusedSimpArgs false
set_option linter.unusedVariables false
open Go.RowKit Go.Maps

/-- An item of the program's: the record's block and capacity. -/
structure PIt where
  it : It
  a : Nat
  c : Nat
def pV (l : List PIt) : List Value := l.flatMap fun x => [.int .u32 x.it.p, .int .u16 x.it.s, .slice (some ⟨x.a, 0, none⟩) x.it.r.length x.c]
theorem pV_snoc (l : List PIt) (x : PIt) : pV (l ++ [x]) = pV l ++ [.int .u32 x.it.p, .int .u16 x.it.s, .slice (some ⟨x.a, 0, none⟩) x.it.r.length x.c] := by simp [pV]
theorem pV_len (l : List PIt) : (pV l).length = l.length * 3 := flat_len _ 3 l (by simp)
def LOk (w : World) (base : Nat) (l : List PIt) : Prop := ∀ x ∈ l, Own w base (.slice (some ⟨x.a, 0, none⟩) x.it.r.length x.c) x.it.r ∧ x.it.r.length ≤ x.c
theorem Try.infoPI : (Try.prog.info? 62).map (fun i => (i.zero, i.size, i.bytes)) = some (some (.agg #[.int .u32 0, .int .u16 0, .slice none 0 0]), 3, 32) := by kernel_rfl
theorem ownR_stays {w w' : World} {base : Nat} {e : TypeId} {size n : Nat} {v : Value} {xs : List Value} (h : w.ownsRow base e size v n xs) (he : ∀ g cs, v.ownBlock = some g → Blk w g e cs → w'.heap[g]? = w.heap[g]?) : w'.ownsRow base e size v n xs := by
  refine ⟨h.1, ?_⟩
  rcases h.2 with hn | ⟨g, cap, cur, rfl, hb, hgg, rest⟩
  · exact .inl hn
  · refine .inr ⟨g, cap, cur, rfl, hb, ?_, rest⟩
    rw [he g cur rfl hgg]
    exact hgg
theorem ownR_blk {w : World} {base : Nat} {e : TypeId} {size n g : Nat} {v : Value} {xs : List Value} (h : w.ownsRow base e size v n xs) (hv : v.ownBlock = some g) : ∃ cs, Blk w g e cs := by
  rcases h.2 with ⟨rfl, _⟩ | ⟨g', cap, cur, rfl, hb, hgg, rest⟩
  · cases hv
  · injection hv with hv
    subst hv
    exact ⟨cur, hgg⟩
theorem own_cap {w : World} {base n c size : Nat} {e : TypeId} {A : Option Addr} {xs : List Value} (h : w.ownsRow base e size (.slice A n c) n xs) : c ≤ maxLen := by
  rcases h.2 with ⟨h1, _⟩ | ⟨g, cap, cs, h1, _, _, _, h2, _⟩
  · injection h1 with _ _ h3
    rw [h3]
    simp
  · injection h1 with _ _ h3
    rw [h3]
    exact h2
/-- Only blocks of items and lists of them change. -/
structure Chg (w w' : World) : Prop where
  os : w'.os = w.os
  tape : w'.tape = w.tape
  output : w'.output = w.output
  size : w.heap.size ≤ w'.heap.size
  heap : ∀ g, (∀ cs, ¬ Blk w g 62 cs) → (∀ cs, ¬ Blk w g 55 cs) → g < w.heap.size → w'.heap[g]? = w.heap[g]?
theorem Chg.blk {w w' : World} (h : Chg w w') {g : Nat} {t : TypeId} {cs : Array Value} (hb : Blk w g t cs) (h1 : t ≠ 62) (h2 : t ≠ 55) : Blk w' g t cs :=
  (h.heap g (fun cs' h' => hb.ne_ h' h1 rfl) (fun cs' h' => hb.ne_ h' h2 rfl) hb.lt).trans hb
theorem Chg.own {w w' : World} (h : Chg w w') {base : Nat} {v : Value} {l : List UInt8} (ho : Own w base v l) : Own w' base v l :=
  ho.stays fun g cs _ hb => h.heap g (fun cs' h' => hb.ne_ h' (by decide) rfl) (fun cs' h' => hb.ne_ h' (by decide) rfl) hb.lt
section
variable {w0 W W' : World} {lo gp gd gb gt n : Nat} {ps : List (List UInt8)} {T : List Bool} {gm size : Nat} {K0 : List Fr} {m gl : Nat} {acc : List PIt}
structure WS (w0 : World) (lo gp gd gb gt n : Nat) (ps : List (List UInt8)) (T : List Bool) (gm size : Nat) (K0 : List Fr) (m gl : Nat) (acc : List PIt) (W : World) : Prop where
  pool : ∃ K D rd ht, PS W lo gp gd gb gt n ps T gm size K D rd ht ∧ rd ≤ m ∧ ht ≤ m ∧ ∀ (j : Nat) (f : Fr), K[j]? = some f → (∃ i : Nat, K0[i]? = some f) ∨ w0.heap.size ≤ f.g
  turn : Turn w0 W lo gp gm K0
  list : ∃ u, Blk W gl 55 #[u] ∧ W.ownsRow (gl + 1) 62 3 u acc.length (pV acc)
  ok : LOk W w0.heap.size acc
  lo : lo ≤ w0.heap.size
  hi : w0.heap.size ≤ gl
theorem WS.below (h : WS w0 lo gp gd gb gt n ps T gm size K0 m gl acc W) (hb : Below W.heap.size W W') : WS w0 lo gp gd gb gt n ps T gm size K0 m gl acc W' := by
  obtain ⟨K, D, rd, ht, h1, h2, h3, h4⟩ := h.pool
  obtain ⟨u, u1, u2⟩ := h.list
  exact ⟨⟨K, D, rd, ht, h1.below hb, h2, h3, h4⟩, h.turn.more hb h.lo, ⟨u, u1.below hb u1.lt, own_kept_below u2 hb⟩, fun x hx => ⟨(h.ok x hx).1.below hb, (h.ok x hx).2⟩, h.lo, h.hi⟩
/-- What Head leaves, in these words. -/
theorem WS.head (h : WS w0 lo gp gd gb gt n ps T gm size K0 m gl acc W) (hn : n ≤ 1000) (hm : m ≤ 900000) (p : Nat) (hp : p ≤ 4294967295) (k : Int) :
    Calls Try.prog 37 #[.pointer (some ⟨gp, 0, none⟩), .int .u32 p, .int .u8 k] W fun e W' => WS w0 lo gp gd gb gt n ps T gm size K0 (m + 1) gl acc W' ∧ W.heap.size ≤ W'.heap.size ∧
      ((n ≤ p ∧ e = .returned (.tuple #[hd0, .slice none 0 0, .int .i64 8])) ∨
       (∃ q, ps[p]? = some q ∧ (hdOk q = false ∨ (hdK q : Int) ≠ k) ∧ e = .returned (.tuple #[hd0, .slice none 0 0, .int .i64 2])) ∨
       (∃ q A c, ps[p]? = some q ∧ hdOk q = true ∧ (hdK q : Int) = k ∧ e = .returned (.tuple #[hdV q, .slice A 512 c, .int .i64 0]) ∧ Own W' W.heap.size (.slice A 512 c) q)) := by
  obtain ⟨K, D, rd, ht, h1, h2, h3, h4⟩ := h.pool
  obtain ⟨u, u1, u2⟩ := h.list
  have hlo : lo ≤ W.heap.size := Nat.le_trans h.lo h.turn.size
  refine (headv_any h1 p k hp hn m (by omega) h2 h3 hlo).mono ?_
  rintro e W' ⟨⟨K', D', rd', ht', p1, p2, p3, p4⟩, tn, hc⟩
  refine ⟨⟨⟨K', D', rd', ht', p1, p2, p3, fun j f hj => ?_⟩, h.turn.trans tn fun j f hj => h4 j f hj, ⟨u, h1.turn_blk tn u1 (by decide) (by decide), ?_⟩, fun x hx => ⟨h1.turn_own tn (h.ok x hx).1, (h.ok x hx).2⟩, h.lo, h.hi⟩, tn.size, hc⟩
  · rcases p4 j f hj with ⟨i, hi⟩ | hi
    · exact h4 i f hi
    · exact .inr (Nat.le_trans h.turn.size hi)
  · exact ownR_stays u2 fun g cs _ hb => tn.heap g hb.lt (hb.ne_ h1.rg.pool (by decide)) (h1.mp.ne_ hb) (fun j f hj => hb.ne_ (h1.rg.fr j f hj).1 (by decide))
theorem WS.push {x : PIt} {u' : Value} (h : WS w0 lo gp gd gb gt n ps T gm size K0 m gl acc W) (hc : Chg W W') (hbel : Below w0.heap.size W W') (hl : Blk W' gl 55 #[u']) (ho : W'.ownsRow (gl + 1) 62 3 u' (acc ++ [x]).length (pV (acc ++ [x])))
    (hx : Own W' w0.heap.size (.slice (some ⟨x.a, 0, none⟩) x.it.r.length x.c) x.it.r ∧ x.it.r.length ≤ x.c) : WS w0 lo gp gd gb gt n ps T gm size K0 m gl (acc ++ [x]) W' := by
  obtain ⟨K, D, rd, ht, h1, h2, h3, h4⟩ := h.pool
  refine ⟨⟨K, D, rd, ht, h1.keep _ _ hc.heap (fun t e => by rcases e with rfl | rfl <;> decide), h2, h3, h4⟩, h.turn.base hbel h.lo, ⟨u', hl, ho⟩, fun y hy => ?_, h.lo, h.hi⟩
  rcases List.mem_append.1 hy with h5 | h5
  · exact ⟨hc.own (h.ok y h5).1, (h.ok y h5).2⟩
  · rw [List.mem_singleton] at h5; subst h5; exact hx
set_option maxRecDepth 100000 in
set_option maxHeartbeats 4000000 in
theorem clos_any (h : WS w0 lo gp gd gb gt n ps T gm size K0 m gl acc W) (p s a c : Nat) (r : List UInt8) (hs : s ≤ 65535) (hal : acc.length ≤ 1000000) (ho : Own W w0.heap.size (.slice (some ⟨a, 0, none⟩) r.length c) r) (hc : r.length ≤ c) :
    Calls Try.prog 36 #[.agg #[.int .u32 p, .int .u16 s], .slice (some ⟨a, 0, none⟩) r.length c, .pointer (some ⟨gl, 0, none⟩)] W fun e W' => e = .returned (.bool true) ∧ WS w0 lo gp gd gb gt n ps T gm size K0 m gl (acc ++ [⟨⟨p, s, r⟩, a, c⟩]) W' ∧ Chg W W' := by
  obtain ⟨u, u1, u2⟩ := h.list
  obtain ⟨i0, hi0, hz0, hs0, hy0⟩ := int_info8 Try.infoPI
  have c0 : (W.alloc (.cells #[.int .u32 p, .int .u16 s] 50)).cell? ⟨gl, 0, none⟩ = some u := (u1.alloc _).cell 0
  have hz := u1.lt
  have uo := World.ownsRow.alloc u2 (.cells #[.int .u32 p, .int .u16 s] 50)
  have H := Lib.hid (And.intro h (And.intro u1 (And.intro u2 (And.intro uo (And.intro ho hc)))))
  clear h u1 u2 uo ho hc
  go_enter Try.func36, Try.ntmps36
  go_wp2_with (at_builtin; refine wpList_pushR (news := [.int .u32 (p : Int), .int .u16 (s : Int), .slice (some ⟨a, 0, none⟩) r.length c]) rfl (.tmp 6) (.tmp 10) 55 rfl (gl + 1) 62 i0 _ 3 32 Try.underlying55 hi0 hz0 hs0 hy0 rfl (by decide) u acc.length _ (by first | rfl | (simp [Act.eval, Act.put]; done)) H.out.2.2.2.1 rfl _ (by first | rfl | (simp [Act.eval, Act.put]; done)) (by first | rfl | simp) rfl (by intro u hu; simp only [List.mem_cons, List.not_mem_nil, or_false] at hu; rcases hu with rfl | rfl | rfl <;> rfl) (by omega) (by omega) (by simp; omega) ?_; intro v8 w8 own8 kp8 ob8; obtain ⟨A8, c8, rfl, hc8⟩ := own_form own8; have B8 := blk_far_grown (World.ownsRow.alloc H.out.2.2.2.1 (.cells #[.int .u32 (p : Int), .int .u16 (s : Int), .slice (some ⟨a, 0, none⟩) r.length c] 62)) ((H.out.2.1.alloc _).alloc _) kp8 (by omega); have x8 : w8.cell? ⟨gl, 0, none⟩ = some u := B8.cell 0; have f8 : w8.frozen? ⟨gl, 0, none⟩ = false := B8.frozen 0; have z8 := B8.lt; have H8 := Lib.hid (And.intro own8 (And.intro kp8 (And.intro ob8 B8))); clear own8 kp8 ob8 B8)
  go_ret
  have hi := H.out.1.hi
  have ob : ∀ g, u.ownBlock = some g → gl + 1 ≤ g := fun g e => (World.ownsRow.lt H.out.2.2.1 g e).1
  have bel : Below w0.heap.size W (w8.setCell ⟨gl, 0, none⟩ (.slice A8 (acc.length + 1) c8)) :=
    ((((Below.refl w0.heap.size W).alloc (by omega) _).alloc (by simp; omega) _).grown H8.out.2.1 (by simp; omega) (fun g e => by have := ob g e; omega)).setCell (by show w0.heap.size ≤ gl; exact hi) _
  have chg : Chg W (w8.setCell ⟨gl, 0, none⟩ (.slice A8 (acc.length + 1) c8)) := by
    refine ⟨bel.os, bel.tape, bel.output, bel.size, fun g h1 h2 hg => ?_⟩
    have hne : g ≠ gl := fun e => by subst e; exact h2 _ H.out.2.1
    have hno : some g ≠ u.ownBlock := fun e => by
      obtain ⟨cs, hcs⟩ := ownR_blk H.out.2.2.1 e.symm
      exact h1 cs hcs
    rw [Below.heap_setCell _ _ _ _ hne, H8.out.2.1.block g (by simp; omega) hno, Below.heap_alloc _ _ _ (by simp; omega), Below.heap_alloc _ _ _ hg]
  refine ⟨rfl, H.out.1.push chg bel (H8.out.2.2.2.set_ 0 _) ?_ ⟨chg.own H.out.2.2.2.2.1, H.out.2.2.2.2.2⟩, chg⟩
  rw [pV_snoc, List.length_append]
  exact own_far2 H8.out.1 gl (by omega) _ _
end
end
end Go.Proofs.Ytdimkeoncgjegaa
/-
  Heap: the program's Walk with Scan's closure; Scan.
-/
namespace Go.Proofs.Ytdimkeoncgjegaa
section
set_option linter.unusedSimpArgs false
set_option linter.unusedVariables false
open Go.RowKit Go.Maps

section
variable {w0 W W' : World} {lo gp gd gb gt n : Nat} {ps : List (List UInt8)} {T : List Bool} {gm size : Nat} {K0 : List Fr} {m gl : Nat} {acc : List PIt}
theorem WS.pages (h : WS w0 lo gp gd gb gt n ps T gm size K0 m gl acc W) : Calls Try.prog 56 #[.pointer (some ⟨gp, 0, none⟩)] W fun e w' => e = .returned (.int .i64 n) ∧ W = w' := by
  obtain ⟨K, D, rd, ht, h1, _⟩ := h.pool
  exact pages_any h1
theorem WS.pn (h : WS w0 lo gp gd gb gt n ps T gm size K0 m gl acc W) : ps.length = n ∧ Full ps := by
  obtain ⟨K, D, rd, ht, h1, _⟩ := h.pool
  exact ⟨h1.dk.hp, h1.dk.full⟩
/-- What Walk leaves. -/
def RetWk (w0 : World) (lo gp gd gb gt n : Nat) (ps : List (List UInt8)) (T : List Bool) (gm size : Nat) (K0 : List Fr) (m gl : Nat) (R : List It × Nat × Int) (e : Ending) (W' : World) : Prop :=
  ∃ acc, WS w0 lo gp gd gb gt n ps T gm size K0 m gl acc W' ∧ e = .returned (.tuple #[.int .i64 R.2.1, .int .i64 R.2.2]) ∧ ((R.2.2 = 0 ∧ R.1 = acc.map PIt.it) ∨ (R.2.2 ≠ 0 ∧ R.1 = [] ∧ R.2.1 = 0))
theorem WS.more {m' : Nat} (h : WS w0 lo gp gd gb gt n ps T gm size K0 m gl acc W) (hm : m ≤ m') : WS w0 lo gp gd gb gt n ps T gm size K0 m' gl acc W := by
  obtain ⟨K, D, rd, ht, h1, h2, h3, h4⟩ := h.pool
  exact ⟨⟨K, D, rd, ht, h1, by omega, by omega, h4⟩, h.turn, h.list, h.ok, h.lo, h.hi⟩
set_option maxRecDepth 100000 in
set_option maxHeartbeats 8000000 in
theorem walk_any (h : WS w0 lo gp gd gb gt n ps T gm size K0 m gl [] W) (hn : n ≤ 1000) (hm : m ≤ 100000) (p0 : Nat) (hp0 : p0 ≤ 4294967295) :
    Calls Try.prog 35 #[.pointer (some ⟨gp, 0, none⟩), .int .u32 p0, .func (.func 36) #[] #[.pointer (some ⟨gl, 0, none⟩)]] W (RetWk w0 lo gp gd gb gt n ps T gm size K0 (m + n) gl (outH ps n p0 [] 0)) := by
  obtain ⟨R, hR⟩ : ∃ R, outH ps n p0 [] 0 = R := ⟨_, rfl⟩
  have hpn := Lib.hid h.pn
  have hnI : (n : Int) ≤ 1000 := by omega
  have HR := Lib.hid hR
  have H0 := Lib.hid h
  have nf : ∀ W, (binOp .eql 107 (.func (.func 36) #[] #[.pointer (some ⟨gl, 0, none⟩)]) .nilFunc).run Try.prog W = .ok (.bool false) W := fun W => rfl
  rw [hR]
  clear hR h
  go_enter Try.func35, Try.ntmps35
  go_wp2
  go_loopw [8, 9] (fun u8 u9 wr => ∃ (f p k : Nat) (acc : List PIt), u8 = .int .i64 k ∧ u9 = .int .u32 p ∧ f + k = n ∧ p ≤ 4294967295 ∧ acc.length ≤ k * 126 ∧ WS w0 lo gp gd gb gt n ps T gm size K0 (m + k) gl acc wr ∧ outH ps f p (acc.map PIt.it) k = R) (fun u8 _ _ => n + 1 - (intOf u8).toNat)
  case atStart => exact ⟨n, p0, 0, [], rfl, rfl, by omega, hp0, by simp, H0.out, HR.out⟩
  case round =>
    obtain ⟨wo, rfl⟩ : ∃ wo : World, wo = wr := ⟨_, rfl⟩
    obtain ⟨f, p, k, acc, rfl, rfl, hfk, hp, hal, hws, hout⟩ := hrel
    have PGS := Lib.hid hws.pages
    have k0 : (0 : Int) ≤ (k : Int) := by omega
    by_cases hf0 : f = 0
    · subst hf0
      have hRe : R = ([], 0, 2) := by rw [← hout]; rfl
      have e1 : ((k : Int) == (n : Int)) = true := by simp; omega
      have HB := Lib.hid hws
      clear hout hws
      go_wp2_with fail
      refine PGS.out.mono ?_
      rintro e w1 ⟨rfl, rfl⟩
      go_wp2
      go_ret2
      rw [hRe]
      exact ⟨acc, HB.out.more (by omega), rfl, .inr ⟨by decide, rfl, rfl⟩⟩
    · obtain ⟨f, rfl⟩ : ∃ g, f = g + 1 := ⟨f - 1, by omega⟩
      have e1 : ((k : Int) == (n : Int)) = false := by simp; omega
      have HD := Lib.hid (hws.head hn (by omega) p hp 1)
      have HO := Lib.hid hout
      have H1 := Lib.hid hws
      clear hout hws
      go_wp2_with fail
      refine PGS.out.mono ?_
      rintro e w1 ⟨rfl, rfl⟩
      go_wp2_with fail
      refine HD.out.mono ?_
      rintro e w1 ⟨ws1, hsz1, ⟨hnp, rfl⟩ | ⟨q, hq, hno, rfl⟩ | ⟨q, A3, c3, hq, hok, hkk, rfl, own3⟩⟩
      · have hRe : R = ([], 0, 8) := by rw [← HO.out]; exact outH_none (List.getElem?_eq_none (by rw [hpn.out.1]; exact hnp))
        have HB := Lib.hid (ws1.below (ball (Below.refl _ _) (.cells #[.int .u8 0, .int .u16 0, .int .u32 0] 109)))
        unfold hd0
        clear ws1
        go_wp2
        go_ret2
        rw [hRe]
        exact ⟨acc, HB.out.more (by omega), rfl, .inr ⟨by show (8 : Int) ≠ 0; decide, rfl, rfl⟩⟩
      · have hpg : isPage q = false := by
          rcases hc : isPage q with _ | _
          · rfl
          · obtain ⟨h1, h2⟩ := page_hd hc
            rcases hno with h3 | h3
            · rw [h1] at h3; cases h3
            · exact absurd (by rw [h2]; rfl) h3
        have hRe : R = ([], 0, 2) := by rw [← HO.out]; exact outH_no hq hpg
        have HB := Lib.hid (ws1.below (ball (Below.refl _ _) (.cells #[.int .u8 0, .int .u16 0, .int .u32 0] 109)))
        unfold hd0
        clear ws1
        go_wp2
        go_ret2
        rw [hRe]
        exact ⟨acc, HB.out.more (by omega), rfl, .inr ⟨by show (2 : Int) ≠ 0; decide, rfl, rfl⟩⟩
      · have hv : hdV q = .agg #[.int .u8 1, .int .u16 (hdC q : Int), .int .u32 (hdN q : Int)] := by unfold hdV; rw [hok, if_pos rfl, hkk]
        rw [hv]
        have hcap3 : 512 ≤ c3 := by obtain ⟨A', c', e', h'⟩ := own_form own3; injection e' with _ _ e'; omega
        have hb1 := ball (Below.refl w1.heap.size w1) (.cells #[.int .u8 1, .int .u16 (hdC q : Int), .int .u32 (hdN q : Int)] 109)
        have own3a := (own3.below hb1).reads.1
        rcases hpg : isPage q with _ | _
        · have AN := Lib.hid (all_no hpg own3a (Nat.le_refl _) (by omega) hcap3)
          have hRe : R = ([], 0, 2) := by rw [← HO.out]; exact outH_no hq hpg
          have HB := Lib.hid (ws1.below hb1)
          clear ws1 hb1 own3a
          go_wp2_with fail
          refine AN.out.mono ?_
          rintro e w2 ⟨rfl, hb2⟩
          have HB2 := Lib.hid (HB.out.below hb2)
          clear hb2
          go_wp2
          go_ret2
          rw [hRe]
          exact ⟨acc, HB2.out.more (by omega), rfl, .inr ⟨by show (2 : Int) ≠ 0; decide, rfl, rfl⟩⟩
        · have AY := Lib.hid (all_ok hpg own3a (Nat.le_refl _) (by omega) hcap3)
          have hHd := Blk.new w1 109 #[.int .u8 1, .int .u16 (hdC q : Int), .int .u32 (hdN q : Int)]
          have hN2 := hdN_lt q hok
          have hC6 := (page_end hpg).2.1
          have RL : Hid (∀ k, k < hdC q → (recs q)[k]? = some (recK q k)) := fun k h => recs_at q h
          have HO2 : Hid (outH ps (f + 1) p (acc.map PIt.it) k = if hdN q = 0 then (acc.map PIt.it ++ itK p (recs q) (hdC q), k + 1, 0) else outH ps f (hdN q) (acc.map PIt.it ++ itK p (recs q) (hdC q)) (k + 1)) := by
            unfold Hid
            split
            · rename_i h; exact outH_end hq hpg h
            · rename_i h; exact outH_next hq hpg h
          have HB := Lib.hid (And.intro (ws1.below hb1) hHd)
          obtain ⟨C, hC⟩ : ∃ C, hdC q = C := ⟨_, rfl⟩
          obtain ⟨N, hN⟩ : ∃ N, hdN q = N := ⟨_, rfl⟩
          obtain ⟨rs, hrs⟩ : ∃ rs, recs q = rs := ⟨_, rfl⟩
          rw [hC, hrs] at AY RL
          rw [hC] at hC6
          rw [hN] at hN2
          rw [hC, hN, hrs] at HO2
          rw [hN] at AY
          rw [hC, hN] at HB ⊢
          clear ws1 hb1 own3a own3 hHd hC hN hrs hv hkk
          go_wp2_with fail
          refine AY.out.mono ?_
          rintro e w2 ⟨g, fs, rfl, hfl, hbg, hfam, hgw, hb2⟩
          have hHd2 := HB.out.2.below hb2 HB.out.2.lt
          have hlow : w0.heap.size ≤ (w1.alloc (.cells #[.int .u8 1, .int .u16 (C : Int), .int .u32 (N : Int)] 109)).heap.size := by have := HB.out.1.turn.size; exact this
          have H2 := Lib.hid (And.intro (HB.out.1.below hb2) (And.intro hbg (And.intro (hfam.less hlow) hHd2)))
          clear hb2 hbg hfam hHd2
          go_wp2
          go_loopw [45] (fun u45 wr => ∃ (i : Nat) (acc2 : List PIt), i ≤ C ∧ u45 = .int .i64 i ∧ acc2.length = acc.length + i ∧ WS w0 lo gp gd gb gt n ps T gm size K0 (m + k + 1) gl acc2 wr ∧ acc2.map PIt.it = acc.map PIt.it ++ itK p rs i ∧ Blk wr g 59 (famV rs fs).toArray ∧ Fam wr w0.heap.size rs fs ∧ Blk wr w1.heap.size 109 #[.int .u8 1, .int .u16 (C : Int), .int .u32 (N : Int)]) (fun u45 _ => C - (intOf u45).toNat)
          case atStart => exact ⟨0, acc, by omega, rfl, rfl, H2.out.1, by simp [itK], H2.out.2.1, H2.out.2.2.1, H2.out.2.2.2⟩
          case round =>
            obtain ⟨wi, rfl⟩ : ∃ wi : World, wi = wr := ⟨_, rfl⟩
            obtain ⟨i, acc2, hiC, rfl, ha2, hws, hmap, hbg, hfam, hHd⟩ := hrel
            have i0 : (0 : Int) ≤ (i : Int) := by omega
            have hd2 : wi.cell? ⟨w1.heap.size, 2, none⟩ = some (.int .u32 (N : Int)) := hHd.cell 2
            by_cases hlt : i < C
            · have i1 : (i : Int) < (C : Int) := by omega
              have i2 : (i : Int) ≤ 65535 := by omega
              have hr := RL.out i hlt
              obtain ⟨r, hrr⟩ : ∃ r, recK q i = r := ⟨_, rfl⟩
              rw [hrr] at hr
              obtain ⟨fi, hfi⟩ : ∃ fi, fs[i]? = some fi := ⟨_, List.getElem?_eq_getElem (by rw [hfl]; exact hlt)⟩
              have cB : wi.cell? ⟨g, i, none⟩ = some (.slice (some ⟨fi.1, 0, none⟩) r.length fi.2) := by rw [hbg.cell i, List.getElem?_toArray]; exact famV_at rs fs i r fi hr hfi
              have CL := Lib.hid (clos_any hws p i fi.1 fi.2 r (by omega) (by omega) (hfam.own i fi r hfi hr) (hfam.cap i fi r hfi hr))
              have HL := Lib.hid (And.intro hmap (And.intro hbg (And.intro hfam (And.intro hHd hr))))
              clear hmap hbg hfam hHd hws hr
              go_wp2_with fail
              refine CL.out.mono ?_
              rintro e w4 ⟨rfl, ws4, ch4⟩
              have H4 := Lib.hid (And.intro ws4 ch4)
              clear ws4 ch4
              go_wp2
              refine ⟨⟨i + 1, acc2 ++ [⟨⟨p, i, r⟩, fi.1, fi.2⟩], by omega, rfl, by rw [List.length_append, ha2]; rfl, H4.out.1, ?_, H4.out.2.blk HL.out.2.1 (by decide) (by decide), ⟨fun j f x hf hx => H4.out.2.own (HL.out.2.2.1.own j f x hf hx), HL.out.2.2.1.cap, HL.out.2.2.1.lt⟩, H4.out.2.blk HL.out.2.2.2.1 (by decide) (by decide)⟩, by simp [intOf]; omega⟩
              rw [List.map_append, HL.out.1, itK_succ, List.append_assoc, List.getD_eq_getElem?_getD, HL.out.2.2.2.2]
              rfl
            · obtain rfl : C = i := by omega
              have HL := Lib.hid (And.intro hws hmap)
              clear hws hmap hbg hfam hHd
              by_cases hN0 : N = 0
              · subst hN0
                have hRe : Hid (R = (acc2.map PIt.it, k + 1, 0)) := by unfold Hid; rw [← HO.out, HO2.out, if_pos rfl, HL.out.2]
                go_wp2
                go_ret2
                rw [hRe.out]
                exact ⟨acc2, HL.out.1.more (by omega), rfl, .inl ⟨rfl, rfl⟩⟩
              · have e3 : ((N : Int) == 0) = false := by simp; omega
                have hRe : Hid (outH ps f N (acc2.map PIt.it) (k + 1) = R) := by unfold Hid; rw [← HO.out, HO2.out, if_neg hN0, HL.out.2]
                go_wp2
                exact ⟨⟨f, N, k + 1, acc2, rfl, rfl, by omega, by omega, by omega, by rw [← Nat.add_assoc]; exact HL.out.1, hRe.out⟩, by simp [intOf]; omega⟩
/-- What Scan leaves. -/
def RetSc (w : World) (lo gp gd gb gt n : Nat) (ps : List (List UInt8)) (T : List Bool) (gm size : Nat) (K : List Fr) (m : Nat) (R : List It × Nat × Int) (e : Ending) (w' : World) : Prop :=
  ∃ acc A c K' D' rd' ht', e = .returned (.tuple #[.slice A R.1.length c, .int .i64 R.2.1, .int .i64 R.2.2]) ∧ R.1 = acc.map PIt.it ∧ R.1.length ≤ maxLen ∧ Reads w' w'.heap.size 3 A R.1.length (pV acc) ∧ LOk w' w.heap.size acc ∧
    PS w' lo gp gd gb gt n ps T gm size K' D' rd' ht' ∧ rd' ≤ m ∧ ht' ≤ m ∧ (∀ (j : Nat) (f : Fr), K'[j]? = some f → (∃ i : Nat, K[i]? = some f) ∨ w.heap.size ≤ f.g) ∧ Turn w w' lo gp gm K
set_option maxRecDepth 100000 in
set_option maxHeartbeats 4000000 in
theorem scan_any {K : List Fr} {D : DataW Unit} {rd ht : Nat} (h : PS W lo gp gd gb gt n ps T gm size K D rd ht) (hrd : rd ≤ m) (hht : ht ≤ m) (hlo : lo ≤ W.heap.size) (hn : n ≤ 1000) (hm : m ≤ 100000) (p0 : Nat) (hp0 : p0 ≤ 4294967295) :
    Calls Try.prog 15 #[.pointer (some ⟨gp, 0, none⟩), .int .u32 p0] W (RetSc W lo gp gd gb gt n ps T gm size K (m + n) (outH ps n p0 [] 0)) := by
  have hb0 := ball (Below.refl W.heap.size W) (.cells #[.slice none 0 0] 55)
  have ws0 : WS W lo gp gd gb gt n ps T gm size K m W.heap.size [] (W.alloc (.cells #[.slice none 0 0] 55)) :=
    ⟨⟨K, D, rd, ht, h.below hb0, hrd, hht, fun j f hj => .inl ⟨j, hj⟩⟩, Turn.of_below hb0 hlo, ⟨.slice none 0 0, Blk.new W _ _, ⟨rfl, .inl ⟨rfl, rfl⟩⟩⟩, fun x hx => (by cases hx), hlo, Nat.le_refl _⟩
  have hmf : ∀ (fn : Fn) (first cap : Array Value) (w : World), (Instr.makeFunc fn first cap).run Try.prog w = .ok (.func fn first cap) w := fun _ _ _ _ => rfl
  have WK := Lib.hid (walk_any ws0 hn hm p0 hp0)
  obtain ⟨R, hR⟩ : ∃ R, outH ps n p0 [] 0 = R := ⟨_, rfl⟩
  rw [hR] at WK ⊢
  clear hR ws0 hb0 h hlo
  go_enter Try.func15, Try.ntmps15
  go_wp2_with fail
  refine WK.out.mono ?_
  rintro e w1 ⟨acc, ws1, rfl, ⟨hE, hl⟩ | ⟨hE, hl, hk0⟩⟩
  · obtain ⟨l, k, E⟩ := R
    obtain rfl : E = 0 := hE
    obtain rfl : l = acc.map PIt.it := hl
    obtain ⟨K', D', rd', ht', h1, h2, h3, h4⟩ := ws1.pool
    obtain ⟨u, u1, u2⟩ := ws1.list
    obtain ⟨A, c, rfl, hc⟩ := own_form u2
    have c0 : w1.cell? ⟨W.heap.size, 0, none⟩ = some (.slice A acc.length c) := u1.cell 0
    have H1 := Lib.hid (And.intro h1 (And.intro h4 (And.intro ws1.ok (And.intro ws1.turn u2))))
    clear ws1 h1 h4 u1 u2
    go_wp2
    go_ret3
    exact ⟨acc, A, c, K', D', rd', ht', by simp, rfl, by rw [List.length_map]; exact Nat.le_trans hc (own_cap H1.out.2.2.2.2), by rw [List.length_map]; exact Reads.of_own H1.out.2.2.2.2, H1.out.2.2.1, H1.out.1, h2, h3, H1.out.2.1, H1.out.2.2.2.1⟩
  · obtain ⟨l, k, E⟩ := R
    obtain rfl : l = [] := hl
    obtain rfl : k = 0 := hk0
    have e1 : (E != 0) = true := by simpa using hE
    obtain ⟨K', D', rd', ht', h1, h2, h3, h4⟩ := ws1.pool
    have H1 := Lib.hid (And.intro h1 (And.intro h4 ws1.turn))
    clear ws1 h1 h4
    go_wp2
    go_ret3
    exact ⟨[], none, 0, K', D', rd', ht', rfl, rfl, Nat.zero_le _, Reads.none_, fun x hx => (by cases hx), H1.out.1, h2, h3, H1.out.2.1, H1.out.2.2⟩
end
end
end Go.Proofs.Ytdimkeoncgjegaa

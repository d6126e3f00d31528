/-
  Several texts in one: Sg Sh Si.
-/
import Derived.Test.YtdimkeoncgjegaaMbas
/-
  Slots of a heap page: New, Link.
-/
namespace Go.Proofs.Ytdimkeoncgjegaa
section
open Go.RowKit

section
variable {ops : Array Oper} {o : Oper} {a : Act} {K : Act → World → Prop} {Q : Exit → Act → World → Prop} {E : Prop} {w : World}
/-- append(own, r...), r a slice of bytes, as one step of a region that draws. -/
theorem step_appR (hgd : o.guard = none) (sl x : Operand) (ho : o.op = .call { callee := .builtin .append, args := #[sl, x], argTypes := #[59, 59] })
    (base : Nat) (v : Value) (l r : List UInt8) (A : Option Addr) (m c B : Nat) (hs : a.eval sl = v) (hown : Own w base v l)
    (hx : a.eval x = .slice A m c) (hr : Reads w B 1 A m (bL r)) (h63 : l.length + r.length ≤ 1000000000) (hbase : base ≤ w.heap.size)
    (h : ∀ v' w', Own w' base v' (l ++ r) → Keeps base w w' → K (a.put o.dst v') w') :
    if Region.wanted o (yielded ops a.tmps) = true then Oper.wp Try.prog o a w K Q else E := by
  obtain ⟨i0, hi0, hz0, hs0, hy0⟩ := int_info8 Try.infoB
  have hm : r.length = m := by have := hr.1; rw [bL_len] at this; omega
  refine step_append_any w hgd sl x 59 ho base 5 i0 (.int .u8 0) 1 1 Try.underlying59 hi0 hz0 hs0 hy0 rfl (by decide) v l.length (bL l) hs hown B A m c (bL r) hx hr (bL_one r) (by unfold maxLen; omega) (by omega) hbase ?_
  intro v' w' h2 h3 _
  refine h v' w' ?_ ?_
  · unfold Own
    have e2 : bL (l ++ r) = bL l ++ bL r := by simp [bL]
    rw [List.length_append, hm, e2]
    exact h2
  · exact keeps_grown hown h3 hbase
end
theorem Own.first {w : World} {base g n c k : Nat} {l : List UInt8} (h : Own w base (.slice (some ⟨g, 0, none⟩) n c) l) (hk : k ≤ n) : Own w base (.slice (some ⟨g, 0, none⟩) k c) (l.take k) := by
  have hl := h.reads.2
  have hkl : (l.take k).length = k := by rw [List.length_take]; omega
  rcases h.2 with ⟨e, _⟩ | ⟨g', cap, cur, e, hb, hh, hnc, hcm, hcs, ht⟩
  · injection e with e _ _; cases e
  · injection e with e1 e2 e3
    injection e1 with e1
    injection e1 with e1
    subst e3; subst e1
    refine ⟨by rw [bL_len]; omega, .inr ⟨g, c, cur, by rw [hkl], hb, hh, by omega, hcm, hcs, ?_⟩⟩
    rw [hkl, Nat.mul_one]
    have e2 : bL (l.take k) = (bL l).take k := by simp [bL, List.map_take]
    rw [e2, ← ht, Nat.mul_one, List.take_take, Nat.min_eq_left (by omega)]
def RetNew (w : World) (l : List UInt8) (e : Ending) (w' : World) : Prop := ∃ A c, e = .returned (.slice A 512 c) ∧ Own w' w.heap.size (.slice A 512 c) l ∧ 512 ≤ c ∧ Below w.heap.size w w'
theorem snew_any (next : Nat) (hn : next < 4294967296) (w : World) : Calls Try.prog 24 #[.int .u32 next] w (RetNew w (layL next [])) := by
  have D := Lib.hid (dput_any 1 0 next (by omega) hn w)
  rw [show (((1 : UInt8).toNat : Nat) : Int) = 1 from rfl, show ((0 : Nat) : Int) = 0 from rfl] at D
  clear hn
  go_enter Try.func24, Try.ntmps24
  go_wp2_with fail
  with_reducible refine D.out.mono ?_
  rintro e w1 ⟨g, rfl, hblk, hg, hb⟩
  have hl : (headL 1 0 next).length = 512 := headP_len _ _ _ _ (by omega)
  have own := Own.new hblk (by rw [hl]; unfold maxLen; omega) hg hl.symm
  rw [lay_new] at own
  have HO := Lib.hid own
  clear own hblk hl
  go_wp2
  go_ret
  exact ⟨some ⟨g, 0, none⟩, 512, rfl, HO.out, Nat.le_refl _, hb⟩
section
variable {w : World} {A : Option Addr} {n c B : Nat} {l : List UInt8}
theorem link_no (next : Nat) (hp : isPage l = false) (hr : Reads w B 1 A n (bL l)) (hB : B ≤ w.heap.size) (hn : n ≤ 1000000) (hc : n ≤ c) : Calls Try.prog 44 #[.slice A n c, .int .u32 next] w (RetB w (.tuple #[.slice none 0 0, .int .i64 2])) := by
  have P := Lib.hid (places_any A n c B l w hr hB hn hc)
  unfold RetPl at P
  rw [hp] at P
  clear hr hp
  go_enter Try.func44, Try.ntmps44
  go_wp2_with fail
  refine P.out.mono ?_
  rintro e w1 ⟨Ap, m, cp, rfl, hm, hrp, hcp, hb⟩
  clear hm
  go_wp2
  go_ret2
  exact ⟨rfl, hb⟩
def RetLink (w : World) (l : List UInt8) (e : Ending) (w' : World) : Prop := ∃ A c, e = .returned (.tuple #[.slice A 512 c, .int .i64 0]) ∧ Own w' w.heap.size (.slice A 512 c) l ∧ 512 ≤ c ∧ Below w.heap.size w w'
def linkL (l : List UInt8) (next : Nat) : List UInt8 := (headL 1 (hdC l) next).take 8 ++ l.drop 8
theorem headL8 (k : UInt8) (c n : Nat) : ((headL k c n).take 8).length = 8 := by
  rw [List.length_take]; unfold headL; rw [headP_len _ _ _ _ (by omega)]; rfl
set_option maxRecDepth 100000 in
theorem link_ok (next : Nat) (hx : next < 4294967296) (hp : isPage l = true) (hr : Reads w B 1 A n (bL l)) (hB : B ≤ w.heap.size) (hn : n ≤ 1000000) (hc : n ≤ c) : Calls Try.prog 44 #[.slice A n c, .int .u32 next] w (RetLink w (linkL l next)) := by
  have P := Lib.hid (places_any A n c B l w hr hB hn hc)
  unfold RetPl at P
  rw [hp] at P
  have hl5 := (page_end hp).2.2.2.2
  have hC6 := (page_end hp).2.1
  obtain rfl : n = 512 := by have := hr.bytes_len; omega
  obtain ⟨C, hC⟩ : ∃ C, hdC l = C := ⟨_, rfl⟩
  have HLK : Hid (linkL l next = (headL 1 C next).take 8 ++ l.drop 8) := by unfold Hid linkL; rw [hC]
  rw [hC] at P hC6
  have CI : (C : Int) ≤ 126 := by omega
  have D := Lib.hid fun W => dput_any 1 C next (by omega) hx W
  rw [show (((1 : UInt8).toNat : Nat) : Int) = 1 from rfl] at D
  have HR := Lib.hid (And.intro hr (And.intro hB hl5))
  clear hr hp hC hl5 hx
  go_enter Try.func44, Try.ntmps44
  go_wp2_with fail
  refine P.out.mono ?_
  rintro e w1 ⟨Ap, m, cp, rfl, hm, hrp, hcp, hb⟩
  obtain rfl : m = C := hm
  clear hrp
  go_wp2_with fail
  with_reducible refine (D.out _).mono ?_
  rintro e w2 ⟨g, rfl, hblk, hg, hb2⟩
  have hl : (headL 1 m next).length = 512 := headP_len _ _ _ _ (by omega)
  have own2 : Own w2 w1.heap.size (.slice (some ⟨g, 0, none⟩) 512 512) (headL 1 m next) := Own.new hblk (by rw [hl]; unfold maxLen; omega) hg hl.symm
  have own3 := own2.first (k := 8) (by omega)
  have hb02 := bto0 hb hb2
  obtain ⟨A', sl, hrd⟩ := cutb_lo (A := A) (n := 512) (c := c) .i64 8 8 rfl (by omega) hc
  rw [show 512 - 8 = 504 from rfl] at sl hrd
  have hrd2 := hrd w2 B l (HR.out.1.below (hb02.mono HR.out.2.1))
  have HW := Lib.hid (And.intro own3 (And.intro hb02 (And.intro hrd2 (headL8 1 m next))))
  have hq : Hid (((headL 1 m next).take 8).length + (l.drop 8).length ≤ 1000000000) := by unfold Hid; rw [headL8, List.length_drop, HR.out.2.2]; omega
  have hq2 : Hid (((headL 1 m next).take 8 ++ l.drop 8).length = 512) := by unfold Hid; rw [List.length_append, headL8, List.length_drop, HR.out.2.2]
  have hzz := hb2.size
  clear own2 own3 hb02 hrd hrd2 hblk hb2
  obtain ⟨L, hL⟩ : ∃ L, (headL 1 m next).take 8 ++ l.drop 8 = L := ⟨_, rfl⟩
  have HL := Lib.hid hL
  rw [hL] at HLK hq2
  clear hL
  go_wp2_with fail
  go_region_law (refine step_appR rfl (.tmp 23) (.tmp 25) rfl w1.heap.size (.slice (some ⟨g, 0, none⟩) 8 512) ((headL 1 m next).take 8) (l.drop 8) A' 504 (c - 8) B (by simp [Act.eval, Act.put]) HW.out.1 (by simp [Act.eval, Act.put]) HW.out.2.2.1 hq.out hzz ?_; intro v' w3 own3 kp3; rw [HL.out] at own3; obtain ⟨A3, c3, rfl, hc3⟩ := own3.form; rw [hq2.out] at own3 hc3 ⊢)
  have hb3 := kp3.below _ _ hb.size (Below.drew HW.out.2.1)
  go_wp2
  go_ret2
  rw [HLK.out]
  exact ⟨A3, c3, rfl, own3.less hb.size, hc3, hb3⟩
end
end
end Go.Proofs.Ytdimkeoncgjegaa
/-
  Slots of a heap page: a family of rows, each in a block of its own.
-/
namespace Go.Proofs.Ytdimkeoncgjegaa
section
open Go.RowKit

/-- The slices of a family of rows: each row's block and capacity. -/
def famV : List (List UInt8) → List (Nat × Nat) → List Value
  | r :: rs, f :: fs => Value.slice (some ⟨f.1, 0, none⟩) r.length f.2 :: famV rs fs
  | _, _ => []
theorem famV_len : ∀ (rs : List (List UInt8)) (fs : List (Nat × Nat)), fs.length ≤ rs.length → (famV rs fs).length = fs.length
  | [], [], _ => rfl
  | [], _ :: _, h => by simp at h
  | _ :: _, [], _ => rfl
  | _ :: rs, _ :: fs, h => by simp only [famV, List.length_cons]; rw [famV_len rs fs (by simpa using h)]
theorem famV_snoc : ∀ (rs : List (List UInt8)) (fs : List (Nat × Nat)) (r : List UInt8) (f : Nat × Nat), rs[fs.length]? = some r → famV rs (fs ++ [f]) = famV rs fs ++ [Value.slice (some ⟨f.1, 0, none⟩) r.length f.2]
  | [], _, _, _, h => by simp at h
  | x :: rs, [], r, f, h => by
    simp only [List.length_nil, List.getElem?_cons_zero, Option.some.injEq] at h
    subst h
    simp [famV]
  | x :: rs, y :: fs, r, f, h => by
    simp only [List.length_cons, List.getElem?_cons_succ] at h
    simp only [List.cons_append, famV]
    rw [famV_snoc rs fs r f h]
theorem famV_at : ∀ (rs : List (List UInt8)) (fs : List (Nat × Nat)) (i : Nat) (r : List UInt8) (f : Nat × Nat), rs[i]? = some r → fs[i]? = some f → (famV rs fs)[i]? = some (Value.slice (some ⟨f.1, 0, none⟩) r.length f.2)
  | [], _, _, _, _, h, _ => by simp at h
  | _ :: _, [], _, _, _, _, h => by simp at h
  | x :: rs, y :: fs, 0, r, f, h, h' => by
    simp only [List.getElem?_cons_zero, Option.some.injEq] at h h'
    subst h; subst h'
    rfl
  | x :: rs, y :: fs, i + 1, r, f, h, h' => by
    simp only [List.getElem?_cons_succ] at h h'
    simp only [famV, List.getElem?_cons_succ]
    exact famV_at rs fs i r f h h'
/-- The family while it is made. -/
def famP (rs : List (List UInt8)) (fs : List (Nat × Nat)) (m : Nat) : Array Value := (famV rs fs ++ List.replicate (m - fs.length) (Value.slice none 0 0)).toArray
theorem famP_zero (rs : List (List UInt8)) (m : Nat) : madeCells #[.slice none 0 0] m = famP rs [] m := by
  unfold famP
  have h : famV rs [] = [] := by cases rs <;> rfl
  rw [h]
  apply Array.ext
  · simp [size_madeCells]
  · intro j h1 h2
    simp [madeCells, Nat.mod_one]
theorem famP_at (rs : List (List UInt8)) (fs : List (Nat × Nat)) (m : Nat) (h : fs.length < m) (hr : fs.length ≤ rs.length) : (famP rs fs m)[fs.length]? = some (.slice none 0 0) := by
  unfold famP
  rw [List.getElem?_toArray, List.getElem?_append_right (by rw [famV_len _ _ hr]; exact Nat.le_refl _), famV_len _ _ hr, List.getElem?_replicate, if_pos (by omega)]
theorem famP_set (rs : List (List UInt8)) (fs : List (Nat × Nat)) (m : Nat) (f : Nat × Nat) (r : List UInt8) (h : fs.length < m) (hr : rs[fs.length]? = some r) : (famP rs fs m).setIfInBounds fs.length (Value.slice (some ⟨f.1, 0, none⟩) r.length f.2) = famP rs (fs ++ [f]) m := by
  unfold famP
  have hl := lt_of_at hr
  have e : m - fs.length = (m - (fs.length + 1)) + 1 := by omega
  rw [List.setIfInBounds_toArray, List.set_append_right _ _ (by rw [famV_len _ _ (by omega)]; exact Nat.le_refl _), famV_len _ _ (by omega), Nat.sub_self, e, List.replicate_succ, List.set_cons_zero, famV_snoc rs fs r f hr, List.length_append, List.append_assoc]
  rfl
theorem famP_end (rs : List (List UInt8)) (fs : List (Nat × Nat)) : famP rs fs fs.length = (famV rs fs).toArray := by simp [famP]
/-- Each row of a family lies in a block of its own, later ones in later blocks. -/
structure Fam (w : World) (base : Nat) (rs : List (List UInt8)) (fs : List (Nat × Nat)) : Prop where
  own : ∀ (i : Nat) (f : Nat × Nat) (r : List UInt8), fs[i]? = some f → rs[i]? = some r → Own w base (.slice (some ⟨f.1, 0, none⟩) r.length f.2) r
  cap : ∀ (i : Nat) (f : Nat × Nat) (r : List UInt8), fs[i]? = some f → rs[i]? = some r → r.length ≤ f.2
  lt : ∀ (i j : Nat) (f f' : Nat × Nat), i < j → fs[i]? = some f → fs[j]? = some f' → f.1 < f'.1
theorem Fam.nil (w : World) (base : Nat) (rs : List (List UInt8)) : Fam w base rs [] := ⟨by simp, by simp, by simp⟩
theorem Fam.below {w w' : World} {base : Nat} {rs : List (List UInt8)} {fs : List (Nat × Nat)} (h : Fam w base rs fs) (hb : Below w.heap.size w w') : Fam w' base rs fs :=
  ⟨fun i f r hf hr => (h.own i f r hf hr).below hb, h.cap, h.lt⟩
theorem Fam.less {w : World} {base base' : Nat} {rs : List (List UInt8)} {fs : List (Nat × Nat)} (h : Fam w base rs fs) (hb : base' ≤ base) : Fam w base' rs fs :=
  ⟨fun i f r hf hr => (h.own i f r hf hr).less hb, h.cap, h.lt⟩
theorem Own.block_lt {w : World} {base g n c : Nat} {l : List UInt8} (h : Own w base (.slice (some ⟨g, 0, none⟩) n c) l) : base ≤ g ∧ g < w.heap.size := World.ownsRow.lt h g rfl
theorem Fam.snoc {w w' : World} {base B : Nat} {rs : List (List UInt8)} {fs : List (Nat × Nat)} {r : List UInt8} {g c : Nat} (h : Fam w base rs fs) (hb : Below w.heap.size w w') (hr : rs[fs.length]? = some r)
    (ho : Own w' B (.slice (some ⟨g, 0, none⟩) r.length c) r) (hc : r.length ≤ c) (h1 : w.heap.size ≤ B) (h2 : base ≤ w.heap.size) : Fam w' base rs (fs ++ [(g, c)]) := by
  have hlt := lt_of_at hr
  refine ⟨fun i f x hf hx => ?_, fun i f x hf hx => ?_, fun i j f f' hij hf hf' => ?_⟩
  · rcases Nat.lt_or_ge i fs.length with hi | hi
    · rw [List.getElem?_append_left hi] at hf
      exact (h.own i f x hf hx).below hb
    · have hi' := lt_of_at hf
      have : i = fs.length := by simp at hi'; omega
      subst this
      rw [List.getElem?_append_right (Nat.le_refl _), Nat.sub_self] at hf
      injection hf with hf
      subst hf
      rw [hr] at hx
      injection hx with hx
      subst hx
      exact ho.less (by omega)
  · rcases Nat.lt_or_ge i fs.length with hi | hi
    · rw [List.getElem?_append_left hi] at hf
      exact h.cap i f x hf hx
    · have hi' := lt_of_at hf
      have : i = fs.length := by simp at hi'; omega
      subst this
      rw [List.getElem?_append_right (Nat.le_refl _), Nat.sub_self] at hf
      injection hf with hf
      subst hf
      rw [hr] at hx
      injection hx with hx
      subst hx
      exact hc
  · have hj' := lt_of_at hf'
    have hi : i < fs.length := by simp at hj'; omega
    rw [List.getElem?_append_left hi] at hf
    rcases Nat.lt_or_ge j fs.length with hj | hj
    · rw [List.getElem?_append_left hj] at hf'
      exact h.lt i j f f' hij hf hf'
    · have : j = fs.length := by simp at hj'; omega
      subst this
      rw [List.getElem?_append_right (Nat.le_refl _), Nat.sub_self] at hf'
      injection hf' with hf'
      subst hf'
      have hi2 : rs[i]? = some (rs[i]'(by omega)) := List.getElem?_eq_getElem (by omega)
      have := (h.own i f _ hf hi2).block_lt
      have := ho.block_lt
      show f.1 < g
      omega
theorem Own.same_ {w w' : World} {base g n c : Nat} {l : List UInt8} (h : Own w base (.slice (some ⟨g, 0, none⟩) n c) l) (e : w'.heap[g]? = w.heap[g]?) : Own w' base (.slice (some ⟨g, 0, none⟩) n c) l := by
  refine ⟨h.1, ?_⟩
  rcases h.2 with hn | ⟨g', cap, cur, hv, hb, hgg, rest⟩
  · exact .inl hn
  · refine .inr ⟨g', cap, cur, hv, hb, ?_, rest⟩
    injection hv with hv
    injection hv with hv
    injection hv with hv
    subst hv
    rw [e]; exact hgg
theorem Fam.store {w : World} {base g : Nat} {rs : List (List UInt8)} {fs : List (Nat × Nat)} {t : TypeId} {cs : Array Value} (h : Fam w base rs fs) (hb : Blk w g t cs) (ht : 5 ≠ t) (j : Nat) (u : Value) : Fam (w.setCell ⟨g, j, none⟩ u) base rs fs :=
  ⟨fun i f r hf hr => (h.own i f r hf hr).same_ (Below.heap_setCell w _ u f.1 (fun e => own_blk_ne (h.own i f r hf hr) hb ht (by show some f.1 = some g; rw [e]))), h.cap, h.lt⟩
end
end Go.Proofs.Ytdimkeoncgjegaa
/-
  Slots of a heap page: All.
-/
namespace Go.Proofs.Ytdimkeoncgjegaa
section
open Go.RowKit

theorem Try.infoBs : (Try.prog.info? 59).map (fun i => (i.zero, i.size, i.bytes)) = some (some (.slice none 0 0), 1, 24) := by kernel_rfl
/-- The records of a page. -/
def recs (l : List UInt8) : List (List UInt8) := (List.range (hdC l)).map (recK l)
theorem recs_len (l : List UInt8) : (recs l).length = hdC l := by simp [recs]
theorem recs_at (l : List UInt8) {k : Nat} (h : k < hdC l) : (recs l)[k]? = some (recK l k) := by
  unfold recs
  rw [List.getElem?_map, List.getElem?_range h]; rfl
def RetAll (w : World) (rs : List (List UInt8)) (m : Nat) (e : Ending) (w' : World) : Prop := ∃ g fs, e = .returned (.tuple #[.slice (some ⟨g, 0, none⟩) m m, .int .i64 0]) ∧ fs.length = m ∧ Blk w' g 59 (famV rs fs).toArray ∧ Fam w' w.heap.size rs fs ∧ w.heap.size ≤ g ∧ Below w.heap.size w w'
section
variable {w : World} {A : Option Addr} {n c B : Nat} {l : List UInt8}
theorem all_no (hp : isPage l = false) (hr : Reads w B 1 A n (bL l)) (hB : B ≤ w.heap.size) (hn : n ≤ 1000000) (hc : n ≤ c) : Calls Try.prog 57 #[.slice A n c] w (RetB w (.tuple #[.slice none 0 0, .int .i64 2])) := by
  have P := Lib.hid (places_any A n c B l w hr hB hn hc)
  unfold RetPl at P
  rw [hp] at P
  clear hr hp
  go_enter Try.func57, Try.ntmps57
  go_wp2_with fail
  refine P.out.mono ?_
  rintro e w1 ⟨Ap, m, cp, rfl, hm, hrp, hcp, hb⟩
  clear hm
  go_wp2
  go_ret2
  exact ⟨rfl, hb⟩
set_option maxRecDepth 100000 in
set_option maxHeartbeats 1000000 in
theorem all_ok (hp : isPage l = true) (hr : Reads w B 1 A n (bL l)) (hB : B ≤ w.heap.size) (hn : n ≤ 1000000) (hc : n ≤ c) : Calls Try.prog 57 #[.slice A n c] w (RetAll w (recs l) (hdC l)) := by
  have P := Lib.hid (places_any A n c B l w hr hB hn hc)
  unfold RetPl at P
  rw [hp] at P
  have hC6 := (page_end hp).2.1
  have REC : Hid (∀ i, i < hdC l → two l (8 + 4 * i) + two l (8 + 4 * i + 2) ≤ 512 ∧ (recK l i).length = two l (8 + 4 * i + 2) ∧ 0 < two l (8 + 4 * i + 2)) := by
    intro i hi
    obtain ⟨e1, e2, e3, e4, e5⟩ := page_end hp
    obtain ⟨f, _, f2, f3, f4, _⟩ := endK_some e1 hi
    exact ⟨by omega, recK_len e5 e1 hi, by omega⟩
  have hn5 : n = 512 := by have := hr.bytes_len; have := (page_end hp).2.2.2.2; omega
  have RA : Hid (∀ k, k < hdC l → (recs l)[k]? = some (recK l k)) := fun k h => recs_at l h
  have RL := Lib.hid (recs_len l)
  obtain ⟨C, hC⟩ : ∃ C, hdC l = C := ⟨_, rfl⟩
  rw [hC] at P REC hC6 RA RL ⊢
  clear hC
  subst hn5
  have hCI : (C : Int) ≤ 126 := by omega
  obtain ⟨i1, hi1, hz1, hs1, hy1⟩ := int_info8 Try.infoBs
  have mk1 : ∀ W, (Instr.makeSlice 22 (.int .i64 (C : Int)) (.int .i64 (C : Int))).run Try.prog W = .ok (.slice (some ⟨W.heap.size, 0, none⟩) C C) (W.alloc (.cells (famP (recs l) [] C) 59)) := by
    intro W
    have h := run_make (P := Try.prog) W 22 59 i1 (.slice none 0 0) Try.underlying22 hi1 hz1 .i64 .i64 (C : Int) (C : Int) (by omega) (by omega) (by rw [hy1]; omega) (by omega)
    rw [Int.toNat_natCast, hs1, Nat.mul_one] at h
    rw [← famP_zero]
    exact h
  clear hi1 hz1 hs1 hy1
  go_enter Try.func57, Try.ntmps57
  go_wp2_with fail
  refine P.out.mono ?_
  rintro e w1 ⟨Ap, m, cp, rfl, hm, hrp, hcp, hb⟩
  obtain rfl : m = C := hm
  go_wp2_with fail
  have hP0 : Blk (w1.alloc (.cells (famP (recs l) [] m) 59)) w1.heap.size 59 (famP (recs l) [] m) := Blk.new _ _ _
  have hb0 : Below w.heap.size w (w1.alloc (.cells (famP (recs l) [] m) 59)) := ball hb _
  have hz1 := hb.size
  have hrp0 := hrp.alloc (Nat.le_refl _) (.cells (famP (recs l) [] m) 59)
  have hz2 : (w1.alloc (.cells (famP (recs l) [] m) 59)).heap.size = w1.heap.size + 1 := by simp
  obtain ⟨g, hg⟩ : ∃ g, w1.heap.size = g := ⟨_, rfl⟩
  rw [hg] at hP0 hz1 hrp0 hz2 ⊢
  obtain ⟨W0, hW0⟩ : ∃ W0, (w1.alloc (.cells (famP (recs l) [] m) 59)) = W0 := ⟨_, rfl⟩
  rw [hW0] at hP0 hb0 hrp0 hz2 ⊢
  have hW1 : g ≤ W0.heap.size := by omega
  clear hg hW0 mk1 hrp hb P hz2
  go_loopw [21] (fun u21 wr => ∃ (i : Nat) (fs : List (Nat × Nat)), u21 = .int .i64 i ∧ i ≤ m ∧ fs.length = i ∧ Blk wr g 59 (famP (recs l) fs m) ∧ Fam wr w.heap.size (recs l) fs ∧ Below g W0 wr ∧ Below w.heap.size w wr) (fun u21 _ => m - (intOf u21).toNat)
  case atStart => exact ⟨0, [], rfl, by omega, rfl, hP0, Fam.nil _ _ _, Below.refl _ _, hb0⟩
  case round =>
    clear hP0 hb0
    obtain ⟨i, fs, rfl, hi, hfs, hB1, hF, hbW, hb⟩ := hrel
    have q0 : (0 : Int) ≤ (i : Int) := by omega
    have hrpW := hrp0.below hbW
    by_cases hlt : i < m
    · have q1 : (i : Int) < (m : Int) := by omega
      obtain ⟨ad, rfl, hab, c0, c1⟩ := hrpW.plc hlt
      obtain ⟨s1, s2, s3⟩ := REC.out i hlt
      have ra := RA.out i hlt
      have RC := Lib.hid fun W (hW : Below w.heap.size w W) => record_any (c := c) (two l (8 + 4 * i)) (two l (8 + 4 * i + 2)) (hr.below (hW.mono hB)) (Nat.le_trans hB hW.size) (by omega) hc s1
      have hLk : Hid ((l.drop (two l (8 + 4 * i))).take (two l (8 + 4 * i + 2)) = recK l i) := rfl
      rw [hLk.out] at RC
      obtain ⟨a, ha⟩ : ∃ a, two l (8 + 4 * i) = a := ⟨_, rfl⟩
      obtain ⟨b, hb'⟩ : ∃ b, two l (8 + 4 * i + 2) = b := ⟨_, rfl⟩
      rw [ha] at c0 RC
      rw [hb'] at c1 RC s2 s3
      clear ha hb' hLk s1
      obtain ⟨r, hr'⟩ : ∃ r, recK l i = r := ⟨_, rfl⟩
      rw [hr'] at ra RC s2
      clear hr' hrpW
      have HB := Lib.hid (And.intro hB1 (And.intro hF (And.intro hbW (And.intro hb (And.intro ra (And.intro s2 s3))))))
      have g1 := hB1.lt
      clear hB1 hF hbW ra hb s2 s3
      go_wp2_with fail
      refine (RC.out _ (ball HB.out.2.2.2.1 _)).mono ?_
      rintro e w5 ⟨A3, c3, rfl, own3, hc3, hb3⟩
      rw [HB.out.2.2.2.2.2.1] at own3 hc3 ⊢
      obtain ⟨g3, tl, rfl, hg3, _, _, _⟩ := own3.open_ HB.out.2.2.2.2.2.2
      have b03 : Below wr.heap.size wr w5 := bto0 (ball (Below.refl _ _) _) hb3
      have hB5 := HB.out.1.below b03 HB.out.1.lt
      have hd0 : w5.cell? ⟨g, i, none⟩ = some (.slice none 0 0) := by
        have hz := famP_at (recs l) fs m (by omega) (by rw [RL.out]; omega)
        rw [hfs] at hz
        exact (hB5.cell i).trans hz
      have hd1 := hB5.frozen i
      have hF5 : Fam w5 w.heap.size (recs l) (fs ++ [(g3, c3)]) := by
        have hx := own3
        rw [← HB.out.2.2.2.2.2.1] at hx
        refine HB.out.2.1.snoc b03 (by rw [hfs]; exact HB.out.2.2.2.2.1) hx (by rw [HB.out.2.2.2.2.2.1]; exact hc3) (by simp) HB.out.2.2.2.1.size
      have H5 := Lib.hid (And.intro hB5 (And.intro hF5 (And.intro b03 (And.intro (bto0 HB.out.2.2.2.1 b03) (HB.out.2.2.1.trans (b03.mono (Nat.le_of_lt g1)))))))
      clear hB5 hF5 own3 b03
      go_wp2
      go_roundw
      case rel =>
        refine ⟨i + 1, fs ++ [(g3, c3)], by go_num, by omega, by rw [List.length_append, hfs]; rfl, ?_, ?_, ?_, ?_⟩
        · have hz := H5.out.1.set_ i (.slice (some ⟨g3, 0, none⟩) b c3)
          have hy := famP_set (recs l) fs m (g3, c3) r (by omega) (by rw [hfs]; exact HB.out.2.2.2.2.1)
          rw [hfs, HB.out.2.2.2.2.2.1] at hy
          rw [hy] at hz
          exact hz
        · exact H5.out.2.1.store H5.out.1 (by decide) _ _
        · exact H5.out.2.2.2.2.setCell (Nat.le_refl _) _
        · exact H5.out.2.2.2.1.setCell (by simpa using hz1) _
      case measure => simp [intOf]; omega
    · obtain rfl : i = m := by omega
      have hend := famP_end (recs l) fs
      rw [hfs] at hend
      rw [hend] at hB1
      have HH := Lib.hid (And.intro hB1 (And.intro hF hb))
      clear hB1 hF hrpW
      go_wp2
      go_ret2
      exact ⟨g, fs, rfl, hfs, HH.out.1, HH.out.2.1, hz1, HH.out.2.2⟩
end
end
end Go.Proofs.Ytdimkeoncgjegaa

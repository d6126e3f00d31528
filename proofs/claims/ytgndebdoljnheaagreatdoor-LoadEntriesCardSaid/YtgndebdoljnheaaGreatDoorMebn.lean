/-
  Several texts in one: Me5 Me6 Mb1.
-/
import Derived.Test.YtgndebdoljnheaaGreatDoorMebl
import Derived.Test.YtgndebdoljnheaaGreatDoorMebf
import Derived.Test.YtgndebdoljnheaaGreatDoorMebg
/-
  A row's part in some columns, and its key: the program's keyOf.
-/
namespace Go.Proofs.YtgndebdoljnheaaGreatDoor
section
set_option linter.unusedSimpArgs false
set_option linter.unusedVariables false
open Go.RowKit Go.Lib

theorem Reads.i64e {w : World} {B n k : Nat} {A : Option Addr} {l : List Int} (h : Reads w B 1 A n (vI64 l)) (hk : k < n) : ∃ ad x, A = some ad ∧ ad.block < B ∧ l[k]? = some x ∧ w.cell? (ad.add k) = some (.int .i64 x) := by
  obtain ⟨ad, u, hA, hb, hu, hc⟩ := h.at_ hk
  simp only [vI64, List.getElem?_map, Option.map_eq_some_iff] at hu
  obtain ⟨x, hx, rfl⟩ := hu
  exact ⟨ad, x, hA, hb, hx, hc⟩
/-- A row's values in some columns, if all are there. -/
def partV : List Int → List Vl → Option (List Vl)
  | [], _ => some []
  | c :: cs, l => if c < 0 then none else match l[c.toNat]?, partV cs l with
    | some v, some p => some (v :: p)
    | _, _ => none
theorem part_snoc : ∀ (cs : List Int) (l : List Vl) (p : List Vl) (c : Int) (v : Vl), partV cs l = some p → 0 ≤ c → l[c.toNat]? = some v → partV (cs ++ [c]) l = some (p ++ [v])
  | [], l, p, c, v, h, h0, hv => by
    injection h with h
    subst h
    have : ¬ c < 0 := by omega
    simp [partV, this, hv]
  | a :: cs, l, p, c, v, h, h0, hv => by
    unfold partV at h
    rw [List.cons_append]
    unfold partV
    split at h
    · cases h
    · rename_i ha
      rw [if_neg ha]
      split at h
      · rename_i u q hu hq
        injection h with h
        subst h
        rw [hu, part_snoc cs l q c v hq h0 hv]
        rfl
      · cases h
theorem part_bad : ∀ (cs : List Int) (l : List Vl) (k : Nat) (c : Int), cs[k]? = some c → (c < 0 ∨ l[c.toNat]? = none) → partV cs l = none
  | [], l, k, c, h, _ => by simp at h
  | a :: cs, l, 0, c, h, hc => by
    simp at h
    subst h
    unfold partV
    split
    · rfl
    · rename_i ha
      rcases hc with hc | hc
      · omega
      · rw [hc]
  | a :: cs, l, k + 1, c, h, hc => by
    have := part_bad cs l k c (by simpa using h) hc
    unfold partV
    rw [this]
    split
    · rfl
    · split <;> simp_all
theorem part_len : ∀ (cs : List Int) (l p : List Vl), partV cs l = some p → p.length = cs.length ∧ ∀ v ∈ p, v ∈ l
  | [], l, p, h => by injection h with h; subst h; simp
  | a :: cs, l, p, h => by
    unfold partV at h
    split at h
    · cases h
    · split at h
      · rename_i u q hu hq
        injection h with h
        subst h
        obtain ⟨h1, h2⟩ := part_len cs l q hq
        refine ⟨by simp [h1], fun v hv => ?_⟩
        rcases List.mem_cons.1 hv with rfl | hv
        · exact List.mem_of_getElem? hu
        · exact h2 v hv
      · cases h
theorem keyR_bd : ∀ (p : List Vl), (∀ v ∈ p, v.s.size ≤ 5000) → (keyR p).length ≤ p.length * 10010
  | [], _ => by simp [keyR]
  | v :: r, h => by
    have h1 := keyR_bd r fun u hu => h u (List.mem_cons_of_mem _ hu)
    have h2 := keyV_len v
    have h3 := h v (by simp)
    unfold keyR at *
    simp only [List.flatMap_cons, List.length_append, List.length_cons]
    rw [Nat.succ_mul]
    omega
/-- A row's key in some columns: the text, and the error's number. -/
def keyO (cs : List Int) (l : List Vl) : ByteArray × Int := match partV cs l with
  | none => (⟨#[]⟩, 1)
  | some p => if allMay p = false then (⟨#[]⟩, 1) else if 200 < (str (keyR p)).size then (⟨#[]⟩, 4) else (str (keyR p), 0)
theorem Tryz.infoV13b : (Tryz.prog.info? 35).map (fun i => (i.zero, i.size, i.bytes)) = some (some (.agg #[.int .u8 0, .int .i64 0, .string ⟨#[]⟩]), 3, 32) := by kernel_rfl

set_option maxRecDepth 100000 in
set_option maxHeartbeats 8000000 in
theorem keyOf_any (CA : Option Addr) (cn cc : Nat) (cs : List Int) (A : Option Addr) (n c : Nat) (l : List Vl) (w : World) (hm : MaxC w) (hC : Reads w w.heap.size 1 CA cn (vI64 cs)) (hcn : cn ≤ 20) (hr : Reads w w.heap.size 3 A n (vV l)) (hok : ∀ v ∈ l, v.ok) (hsz : ∀ v ∈ l, v.s.size ≤ 5000) (hn : n ≤ maxLen) :
    Calls Tryz.prog 25 #[.slice CA cn cc, .slice A n c] w (RetB w (.tuple #[.string (keyO cs l).1, .int .i64 (keyO cs l).2])) := by
  obtain ⟨i1, hi1, hz1, hs1, hy1⟩ := int_info8 Tryz.infoV13b
  have hcl : cs.length = cn := by have := hC.1; rw [vI64_len] at this; omega
  have hl : l.length = n := by have := hr.1; rw [vV_len] at this; omega
  unfold maxLen at hn
  have cI : (cn : Int) ≤ 20 := by omega
  have nI : (n : Int) ≤ 9223372036854775807 := by omega
  have H0 := Lib.hid (And.intro hcl (And.intro hl (And.intro hok (And.intro hsz hm))))
  clear hcl hl hok hsz hm
  go_enter Tryz.func25, Tryz.ntmps25
  go_wp2_with fail
  go_loopw [6, 13] (fun u6 u13 wr => ∃ (k : Nat) (A9 : Option Addr) (c9 : Nat) (p : List Vl), u6 = .slice A9 k c9 ∧ u13 = .int .i64 k ∧ k ≤ cn ∧ partV (cs.take k) l = some p ∧ wr.ownsRow w.heap.size 35 3 (.slice A9 k c9) k (vV p) ∧ Below w.heap.size w wr) (fun _ u13 _ => cn - (intOf u13).toNat)
  case atStart => exact ⟨0, none, 0, [], rfl, rfl, by omega, rfl, ⟨rfl, .inl ⟨rfl, rfl⟩⟩, Below.refl _ _⟩
  case round =>
    obtain ⟨k, A9, c9, p, rfl, rfl, hk, hp, hown, hb⟩ := hrel
    have k0 : (0 : Int) ≤ (k : Int) := by omega
    have HI := Lib.hid (And.intro hp (And.intro hown hb))
    clear hp hown
    by_cases hlt : k < cn
    · have k1 : (k : Int) < (cn : Int) := by omega
      obtain ⟨ad, x, rfl, hab, hx, dx⟩ := (hC.below hb).i64e hlt
      have HX := Lib.hid hx
      clear hx
      by_cases hx0 : x < 0
      · have hbad : Hid (keyO cs l = (⟨#[]⟩, 1)) := Lib.hid (by unfold keyO; rw [part_bad cs l k x HX.out (.inl hx0)])
        clear hb
        go_wp2
        go_ret2
        exact ⟨by rw [hbad.out]; rfl, HI.out.2.2⟩
      · obtain ⟨m, rfl⟩ : ∃ m : Nat, x = (m : Int) := ⟨x.toNat, by omega⟩
        by_cases hxn : m < n
        · have x1 : (m : Int) < (n : Int) := by omega
          have x2 : (0 : Int) ≤ (m : Int) := by omega
          obtain ⟨ad2, v, rfl, hab2, hv, e0, e1, e2⟩ := (hr.below hb).val hxn
          have hpn := Lib.hid (part_snoc _ l p (m : Int) v HI.out.1 x2 (by rw [Int.toNat_natCast]; exact hv))
          have hbz := hb.size
          clear hv hb
          go_wp2_with (at_builtin; refine wpList_pushR (news := v.cells) rfl (.tmp 25) (.tmp 30) 33 rfl w.heap.size 35 i1 _ 3 32 Tryz.underlying33 hi1 hz1 hs1 hy1 rfl (by decide) (.slice A9 k c9) k _ (by first | rfl | (simp [Act.eval, Act.put]; done)) HI.out.2.1 rfl _ (by first | rfl | (simp [Act.eval, Act.put]; done)) (by first | rfl | simp) rfl (by intro u hu; simp only [Vl.cells, List.mem_cons, List.not_mem_nil, or_false] at hu; rcases hu with rfl | rfl | rfl <;> rfl) (by omega) (by omega) hbz ?_; intro v8 w8 own8 hg8 _; obtain ⟨A8, c8, rfl, hc8⟩ := own_form own8; have hb8 : Below w.heap.size w w8 := (ball HI.out.2.2 _).grown hg8 (by simp; omega) (fun g e => (World.ownsRow.lt HI.out.2.1 g e).1))
          have e8 : vV p ++ v.cells = vV (p ++ [v]) := by simp [vV]
          rw [e8] at own8
          refine ⟨⟨k + 1, A8, c8, p ++ [v], rfl, by go_num, by omega, ?_, own8, hb8⟩, by simp [intOf]; omega⟩
          rw [List.take_add_one, HX.out]
          exact hpn.out
        · have x1 : ¬ (m : Int) < (n : Int) := by omega
          have hbad : Hid (keyO cs l = (⟨#[]⟩, 1)) := Lib.hid (by unfold keyO; rw [part_bad cs l k (m : Int) HX.out (.inr (by rw [Int.toNat_natCast]; exact List.getElem?_eq_none (by rw [H0.out.2.1]; omega)))])
          clear hb
          go_wp2
          go_ret2
          exact ⟨by rw [hbad.out]; rfl, HI.out.2.2⟩
    · obtain rfl : k = cn := by omega
      have k1 : ¬ (k : Int) < (k : Int) := by omega
      have hp : partV cs l = some p := by have := HI.out.1; rwa [List.take_of_length_le (by rw [H0.out.1]; exact Nat.le_refl _)] at this
      obtain ⟨hpl, hpm⟩ := part_len cs l p hp
      have hps : ∀ v ∈ p, v.s.size ≤ 5000 := fun v hv => H0.out.2.2.2.1 v (hpm v hv)
      have hkb := keyR_bd p hps
      have hpl2 : p.length ≤ 20 := by rw [hpl, H0.out.1]; exact hcn
      have PK := Lib.hid (kput_any2 A9 k c9 p wr (H0.out.2.2.2.2.below0 HI.out.2.2) (Reads.of_own HI.out.2.1) (fun v hv => H0.out.2.2.1 v (hpm v hv)) (by omega) hps (by
        have : p.length * 10010 ≤ 20 * 10010 := Nat.mul_le_mul hpl2 (Nat.le_refl _)
        omega))
      have HK : Hid (keyO cs l = if allMay p = false then (⟨#[]⟩, 1) else if 200 < (str (keyR p)).size then (⟨#[]⟩, 4) else (str (keyR p), 0)) := Lib.hid (by unfold keyO; rw [hp])
      clear hp hpl hpm hps hkb hpl2 hb
      unfold RetPut kE kS at PK
      cases hmy : allMay p
      · rw [hmy] at HK PK
        simp only [Bool.false_eq_true, if_false, if_true] at HK PK
        clear hmy
        go_wp2_with fail
        refine PK.out.mono ?_
        rintro e w5 ⟨rfl, hb5⟩
        have hbw := bto0 HI.out.2.2 hb5
        clear hb5
        go_wp2
        go_ret2
        exact ⟨by rw [HK.out]; rfl, hbw⟩
      · rw [hmy] at HK PK
        simp only [Bool.true_eq_false, if_false, if_true] at HK PK
        clear hmy
        obtain ⟨S, hS⟩ : ∃ S, str (keyR p) = S := ⟨_, rfl⟩
        rw [hS] at HK PK
        clear hS
        by_cases h2 : 200 < S.size
        · have h2' : (200 : Int) < (S.size : Int) := by omega
          rw [if_pos h2] at HK
          go_wp2_with fail
          refine PK.out.mono ?_
          rintro e w5 ⟨rfl, hb5⟩
          have hbw := bto0 HI.out.2.2 hb5
          clear hb5
          go_wp2
          go_ret2
          exact ⟨by rw [HK.out]; rfl, hbw⟩
        · have h2' : ¬ (200 : Int) < (S.size : Int) := by omega
          rw [if_neg h2] at HK
          go_wp2_with fail
          refine PK.out.mono ?_
          rintro e w5 ⟨rfl, hb5⟩
          have hbw := bto0 HI.out.2.2 hb5
          clear hb5
          go_wp2
          go_ret2
          exact ⟨by rw [HK.out]; rfl, hbw⟩
end
end Go.Proofs.YtgndebdoljnheaaGreatDoor
/-
  An index' entries: the program's Entries.
-/
namespace Go.Proofs.YtgndebdoljnheaaGreatDoor
section
set_option linter.unusedSimpArgs false
set_option linter.unusedVariables false
open Go.RowKit Go.Lib

theorem own_belowE {w w' : World} {base : Nat} {e : TypeId} {size n : Nat} {v : Value} {xs : List Value} (h : w.ownsRow base e size v n xs) (hb : Below w.heap.size w w') : w'.ownsRow base e size v n xs :=
  World.ownsRow.kept h (row := none) ⟨hb.os, hb.tape, hb.output, hb.size, fun i hi _ => hb.block i hi⟩ (by cases h' : v.ownBlock <;> simp)
/-- Where a row stands: a page, a slot. -/
structure Ri where
  p : Int
  q : Int
def Ri.cells (e : Ri) : List Value := [.int .u32 e.p, .int .u16 e.q]
def vRi (l : List Ri) : List Value := l.flatMap Ri.cells
theorem vRi_len (l : List Ri) : (vRi l).length = l.length * 2 := flat_len _ 2 l fun v _ => rfl
theorem vRi_at {l : List Ri} {k : Nat} {v : Ri} (h : l[k]? = some v) (j : Nat) (hj : j < 2) : (vRi l)[k * 2 + j]? = v.cells[j]? := flat_at Ri.cells 2 l k v j (fun v _ => rfl) h hj
theorem Reads.ri {w : World} {B : Nat} {A : Option Addr} {n k : Nat} {l : List Ri} (hr : Reads w B 2 A n (vRi l)) (hk : k < n) :
    ∃ ad v, A = some ad ∧ ad.block < B ∧ l[k]? = some v ∧ w.cell? (ad.add (k * 2)) = some (.int .u32 v.p) ∧ w.cell? ⟨(ad.add (k * 2)).block, (ad.add (k * 2)).off + 1, none⟩ = some (.int .u16 v.q) := by
  have hl : l.length = n := by have := hr.1; rw [vRi_len] at this; omega
  obtain ⟨ad, hA, hb, hc⟩ := hr.2 (by omega)
  have hv : l[k]? = some (l[k]'(by omega)) := List.getElem?_eq_getElem (by omega)
  refine ⟨ad, l[k]'(by omega), hA, hb, hv, ?_, ?_⟩
  · have := hc (k * 2 + 0) _ (by rw [vRi_at hv 0 (by omega)]; rfl)
    simpa using this
  · rw [field_add _ _ _ (by omega)]
    exact hc (k * 2 + 1) _ (by rw [vRi_at hv 1 (by omega)]; rfl)
def entR (cs : List Int) (r : Rv) (i : Ri) : En := ⟨(keyO cs r.l).1, i.p, i.q⟩
def entsV (cs : List Int) (rws : List Rv) (ris : List Ri) : List En := List.zipWith (entR cs) rws ris
def longV (cs : List Int) (rws : List Rv) : Bool := rws.any fun r => (keyO cs r.l).2 == 4
def badV (cs : List Int) (rws : List Rv) : Bool := rws.any fun r => (keyO cs r.l).2 == 1
theorem ents_snoc {cs : List Int} {rws : List Rv} {ris : List Ri} {k : Nat} {r : Rv} {i : Ri} (hr : rws[k]? = some r) (hi : ris[k]? = some i) : entsV cs (rws.take (k + 1)) (ris.take (k + 1)) = entsV cs (rws.take k) (ris.take k) ++ [entR cs r i] := by
  unfold entsV
  have h1 := lt_of_at hr
  have h2 := lt_of_at hi
  rw [List.take_add_one, List.take_add_one, hr, hi, List.zipWith_append (by simp; omega)]
  rfl
theorem long_snoc {cs : List Int} {rws : List Rv} {k : Nat} {r : Rv} (hr : rws[k]? = some r) : longV cs (rws.take (k + 1)) = (longV cs (rws.take k) || (keyO cs r.l).2 == 4) := by
  unfold longV
  rw [List.take_add_one, hr, List.any_append]
  simp
theorem bad_snoc {cs : List Int} {rws : List Rv} {k : Nat} {r : Rv} (hr : rws[k]? = some r) : badV cs (rws.take (k + 1)) = (badV cs (rws.take k) || (keyO cs r.l).2 == 1) := by
  unfold badV
  rw [List.take_add_one, hr, List.any_append]
  simp
theorem bad_at {cs : List Int} {rws : List Rv} {k : Nat} {r : Rv} (hr : rws[k]? = some r) (h : (keyO cs r.l).2 = 1) : badV cs rws = true := by
  unfold badV
  rw [List.any_eq_true]
  exact ⟨r, List.mem_of_getElem? hr, by rw [h]; rfl⟩
theorem key_err (cs : List Int) (l : List Vl) : (keyO cs l).2 = 1 ∨ (keyO cs l).2 = 4 ∨ (keyO cs l).2 = 0 := by
  unfold keyO
  split
  · exact .inl rfl
  · split
    · exact .inl rfl
    · split
      · exact .inr (.inl rfl)
      · exact .inr (.inr rfl)
/-- What the entries come to. -/
def RetEs (w : World) (cs : List Int) (rws : List Rv) (ris : List Ri) (e : Ending) (w' : World) : Prop :=
  Below w.heap.size w w' ∧ (if rws.length ≠ ris.length ∨ badV cs rws = true then e = .returned (.tuple #[.slice none 0 0, .int .i64 1])
    else if longV cs rws = true then e = .returned (.tuple #[.slice none 0 0, .int .i64 4])
    else ∃ (A : Option Addr) (c : Nat), e = .returned (.tuple #[.slice A ris.length c, .int .i64 0]) ∧ Reads w' w'.heap.size 3 A ris.length (vE (sortE (entsV cs rws ris))))

set_option maxRecDepth 100000 in
set_option maxHeartbeats 8000000 in
theorem entries_any (CA : Option Addr) (cn cc : Nat) (cs : List Int) (RA : Option Addr) (rn rc : Nat) (rws : List Rv) (IA : Option Addr) (kn kc : Nat) (ris : List Ri) (w : World) (hm : MaxC w) (hC : Reads w w.heap.size 1 CA cn (vI64 cs)) (hcn : cn ≤ 20) (hR : RowsIn w RA rn rws) (hsz : ∀ r ∈ rws, ∀ v ∈ r.l, v.s.size ≤ 5000) (hK : Reads w w.heap.size 2 IA kn (vRi ris)) (hrn : rn ≤ 100000) (hkn : kn ≤ 100000) :
    Calls Tryz.prog 10 #[.slice CA cn cc, .slice RA rn rc, .slice IA kn kc] w (RetEs w cs rws ris) := by
  obtain ⟨i1, hi1, hz1, hs1, hy1⟩ := int_info8 Tryz.infoE13
  have hl : rws.length = rn := by have := hR.r.1; rw [vRv_len] at this; omega
  have hkl : ris.length = kn := by have := hK.1; rw [vRi_len] at this; omega
  have rI : (rn : Int) ≤ 100000 := by omega
  have kI : (kn : Int) ≤ 100000 := by omega
  have H0 := Lib.hid (And.intro hl (And.intro hkl (And.intro hm (And.intro hR hsz))))
  have KO := Lib.hid fun (r : Rv) (hr : r ∈ rws) (W : World) (hb : Below w.heap.size w W) => keyOf_any CA cn cc cs r.A r.n r.c r.l W (hm.below0 hb) ((hC.below hb).more hb.size) hcn (((hR.e r hr).1.below hb).more hb.size) (hR.e r hr).2.2 (hsz r hr) (hR.e r hr).2.1
  clear hl hkl hm hsz hC
  by_cases hq : rn = kn
  · subst hq
    go_enter Tryz.func10, Tryz.ntmps10
    go_wp2_with fail
    go_loopw [8, 9, 21] (fun u8 u9 u21 wr => ∃ (k : Nat) (A8 : Option Addr) (c8 : Nat), u8 = .slice A8 k c8 ∧ u9 = .bool (longV cs (rws.take k)) ∧ u21 = .int .i64 k ∧ k ≤ rn ∧ badV cs (rws.take k) = false ∧ wr.ownsRow w.heap.size 53 3 (.slice A8 k c8) k (vE (entsV cs (rws.take k) (ris.take k))) ∧ Below w.heap.size w wr) (fun _ _ u21 _ => rn - (intOf u21).toNat)
    case atStart => exact ⟨0, none, 0, rfl, rfl, rfl, by omega, rfl, ⟨rfl, .inl ⟨rfl, rfl⟩⟩, Below.refl _ _⟩
    case round =>
      obtain ⟨k, A8, c8, rfl, rfl, rfl, hk, hbad, hown, hb⟩ := hrel
      have k0 : (0 : Int) ≤ (k : Int) := by omega
      have HI := Lib.hid (And.intro hbad (And.intro hown hb))
      clear hbad hown
      by_cases hlt : k < rn
      · have k1 : (k : Int) < (rn : Int) := by omega
        obtain ⟨ad, r, rfl, hab, hr, dr⟩ := (hR.below hb).r.rv_ hlt
        obtain ⟨ad2, i, rfl, hab2, hi, e0, e1⟩ := (hK.below hb).ri hlt
        have hlong := long_snoc (cs := cs) hr
        have hbadn := bad_snoc (cs := cs) hr
        have hents := ents_snoc (cs := cs) hr hi
        have hbat := fun h => bad_at (cs := cs) hr h
        have HA := Lib.hid (And.intro hlong (And.intro hbadn (And.intro hents hbat)))
        have K := Lib.hid (KO.out r (List.mem_of_getElem? hr))
        have hke := key_err cs r.l
        have he : entR cs r i = ⟨(keyO cs r.l).1, i.p, i.q⟩ := rfl
        rw [he] at HA
        clear hlong hbadn hents hbat hr hi he
        obtain ⟨⟨S, E⟩, hSE⟩ : ∃ x, keyO cs r.l = x := ⟨_, rfl⟩
        rw [hSE] at HA K hke
        clear hSE
        simp only at HA K hke
        have hbz := hb.size
        have E2 := fun (W : World) (hW : Below wr.heap.size wr W) => And.intro ((hW.cell (by simp only [block_of_add]; have := hb.size; omega)).trans e0) ((hW.cell (p := ⟨(ad2.add (k * 2)).block, (ad2.add (k * 2)).off + 1, none⟩) (by simp only [block_of_add]; have := hb.size; omega)).trans e1)
        have HE2 := Lib.hid E2
        clear E2 e0 e1 hb
        rcases hke with rfl | rfl | rfl
        · go_wp2_with fail
          refine (K.out _ HI.out.2.2).mono ?_
          rintro e w5 ⟨rfl, hb5⟩
          have hbw := bto0 HI.out.2.2 hb5
          clear hb5
          go_wp2
          go_ret2
          refine ⟨hbw, ?_⟩
          rw [if_pos (.inr (HA.out.2.2.2 (by first | trivial | rfl)))]
          rfl
        · obtain ⟨b, hbq⟩ : ∃ b, longV cs (rws.take k) = b := ⟨_, rfl⟩
          rw [hbq] at HA ⊢
          have HQ := Lib.hid hbq
          clear hbq
          cases b
          all_goals
            go_wp2_with (first
              | (go_at_call 25; (refine (K.out _ HI.out.2.2).mono ?_); rintro e w5 ⟨rfl, hb5⟩; have hbw := bto0 HI.out.2.2 hb5; obtain ⟨e50, e51⟩ := HE2.out w5 hb5; have own5 := own_belowE HI.out.2.1 hb5; have hz5 := hbw.size)
              | (at_builtin; refine wpList_pushR (news := En.cells ⟨S, i.p, i.q⟩) rfl (.tmp 40) (.tmp 47) 40 rfl w.heap.size 53 i1 _ 3 24 Tryz.underlying40 hi1 hz1 hs1 hy1 rfl (by decide) (.slice A8 k c8) k _ (by first | rfl | (simp [Act.eval, Act.put]; done)) own5 rfl _ (by first | rfl | (simp [Act.eval, Act.put]; done)) (by first | rfl | simp) rfl (cells_oneE _) (by omega) (by omega) hz5 ?_; intro v8 w8 own8 hg8 _; obtain ⟨A9, c9, rfl, hc9⟩ := own_form own8; have hb8 : Below w.heap.size w w8 := (ball hbw _).grown hg8 (by simp; omega) (fun g e => (World.ownsRow.lt own5 g e).1))
              | fail)
            have e8 : vE (entsV cs (rws.take k) (ris.take k)) ++ En.cells ⟨S, i.p, i.q⟩ = vE (entsV cs (rws.take (k + 1)) (ris.take (k + 1))) := by rw [HA.out.2.2.1]; simp [vE]
            rw [e8] at own8
            refine ⟨⟨k + 1, A9, c9, rfl, by rw [HA.out.1]; rfl, by go_num, by omega, by rw [HA.out.2.1, HI.out.1]; rfl, own8, hb8⟩, by simp [intOf]; omega⟩
        · obtain ⟨b, hbq⟩ : ∃ b, longV cs (rws.take k) = b := ⟨_, rfl⟩
          rw [hbq] at HA ⊢
          have HQ := Lib.hid hbq
          clear hbq
          cases b
          all_goals
            go_wp2_with (first
              | (go_at_call 25; (refine (K.out _ HI.out.2.2).mono ?_); rintro e w5 ⟨rfl, hb5⟩; have hbw := bto0 HI.out.2.2 hb5; obtain ⟨e50, e51⟩ := HE2.out w5 hb5; have own5 := own_belowE HI.out.2.1 hb5; have hz5 := hbw.size)
              | (at_builtin; refine wpList_pushR (news := En.cells ⟨S, i.p, i.q⟩) rfl (.tmp 40) (.tmp 47) 40 rfl w.heap.size 53 i1 _ 3 24 Tryz.underlying40 hi1 hz1 hs1 hy1 rfl (by decide) (.slice A8 k c8) k _ (by first | rfl | (simp [Act.eval, Act.put]; done)) own5 rfl _ (by first | rfl | (simp [Act.eval, Act.put]; done)) (by first | rfl | simp) rfl (cells_oneE _) (by omega) (by omega) hz5 ?_; intro v8 w8 own8 hg8 _; obtain ⟨A9, c9, rfl, hc9⟩ := own_form own8; have hb8 : Below w.heap.size w w8 := (ball hbw _).grown hg8 (by simp; omega) (fun g e => (World.ownsRow.lt own5 g e).1))
              | fail)
            have e8 : vE (entsV cs (rws.take k) (ris.take k)) ++ En.cells ⟨S, i.p, i.q⟩ = vE (entsV cs (rws.take (k + 1)) (ris.take (k + 1))) := by rw [HA.out.2.2.1]; simp [vE]
            rw [e8] at own8
            refine ⟨⟨k + 1, A9, c9, rfl, by rw [HA.out.1]; rfl, by go_num, by omega, by rw [HA.out.2.1, HI.out.1]; rfl, own8, hb8⟩, by simp [intOf]; omega⟩
      · obtain rfl : k = rn := by omega
        have k1 : ¬ (k : Int) < (k : Int) := by omega
        have hT1 : rws.take k = rws := List.take_of_length_le (by rw [H0.out.1]; exact Nat.le_refl _)
        have hT2 : ris.take k = ris := List.take_of_length_le (by rw [H0.out.2.1]; exact Nat.le_refl _)
        rw [hT1, hT2] at HI
        rw [hT1]
        clear hT1 hT2 hb
        have hnb : ¬ (rws.length ≠ ris.length ∨ badV cs rws = true) := by
          rw [H0.out.1, H0.out.2.1, HI.out.1]
          simp
        have HNB := Lib.hid hnb
        clear hnb
        have hkl : (entsV cs rws ris).length = k := by
          have := HI.out.2.1.1
          rw [vE_len] at this
          omega
        have hsr := sortE_any (entsV cs rws ris) k A8 c8 w.heap.size wr HI.out.2.1 (by omega)
        have SR := Lib.hid hsr
        clear hsr hkl
        cases hlg : longV cs rws
        · have HLG := Lib.hid hlg
          clear hlg
          go_wp2_with fail
          refine SR.out.mono ?_
          rintro e w5 ⟨rfl, own5, hg5⟩
          have hbw : Below w.heap.size w w5 := HI.out.2.2.grown hg5 HI.out.2.2.size (fun g e => (World.ownsRow.lt HI.out.2.1 g e).1)
          clear hg5
          have HO5 := Lib.hid (Reads.of_own own5)
          clear own5
          go_wp2
          go_ret2
          refine ⟨hbw, ?_⟩
          rw [if_neg HNB.out, if_neg (by rw [HLG.out]; simp), H0.out.2.1]
          exact ⟨A8, c8, rfl, HO5.out⟩
        · have HLG := Lib.hid hlg
          clear hlg
          go_wp2
          go_ret2
          refine ⟨HI.out.2.2, ?_⟩
          rw [if_neg HNB.out, if_pos HLG.out]
          rfl
  · have hq' : ¬ (rn : Int) = (kn : Int) := by omega
    have hne : ((rn : Int) != (kn : Int)) = true := by simpa using hq'
    go_enter Tryz.func10, Tryz.ntmps10
    go_wp2
    go_ret2
    refine ⟨Below.refl _ _, ?_⟩
    rw [if_pos (.inl (by rw [H0.out.1, H0.out.2.1]; exact hq))]
    rfl
end
end Go.Proofs.YtgndebdoljnheaaGreatDoor
/-
  Places of rows as they come in.
-/
namespace Go.Proofs.YtgndebdoljnheaaGreatDoor
section
set_option linter.unusedSimpArgs false
set_option linter.unusedVariables false
open Go.RowKit Go.ChangeShapes Go.WideShapes Go.Deep

section
variable {H : Type} {enc : TypeId × Value → H} {P : Program} {w : World} {base : Nat} {spare : Nat → Bool} {held : Bool}
theorem trod_ri13 {t tk ti : TypeId} {fs : Array Field} {n : Nat} {cs : List Value} {y : DataW H × List MemPlace} (ht : P.underlying t = some (.struct fs)) (hone : oneCellFields P fs = true) (hC : P.cellsOf t = 2) (hf : fs.toList.map (·.type) = [tk, ti])
    (hk : P.underlying tk = some (.int .u32)) (hi : P.underlying ti = some (.int .u16)) (h : DataW.trod enc P w base spare held n t cs = some y) :
    ∃ a b : Int, cs = [.int .u32 a, .int .u16 b] ∧ (0 ≤ a ∧ a ≤ 4294967295) ∧ (0 ≤ b ∧ b ≤ 65535) := by
  obtain ⟨xs, m, _, _, hlen, hxl, hfd⟩ := DataW.trod_struct ht h
  rw [hC] at hlen
  match cs, hlen with
  | [c0, c1], _ =>
    have hfs : fs.size = 2 := by have := congrArg List.length hf; simpa using this
    obtain ⟨l⟩ := fs
    match l, hfs, hf with
    | [f0, f1], _, hf =>
      simp only [List.map_cons, List.map_nil, List.cons.injEq, and_true] at hf
      obtain ⟨rfl, rfl⟩ := hf
      match xs, hxl with
      | [y0, y1], _ =>
        obtain ⟨o0, k0⟩ := hone_of hone 0 f0 rfl
        obtain ⟨o1, k1⟩ := hone_of hone 1 f1 rfl
        have e0 := hfd 0 f0 rfl
        have e1 := hfd 1 f1 rfl
        rw [o0, k0] at e0; rw [o1, k1] at e1
        obtain ⟨a, ha, _, wa⟩ := DataW.trod_int hk e0
        obtain ⟨b, hb, _, wb⟩ := DataW.trod_int hi e1
        simp at ha hb
        subst ha; subst hb
        exact ⟨a, b, rfl, Go.bounds_u32 wa, Go.bounds_u16 wb⟩
theorem trod_ris {t e tk ti : TypeId} {fs : Array Field} {n : Nat} {cs : List Value} {y : DataW H × List MemPlace} (ht : P.underlying t = some (.slice e)) (he : P.underlying e = some (.struct fs)) (hone : oneCellFields P fs = true) (hC : P.cellsOf e = 2) (hf : fs.toList.map (·.type) = [tk, ti])
    (hk : P.underlying tk = some (.int .u32)) (hi : P.underlying ti = some (.int .u16)) (h : DataW.trod enc P w base spare held n t cs = some y) :
    ∃ (A : Option Addr) (len cap : Nat) (l : List Ri), cs = [.slice A len cap] ∧ len ≤ maxLen ∧ Reads w w.heap.size 2 A len (vRi l) := by
  obtain ⟨A, len, cap, L, rfl, h1, h2, h3, h4, h5⟩ := trod_sl (fun c => ∃ v : Ri, c = v.cells ∧ True) ht hC (by omega) (fun m c y hc _ => by
    obtain ⟨a, b, rfl, _, _⟩ := trod_ri13 he hone hC hf hk hi hc
    exact ⟨⟨a, b⟩, rfl, trivial⟩) h
  obtain ⟨l, rfl, hl⟩ := ex_of18 Ri.cells (fun _ => True) L fun c hc => (h4 c hc).1
  refine ⟨A, len, cap, l, rfl, by omega, ?_⟩
  have : (l.map Ri.cells).flatMap id = vRi l := by unfold vRi; rw [List.flatMap_map]; rfl
  rwa [this] at h5
end
end
end Go.Proofs.YtgndebdoljnheaaGreatDoor

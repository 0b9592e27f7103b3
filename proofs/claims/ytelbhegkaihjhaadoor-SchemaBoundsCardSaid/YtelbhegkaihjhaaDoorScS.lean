/-
  The law of keys' bounds: its cases, and an argument that is a row of parts. Conditions: as each theorem states.
-/
import Derived.Test.YtelbhegkaihjhaaDoorScR
import Derived.Test.YtelbhegkaihjhaaDoorKyT
namespace Go.Proofs.YtelbhegkaihjhaaDoor
open Go.ChangeShapes Go.WideShapes Go.ChangeAt Go.RowKit
open Vi

set_option maxRecDepth 100000 in
theorem open_parts2 {H : Type} {enc : TypeId × Value → H} {W : World} {ao : Option Addr} {len cap fuel : Nat} {x : DataW H × List MemPlace}
    (h : DataW.trod enc Tryd.prog W 0 (fun _ => true) true fuel 44 [.slice ao len cap] = some x) :
    ∃ l : List KPart, l.length = len ∧ PRow W ao l ∧ len ≤ 9223372036854775807 ∧ (∀ p ∈ l, p.ok ∧ p.s.size ≤ 9223372036854775807) ∧ (ao = none → len = 0 ∧ cap = 0) := by
  rcases Go.Deep.open_slice Tryd.underlying44 h with ⟨hcs, _⟩ | ⟨a, n, c, m, nf, D, Pl, hcs, hb, hl, hm, hmm, hx, hcell⟩
  · simp at hcs
    obtain ⟨rfl, rfl, rfl⟩ := hcs
    exact ⟨[], rfl, fun h => by simp at h, by decide, (fun p hp => by cases hp), fun _ => ⟨rfl, rfl⟩⟩
  · simp at hcs
    obtain ⟨rfl, rfl, rfl⟩ := hcs
    have hm2 : m = cap := by simpa using hmm
    subst hm2
    unfold maxLen at hm
    have each : ∀ i, i < len → ∃ p : KPart, PCells W (a.add (i * 4)) p ∧ p.ok ∧ p.s.size ≤ 9223372036854775807 := fun i hi => by
      obtain ⟨cs', h1, h2⟩ := hcell i (by omega)
      rw [cellsPart] at h1
      exact open_part h1 h2
    obtain ⟨q, hq⟩ := Go.Deep.choose_lt (α := KPart) each
    refine ⟨(List.range len).map q, by simp, fun h0 => ?_, by omega, fun p hp => ?_, fun h => by cases h⟩
    · refine ⟨a, rfl, ?_, fun i hi => ?_⟩
      · have := cell_lt (hq 0 (by simpa using h0)).1.1
        rwa [block_add] at this
      · have hi' : i < len := by simpa using hi
        simp only [List.getElem_map, List.getElem_range]
        exact (hq i hi').1
    · obtain ⟨i, hi, rfl⟩ := List.mem_map.1 hp
      exact (hq i (List.mem_range.1 hi)).2
theorem rmake_row' {w : World} (v : Value) (B : Nat) (l : List KPart) (hl : l.length ≤ 6) (ho : w.ownsRow B 46 4 v l.length (l.flatMap KPart.cells)) (hok : ∀ p ∈ l, p.ok ∧ p.s.size ≤ 1000) :
    Calls Tryd.prog 18 #[v] w fun e w' => e = .returned (.tuple #[.string (bs (mkGo [] l).1), .int .i64 (mkGo [] l).2]) ∧ Below w.heap.size w w' := by
  obtain ⟨A, c, rfl, hp⟩ := rprow_of_owns ho
  exact rmake_any A c l (by omega) hp hok
theorem bounds_ends {w : World} (s : ByteArray) (T : List UInt8) (A : Option Addr) (c : Nat) (l : List KPart) (hl : l.length ≤ 5) (hs : s.size ≤ 300) (hr : PRow w A l) (hA : A = none → l = [] ∧ c = 0) (hok : ∀ p ∈ l, p.ok ∧ p.s.size ≤ 9223372036854775807) (m : Int) (hm : Cell0 m w)
    (hsm : ∀ k (h : k < l.length), l[k].s.size ≤ 300) : Ends w s A c l T := by
  have hks : ∀ p ∈ kText s :: l, p.ok ∧ p.s.size ≤ 1000 := fun p hp => by
    rcases List.mem_cons.1 hp with rfl | hp
    · exact ⟨kok_text s, by show s.size ≤ 1000; omega⟩
    · obtain ⟨i, hi, rfl⟩ := List.getElem_of_mem hp
      have := hsm i hi
      exact ⟨(hok _ hp).1, by omega⟩
  have hk2 : ∀ p ∈ kText s :: l, p.ok ∧ p.s.size ≤ 9223372036854775807 := fun p hp => ⟨(hks p hp).1, by have := (hks p hp).2; omega⟩
  have rm : RmC w s l (mkGo [] (kText s :: l)).1 (mkGo [] (kText s :: l)).2 := fun W v h => rmake_row' v _ (kText s :: l) (by simp; omega) h hks
  obtain ⟨K, E, hmk⟩ : ∃ K E, mkGo [] (kText s :: l) = (K, E) := ⟨_, _, rfl⟩
  rw [hmk] at rm
  by_cases hE : E = 0
  · subst hE
    obtain ⟨hb1, hb2⟩ := mkGo_bytes _ _ _ hmk
    have hshort := mkGo_short _ _ _ hmk (by simp)
    have hpt := hb2 (kText s) (by simp)
    have hs2 : s.size ≤ 200 := by
      by_cases h : s.size ≤ 200
      · exact h
      · rw [pbytes_l (p := kText s) rfl (by show 200 < s.size; omega)] at hpt; cases hpt
    have hc : K = 116 :: ((esc s.data.toList ++ [0, 0]) ++ l.flatMap (fun p => (pbytes p).1)) := by
      rw [hb1, List.nil_append, List.flatMap_cons, pb_text hs2]; rfl
    obtain ⟨B, AF, nb, gt, hT⟩ := bounds_of K (by omega) 116 _ hc (by decide)
    have un : UnC w s A c l K B := fun W hW => by
      cases A with
      | none =>
        obtain ⟨rfl, rfl⟩ := hA rfl
        exact under_ok0 s (by omega) [] (by simp) rfl hk2 m (cell0_on hm hW) K B hmk AF
      | some a =>
        have hr2 := hr.below hW (Nat.le_refl _)
        refine under_ok s (by omega) l hl a c (fun h => ?_) (fun i hi => ?_) hk2 m (cell0_on hm hW) K B hmk AF
        · obtain ⟨a', e, h2, _⟩ := hr2 h; injection e with e; subst e; exact h2
        · obtain ⟨a', e, _, h2⟩ := hr2 (by omega); injection e with e; subst e; exact h2 i hi
    have e := hT T
    have mk := fun x1 x5 x3 (h1 : Op.bytesLess T K = x1) (h5 : Op.bytesLess T B = x5) (h3 : Lib.hasPrefix T K = x3) => (EndOk.mk un rm nb (bl_asymm K B gt) (bl_ne gt) h1 h5 h3 : EndOk w s A c l T K B x1 x5 x3)
    cases h1 : Op.bytesLess T K
    · cases h5 : Op.bytesLess T B
      · rw [h1, h5] at e
        exact .inr (.inr (.inl ⟨K, B, mk _ _ _ h1 h5 e.symm⟩))
      · rw [h1, h5] at e
        exact .inr (.inr (.inr ⟨K, B, mk _ _ _ h1 h5 e.symm⟩))
    · rw [h1] at e
      exact .inr (.inl ⟨K, B, _, mk _ _ _ h1 rfl e.symm⟩)
  · have un : UnC w s A c l [] [] := fun W hW => by
      cases A with
      | none =>
        obtain ⟨rfl, rfl⟩ := hA rfl
        exact under_err0 s (by omega) [] (by simp) rfl hk2 m (cell0_on hm hW) K E (by simpa using hE) hmk
      | some a =>
        have hr2 := hr.below hW (Nat.le_refl _)
        refine under_err s (by omega) l hl a c (fun h => ?_) (fun i hi => ?_) hk2 m (cell0_on hm hW) K E (by simpa using hE) hmk
        · obtain ⟨a', e, h2, _⟩ := hr2 h; injection e with e; subst e; exact h2
        · obtain ⟨a', e, _, h2⟩ := hr2 (by omega); injection e with e; subst e; exact h2 i hi
    exact .inl ⟨K, E, un, rm, by simpa using hE⟩
theorem bounds_walk {w : World} (s T : ByteArray) (A : Option Addr) (c : Nat) (l : List KPart) (hl : l.length ≤ 9223372036854775807) (hs : s.size ≤ 9223372036854775807) (hT : T.size ≤ 9223372036854775807) (hr : PRow w A l) (hA : A = none → l.length = 0 ∧ c = 0) (hok : ∀ p ∈ l, p.ok ∧ p.s.size ≤ 9223372036854775807) (m : Int) (hm : Cell0 m w) :
    Calls Tryd.prog 4 #[.string s, .slice A l.length c, .string T] w fun e w' => e = .returned (.bool true) ∧ Below w.heap.size w w' := by
  by_cases h1 : 5 < l.length
  · exact bounds_heavy s T A c l.length hl hs hT m hm (.inl h1)
  by_cases h2 : 300 < s.size
  · exact bounds_heavy s T A c l.length hl hs hT m hm (.inr (.inl ⟨h1, h2⟩))
  by_cases h3 : 300 < T.size
  · exact bounds_heavy s T A c l.length hl hs hT m hm (.inr (.inr ⟨h1, h2, h3⟩))
  have := bounds_light s T.data.toList A c l (by omega) (by omega) (by rw [size_len]; omega) hr hok m hm (fun hsm => bounds_ends s T.data.toList A c l (by omega) (by omega) hr (fun h => ⟨List.eq_nil_of_length_eq_zero (hA h).1, (hA h).2⟩) hok m hm hsm)
  rw [bs_of] at this
  exact this
end Go.Proofs.YtelbhegkaihjhaaDoor

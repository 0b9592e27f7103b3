/-
  What an act leaves of a disk, for both disks alike: Rename, Read, a crash. Conditions: as each theorem states.
-/
import Derived.Test.YtpeobjnamflibaaDkPb
namespace Go.Proofs.Ytpeobjnamflibaa.Dk
open Go.RowKit Go.Maps
theorem minus_ek (L : List Ent) (x : List UInt8) : (L.filter (fun y => decide (y.name ≠ x))).map ek = minus (L.map ek) x := by
  unfold minus
  rw [List.filter_map]
  rfl
section
variable {S : Sta} {n : Int}
theorem rename_two (hk : Ok S n) (hn : n ≤ 1000) (s t : ByteArray) (hs : s.size ≤ 100) (hts : t.size ≤ 100) :
    ∃ code S2, Ok S2 (n + 1) ∧ PDoes S 17 (fun p => #[p, .string s, .string t]) (.int .i64 code) S2 ∧ RDoes S 18 (fun p => #[p, .string s, .string t]) (.int .i64 code) S2 := by
  have hs1 : Hid (s.size ≤ maxLen) := Lib.hid (by unfold maxLen; omega)
  have ht1 : Hid (t.size ≤ maxLen) := Lib.hid (by unfold maxLen; omega)
  have ht2 : Hid (t.size ≤ 281474976710656) := Lib.hid (by omega)
  obtain ⟨T, room, steps, fuse, fault, down⟩ := S
  by_cases hx : ∃ t ∈ T, t.1 = s.data.toList
  · have hown : ∃ own : Int, (isNm t.data.toList = false ∧ own = 12) ∨ (isNm t.data.toList = true ∧ own = 0) := by
      cases hnm : isNm t.data.toList
      · exact ⟨12, Or.inl ⟨rfl, rfl⟩⟩
      · exact ⟨0, Or.inr ⟨rfl, rfl⟩⟩
    cases down with
    | true =>
      obtain ⟨own, ho⟩ := hown
      refine ⟨13, _, hk.same, fun {w d m L} h => ?_, fun {w q v R} _ h => ?_⟩
      · exact (rename_down h.1.disk s t).mono (fun _ _ ⟨e, hw⟩ => ⟨e, L, hw ▸ h, hw ▸ Moves.refl _ _⟩)
      · exact (rrename_fails h.1 s t ht1 (Or.inr ⟨(mem_rk h.2).2 hx, ho⟩) (Or.inl ⟨rfl, rfl, rfl, rfl, rfl, rfl⟩) rfl).mono (fun _ _ ⟨e, h2, hm⟩ => ⟨e, v, _, ⟨h2, h.2⟩, hm⟩)
    | false =>
      cases hnm : isNm t.data.toList with
      | false =>
        refine ⟨12, _, hk.same, fun {w d m L} h => ?_, fun {w q v R} _ h => ?_⟩
        · obtain ⟨e, he, hne⟩ := (mem_ek h.2).2 hx
          exact (rename_name h.1 s t hs1 ht1 he hne hnm).mono (fun _ _ ⟨e, hw⟩ => ⟨e, L, hw ▸ h, hw ▸ Moves.refl _ _⟩)
        · exact (rrename_fails h.1 s t ht1 (Or.inr ⟨(mem_rk h.2).2 hx, Or.inl ⟨hnm, rfl⟩⟩) (Or.inr (Or.inl ⟨rfl, rfl, rfl, rfl, rfl, rfl, rfl⟩)) rfl).mono (fun _ _ ⟨e, h2, hm⟩ => ⟨e, v, _, ⟨h2, h.2⟩, hm⟩)
      | true =>
        rcases step_ways hk hn with ⟨code, fault', down', hc, hb, hf⟩ | hcs
        · refine ⟨code, _, hk.fails (down' := down') hb, fun {w d m L} h => ?_, fun {w q v R} _ h => ?_⟩
          · obtain ⟨e, he, hne⟩ := (mem_ek h.2).2 hx
            exact (rename_fails h.1 s t hs1 ht1 he hne hnm (hf room)).mono (fun _ _ ⟨e, h2, hm⟩ => ⟨e, _, ⟨h2, h.2⟩, hm⟩)
          · exact (rrename_fails h.1 s t ht1 (Or.inr ⟨(mem_rk h.2).2 hx, Or.inr ⟨hnm, rfl⟩⟩) (Or.inr (Or.inr (Or.inl ⟨rfl, rfl, hf 0, rfl, rfl⟩))) hc).mono (fun _ _ ⟨e, h2, hm⟩ => ⟨e, v, _, ⟨h2, h.2⟩, hm⟩)
        · obtain ⟨A, y, B, rfl, ht, hA⟩ := tri_split hx
          refine ⟨0, _, hk.does (minus (minus (A ++ y :: B) s.data.toList) t.data.toList ++ [(t.data.toList, y.2.1, y.2.2)]), fun {w d m L} h => ?_, fun {w q v R} _ h => ?_⟩
          · have hd := h.nd
            obtain ⟨X, e, Y, rfl, hX, he, hY⟩ := ek_split h.2
            refine (rename_ok h.1 s t hs1 ht1 ht2 (by rw [← ht, ← he]; rfl) hnm hcs).mono (fun _ _ ⟨e1, h2, hm⟩ => ⟨e1, _, ⟨h2, ?_⟩, hm⟩)
            show (renamed X Y e t.data.toList).map ek = _
            unfold renamed
            rw [List.map_append, minus_ek, List.map_append, hX, hY, ← ht, minus_mid hd, ← he]
            rfl
          · have hR := h.2
            obtain ⟨X, f, Y, rfl, hX, hf', hY, hfn, hXn⟩ := rk_split h.2 ht hA
            subst hfn
            refine (rrename_ok h.1 hXn t ht1 hnm hcs).mono (fun _ _ ⟨e1, v', h2, hm⟩ => ⟨e1, v', _, ⟨h2, ?_⟩, hm⟩)
            show (without (without (X ++ f :: Y) f.name) t ++ [(⟨t, f.s, f.sure⟩ : RFile)]).map rk = _
            rw [List.map_append, minus_rk (minus_rk hR), ← hf']
            rfl
  · cases down with
    | true =>
      refine ⟨13, _, hk.same, fun {w d m L} h => ?_, fun {w q v R} _ h => ?_⟩
      · exact (rename_down h.1.disk s t).mono (fun _ _ ⟨e, hw⟩ => ⟨e, L, hw ▸ h, hw ▸ Moves.refl _ _⟩)
      · exact (rrename_fails h.1 s t ht1 (Or.inl ⟨rfl, no_rk h.2 hx⟩) (Or.inl ⟨rfl, rfl, rfl, rfl, rfl, rfl⟩) rfl).mono (fun _ _ ⟨e, h2, hm⟩ => ⟨e, v, _, ⟨h2, h.2⟩, hm⟩)
    | false =>
      refine ⟨16, _, hk.same, fun {w d m L} h => ?_, fun {w q v R} _ h => ?_⟩
      · exact (rename_none h.1 s t hs1 (no_ek h.2 hx)).mono (fun _ _ ⟨e, hw⟩ => ⟨e, L, hw ▸ h, hw ▸ Moves.refl _ _⟩)
      · exact (rrename_fails h.1 s t ht1 (Or.inl ⟨rfl, no_rk h.2 hx⟩) (Or.inr (Or.inl ⟨rfl, rfl, rfl, rfl, rfl, rfl, rfl⟩)) rfl).mono (fun _ _ ⟨e, h2, hm⟩ => ⟨e, v, _, ⟨h2, h.2⟩, hm⟩)

/-! ### Read -/
theorem read_two (S : Sta) (s : ByteArray) (hs : Hid (s.size ≤ maxLen)) :
    ∃ (b : ByteArray) (code : Int), (∀ {w : World} {d m : Nat} {L : List Ent}, DA w d m L S → Calls Try.prog 12 #[.pointer (some ⟨d, 0, none⟩), .string s] w fun e w' => e = .returned (.tuple #[.string b, .int .i64 code]) ∧ w = w') ∧
      (∀ {w : World} {q : Nat} {v : Value} {R : List RFile}, RA w q v R S → Calls Try.prog 21 #[.pointer (some ⟨q, 0, none⟩), .string s] w fun e w' => e = .returned (.tuple #[.string b, .int .i64 code]) ∧ Below w.heap.size w w') := by
  obtain ⟨T, room, steps, fuse, fault, down⟩ := S
  cases down with
  | true => exact ⟨⟨#[]⟩, 13, fun h => read_down h.1.disk s, fun h => (rread_down h.1 s).mono (fun _ _ ⟨e, hw⟩ => ⟨e, hw ▸ Below.refl _ _⟩)⟩
  | false =>
    by_cases hx : ∃ t ∈ T, t.1 = s.data.toList
    · obtain ⟨A, y, B, rfl, ht, hA⟩ := tri_split hx
      refine ⟨⟨y.2.1.toArray⟩, 0, fun {w d m L} h => ?_, fun {w q v R} h => ?_⟩
      · obtain ⟨X, e, Y, rfl, hX, he, hY⟩ := ek_split h.2
        have := read_ok h.1 s hs (e := e) (by simp) (by rw [← ht, ← he]; rfl)
        have hb : y.2.1 = e.bytes := by rw [← he]; rfl
        rw [hb]; exact this
      · obtain ⟨X, f, Y, rfl, hX, hf', hY, hfn, hXn⟩ := rk_split h.2 ht hA
        subst hfn
        have := rread_hit h.1 hXn
        have hb : (⟨y.2.1.toArray⟩ : ByteArray) = f.s := by rw [← hf']; exact ByteArray.ext (by simp [rk])
        rw [hb]; exact this
    · exact ⟨⟨#[]⟩, 16, fun h => read_none h.1 s hs (no_ek h.2 hx), fun h => rread_miss h.1 s (no_rk h.2 hx)⟩
theorem loose_two (S : Sta) (s : ByteArray) (hs : Hid (s.size ≤ maxLen)) (hx : ∃ t ∈ S.T, t.1 = s.data.toList) :
    ∃ k : Int, (∀ {w : World} {d m : Nat} {L : List Ent}, DA w d m L S → Calls Try.prog 34 #[.pointer (some ⟨d, 0, none⟩), .string s] w fun e w' => e = .returned (.int .i64 k) ∧ Below w.heap.size w w') ∧
      (∀ {w : World} {q : Nat} {v : Value} {R : List RFile}, RA w q v R S → Calls Try.prog 35 #[.pointer (some ⟨q, 0, none⟩), .string s] w fun e w' => e = .returned (.int .i64 k) ∧ Below w.heap.size w w') := by
  obtain ⟨T, room, steps, fuse, fault, down⟩ := S
  obtain ⟨A, y, B, rfl, ht, hA⟩ := tri_split hx
  refine ⟨((y.2.1.length - y.2.2 : Nat) : Int), fun {w d m L} h => ?_, fun {w q v R} h => ?_⟩
  · obtain ⟨X, e, Y, rfl, hX, he, hY⟩ := ek_split h.2
    refine (loose_ok h.1 s hs (e := e) (by simp) (by rw [← ht, ← he]; rfl)).mono (fun _ _ ⟨e1, n, hw⟩ => ⟨?_, hw ▸ below_drewN (Below.refl _ _) n⟩)
    rw [e1, ← he]; rfl
  · obtain ⟨X, f, Y, rfl, hX, hf', hY, hfn, hXn⟩ := rk_split h.2 ht hA
    subst hfn
    refine (rloose_hit h.1 hXn).mono (fun _ _ ⟨e1, hb⟩ => ⟨?_, hb⟩)
    have hsu := h.1.sure f (by simp)
    rw [e1, ← hf']
    show Ending.returned (.int .i64 ((f.s.size : Int) - (f.sure : Int))) = Ending.returned (.int .i64 ((f.s.data.toList.length - f.sure : Nat) : Int))
    have hl : f.s.data.toList.length = f.s.size := by rw [Array.length_toList]; rfl
    rw [hl]
    congr 3
    omega

/-! ### a crash -/
def Sta.crashed (S : Sta) (T : List Tri) : Sta := ⟨T, S.room, S.steps, -1, -1, false⟩
theorem Ok.crashed (h : Ok S n) (T : List Tri) : Ok (S.crashed T) (n + 1) := ⟨h.r0, h.r1, h.s0, by have := h.s1; show S.steps ≤ _; omega, by show (-1 : Int) ≤ -1; omega, by show (-1 : Int) ≤ _; omega, by show (-1 : Int) ≤ -1; omega, by show (-1 : Int) ≤ _; omega⟩
theorem nd_rk {R : List RFile} {T : List Tri} (h : R.map rk = T) (hd : T.Pairwise (fun a b => a.1 ≠ b.1)) : R.Pairwise (fun a b => a.name ≠ b.name) := by
  subst h
  rw [List.pairwise_map] at hd
  exact hd.imp (fun hab he => hab (by simp only [rk, he]))
theorem crash_two {w : World} {d m q : Nat} {v : Value} {L : List Ent} {R : List RFile} (hL : L.map ek = S.T) (hR : R.map rk = S.T) (fates : List FateS) (hfl : fates.length ≤ 9223372036854775807) :
    ∃ T2, (∀ {w : World} {d m : Nat} {L : List Ent} (fv : Value), DA w d m L S → FatesAt w fv fates → (0 < fates.length → ∀ a n c, fv = .slice (some a) n c → a.block ∉ feet d m L ∧ a.block < w.heap.size) →
        Calls Try.prog 13 #[.pointer (some ⟨d, 0, none⟩), fv] w fun r w' => r = .returned (.tuple #[]) ∧ ∃ L2, DA w' d m L2 (S.crashed T2) ∧ Moves w (feet d m L) w' (feet d m L2)) ∧
      (∀ {w : World} {q : Nat} {v : Value} {R : List RFile} (fv : Value), S.T.Pairwise (fun a b => a.1 ≠ b.1) → RA w q v R S → FatesAt w fv fates → (0 < fates.length → ∀ a n c, fv = .slice (some a) n c → a.block ∉ rfeet q v ∧ a.block < w.heap.size) →
        Calls Try.prog 25 #[.pointer (some ⟨q, 0, none⟩), fv] w fun r w' => r = .returned (.tuple #[]) ∧ ∃ v2 R2, RA w' q v2 R2 (S.crashed T2) ∧ Moves w (rfeet q v) w' (rfeet q v2)) := by
  refine ⟨crashT fates ((listI R).map tl) 0 S.T, fun {w d m L'} fv h hfv hfb => ?_, fun {w q v R'} fv hd h hfv hfb => ?_⟩
  · refine (crash_any h.1 fv fates hfv hfb hfl).mono (fun _ _ ⟨e, ss, L2, hs, hp, h1, h2, hm⟩ => ⟨e, L2, ⟨h2, ?_⟩, hm⟩)
    have hn : L'.map Ent.name = R.map (fun f => f.name.data.toList) := by
      have := congrArg (List.map (fun t : Tri => t.1)) (h.2.trans hR.symm)
      rwa [List.map_map, List.map_map] at this
    rw [hn] at hp
    have he : ss = (listI R).map tl := names_eq hs hp
    show L2.map ek = _
    rw [h1, crash_ek, h.2, he]; rfl
  · refine (rcrash_any h.1 (nd_rk h.2 hd) fv fates hfv hfb hfl).mono (fun _ _ ⟨e, R2, h1, h2, hm⟩ => ⟨e, v, R2, ⟨h2, ?_⟩, hm⟩)
    have hn : (listI R').map tl = (listI R).map tl := by
      have hp : ((listI R').map tl).Perm (R.map (fun f => f.name.data.toList)) := by
        have h3 := (listI_perm _ R' rfl).map tl
        rw [List.map_map] at h3
        have h4 : R'.map (tl ∘ (·.name)) = R.map (fun f => f.name.data.toList) := by
          have := congrArg (List.map (fun t : Tri => t.1)) (h.2.trans hR.symm)
          rwa [List.map_map, List.map_map] at this
        rw [h4] at h3
        exact h3
      have hs : ((listI R').map tl).Pairwise (fun a b => a ≤ b) := by
        rw [List.pairwise_map]
        exact (listI_sorted _ R' rfl).imp (fun hab => hab)
      exact names_eq hs hp
    show R2.map rk = _
    rw [h1, h.2, hn]; rfl
end
end Go.Proofs.Ytpeobjnamflibaa.Dk

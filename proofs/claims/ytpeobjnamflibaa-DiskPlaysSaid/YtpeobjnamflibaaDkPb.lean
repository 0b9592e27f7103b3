/-
  What an act leaves of a disk, for both disks alike: Sync, Append, Delete. Conditions: as each theorem states.
-/
import Derived.Test.YtpeobjnamflibaaDkPa
namespace Go.Proofs.Ytpeobjnamflibaa.Dk
open Go.RowKit Go.Maps
section
variable {S : Sta} {n : Int}
theorem sync_two (hk : Ok S n) (hn : n ≤ 1000) (s : ByteArray) (hs : s.size ≤ 100) :
    ∃ code S2, Ok S2 (n + 1) ∧ PDoes S 15 (fun p => #[p, .string s]) (.int .i64 code) S2 ∧ RDoes S 16 (fun p => #[p, .string s]) (.int .i64 code) S2 := by
  have hs1 : Hid (s.size ≤ maxLen) := Lib.hid (by unfold maxLen; omega)
  obtain ⟨T, room, steps, fuse, fault, down⟩ := S
  by_cases hx : ∃ t ∈ T, t.1 = s.data.toList
  · obtain ⟨A, t, B, rfl, ht, hA⟩ := tri_split hx
    cases down with
    | true =>
      refine ⟨13, _, hk.same, fun {w d m L} h => ?_, fun {w q v R} _ h => ?_⟩
      · exact (sync_down h.1.disk s).mono (fun _ _ ⟨e, hw⟩ => ⟨e, L, hw ▸ h, hw ▸ Moves.refl _ _⟩)
      · obtain ⟨X, f, Y, rfl, hX, hf, hY, hfn, hXn⟩ := rk_split h.2 ht hA
        subst hfn
        exact (rsync_fails h.1 hXn (Or.inl ⟨rfl, rfl, rfl, rfl, rfl, rfl⟩) rfl).mono (fun _ _ ⟨e, h2, hm⟩ => ⟨e, v, _, ⟨h2, h.2⟩, hm⟩)
    | false =>
      rcases step_ways hk hn with ⟨code, fault', down', hc, hb, hf⟩ | hcs
      · refine ⟨code, _, hk.fails (down' := down') hb, fun {w d m L} h => ?_, fun {w q v R} _ h => ?_⟩
        · obtain ⟨X, e, Y, rfl, hX, he, hY⟩ := ek_split h.2
          exact (sync_fails h.1 s hs1 (e := e) (by simp) (by rw [← ht, ← he]; rfl) (hf room)).mono (fun _ _ ⟨e, h2, hm⟩ => ⟨e, _, ⟨h2, h.2⟩, hm⟩)
        · obtain ⟨X, f, Y, rfl, hX, hf', hY, hfn, hXn⟩ := rk_split h.2 ht hA
          subst hfn
          exact (rsync_fails h.1 hXn (Or.inr (Or.inr (Or.inl ⟨rfl, rfl, hf 0, rfl, rfl⟩))) hc).mono (fun _ _ ⟨e, h2, hm⟩ => ⟨e, v, _, ⟨h2, h.2⟩, hm⟩)
      · refine ⟨0, _, hk.does (A ++ (t.1, t.2.1, t.2.1.length) :: B), fun {w d m L} h => ?_, fun {w q v R} _ h => ?_⟩
        · obtain ⟨X, e, Y, rfl, hX, he, hY⟩ := ek_split h.2
          refine (sync_ok h.1 s hs1 (by rw [← ht, ← he]; rfl) hcs).mono (fun _ _ ⟨e1, h2, hm⟩ => ⟨e1, _, ⟨h2, ?_⟩, hm⟩)
          rw [List.map_append, List.map_cons, hX, hY, ← he]; rfl
        · obtain ⟨X, f, Y, rfl, hX, hf', hY, hfn, hXn⟩ := rk_split h.2 ht hA
          subst hfn
          refine (rsync_ok h.1 hXn hcs).mono (fun _ _ ⟨e1, h2, hm⟩ => ⟨e1, v, _, ⟨h2, ?_⟩, hm⟩)
          rw [List.map_append, List.map_cons, hX, hY, ← hf']; rfl
  · cases down with
    | true =>
      refine ⟨13, _, hk.same, fun {w d m L} h => ?_, fun {w q v R} _ h => ?_⟩
      · exact (sync_down h.1.disk s).mono (fun _ _ ⟨e, hw⟩ => ⟨e, L, hw ▸ h, hw ▸ Moves.refl _ _⟩)
      · exact (rsync_miss h.1 s (no_rk h.2 hx) (Or.inl ⟨rfl, rfl, rfl, rfl, rfl, rfl⟩)).mono (fun _ _ ⟨e, h2, hm⟩ => ⟨e, v, _, ⟨h2, h.2⟩, hm⟩)
    | false =>
      refine ⟨16, _, hk.same, fun {w d m L} h => ?_, fun {w q v R} _ h => ?_⟩
      · exact (sync_none h.1 s hs1 (no_ek h.2 hx)).mono (fun _ _ ⟨e, hw⟩ => ⟨e, L, hw ▸ h, hw ▸ Moves.refl _ _⟩)
      · exact (rsync_miss h.1 s (no_rk h.2 hx) (Or.inr (Or.inl ⟨rfl, rfl, rfl, rfl, rfl, rfl, rfl⟩))).mono (fun _ _ ⟨e, h2, hm⟩ => ⟨e, v, _, ⟨h2, h.2⟩, hm⟩)

/-! ### Append -/
def usedT (T : List Tri) : Nat := (T.map fun t => t.2.1.length).sum
theorem used_ek {L : List Ent} {T : List Tri} (h : L.map ek = T) : usedL L = usedT T := by subst h; simp only [usedT, usedL, List.map_map]; rfl
theorem used_rk {R : List RFile} {T : List Tri} (h : R.map rk = T) : usedR R = usedT T := by subst h; simp only [usedT, usedR, List.map_map]; rfl
theorem append_two (hk : Ok S n) (hn : n ≤ 1000) (s t : ByteArray) (hs : s.size ≤ 100) (htz : t.size ≤ 3000) :
    ∃ code S2, Ok S2 (n + 1) ∧ PDoes S 11 (fun p => #[p, .string s, .string t]) (.int .i64 code) S2 ∧ RDoes S 26 (fun p => #[p, .string s, .string t]) (.int .i64 code) S2 := by
  have hs1 : Hid (s.size ≤ maxLen) := Lib.hid (by unfold maxLen; omega)
  have ht1 : t.size ≤ 9223372036854775807 := by omega
  obtain ⟨T, room, steps, fuse, fault, down⟩ := S
  have hr0 : 0 ≤ room := hk.r0
  have hr1 : room ≤ 16777216 := hk.r1
  by_cases hx : ∃ t ∈ T, t.1 = s.data.toList
  · obtain ⟨A, y, B, rfl, ht, hA⟩ := tri_split hx
    cases down with
    | true =>
      refine ⟨13, _, hk.same, fun {w d m L} h => ?_, fun {w q v R} _ h => ?_⟩
      · exact (append_down h.1.disk s t).mono (fun _ _ ⟨e, hw⟩ => ⟨e, L, hw ▸ h, hw ▸ Moves.refl _ _⟩)
      · obtain ⟨X, f, Y, rfl, hX, hf, hY, hfn, hXn⟩ := rk_split h.2 ht hA
        subst hfn
        by_cases hfull : room < ((usedR (X ++ f :: Y) : Nat) : Int) + (t.size : Int)
        · exact (rappend_full h.1 hXn t htz hr0 hr1 hfull (Or.inl ⟨rfl, rfl, rfl, rfl, rfl, rfl⟩)).mono (fun _ _ ⟨e, h2, hm⟩ => ⟨e, v, _, ⟨h2, h.2⟩, hm⟩)
        · exact (rappend_fails h.1 hXn t htz hr0 hr1 (by show _ ≤ room; omega) (Or.inl ⟨rfl, rfl, rfl, rfl, rfl, rfl⟩) rfl).mono (fun _ _ ⟨e, h2, hm⟩ => ⟨e, v, _, ⟨h2, h.2⟩, hm⟩)
    | false =>
      by_cases hfull : room < ((usedT (A ++ y :: B) : Nat) : Int) + (t.size : Int)
      · refine ⟨14, _, hk.same, fun {w d m L} h => ?_, fun {w q v R} _ h => ?_⟩
        · obtain ⟨e, he, hne⟩ := (mem_ek h.2).2 hx
          exact (append_full h.1 s t hs1 ht1 he hne hr0 hr1 (by rw [used_ek h.2]; exact hfull)).mono (fun _ _ ⟨e, h2, hm⟩ => ⟨e, L, ⟨h2, h.2⟩, hm⟩)
        · have hu := used_rk h.2
          obtain ⟨X, f, Y, rfl, hX, hf, hY, hfn, hXn⟩ := rk_split h.2 ht hA
          subst hfn
          exact (rappend_full h.1 hXn t htz hr0 hr1 (by rw [hu]; exact hfull) (Or.inr (Or.inl ⟨rfl, rfl, rfl, rfl, rfl, rfl, rfl⟩))).mono (fun _ _ ⟨e, h2, hm⟩ => ⟨e, v, _, ⟨h2, h.2⟩, hm⟩)
      · have hroom : ((usedT (A ++ y :: B) : Nat) : Int) + (t.size : Int) ≤ room := by omega
        rcases step_ways hk hn with ⟨code, fault', down', hc, hb, hf⟩ | hcs
        · refine ⟨code, _, hk.fails (down' := down') hb, fun {w d m L} h => ?_, fun {w q v R} _ h => ?_⟩
          · obtain ⟨e, he, hne⟩ := (mem_ek h.2).2 hx
            exact (append_fails h.1 s t hs1 ht1 he hne hr1 (by rw [used_ek h.2]; exact hroom) (hf room)).mono (fun _ _ ⟨e, h2, hm⟩ => ⟨e, L, ⟨h2, h.2⟩, hm⟩)
          · have hu := used_rk h.2
            obtain ⟨X, f, Y, rfl, hX, hf', hY, hfn, hXn⟩ := rk_split h.2 ht hA
            subst hfn
            exact (rappend_fails h.1 hXn t htz hr0 hr1 (by rw [hu]; exact hroom) (Or.inr (Or.inr (Or.inl ⟨rfl, rfl, hf 0, rfl, rfl⟩))) hc).mono (fun _ _ ⟨e, h2, hm⟩ => ⟨e, v, _, ⟨h2, h.2⟩, hm⟩)
        · refine ⟨0, _, hk.does (A ++ (y.1, y.2.1 ++ t.data.toList, y.2.2) :: B), fun {w d m L} h => ?_, fun {w q v R} _ h => ?_⟩
          · have hu := used_ek h.2
            obtain ⟨X, e, Y, rfl, hX, he, hY⟩ := ek_split h.2
            refine (append_ok h.1 s t hs1 ht1 (by rw [← ht, ← he]; rfl) hr1 (by rw [hu]; exact hroom) hcs).mono (fun _ _ ⟨e1, v', h2, hm⟩ => ⟨e1, _, ⟨h2, ?_⟩, hm⟩)
            rw [List.map_append, List.map_cons, hX, hY, ← he]; rfl
          · have hu := used_rk h.2
            obtain ⟨X, f, Y, rfl, hX, hf', hY, hfn, hXn⟩ := rk_split h.2 ht hA
            subst hfn
            refine (rappend_ok h.1 hXn t htz hr0 hr1 (by rw [hu]; exact hroom) hcs).mono (fun _ _ ⟨e1, h2, hm⟩ => ⟨e1, v, _, ⟨h2, ?_⟩, hm⟩)
            rw [List.map_append, List.map_cons, hX, hY, ← hf']
            simp [rk]
  · cases down with
    | true =>
      refine ⟨13, _, hk.same, fun {w d m L} h => ?_, fun {w q v R} _ h => ?_⟩
      · exact (append_down h.1.disk s t).mono (fun _ _ ⟨e, hw⟩ => ⟨e, L, hw ▸ h, hw ▸ Moves.refl _ _⟩)
      · exact (rappend_miss h.1 s (no_rk h.2 hx) t htz (Or.inl ⟨rfl, rfl, rfl, rfl, rfl, rfl⟩)).mono (fun _ _ ⟨e, h2, hm⟩ => ⟨e, v, _, ⟨h2, h.2⟩, hm⟩)
    | false =>
      refine ⟨16, _, hk.same, fun {w d m L} h => ?_, fun {w q v R} _ h => ?_⟩
      · exact (append_none h.1 s t hs1 (no_ek h.2 hx)).mono (fun _ _ ⟨e, hw⟩ => ⟨e, L, hw ▸ h, hw ▸ Moves.refl _ _⟩)
      · exact (rappend_miss h.1 s (no_rk h.2 hx) t htz (Or.inr (Or.inl ⟨rfl, rfl, rfl, rfl, rfl, rfl, rfl⟩))).mono (fun _ _ ⟨e, h2, hm⟩ => ⟨e, v, _, ⟨h2, h.2⟩, hm⟩)

/-! ### Delete -/
def minus (T : List Tri) (x : List UInt8) : List Tri := T.filter (fun t => decide (t.1 ≠ x))
theorem minus_rk {R : List RFile} {T : List Tri} {s : ByteArray} (h : R.map rk = T) : (without R s).map rk = minus T s.data.toList := by
  subst h
  unfold without minus
  rw [List.filter_map]
  congr 1
  refine List.filter_congr (fun f _ => ?_)
  by_cases hf : f.name = s
  · subst hf; simp [rk]
  · have hne : ¬ (f.name.data.toList = s.data.toList) := fun he => hf (toList_inj he)
    simp only [Function.comp_apply, rk, ne_eq, hf, hne, not_false_eq_true]
theorem minus_mid {A B : List Tri} {t : Tri} (hd : (A ++ t :: B).Pairwise (fun a b => a.1 ≠ b.1)) : minus (A ++ t :: B) t.1 = A ++ B := by
  rw [List.pairwise_append, List.pairwise_cons] at hd
  obtain ⟨_, ⟨h2, _⟩, h3⟩ := hd
  unfold minus
  rw [List.filter_append, List.filter_cons]
  simp only [ne_eq, not_true_eq_false, decide_false, Bool.false_eq_true, if_false]
  rw [List.filter_eq_self.2, List.filter_eq_self.2]
  · intro b hb; simpa using fun e => h2 b hb e.symm
  · intro a ha; simpa using h3 a ha t (by simp)
theorem delete_two (hk : Ok S n) (hn : n ≤ 1000) (s : ByteArray) (hs : s.size ≤ 100) :
    ∃ code S2, Ok S2 (n + 1) ∧ PDoes S 19 (fun p => #[p, .string s]) (.int .i64 code) S2 ∧ RDoes S 20 (fun p => #[p, .string s]) (.int .i64 code) S2 := by
  have hs1 : Hid (s.size ≤ maxLen) := Lib.hid (by unfold maxLen; omega)
  obtain ⟨T, room, steps, fuse, fault, down⟩ := S
  have hown : ∃ own : Int, ∀ {R : List RFile}, R.map rk = T → (own = 16 ∧ ∀ f ∈ R, f.name ≠ s) ∨ (own = 0 ∧ ∃ f ∈ R, f.name = s) := by
    by_cases hx : ∃ t ∈ T, t.1 = s.data.toList
    · exact ⟨0, fun h => Or.inr ⟨rfl, (mem_rk h).2 hx⟩⟩
    · exact ⟨16, fun h => Or.inl ⟨rfl, no_rk h hx⟩⟩
  cases down with
  | true =>
    obtain ⟨own, ho⟩ := hown
    refine ⟨13, _, hk.same, fun {w d m L} h => ?_, fun {w q v R} _ h => ?_⟩
    · exact (delete_down h.1.disk s).mono (fun _ _ ⟨e, hw⟩ => ⟨e, L, hw ▸ h, hw ▸ Moves.refl _ _⟩)
    · exact (rdelete_fails h.1 s (ho h.2) (Or.inl ⟨rfl, rfl, rfl, rfl, rfl, rfl⟩) rfl).mono (fun _ _ ⟨e, h2, hm⟩ => ⟨e, v, _, ⟨h2, h.2⟩, hm⟩)
  | false =>
    by_cases hx : ∃ t ∈ T, t.1 = s.data.toList
    · rcases step_ways hk hn with ⟨code, fault', down', hc, hb, hf⟩ | hcs
      · refine ⟨code, _, hk.fails (down' := down') hb, fun {w d m L} h => ?_, fun {w q v R} _ h => ?_⟩
        · obtain ⟨e, he, hne⟩ := (mem_ek h.2).2 hx
          exact (delete_fails h.1 s hs1 he hne (hf room)).mono (fun _ _ ⟨e, h2, hm⟩ => ⟨e, _, ⟨h2, h.2⟩, hm⟩)
        · exact (rdelete_fails h.1 s (Or.inr ⟨rfl, (mem_rk h.2).2 hx⟩) (Or.inr (Or.inr (Or.inl ⟨rfl, rfl, hf 0, rfl, rfl⟩))) hc).mono (fun _ _ ⟨e, h2, hm⟩ => ⟨e, v, _, ⟨h2, h.2⟩, hm⟩)
      · refine ⟨0, _, hk.does (minus T s.data.toList), fun {w d m L} h => ?_, fun {w q v R} _ h => ?_⟩
        · have hd := h.nd
          obtain ⟨A, y, B, rfl, ht, hA⟩ := tri_split hx
          obtain ⟨X, e, Y, rfl, hX, he, hY⟩ := ek_split h.2
          refine (delete_ok h.1 s hs1 (by rw [← ht, ← he]; rfl) hcs).mono (fun _ _ ⟨e1, h2, hm⟩ => ⟨e1, _, ⟨h2, ?_⟩, hm⟩)
          rw [List.map_append, hX, hY, ← ht]; exact (minus_mid hd).symm
        · exact (rdelete_ok h.1 s ((mem_rk h.2).2 hx) hcs).mono (fun _ _ ⟨e1, v', h2, hm⟩ => ⟨e1, v', _, ⟨h2, minus_rk h.2⟩, hm⟩)
    · refine ⟨16, _, hk.same, fun {w d m L} h => ?_, fun {w q v R} _ h => ?_⟩
      · exact (delete_none h.1 s hs1 (no_ek h.2 hx)).mono (fun _ _ ⟨e, hw⟩ => ⟨e, L, hw ▸ h, hw ▸ Moves.refl _ _⟩)
      · exact (rdelete_fails h.1 s (Or.inl ⟨rfl, no_rk h.2 hx⟩) (Or.inr (Or.inl ⟨rfl, rfl, rfl, rfl, rfl, rfl, rfl⟩)) rfl).mono (fun _ _ ⟨e, h2, hm⟩ => ⟨e, v, _, ⟨h2, h.2⟩, hm⟩)
end
end Go.Proofs.Ytpeobjnamflibaa.Dk

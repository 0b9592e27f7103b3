/-
  What an act leaves of a disk, told by triples, for the program's disk and the document's alike: Create, Sync, Delete. Conditions: as each theorem states.
-/
import Derived.Test.YtpeobjnamflibaaDkZi
namespace Go.Proofs.Ytpeobjnamflibaa.Dk
open Go.RowKit Go.Maps

/-- a disk as it is told: its files (name, bytes, how many last), numbers -/
structure Sta where
  T : List Tri
  room : Int
  steps : Int
  fuse : Int
  fault : Int
  down : Bool
structure Ok (S : Sta) (n : Int) : Prop where
  r0 : 0 ≤ S.room
  r1 : S.room ≤ 16777216
  s0 : 0 ≤ S.steps
  s1 : S.steps ≤ n
  f0 : -1 ≤ S.fuse
  f1 : S.fuse ≤ 9223372036854775807
  a0 : -1 ≤ S.fault
  a1 : S.fault ≤ 9223372036854775807
def DA (w : World) (d m : Nat) (L : List Ent) (S : Sta) : Prop := DiskAt w d m L S.room S.steps S.fuse S.fault S.down ∧ L.map ek = S.T
def RA (w : World) (q : Nat) (v : Value) (R : List RFile) (S : Sta) : Prop := RefAt w q v R S.room S.steps S.fuse S.fault S.down ∧ R.map rk = S.T
def PDoes (S : Sta) (f : Nat) (args : Value → Array Value) (r : Value) (S2 : Sta) : Prop :=
  ∀ {w : World} {d m : Nat} {L : List Ent}, DA w d m L S → Calls Try.prog f (args (.pointer (some ⟨d, 0, none⟩))) w fun e w' => e = .returned r ∧ ∃ L2, DA w' d m L2 S2 ∧ Moves w (feet d m L) w' (feet d m L2)
def RDoes (S : Sta) (f : Nat) (args : Value → Array Value) (r : Value) (S2 : Sta) : Prop :=
  ∀ {w : World} {q : Nat} {v : Value} {R : List RFile}, S.T.Pairwise (fun a b => a.1 ≠ b.1) → RA w q v R S → Calls Try.prog f (args (.pointer (some ⟨q, 0, none⟩))) w fun e w' => e = .returned r ∧ ∃ v2 R2, RA w' q v2 R2 S2 ∧ Moves w (rfeet q v) w' (rfeet q v2)
theorem DA.nd {w : World} {d m : Nat} {L : List Ent} {S : Sta} (h : DA w d m L S) : S.T.Pairwise (fun a b => a.1 ≠ b.1) := by
  rw [← h.2, List.pairwise_map]; exact h.1.names

/-! ### names -/
theorem mem_ek {L : List Ent} {T : List Tri} {x : List UInt8} (h : L.map ek = T) : (∃ e ∈ L, e.name = x) ↔ ∃ t ∈ T, t.1 = x := by
  subst h
  constructor
  · rintro ⟨e, he, rfl⟩; exact ⟨ek e, List.mem_map.2 ⟨e, he, rfl⟩, rfl⟩
  · rintro ⟨t, ht, rfl⟩
    obtain ⟨e, he, rfl⟩ := List.mem_map.1 ht
    exact ⟨e, he, rfl⟩
theorem mem_rk {R : List RFile} {T : List Tri} {s : ByteArray} (h : R.map rk = T) : (∃ f ∈ R, f.name = s) ↔ ∃ t ∈ T, t.1 = s.data.toList := by
  subst h
  constructor
  · rintro ⟨f, hf, rfl⟩; exact ⟨rk f, List.mem_map.2 ⟨f, hf, rfl⟩, rfl⟩
  · rintro ⟨t, ht, hn⟩
    obtain ⟨f, hf, rfl⟩ := List.mem_map.1 ht
    exact ⟨f, hf, toList_inj hn⟩
theorem no_ek {L : List Ent} {T : List Tri} {x : List UInt8} (h : L.map ek = T) (hn : ¬ ∃ t ∈ T, t.1 = x) : ∀ e ∈ L, e.name ≠ x := fun e he hx => hn ((mem_ek h).1 ⟨e, he, hx⟩)
theorem no_rk {R : List RFile} {T : List Tri} {s : ByteArray} (h : R.map rk = T) (hn : ¬ ∃ t ∈ T, t.1 = s.data.toList) : ∀ f ∈ R, f.name ≠ s := fun f hf hx => hn ((mem_rk h).1 ⟨f, hf, hx⟩)
/-- where the name stands first -/
theorem tri_split : ∀ {T : List Tri} {x : List UInt8}, (∃ t ∈ T, t.1 = x) → ∃ A t B, T = A ++ t :: B ∧ t.1 = x ∧ ∀ a ∈ A, a.1 ≠ x
  | [], _, h => by obtain ⟨_, h, _⟩ := h; cases h
  | a :: T, x, h => by
    by_cases ha : a.1 = x
    · exact ⟨[], a, T, rfl, ha, by simp⟩
    · obtain ⟨A, t, B, rfl, h1, h2⟩ := tri_split (T := T) (x := x) (by
        obtain ⟨t, ht, hx⟩ := h
        rcases List.mem_cons.1 ht with rfl | ht
        · exact absurd hx ha
        · exact ⟨t, ht, hx⟩)
      refine ⟨a :: A, t, B, rfl, h1, fun b hb => ?_⟩
      rcases List.mem_cons.1 hb with rfl | hb
      · exact ha
      · exact h2 b hb
theorem ek_split {L : List Ent} {A B : List Tri} {t : Tri} (h : L.map ek = A ++ t :: B) : ∃ X e Y, L = X ++ e :: Y ∧ X.map ek = A ∧ ek e = t ∧ Y.map ek = B := by
  obtain ⟨X, Z, rfl, hX, hZ⟩ := List.map_eq_append_iff.1 h
  obtain ⟨e, Y, rfl, he, hY⟩ := List.map_eq_cons_iff.1 hZ
  exact ⟨X, e, Y, rfl, hX, he, hY⟩
theorem rk_split {R : List RFile} {A B : List Tri} {t : Tri} {s : ByteArray} (h : R.map rk = A ++ t :: B) (ht : t.1 = s.data.toList) (hA : ∀ a ∈ A, a.1 ≠ s.data.toList) :
    ∃ X f Y, R = X ++ f :: Y ∧ X.map rk = A ∧ rk f = t ∧ Y.map rk = B ∧ f.name = s ∧ ∀ a ∈ X, a.name ≠ f.name := by
  obtain ⟨X, Z, rfl, hX, hZ⟩ := List.map_eq_append_iff.1 h
  obtain ⟨f, Y, rfl, hf, hY⟩ := List.map_eq_cons_iff.1 hZ
  have hn : f.name = s := toList_inj (by rw [← ht, ← hf]; rfl)
  refine ⟨X, f, Y, rfl, hX, hf, hY, hn, fun a ha he => hA (rk a) (by rw [← hX]; exact List.mem_map.2 ⟨a, ha, rfl⟩) ?_⟩
  show a.name.data.toList = _
  rw [he, hn]

/-! ### steps -/
theorem step_ways {S : Sta} {n : Int} (hk : Ok S n) (hn : n ≤ 1000) :
    (∃ code fault' down', (code == (0 : Int)) = false ∧ (-1 ≤ fault' ∧ fault' ≤ 9223372036854775807) ∧ ∀ room, StepFails room S.steps S.fuse S.fault code fault' down') ∨ CanStep S.steps S.fuse S.fault := by
  obtain ⟨_, _, _, s1, _, _, _, _⟩ := hk
  by_cases h1 : S.fuse = 0
  · exact Or.inl ⟨13, S.fault, true, rfl, ⟨by assumption, by assumption⟩, fun _ => Or.inl ⟨h1, rfl, rfl, rfl⟩⟩
  · by_cases h2 : S.fault = 0
    · exact Or.inl ⟨15, -1, false, rfl, ⟨by omega, by omega⟩, fun _ => Or.inr ⟨⟨by simpa using h1, h2, rfl, rfl, rfl⟩, rfl, rfl⟩⟩
    · exact Or.inr ⟨by simpa using h1, by simpa using h2, by assumption, by assumption, by assumption, by assumption, by assumption, by omega⟩
theorem tick_in {n : Int} (h0 : -1 ≤ n) (h1 : n ≤ 9223372036854775807) : -1 ≤ tick n ∧ tick n ≤ 9223372036854775807 := by unfold tick; split <;> omega
theorem Ok.same {S : Sta} {n : Int} (h : Ok S n) : Ok S (n + 1) := ⟨h.r0, h.r1, h.s0, by have := h.s1; omega, h.f0, h.f1, h.a0, h.a1⟩
theorem Ok.fails {S : Sta} {n : Int} (h : Ok S n) {fault' : Int} {down' : Bool} (hf : -1 ≤ fault' ∧ fault' ≤ 9223372036854775807) : Ok { S with fault := fault', down := down' } (n + 1) :=
  ⟨h.r0, h.r1, h.s0, by have := h.s1; show S.steps ≤ _; omega, h.f0, h.f1, hf.1, hf.2⟩
theorem Ok.does {S : Sta} {n : Int} (h : Ok S n) (T : List Tri) : Ok { S with T := T, steps := S.steps + 1, fuse := tick S.fuse, fault := tick S.fault, down := false } (n + 1) :=
  ⟨h.r0, h.r1, by have := h.s0; show 0 ≤ S.steps + 1; omega, by have := h.s1; show S.steps + 1 ≤ _; omega, (tick_in h.f0 h.f1).1, (tick_in h.f0 h.f1).2, (tick_in h.a0 h.a1).1, (tick_in h.a0 h.a1).2⟩

/-! ### Create -/
theorem createOwn_ex (R : List RFile) (s : ByteArray) : ∃ own, CreateOwn R s own := by
  cases hn : isNm s.data.toList
  · exact ⟨12, Or.inl ⟨hn, rfl⟩⟩
  · by_cases hx : ∃ f ∈ R, f.name = s
    · exact ⟨17, Or.inr (Or.inl ⟨hn, hx, rfl⟩)⟩
    · have hx' : ∀ f ∈ R, f.name ≠ s := fun f hf he => hx ⟨f, hf, he⟩
      by_cases hl : 200 ≤ R.length
      · exact ⟨6, Or.inr (Or.inr ⟨hn, hx', Or.inl ⟨hl, rfl⟩⟩)⟩
      · exact ⟨0, Or.inr (Or.inr ⟨hn, hx', Or.inr ⟨by omega, rfl⟩⟩)⟩
section
variable {S : Sta} {n : Int}
theorem create_two (hk : Ok S n) (hn : n ≤ 1000) (s : ByteArray) (hs : s.size ≤ 100) :
    ∃ code S2, Ok S2 (n + 1) ∧ PDoes S 10 (fun p => #[p, .string s]) (.int .i64 code) S2 ∧ RDoes S 14 (fun p => #[p, .string s]) (.int .i64 code) S2 := by
  have hs1 : Hid (s.size ≤ maxLen) := Lib.hid (by unfold maxLen; omega)
  have hs2 : Hid (s.size ≤ 281474976710656) := Lib.hid (by omega)
  obtain ⟨T, room, steps, fuse, fault, down⟩ := S
  cases down with
  | true =>
    refine ⟨13, _, hk.same, fun {w d m L} h => ?_, fun {w q v R} _ h => ?_⟩
    · exact (create_down h.1.disk s).mono (fun _ _ ⟨e, hw⟩ => ⟨e, L, hw ▸ h, hw ▸ Moves.refl _ _⟩)
    · obtain ⟨own, ho⟩ := createOwn_ex R s
      exact (rcreate_fails h.1 s hs1 ho (Or.inl ⟨rfl, rfl, rfl, rfl, rfl, rfl⟩) rfl).mono (fun _ _ ⟨e, h2, hm⟩ => ⟨e, v, R, ⟨h2, h.2⟩, hm⟩)
  | false =>
    have own_case : ∀ own : Int, (own == 0) = false → (∀ {w : World} {d m : Nat} {L : List Ent}, DA w d m L ⟨T, room, steps, fuse, fault, false⟩ → Calls Try.prog 10 #[.pointer (some ⟨d, 0, none⟩), .string s] w fun e w' => e = .returned (.int .i64 own) ∧ w = w') →
        (∀ {R : List RFile}, R.map rk = T → CreateOwn R s own) →
        ∃ code S2, Ok S2 (n + 1) ∧ PDoes ⟨T, room, steps, fuse, fault, false⟩ 10 (fun p => #[p, .string s]) (.int .i64 code) S2 ∧ RDoes ⟨T, room, steps, fuse, fault, false⟩ 14 (fun p => #[p, .string s]) (.int .i64 code) S2 := by
      intro own h0 hP hR
      refine ⟨own, _, hk.same, fun {w d m L} h => ?_, fun {w q v R} _ h => ?_⟩
      · exact (hP h).mono (fun _ _ ⟨e, hw⟩ => ⟨e, L, hw ▸ h, hw ▸ Moves.refl _ _⟩)
      · exact (rcreate_fails h.1 s hs1 (hR h.2) (Or.inr (Or.inl ⟨rfl, h0, rfl, rfl, rfl, rfl, rfl⟩)) h0).mono (fun _ _ ⟨e, h2, hm⟩ => ⟨e, v, R, ⟨h2, h.2⟩, hm⟩)
    cases hnm : isNm s.data.toList with
    | false => exact own_case 12 rfl (fun h => create_name h.1.disk s hs1 hnm) (fun _ => Or.inl ⟨hnm, rfl⟩)
    | true =>
      by_cases hx : ∃ t ∈ T, t.1 = s.data.toList
      · exact own_case 17 rfl (fun h => by obtain ⟨e, he, hne⟩ := (mem_ek h.2).2 hx; exact create_there h.1 s hs1 hnm he hne) (fun h => Or.inr (Or.inl ⟨hnm, (mem_rk h).2 hx, rfl⟩))
      · by_cases hl : 200 ≤ T.length
        · exact own_case 6 rfl (fun {w d m L} h => create_many h.1 s hs1 hnm (no_ek h.2 hx) (by
              have h1 := h.1.few
              have h2 := congrArg List.length h.2
              rw [List.length_map] at h2
              change L.length = T.length at h2
              omega))
            (fun {R} h => Or.inr (Or.inr ⟨hnm, no_rk h hx, Or.inl ⟨by have h2 := congrArg List.length h; rw [List.length_map] at h2; omega, rfl⟩⟩))
        · have lenL : ∀ {w : World} {d m : Nat} {L : List Ent}, DA w d m L ⟨T, room, steps, fuse, fault, false⟩ → L.length < 200 := by
            intro w d m L h
            have h2 := congrArg List.length h.2
            rw [List.length_map] at h2
            change L.length = T.length at h2
            omega
          have lenR : ∀ {R : List RFile}, R.map rk = T → R.length < 200 := by
            intro R h
            have h2 := congrArg List.length h
            rw [List.length_map] at h2
            omega
          rcases step_ways hk hn with ⟨code, fault', down', hc, hb, hf⟩ | hcs
          · refine ⟨code, _, hk.fails (down' := down') hb, fun {w d m L} h => ?_, fun {w q v R} _ h => ?_⟩
            · exact (create_fails h.1 s hs1 hnm (no_ek h.2 hx) (lenL h) (hf room)).mono (fun _ _ ⟨e, h2, hm⟩ => ⟨e, L, ⟨h2, h.2⟩, hm⟩)
            · exact (rcreate_fails h.1 s hs1 (own := 0) (Or.inr (Or.inr ⟨hnm, no_rk h.2 hx, Or.inr ⟨lenR h.2, rfl⟩⟩)) (Or.inr (Or.inr (Or.inl ⟨rfl, rfl, hf 0, rfl, rfl⟩))) hc).mono (fun _ _ ⟨e, h2, hm⟩ => ⟨e, v, R, ⟨h2, h.2⟩, hm⟩)
          · refine ⟨0, _, hk.does (T ++ [(s.data.toList, [], 0)]), fun {w d m L} h => ?_, fun {w q v R} _ h => ?_⟩
            · exact (create_ok h.1 s hs1 hs2 hnm (no_ek h.2 hx) (lenL h) hcs.hf hcs.ha hcs.b1 hcs.b2 hcs.b3 hcs.b4 hcs.b5 hcs.b6).mono (fun _ _ ⟨e, F, h2, hm⟩ => ⟨e, _, ⟨h2, by rw [List.map_append, h.2]; rfl⟩, hm⟩)
            · exact (rcreate_ok h.1 s hs1 hnm (no_rk h.2 hx) (lenR h.2) hcs).mono (fun _ _ ⟨e, v', h2, hm⟩ => ⟨e, v', _, ⟨h2, by rw [List.map_append, h.2]; rfl⟩, hm⟩)
end
end Go.Proofs.Ytpeobjnamflibaa.Dk

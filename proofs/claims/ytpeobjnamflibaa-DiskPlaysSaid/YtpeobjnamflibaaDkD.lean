/-
  The Go text of New and Create of a disk, walked. Conditions: as each theorem states.
-/
import Derived.Test.YtpeobjnamflibaaDkC
import Derived.Lib.AppendStr
import Derived.Deep.RegionHeld3
import Derived.Deep.QuietTactic
import Derived.BigQuiet
namespace Go.Proofs.Ytpeobjnamflibaa.Dk
open Go.RowKit Go.Maps

theorem new_any (room : Int) (h0 : 0 ≤ room) (h1 : room ≤ 16777216) (w : World) :
    Calls Try.prog 5 #[.int .i64 room] w fun e w' => e = .returned (.tuple #[.pointer (some ⟨w.heap.size + 1, 0, none⟩), .int .i64 0]) ∧
      DiskAt w' (w.heap.size + 1) w.heap.size [] room 0 (-1) (-1) false ∧ Below w.heap.size w w' := by
  have hmm := @run_makeMap Try.prog
  go_enter Try.func5, Try.ntmps5
  go_wp2
  go_ret2
  refine ⟨rfl, ⟨?_, ⟨.map [], ?_, ⟨(by intro x; simp [Maps.has_eq]), (by intro e he; cases he), rfl⟩⟩, (by intro e he; cases he), List.Pairwise.nil, (by intro e he; cases he), (by simp [feet]), (by simp), (by simp [usedL])⟩, ?_⟩
  · unfold DiskIs
    rw [show w.heap.size + 1 = (w.alloc (Obj.map #[] 0)).heap.size by simp]
    exact heap_alloc_new _ _
  · exact (World.ownsMap_made w _ _ _).alloc _
  · exact ((Below.refl _ _).alloc (Nat.le_refl _) _).alloc (by simp) _
theorem new_bad (room : Int) (h0 : room < 0 ∨ 16777216 < room) (w : World) :
    Calls Try.prog 5 #[.int .i64 room] w fun e w' => e = .returned (.tuple #[.pointer none, .int .i64 2]) ∧ w = w' := by
  by_cases h : room < 0
  · clear h0
    go_enter Try.func5, Try.ntmps5
    go_wp2
    go_ret2
    exact ⟨rfl, rfl⟩
  · have h1 : 16777216 < room := by omega
    have h2 : 0 ≤ room := by omega
    clear h0 h
    go_enter Try.func5, Try.ntmps5
    go_wp2
    go_ret2
    exact ⟨rfl, rfl⟩

theorem disk_ne {w : World} {d m : Nat} {L : List Ent} {room steps fuse fault : Int} {down : Bool} (h : DiskAt w d m L room steps fuse fault down) : m ≠ d := by
  intro e
  have := (List.nodup_cons.1 h.apart).1
  exact this (by simp [e])
theorem own_below {w w' : World} {m n B : Nat} {D : DataW Unit} (h : w.ownsMap Try.prog 9 ptrElem m n D) (hB : m < B) (hb : Below B w w') : w'.ownsMap Try.prog 9 ptrElem m n D := own_kept h (hb.block m hB)
theorem grown_cell {w w' : World} {m d j : Nat} {v : Value} (hg : w.grownBy w' (some m)) (hd : d < w.heap.size) (hne : m ≠ d) (h : w.cell? ⟨d, j, none⟩ = some v) : w'.cell? ⟨d, j, none⟩ = some v := by
  rw [World.cell?_of_block (a := ⟨d, j, none⟩) (hg.block d hd (by intro e; injection e with e; exact hne e.symm))]
  exact h
theorem upd_file {w : World} {m n : Nat} {D : DataW Unit} {s : ByteArray} (hs : s.size ≤ maxLen) (hown : w.ownsMap Try.prog 9 ptrElem m n D) (hn : n < maxLen) (F : Nat) :
    ∃ w', (Instr.mapUpdate 42 (.map (some m)) (.string s) (.pointer (some ⟨F, 0, none⟩))).run Try.prog w = .ok () w' ∧ w'.ownsMap Try.prog 9 ptrElem m (n + 1) (D.put (.string s.data.toList) (.lit (.int .i64 (F : Int)))) ∧ w.grownBy w' (some m) :=
  hown.update key9 Try.underlying42 hn (keyOf9 hs) (val := .pointer (some ⟨F, 0, none⟩)) (d := .lit (.int .i64 (F : Int))) (ps := []) rfl
theorem isNm_len {l : List UInt8} (h : isNm l = true) : l.length ≤ 32 := by
  unfold isNm at h; simp at h; omega
theorem isKey (x : List UInt8) : WideAt.IsKeyLit (.string x) := trivial
theorem lit_ne {x y : List UInt8} (h : x ≠ y) : Lit.string x ≠ Lit.string y := fun e => h (by injection e)
/-- a new file in the map -/
theorem mapIs_put {D : DataW Unit} {L : List Ent} (hT : Maps.Tidy D) (hM : MapIs D L) (e0 : Ent) (hne : ∀ e ∈ L, e.name ≠ e0.name) :
    MapIs (D.put (.string e0.name) (.lit (.int .i64 (e0.blk : Int)))) (L ++ [e0]) := by
  have hh : Maps.has D (.string e0.name) = false := by
    cases hb : Maps.has D (.string e0.name) with
    | false => rfl
    | true => obtain ⟨e, he, h⟩ := (hM.has _).1 hb; exact absurd h (hne e he)
  refine ⟨fun x => ?_, fun e he => ?_, ?_⟩
  · by_cases hx : x = e0.name
    · subst hx
      rw [Maps.has_put_same hT.isMap (isKey _)]
      simp
    · rw [Maps.has_put_other (lit_ne hx), hM.has x]
      constructor
      · rintro ⟨e, he, h⟩; exact ⟨e, by simp [he], h⟩
      · rintro ⟨e, he, h⟩
        rcases List.mem_append.1 he with he | he
        · exact ⟨e, he, h⟩
        · have : e = e0 := by simpa using he
          subst this; exact absurd h.symm hx
  · rcases List.mem_append.1 he with he | he
    · rw [Maps.atKey_put_other (lit_ne (hne e he))]; exact hM.here e he
    · have : e = e0 := by simpa using he
      subst this
      exact Maps.atKey_put_same hT.isMap (isKey _) _ _
  · rw [Maps.size_put hT, hh, hM.size]; simp
/-- the end of Create -/
theorem create_end {w1 W w3 : World} {d m F : Nat} {L : List Ent} {D : DataW Unit} {room steps fuse fault : Int} {down : Bool} {x : List UInt8} (h : DiskAt w1 d m L room steps fuse fault down) (hb : Below w1.heap.size w1 W)
    (hF : W.heap[F]? = some (.cells #[.slice none 0 0, .int .i64 0] 62 (0, 0))) (hFl : w1.heap.size ≤ F) (hx : x.length ≤ 32) (hne : ∀ e ∈ L, e.name ≠ x) (hfew : L.length < 200)
    (ho : w1.ownsMap Try.prog 9 ptrElem m L.length D) (hM : MapIs D L) (ho3 : w3.ownsMap Try.prog 9 ptrElem m (L.length + 1) (D.put (.string x) (.lit (.int .i64 (F : Int))))) (hg : W.grownBy w3 (some m)) :
    DiskAt w3 d m (L ++ [⟨x, [], 0, F, .slice none 0 0⟩]) room steps fuse fault down ∧ Moves w1 (feet d m L) w3 (feet d m (L ++ [⟨x, [], 0, F, .slice none 0 0⟩])) := by
  have hlt := h.lt
  have hml : m < w1.heap.size := hlt m (by simp [feet])
  have hkeep : ∀ k, k < W.heap.size → k ≠ m → w3.heap[k]? = W.heap[k]? := fun k hk hn => hg.block k hk (by intro e; injection e with e; exact hn e)
  have hk1 : ∀ k, k ∈ feet d m L → k ≠ m → w3.heap[k]? = w1.heap[k]? := fun k hk hn => (hkeep k (Nat.lt_of_lt_of_le (hlt k hk) hb.size) hn).trans (hb.block k (hlt k hk))
  have hap := h.apart
  have hnm : ∀ k ∈ L.flatMap Ent.foot, k ≠ m := by
    intro k hk e
    subst e
    exact (List.nodup_cons.1 (List.nodup_cons.1 hap).2).1 hk
  have hFnot : F ∉ feet d m L := fun hF' => by have := hlt F hF'; omega
  have hFlt : F < W.heap.size := (Array.getElem?_eq_some_iff.1 hF).1
  have hft : feet d m (L ++ [⟨x, [], 0, F, .slice none 0 0⟩]) = feet d m L ++ [F] := by simp [feet, Ent.foot, Value.ownBlock]
  refine ⟨⟨?_, ⟨_, by rw [List.length_append]; exact ho3, mapIs_put (ho.tidy key9) hM ⟨x, [], 0, F, .slice none 0 0⟩ hne⟩, ?_, ?_, ?_, ?_, (by simp; omega), (by have := h.vol; simpa [usedL] using this)⟩, ⟨⟨?_, ?_, ?_, ?_, ?_⟩, ?_⟩⟩
  · exact (hk1 d (by simp [feet]) (fun e => disk_ne h e.symm)).trans h.disk
  · intro e he
    rcases List.mem_append.1 he with he | he
    · exact (h.files e he).kept (fun k hk => hk1 k (mem_feet.2 (Or.inr (Or.inr ⟨e, he, hk⟩))) (hnm k (List.mem_flatMap.2 ⟨e, he, hk⟩)))
    · have : e = ⟨x, [], 0, F, .slice none 0 0⟩ := by simpa using he
      subst this
      exact ⟨(hkeep F hFlt (by omega)).trans hF, World.ownsRow_nil _ _ _ _, Nat.le_refl _⟩
  · rw [List.pairwise_append]
    exact ⟨h.names, by simp, fun a ha b hb' => by have : b = ⟨x, [], 0, F, .slice none 0 0⟩ := by simpa using hb'
                                                  subst this; exact hne a ha⟩
  · intro e he
    rcases List.mem_append.1 he with he | he
    · exact h.short e he
    · have : e = ⟨x, [], 0, F, .slice none 0 0⟩ := by simpa using he
      subst this; exact hx
  · rw [hft, List.nodup_append]
    exact ⟨hap, by simp, fun a ha b hb' e => by have : b = F := by simpa using hb'
                                                subst this; subst e; exact hFnot ha⟩
  · exact hg.os.trans hb.os
  · exact hg.tape.trans hb.tape
  · exact hg.output.trans hb.output
  · exact Nat.le_trans hb.size hg.size
  · exact fun k hk hn => (hkeep k (Nat.lt_of_lt_of_le hk hb.size) (fun e => hn (by simp [feet, e]))).trans (hb.block k hk)
  · intro k hk
    rw [hft] at hk
    rcases List.mem_append.1 hk with hk | hk
    · exact Or.inl hk
    · exact Or.inr (by have : k = F := by simpa using hk
                       omega)
theorem create_there {w : World} {d m : Nat} {L : List Ent} {room steps fuse fault : Int} (h : DiskAt w d m L room steps fuse fault false) (s : ByteArray) (hs : Hid (s.size ≤ maxLen))
    (hn : isNm s.data.toList = true) {e : Ent} (he : e ∈ L) (hne : e.name = s.data.toList) :
    Calls Try.prog 10 #[.pointer (some ⟨d, 0, none⟩), .string s] w fun e w' => e = .returned (.int .i64 17) ∧ w = w' := by
  obtain ⟨D, ho, hM⟩ := h.map
  have hl := look_hit ho hM hs.out he hne
  have c0 := disk0 h.disk
  have H := Lib.hid h
  clear h ho hM he hne
  go_enter Try.func10, Try.ntmps10
  go_wp2_with (first
    | (go_at_call 36; with_reducible refine (powered_any H.out.disk).mono ?_; rintro e w1 ⟨rfl, rfl⟩)
    | (go_at_call 37; with_reducible refine (isName_any s hs _).mono ?_; rintro e w1 ⟨rfl, rfl⟩))
  go_ret
  exact ⟨rfl, rfl⟩
set_option maxRecDepth 100000 in
theorem create_ok {w : World} {d m : Nat} {L : List Ent} {room steps fuse fault : Int} (h : DiskAt w d m L room steps fuse fault false) (s : ByteArray) (hs : Hid (s.size ≤ maxLen)) (hs' : Hid (s.size ≤ 281474976710656))
    (hn : isNm s.data.toList = true) (hne : ∀ e ∈ L, e.name ≠ s.data.toList) (hfew : L.length < 200)
    (hf : (fuse == 0) = false) (ha : (fault == 0) = false) (b1 : -1 ≤ fuse) (b2 : -1 ≤ fault) (b3 : fuse ≤ 9223372036854775807) (b4 : fault ≤ 9223372036854775807) (b5 : 0 ≤ steps) (b6 : steps < 9223372036854775807) :
    Calls Try.prog 10 #[.pointer (some ⟨d, 0, none⟩), .string s] w fun e w' => e = .returned (.int .i64 0) ∧ ∃ F, DiskAt w' d m (L ++ [⟨s.data.toList, [], 0, F, .slice none 0 0⟩]) room (steps + 1) (tick fuse) (tick fault) false ∧
      Moves w (feet d m L) w' (feet d m (L ++ [⟨s.data.toList, [], 0, F, .slice none 0 0⟩])) := by
  have hstep := Lib.hid (step_ok hf ha b1 b2 b3 b4 b5 b6 h.disk)
  obtain ⟨D, ho, hM⟩ := h.map
  have hl := look_miss ho hM hs.out hne
  have hlen := ho.len Try.underlying42
  rw [hM.size] at hlen
  have c0 := disk0 h.disk
  have H := Lib.hid h
  have HO := Lib.hid (And.intro ho hM)
  have hne' := Lib.hid hne
  clear h ho hM hne
  go_enter Try.func10, Try.ntmps10
  go_wp2_with (first
    | (go_at_call 36; with_reducible refine (powered_any H.out.disk).mono ?_; rintro e w1 ⟨rfl, rfl⟩)
    | (go_at_call 37; with_reducible refine (isName_any s hs _).mono ?_; rintro e w1 ⟨rfl, rfl⟩)
    | (go_at_call 38; with_reducible refine (Hid.out hstep).mono ?_; rintro e w1 ⟨rfl, hd1, hg1⟩))
  obtain ⟨hD1, hMv1⟩ := H.out.step hd1 hg1
  have hown1 := own_kept HO.out.1 (hg1.block m (H.out.lt m (by simp [feet])) (by intro e; injection e with e; exact disk_ne H.out e))
  have c0' := disk0 hD1.disk
  have hdl : d < w1.heap.size := hD1.lt d (by simp [feet])
  have hml : m < w1.heap.size := hD1.lt m (by simp [feet])
  have hdm : m ≠ d := disk_ne hD1
  have HD1 := Lib.hid (And.intro hD1 (And.intro hMv1 hown1))
  clear hD1 hMv1 hown1 hd1 hg1 c0
  go_region_held3 (fun wx => wx.cell? ⟨d, 0, none⟩ = some (.map (some m))) (first | go_keep | (rw [hb2.cell (p := ⟨d, 0, none⟩) (by simp; omega)]; go_keep) | (refine grown_cell hgrow3 (by first | omega | (simp; omega)) hdm ?_; first | assumption | go_keep))
    (first
      | (go_at_call 39; refine (clone_any s _ hs').mono ?_; rintro e w2 ⟨rfl, hb2⟩; have hz2 : w1.heap.size ≤ w2.heap.size := by (have := hb2.size; simp at this; omega))
      | (obtain ⟨w3, hrun3, hown3, hgrow3⟩ := upd_file hs.out ((own_below HD1.out.2.2.drew (by simp; omega) hb2).alloc (Obj.cells #[.slice none 0 0, .int .i64 0] 62)) (by unfold maxLen; omega) w2.heap.size
         rw [hrun3]
         simp only [Result.andThen]
         rw [Oper.upon_skip])
      | (obtain ⟨w3, hrun3, hown3, hgrow3⟩ := upd_file hs.out (own_below (HD1.out.2.2.alloc (Obj.cells #[.slice none 0 0, .int .i64 0] 62)).drew (by simp; omega) hb2) (by unfold maxLen; omega) w1.heap.size
         rw [hrun3]
         simp only [Result.andThen]
         rw [Oper.upon_skip]))
  · go_wp2
    go_ret
    refine ⟨rfl, w2.heap.size, ?_⟩
    obtain ⟨e1, e2⟩ := create_end HD1.out.1 (((Below.refl _ w1).drew.trans hb2).alloc hz2 _) (heap_alloc_new w2 _) hz2 (isNm_len hn) hne'.out hfew HD1.out.2.2 HO.out.2 hown3 hgrow3
    exact ⟨e1, HD1.out.2.1.trans e2⟩
  · go_wp2
    go_ret
    refine ⟨rfl, w1.heap.size, ?_⟩
    obtain ⟨e1, e2⟩ := create_end HD1.out.1 (((Below.refl _ w1).alloc (Nat.le_refl _) _).drew.trans (hb2.mono (by simp))) ((hb2.block w1.heap.size (by simp)).trans (heap_alloc_new w1 _)) (Nat.le_refl _) (isNm_len hn) hne'.out hfew HD1.out.2.2 HO.out.2 hown3 hgrow3
    exact ⟨e1, HD1.out.2.1.trans e2⟩
end Go.Proofs.Ytpeobjnamflibaa.Dk

/-
  The document's own disk: its names in order. Conditions: as each theorem states.
-/
import Derived.Test.YtpeobjnamflibaaDkZb
namespace Go.Proofs.Ytpeobjnamflibaa.Dk
open Go.RowKit Go.Maps

def ltB (a b : ByteArray) : Bool := Op.bytesLess a.toList b.toList
/-- one round of the insertion -/
def stepI (s : ByteArray) (p : List ByteArray × Bool) (x : ByteArray) : List ByteArray × Bool := if p.2 = false ∧ ltB s x = true then (p.1 ++ [s, x], true) else (p.1 ++ [x], p.2)
def foldI (s : ByteArray) (l : List ByteArray) : List ByteArray × Bool := l.foldl (stepI s) ([], false)
def insI (s : ByteArray) (l : List ByteArray) : List ByteArray := if (foldI s l).2 then (foldI s l).1 else (foldI s l).1 ++ [s]
def listI (L : List RFile) : List ByteArray := L.foldl (fun out f => insI f.name out) []
theorem foldI_take {s : ByteArray} {l : List ByteArray} {k : Nat} (hk : k < l.length) : foldI s (l.take (k + 1)) = stepI s (foldI s (l.take k)) l[k] := by
  unfold foldI
  rw [List.take_succ_eq_append_getElem hk, List.foldl_append]; rfl
theorem foldI_len (s : ByteArray) (l : List ByteArray) : (foldI s l).1.length ≤ l.length + 1 ∧ ((foldI s l).2 = false → (foldI s l).1.length = l.length) := by
  have key : ∀ (l : List ByteArray) (p : List ByteArray × Bool) (n : Nat), p.1.length ≤ n + 1 → (p.2 = false → p.1.length = n) → ((l.foldl (stepI s) p).1.length ≤ n + l.length + 1 ∧ ((l.foldl (stepI s) p).2 = false → (l.foldl (stepI s) p).1.length = n + l.length)) := by
    intro l
    induction l with
    | nil => intro p n h1 h2; exact ⟨by simpa using h1, by simpa using h2⟩
    | cons x l ih =>
      intro p n h1 h2
      rw [List.foldl_cons]
      have := ih (stepI s p x) (n + 1) (by
        unfold stepI
        by_cases h : p.2 = false ∧ ltB s x = true
        · rw [if_pos h]; have := h2 h.1; simp; omega
        · rw [if_neg h]; simp; omega) (by
        unfold stepI
        by_cases h : p.2 = false ∧ ltB s x = true
        · rw [if_pos h]; simp
        · rw [if_neg h]; intro h3; have := h2 h3; simp; omega)
      refine ⟨by have := this.1; simp; omega, fun h3 => by have := this.2 h3; simp; omega⟩
  have := key l ([], false) 0 (by simp) (by simp)
  simpa [foldI] using this
theorem insI_len (s : ByteArray) (l : List ByteArray) : (insI s l).length ≤ l.length + 1 := by
  have h := foldI_len s l
  unfold insI
  split
  · exact h.1
  · rename_i h3; have := h.2 (by simpa using h3); simp; omega
theorem listI_take {L : List RFile} {k : Nat} (hk : k < L.length) : listI (L.take (k + 1)) = insI L[k].name (listI (L.take k)) := by
  unfold listI
  rw [List.take_succ_eq_append_getElem hk, List.foldl_append]; rfl
theorem listI_len : ∀ (k : Nat) (L : List RFile), L.length = k → (listI L).length ≤ k
  | 0, L, h => by rw [List.length_eq_zero_iff.1 h]; simp [listI]
  | k + 1, L, h => by
    have hk : k < L.length := by omega
    have := listI_take hk
    rw [List.take_of_length_le (by omega)] at this
    rw [this]
    have h1 := listI_len k (L.take k) (by simp; omega)
    have h2 := insI_len L[k].name (listI (L.take k))
    omega
theorem info9 : (Try.prog.info? 9).map (fun i => (i.zero, i.size, i.bytes)) = some (some (.string ⟨#[]⟩), 1, 16) := by kernel_rfl
def sv (l : List ByteArray) : List Value := l.map Value.string
theorem sv_len (l : List ByteArray) : (sv l).length = l.length := by simp [sv]
theorem sv_snoc (l : List ByteArray) (x : ByteArray) : sv l ++ [.string x] = sv (l ++ [x]) := by simp [sv]
/-- a row of texts that is owned, read -/
theorem sv_cell {w : World} {base n : Nat} {v : Value} {l : List ByteArray} (h : w.ownsRow base 9 1 v n (sv l)) (k : Nat) (hk : k < l.length) : ∃ g c, v = .slice (some ⟨g, 0, none⟩) l.length c ∧ base ≤ g ∧ g < w.heap.size ∧ l.length ≤ c ∧ w.cell? ⟨g, k, none⟩ = some (.string l[k]) := by
  have hn : n = l.length := by have := h.1; rw [sv_len] at this; omega
  subst hn
  rcases h.2 with ⟨_, h0⟩ | ⟨g, cap, cur, rfl, hb, hg, hl, _, _, htake⟩
  · omega
  · refine ⟨g, cap, rfl, hb, (Array.getElem?_eq_some_iff.1 hg).1, hl, ?_⟩
    rw [cell_of_row w g k cur _ _ hg]
    have h2 : (cur.toList.take (l.length * 1))[k]? = some (.string l[k]) := by rw [htake]; simp [sv, hk]
    rw [List.getElem?_take] at h2
    split at h2
    · simpa using h2
    · cases h2
theorem own_kept0 {w w2 : World} {base n : Nat} {v : Value} {l : List Value} (h : w.ownsRow base 9 1 v n l) (hb : Below w.heap.size w w2) : w2.ownsRow base 9 1 v n l := ownsRow_kept h (fun g hg => hb.block g (ownsRow_lt h hg))
theorem sv_low {w : World} {base n : Nat} {g c : Nat} {a : Nat} {l : List Value} (h : w.ownsRow base 9 1 (.slice (some ⟨g, 0, none⟩) a c) n l) : g < w.heap.size := ownsRow_lt h rfl
theorem own_low {w : World} {b1 b2 n : Nat} {v : Value} {l : List Value} (h : w.ownsRow b1 9 1 v n l) (hb : b2 ≤ b1) : w.ownsRow b2 9 1 v n l := by
  refine ⟨h.1, ?_⟩
  rcases h.2 with h1 | ⟨g, cap, cur, rfl, hg, r⟩
  · exact Or.inl h1
  · exact Or.inr ⟨g, cap, cur, rfl, Nat.le_trans hb hg, r⟩
theorem in_one {w0 wr w5 : World} {n1 n : Nat} {v : Value} {l : List Value} {o : Obj} (hb : Below n1 w0 wr) (hz : n1 ≤ wr.heap.size) (hn : wr.ownsRow n1 9 1 v n l) (hg : (wr.alloc o).grownBy w5 v.ownBlock) : Below n1 w0 w5 :=
  (hb.alloc hz o).grown hg (by simp; omega) (fun k hk => ownsRow_base hn hk)
theorem in_two {w0 wr w5 w6 : World} {n1 n n' : Nat} {v v' : Value} {l l' : List Value} {o o' : Obj} (hb : Below n1 w0 wr) (hz : n1 ≤ wr.heap.size) (hn : wr.ownsRow n1 9 1 v n l) (hg : (wr.alloc o).grownBy w5 v.ownBlock)
    (hn' : w5.ownsRow n1 9 1 v' n' l') (hg' : (w5.alloc o').grownBy w6 v'.ownBlock) : Below n1 w0 w6 :=
  in_one (in_one hb hz hn hg) (by have := hg.size; simp at this; omega) hn' hg'
theorem out_none {w w8 wr : World} {o : Obj} (hb : Below w.heap.size w w8) (hbj : Below (w8.heap.size + 1) (w8.alloc o) wr) : Below w.heap.size w wr :=
  (hb.alloc hb.size o).trans (hbj.mono (by have := hb.size; omega))
theorem out_one {w w8 wr w5 : World} {o o' : Obj} {n : Nat} {v : Value} {l : List Value} (hb : Below w.heap.size w w8) (hbj : Below (w8.heap.size + 1) (w8.alloc o) wr) (hz : w8.heap.size + 1 ≤ wr.heap.size) (hn : wr.ownsRow (w8.heap.size + 1) 9 1 v n l) (hg : (wr.alloc o').grownBy w5 v.ownBlock) : Below w.heap.size w w5 :=
  out_none hb (in_one hbj hz hn hg)
def InRel (n1 : Nat) (W0 : World) (s : ByteArray) (out : List ByteArray) (nv dv iv : Value) (wr : World) : Prop :=
  ∃ k : Nat, k ≤ out.length ∧ iv = .int .i64 (k : Nat) ∧ dv = .bool (foldI s (out.take k)).2 ∧ Hid (wr.ownsRow n1 9 1 nv (foldI s (out.take k)).1.length (sv (foldI s (out.take k)).1)) ∧ Below n1 W0 wr
def OutRel (w : World) (L : List RFile) (ov iv : Value) (wr : World) : Prop :=
  ∃ k : Nat, k ≤ L.length ∧ iv = .int .i64 (k : Nat) ∧ Hid (wr.ownsRow w.heap.size 9 1 ov (listI (L.take k)).length (sv (listI (L.take k)))) ∧ Below w.heap.size w wr
section
variable {w : World} {q : Nat} {v : Value} {L A B : List RFile} {f : RFile} {room steps fuse fault : Int} {down : Bool}
set_option maxRecDepth 100000 in
set_option maxHeartbeats 4000000 in
theorem rlist_any (h : RefAt w q v L room steps fuse fault down) :
    Calls Try.prog 29 #[.pointer (some ⟨q, 0, none⟩)] w fun r w' => ∃ v', r = .returned v' ∧ w'.ownsRow w.heap.size 9 1 v' (listI L).length (sv (listI L)) ∧ Below w.heap.size w w' := by
  have c0 := ref0 h.ref
  have hr := h.row
  have hfew := h.few
  have H := Lib.hid h
  clear h
  obtain ⟨i0, hi, hz0, hz1, hz2⟩ := info_parts info9
  have HI := Lib.hid (And.intro hi (And.intro hz0 (And.intro hz1 hz2)))
  clear hi hz0 hz1 hz2
  obtain ⟨av, cv, rfl⟩ := row_slice hr
  have HR := Lib.hid hr
  clear hr
  go_enter Try.func29, Try.ntmps29
  go_wp2
  go_loopw [3, 15] (OutRel w L) (fun _ i _ => L.length - (intOf i).toNat)
  case atStart => exact ⟨0, by omega, rfl, Lib.hid ⟨rfl, Or.inl ⟨rfl, rfl⟩⟩, Below.refl _ _⟩
  case round =>
    obtain ⟨k, hk, rfl, hov, hb⟩ := hrel
    have hol := listI_len k (L.take k) (by simp; omega)
    by_cases hlt : k < L.length
    · have hlt2 := Lib.hid (listI_take hlt)
      obtain ⟨a3, c3, rfl⟩ := row_slice hov.out
      rcases HR.out.2 with ⟨_, hn0⟩ | ⟨g, cap, cur, hv, _, hh, hl, hm, hsz, hcur⟩
      · omega
      · obtain ⟨x1, x2, x3⟩ := row_cells hh hcur k hlt
        have hg : g < w.heap.size := (Array.getElem?_eq_some_iff.1 hh).1
        rw [← hb.cell (p := ⟨g, k * 3, none⟩) hg] at x1
        rw [← hb.cell (p := ⟨g, k * 3 + 1, none⟩) hg] at x2
        rw [← hb.cell (p := ⟨g, k * 3 + 2, none⟩) hg] at x3
        injection hv with hv1 hv2 hv3
        subst hv1
        clear hh hcur hm hsz hv3
        generalize hw8 : wr = w8 at *
        clear hw8 wr
        generalize listI (L.take k) = out at *
        generalize L[k] = f at *
        go_wp2
        have hb0 : Below w8.heap.size w8 (w8.alloc (Obj.cells #[Value.string f.name, Value.string f.s, Value.int IntKind.i64 (f.sure : Int)] 69)) := (Below.refl _ _).alloc (Nat.le_refl _) _
        have ho8 := own_kept0 hov.out hb0
        go_loopw [6, 7, 21] (InRel (w8.heap.size + 1) (w8.alloc (Obj.cells #[Value.string f.name, Value.string f.s, Value.int IntKind.i64 (f.sure : Int)] 69)) f.name out) (fun _ _ i _ => out.length - (intOf i).toNat)
        case atStart => exact ⟨0, by omega, rfl, rfl, Lib.hid ⟨rfl, Or.inl ⟨rfl, rfl⟩⟩, by simpa using Below.refl _ _⟩
        case round =>
          clear x1 x2 x3
          obtain ⟨j, hj, rfl, rfl, hnv, hbj⟩ := hrel
          have hzj : w8.heap.size + 1 ≤ wr.heap.size := by have := hbj.size; simpa using this
          have hfl := foldI_len f.name (out.take j)
          have hbn : wr.cell? ⟨w8.heap.size, 0, none⟩ = some (.string f.name) := (hbj.cell (p := ⟨w8.heap.size, 0, none⟩) (by simp)).trans (cell_in (heap_alloc_new w8 _) 0 _ rfl)
          by_cases hjl : j < out.length
          · have hft := Lib.hid (foldI_take (s := f.name) hjl)
            obtain ⟨g2, c2, hv2, hbg2, hg2, hl2, xo⟩ := sv_cell ho8 j hjl
            injection hv2 with hv2 hv2b hv2c
            subst hv2
            have hg8 := sv_low hov.out
            rw [← hbj.cell (p := ⟨g2, j, none⟩) (by simp; omega)] at xo
            have hlen : (out.take j).length = j := by simp; omega
            rw [hlen] at hfl
            generalize foldI f.name (out.take j) = P at *
            obtain ⟨P1, P2⟩ := P
            generalize out[j] = x at *
            simp only at hfl hnv
            have hP1 := hfl.1
            clear hfl
            obtain ⟨an, cn, rfl⟩ := row_slice hnv.out
            have hlx : ∃ b, ltB f.name x = b := ⟨_, rfl⟩
            obtain ⟨b, hlx⟩ := hlx
            have hlx2 : Op.bytesLess f.name.toList x.toList = b := hlx
            cases P2
            · cases b
              · go_wp2_with (first
                  | (at_builtin
                     refine wpList_append_own _ rfl _ _ 53 rfl (w8.heap.size + 1) 9 i0 _ 1 16 Try.underlying53 HI.out.1 HI.out.2.1 HI.out.2.2.1 HI.out.2.2.2 rfl (by decide) _ P1.length (sv P1) rfl (hnv.out.alloc _) ⟨wr.heap.size, 0, none⟩ 1 1 [.string x] rfl rfl ?c1 ?c2 (by unfold maxLen; omega) (by omega) (by simp; omega) ?_
                     case c1 => exact World.news_of_block (heap_alloc_new wr _)
                     case c2 => intro x hx; rw [List.mem_singleton.1 hx]; rfl
                     intro v5 w5 hown5 hgrow5 hnil5; have O5 := Lib.hid (And.intro hown5 hgrow5); clear hown5 hgrow5 hnil5))
                go_roundw
                case rel => exact ⟨_, _, _, _, ⟨j + 1, by omega, by go_num, by rw [hft.out]; simp [stepI, hlx], Lib.hid (by rw [hft.out]; simpa [stepI, hlx, sv] using O5.out.1), in_one hbj hzj hnv.out O5.out.2⟩, rfl, rfl, rfl, rfl⟩
                case measure => simp [intOf]; omega
              · go_wp2_with (first
                  | (at_builtin
                     refine wpList_append_own _ rfl _ _ 53 rfl (w8.heap.size + 1) 9 i0 _ 1 16 Try.underlying53 HI.out.1 HI.out.2.1 HI.out.2.2.1 HI.out.2.2.2 rfl (by decide) _ (P1.length + 1) (sv P1 ++ [.string f.name]) rfl (O5.out.1.alloc _) ⟨w5.heap.size, 0, none⟩ 1 1 [.string x] rfl rfl ?c1 ?c2 (by unfold maxLen; omega) (by omega) (by simp; omega) ?_
                     case c1 => exact World.news_of_block (heap_alloc_new w5 _)
                     case c2 => intro x hx; rw [List.mem_singleton.1 hx]; rfl
                     intro v6 w6 hown6 hgrow6 hnil6; have O6 := Lib.hid (And.intro hown6 hgrow6); clear hown6 hgrow6 hnil6)
                  | (at_builtin
                     refine wpList_append_own _ rfl _ _ 53 rfl (w8.heap.size + 1) 9 i0 _ 1 16 Try.underlying53 HI.out.1 HI.out.2.1 HI.out.2.2.1 HI.out.2.2.2 rfl (by decide) _ P1.length (sv P1) rfl (hnv.out.alloc _) ⟨wr.heap.size, 0, none⟩ 1 1 [.string f.name] rfl rfl ?c1 ?c2 (by unfold maxLen; omega) (by omega) (by simp; omega) ?_
                     case c1 => exact World.news_of_block (heap_alloc_new wr _)
                     case c2 => intro x hx; rw [List.mem_singleton.1 hx]; rfl
                     intro v5 w5 hown5 hgrow5 hnil5; have O5 := Lib.hid (And.intro hown5 hgrow5); have hz5 := hgrow5.size; simp at hz5; obtain ⟨a5, c5, hv5⟩ := row_slice hown5; subst hv5; clear hown5 hgrow5 hnil5))
                go_roundw
                case rel => exact ⟨_, _, _, _, ⟨j + 1, by omega, by go_num, by rw [hft.out]; simp [stepI, hlx], Lib.hid (by rw [hft.out]; simpa [stepI, hlx, sv] using O6.out.1), in_two hbj hzj hnv.out O5.out.2 O5.out.1 O6.out.2⟩, rfl, rfl, rfl, rfl⟩
                case measure => simp [intOf]; omega
            · go_wp2_with (first
                | (at_builtin
                   refine wpList_append_own _ rfl _ _ 53 rfl (w8.heap.size + 1) 9 i0 _ 1 16 Try.underlying53 HI.out.1 HI.out.2.1 HI.out.2.2.1 HI.out.2.2.2 rfl (by decide) _ P1.length (sv P1) rfl (hnv.out.alloc _) ⟨wr.heap.size, 0, none⟩ 1 1 [.string x] rfl rfl ?c1 ?c2 (by unfold maxLen; omega) (by omega) (by simp; omega) ?_
                   case c1 => exact World.news_of_block (heap_alloc_new wr _)
                   case c2 => intro x hx; rw [List.mem_singleton.1 hx]; rfl
                   intro v5 w5 hown5 hgrow5 hnil5; have O5 := Lib.hid (And.intro hown5 hgrow5); clear hown5 hgrow5 hnil5))
              go_roundw
              case rel => exact ⟨_, _, _, _, ⟨j + 1, by omega, by go_num, by rw [hft.out]; simp [stepI], Lib.hid (by rw [hft.out]; simpa [stepI, sv] using O5.out.1), in_one hbj hzj hnv.out O5.out.2⟩, rfl, rfl, rfl, rfl⟩
              case measure => simp [intOf]; omega
          · obtain rfl : j = out.length := by omega
            rw [List.take_of_length_le (Nat.le_refl _)] at hnv hfl ⊢
            have hin : Hid (insI f.name out = if (foldI f.name out).2 then (foldI f.name out).1 else (foldI f.name out).1 ++ [f.name]) := rfl
            generalize foldI f.name out = P at *
            obtain ⟨P1, P2⟩ := P
            simp only at hfl hnv
            have hP1 := hfl.1
            clear hfl
            obtain ⟨an, cn, rfl⟩ := row_slice hnv.out
            cases P2
            · go_wp2_with (first
                | (at_builtin
                   refine wpList_append_own _ rfl _ _ 53 rfl (w8.heap.size + 1) 9 i0 _ 1 16 Try.underlying53 HI.out.1 HI.out.2.1 HI.out.2.2.1 HI.out.2.2.2 rfl (by decide) _ P1.length (sv P1) rfl (hnv.out.alloc _) ⟨wr.heap.size, 0, none⟩ 1 1 [.string f.name] rfl rfl ?c1 ?c2 (by unfold maxLen; omega) (by omega) (by simp; omega) ?_
                   case c1 => exact World.news_of_block (heap_alloc_new wr _)
                   case c2 => intro x hx; rw [List.mem_singleton.1 hx]; rfl
                   intro v5 w5 hown5 hgrow5 hnil5; have O5 := Lib.hid (And.intro hown5 hgrow5); clear hown5 hgrow5 hnil5))
              go_roundw
              case rel => exact ⟨k + 1, by omega, by go_num, Lib.hid (by rw [hlt2.out, hin.out]; simpa [sv] using own_low O5.out.1 (by have := hb.size; omega)), out_one hb hbj hzj hnv.out O5.out.2⟩
              case measure => simp [intOf]; omega
            · go_wp2
              go_roundw
              case rel => exact ⟨k + 1, by omega, by go_num, Lib.hid (by rw [hlt2.out, hin.out]; simpa [sv] using own_low hnv.out (by have := hb.size; omega)), out_none hb hbj⟩
              case measure => simp [intOf]; omega
    · obtain rfl : k = L.length := by omega
      rw [List.take_of_length_le (Nat.le_refl _)] at hov
      obtain ⟨a3, c3, rfl⟩ := row_slice hov.out
      go_wp2
      go_ret
      exact ⟨_, rfl, hov.out, hb⟩
end
end Go.Proofs.Ytpeobjnamflibaa.Dk

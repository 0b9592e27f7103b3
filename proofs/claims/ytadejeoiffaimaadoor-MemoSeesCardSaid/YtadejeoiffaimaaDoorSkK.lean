/-
  A row of a skip list's keys from one on; the chapter's example. Conditions: as each theorem states.
-/
import Derived.Test.YtadejeoiffaimaaDoorSkJ
namespace Go.Proofs.YtadejeoiffaimaaDoor.Sk
open Go.RowKit Go.Shelf
open Go.Proofs.YtadejeoiffaimaaDoor.Rf

def RowL (w : World) (l : Nat) (v : Value) (P : List Pr) (n : Nat) (q : List Pr) (e : Ending) (w' : World) : Prop :=
  ∃ vv, e = .returned vv ∧ w'.ownsRow w.heap.size 94 2 vv q.length (prRow q) ∧ Lst w' l v P n ∧ Moves w (feet l v) w' (feet l v)
theorem ask_of {w : World} {bl bk l : Nat} {v : Value} {s : Ls} {bytes st : Int} {k : ByteArray} (hC : CapL bl bk l v s bytes k st w) : RowAsk w (feet l v) (TnL l v s bytes) (KpL bl bk l v) (fun W => ∃ st, SkAt W l v s bytes st) where
  lt := hC.at_.lt
  tn := fun _ _ h => h.1
  kt := fun h k => h.t k
  kp := fun A B hb => ⟨hb.block _ (Array.getElem?_eq_some_iff.1 hC.hbl).1, hb.block _ (Array.getElem?_eq_some_iff.1 hC.hbk).1, fun k hk => hb.block k (hC.at_.lt k hk)⟩
  inv := ⟨st, hC.at_⟩
  ib := fun A B ⟨st', h⟩ hb _ => ⟨st', h.kept (fun k hk => hb.block k (hC.at_.lt k hk))⟩
  it := fun A B ⟨st', h⟩ ht => ht.2 st' h
theorem cap_of {w : World} {l : Nat} {v : Value} {s : Ls} {bytes st : Int} (h : SkAt w l v s bytes st) (k : ByteArray) :
    CapL w.heap.size (w.heap.size + 1) l v s bytes k st ((w.alloc (.cells #[.pointer (some ⟨l, 0, none⟩)] 44)).alloc (.cells #[.string k] 9)) := by
  have hb : Below w.heap.size w ((w.alloc (.cells #[.pointer (some ⟨l, 0, none⟩)] 44)).alloc (.cells #[.string k] 9)) := ((Below.refl _ w).alloc (Nat.le_refl _) _).alloc (by simp) _
  refine ⟨h.below hb, (Below.heap_alloc _ _ _ (by simp)).trans (heap_alloc_new w _), ?_, fun hm => ?_, fun hm => ?_⟩
  · have := heap_alloc_new (w.alloc (.cells #[.pointer (some ⟨l, 0, none⟩)] 44)) (.cells #[.string k] 9)
    rw [World.size_alloc] at this
    exact this
  · have := h.lt _ hm; omega
  · have := h.lt _ hm; omega
theorem upL_len (P : List Pr) (k : ByteArray) : (upL P k).length ≤ P.length := List.length_filter_le _ _
theorem Lst.len {w : World} {l n : Nat} {v : Value} {P : List Pr} (h : Lst w l v P n) : P.length = n ∧ n ≤ 65536 := by
  obtain ⟨s, b, st, h1, rfl, rfl⟩ := h
  exact ⟨pairs_len h1.ok, h1.few⟩
/-- the keys from one on, collected -/
theorem rowFrom {w : World} {l n : Nat} {v : Value} {P : List Pr} (h : Lst w l v P n) (k : ByteArray) (m : Nat) (hm : m ≤ 9223372036854775807) {mi : Int} (hmi : mi = (m : Nat)) {W : World} (hW : W = (w.alloc (.cells #[.pointer (some ⟨l, 0, none⟩)] 44)).alloc (.cells #[.string k] 9)) :
    Calls Tryd.prog 51 #[.func (.func 55) #[] #[.pointer (some ⟨w.heap.size, 0, none⟩), .pointer (some ⟨w.heap.size + 1, 0, none⟩)], .int .i64 mi] W (RowL W l v P n ((upL P k).take m)) := by
  subst hW hmi
  have hl := upL_len P k
  obtain ⟨hlen, hfew⟩ := h.len
  obtain ⟨s, b, st, h1, rfl, rfl⟩ := h
  have hC := cap_of h1 k
  have hf := from_is h1.ok k
  refine (callsIn_wide.1 (row_in 3 (by omega) (upL (pairs s) k) (by omega) m hm (enters_of Tryd.func55 (by kernel_rfl) rfl) (fun W hb => ?_) (ask_of hC))).mono ?_
  · have := from_turns 2 (by omega) (hC.below hb)
    rw [hf] at this
    exact this
  · rintro e w' ⟨vv, he, hr, ho, st', hs⟩
    exact ⟨vv, he, hr, ⟨s, b, st', hs, rfl, rfl⟩, ho, fun k hk => .inl hk⟩
theorem ba (l : List UInt8) : (ByteArray.mk l.toArray).toList = l := ByteArray.toList_mk l
theorem lt_none (x : ByteArray) : lt x ⟨#[]⟩ = false := by
  unfold lt
  rw [show (⟨#[]⟩ : ByteArray).toList = [] from ba []]; exact bl_nil _
theorem upL_all (P : List Pr) : upL P ⟨#[]⟩ = P := filter_all (fun x _ => by rw [lt_none]; rfl)
theorem put_ba : putL (putL [] ⟨#[98]⟩ ⟨#[]⟩) ⟨#[97]⟩ ⟨#[]⟩ = [(⟨#[97]⟩, ⟨#[]⟩), (⟨#[98]⟩, ⟨#[]⟩)] := by
  have h1 : lt ⟨#[98]⟩ ⟨#[97]⟩ = false := by
    unfold lt
    rw [show (⟨#[98]⟩ : ByteArray).toList = [98] from ba [98], show (⟨#[97]⟩ : ByteArray).toList = [97] from ba [97]]; rfl
  have h2 : lt ⟨#[97]⟩ ⟨#[98]⟩ = true := by
    unfold lt
    rw [show (⟨#[98]⟩ : ByteArray).toList = [98] from ba [98], show (⟨#[97]⟩ : ByteArray).toList = [97] from ba [97]]; rfl
  simp [putL, h1, h2]
theorem rowCells {w : World} {base e size n : Nat} {vv : Value} {xs : List Value} (h : w.ownsRow base e size vv n xs) (h0 : 0 < n) : ∃ g cap, vv = .slice (some ⟨g, 0, none⟩) n cap ∧ base ≤ g ∧ g < w.heap.size ∧ ∀ j x, xs[j]? = some x → w.cell? ⟨g, j, none⟩ = some x := by
  have hc := fun g hg => h.cells (g := g) hg
  rcases h.2 with ⟨_, h1⟩ | ⟨g, cap, cur, rfl, hb, hg, _⟩
  · omega
  · exact ⟨g, cap, rfl, hb, (Array.getElem?_eq_some_iff.1 hg).1, fun j x hx => by
      have := hc g rfl j x hx
      rwa [show (⟨g, 0, none⟩ : Addr).add j = ⟨g, j, none⟩ by unfold Addr.add; split <;> simp_all] at this⟩
set_option maxRecDepth 100000 in
set_option maxHeartbeats 1000000 in
theorem awake_any (w : World) : Calls Tryd.prog 34 #[] w fun e w' => e = .returned (.bool true) ∧ Below w.heap.size w w' := by
  have hab : ((⟨#[97]⟩ : ByteArray).toList == (⟨#[97]⟩ : ByteArray).toList) = true := by simp
  go_enter Tryd.func34, Tryd.ntmps34
  go_wp2_with (first
    | (go_at_call 19; (with_reducible refine (new_any _).mono ?_); rintro e w1 ⟨rfl, h1, b1⟩; have H1 := Lib.hid (And.intro h1 b1); clear h1 b1)
    | (go_at_call 22; (with_reducible refine (putL_any H1.out.1 ⟨#[98]⟩ ⟨#[]⟩ (by decide) (by decide) 1 (by decide)).mono ?_); rintro e w2 ⟨rfl, v2, n2, h2, hn2, m2⟩; have H2 := Lib.hid (And.intro h2 m2); clear h2 m2)
    | (go_at_call 22; (with_reducible refine (putL_any H2.out.1 ⟨#[97]⟩ ⟨#[]⟩ (by decide) (by decide) 3 (by omega)).mono ?_); rintro e w3 ⟨rfl, v3, n3, h3, hn3, m3⟩; rw [put_ba] at h3; have H3 := Lib.hid (And.intro h3 (H2.out.2.trans m3)); clear h3 m3)
    | (go_at_call 30; (with_reducible refine (lenL_any H3.out.1).mono ?_); rintro e w4 ⟨rfl, rfl⟩)
    | (go_at_call 41; (with_reducible refine (from_any _ _ ⟨#[]⟩).mono ?_); rintro e w5 ⟨rfl, hw5⟩; have H5 := Lib.hid hw5; clear hw5)
    | (go_at_call 51; (with_reducible refine (rowFrom H3.out.1 ⟨#[]⟩ 9 (by decide) (mi := 9) rfl H5.out).mono ?_); rintro e w6 ⟨vv, rfl, hr, h6, m6⟩; rw [upL_all] at hr; obtain ⟨g, cap, rfl, hg1, hg2, hcell⟩ := rowCells hr (by decide); have k0 := hcell 0 (.string ⟨#[97]⟩) rfl; have H6 := Lib.hid m6; clear hr h6 m6 hcell))
  go_ret
  refine ⟨rfl, H1.out.2.trans ?_⟩
  have hm : Moves w1 (feet w.heap.size (.slice none 0 0)) w5 (feet w.heap.size v3) := by rw [H5.out]; exact (H3.out.2.new _).new _
  exact (hm.trans H6.out).below (fun k hk => by simp [feet, Value.ownBlock] at hk; omega) H1.out.2.size
end Go.Proofs.YtadejeoiffaimaaDoor.Sk

/-
  A log on a disk, walked where all goes well: Create, lay, Add, Load, Name. Conditions: as each theorem states.
-/
import Derived.Test.YtdkgieaanpfhcaaGreatDoorWaC
import Derived.Test.YtdkgieaanpfhcaaGreatDoorWaN
import Derived.Test.YtdkgieaanpfhcaaGreatDoorGaDh
import Derived.Test.YtdkgieaanpfhcaaGreatDoorGaBa
namespace Go.Proofs.YtdkgieaanpfhcaaGreatDoor.Wa
open Go.RowKit Go.Shelf
open Go.Proofs.YtdkgieaanpfhcaaGreatDoor
open Vi Ba

/-- a log and its disk, apart, from base on -/
structure LW (base : Nat) (w : World) (g d m : Nat) (L : List Dk.Ent) (room steps fuse fault : Int) (name : List UInt8) (len next : Nat) (W : World) : Prop where
  log : W.heap[g]? = some (.cells #[.pointer (some ⟨d, 0, none⟩), .string (bs name), .int .i64 len, .int .u64 next, .bool false] 82 (0, 0))
  dk : Dk.DiskAt W d m L room steps fuse fault false
  apart : g ∉ Dk.feet d m L
  lowg : base ≤ g
  low : ∀ k ∈ Dk.feet d m L, base ≤ k
  below : Below base w W
section
variable {base g d m len next : Nat} {w W W' : World} {L L2 : List Dk.Ent} {room steps fuse fault r2 s2 u2 t2 : Int} {name : List UInt8}
theorem LW.size (h : LW base w g d m L room steps fuse fault name len next W) : base ≤ W.heap.size := by have := hp_lt h.log; have := h.lowg; omega
theorem LW.moves (h : LW base w g d m L room steps fuse fault name len next W) (hd : Dk.DiskAt W' d m L2 r2 s2 u2 t2 false) (hm : Dk.Moves W (Dk.feet d m L) W' (Dk.feet d m L2)) : LW base w g d m L2 r2 s2 u2 t2 name len next W' :=
  ⟨(hm.only.block g (hp_lt h.log) h.apart).trans h.log, hd, fun hk => by
    rcases hm.fresh g hk with h1 | h1
    · exact h.apart h1
    · have := hp_lt h.log; omega, h.lowg, hm.low h.low h.size, h.below.trans (hm.below h.low h.size)⟩
theorem LW.on (h : LW base w g d m L room steps fuse fault name len next W) (hb : Below W.heap.size W W') : LW base w g d m L room steps fuse fault name len next W' :=
  ⟨(hb.block g (hp_lt h.log)).trans h.log, h.dk.below hb, h.apart, h.lowg, h.low, h.below.trans (hb.mono h.size)⟩
theorem LW.cells (h : LW base w g d m L room steps fuse fault name len next W) : W.cell? ⟨g, 0, none⟩ = some (.pointer (some ⟨d, 0, none⟩)) ∧ W.cell? ⟨g, 1, none⟩ = some (.string (bs name)) ∧ W.cell? ⟨g, 2, none⟩ = some (.int .i64 len) ∧ W.cell? ⟨g, 3, none⟩ = some (.int .u64 next) ∧ W.cell? ⟨g, 4, none⟩ = some (.bool false) ∧ ∀ j, W.frozen? ⟨g, j, none⟩ = false :=
  ⟨cell_in h.log 0 _ rfl, cell_in h.log 1 _ rfl, cell_in h.log 2 _ rfl, cell_in h.log 3 _ rfl, cell_in h.log 4 _ rfl, free_in h.log⟩
end
theorem keepW {base g d m len next : Nat} {w W : World} {L : List Dk.Ent} {room steps fuse fault : Int} {name : List UInt8} (h : LW base w g d m L room steps fuse fault name len next W) : W.cell? ⟨g, 0, none⟩ = some (.pointer (some ⟨d, 0, none⟩)) ∧ W.cell? ⟨g, 1, none⟩ = some (.string (bs name)) := ⟨h.cells.1, h.cells.2.1⟩
theorem create_disk_nil (s : ByteArray) (w : World) : Calls Tryz.prog 35 #[.pointer none, .string s] w fun r w' => r = .returned (.int .i64 1) ∧ w = w' := by
  go_enter Tryz.func35, Tryz.ntmps35
  go_wp2_with (first
    | (go_at_call 39; refine (Dk.powered_nil _).mono ?_; rintro e w' ⟨rfl, rfl⟩))
  go_ret
  exact ⟨rfl, rfl⟩
theorem wcreate_nil (u : Nat) (hu : u < 100) (w : World) : Calls Tryz.prog 12 #[.pointer none, .int .u64 u] w fun e w' => e = .returned (.tuple #[.pointer none, .int .i64 1]) ∧ Below w.heap.size w w' := by
  have HN := Lib.hid (Ed.name_small u hu)
  go_enter Tryz.func12, Tryz.ntmps12
  go_wp2_with (first
    | (go_at_call 34; (refine (HN.out _).mono ?_); rintro e w1 ⟨rfl, hb1⟩)
    | (go_at_call 35; (refine (create_disk_nil _ _).mono ?_); rintro e w2 ⟨rfl, rfl⟩))
  go_ret2
  exact ⟨rfl, hb1.alloc hb1.size _⟩
theorem wload_nil (u : Nat) (hu : u < 100) (w : World) : Calls Tryz.prog 23 #[.pointer none, .int .u64 u] w fun e w' => e = .returned (.tuple #[.slice none 0 0, .int .i64 1]) ∧ Below w.heap.size w w' := by
  have HN := Lib.hid (Ed.name_small u hu)
  go_enter Tryz.func23, Tryz.ntmps23
  go_wp2_with (first
    | (go_at_call 34; (refine (HN.out _).mono ?_); rintro e w1 ⟨rfl, hb1⟩)
    | (go_at_call 20; (refine (Dk.read_nil _ _).mono ?_); rintro e w2 ⟨rfl, rfl⟩))
  go_ret2
  exact ⟨rfl, hb1⟩
theorem disk_kept {w w' : World} {d m : Nat} {L : List Dk.Ent} {room steps fuse fault : Int} {down : Bool} (h : Dk.DiskAt w d m L room steps fuse fault down) (hkeep : ∀ k, k ∈ Dk.feet d m L → w'.heap[k]? = w.heap[k]?) : Dk.DiskAt w' d m L room steps fuse fault down := by
  obtain ⟨D, ho, hM⟩ := h.map
  exact ⟨(hkeep d (by simp [Dk.feet])).trans h.disk, ⟨D, Dk.own_kept ho (hkeep m (by simp [Dk.feet])), hM⟩, fun e he => (h.files e he).kept (fun k hk => hkeep k (Dk.mem_feet.2 (Or.inr (Or.inr ⟨e, he, hk⟩)))), h.names, h.short, h.apart, h.few, h.vol⟩
section
variable {base g d m len next : Nat} {w W : World} {L A B : List Dk.Ent} {e : Dk.Ent} {room steps fuse fault : Int} {name : List UInt8}
theorem wcreate_ok {u : Nat} (hu : u < 100) (h : Dk.DiskAt W d m L room steps fuse fault false) (hl : ∀ k ∈ Dk.feet d m L, base ≤ k) (hb : Below base w W) (hbs : base ≤ W.heap.size) (hn : Dk.isNm (Ed.nm [108] u) = true) (hne : ∀ e ∈ L, e.name ≠ Ed.nm [108] u) (hfew : L.length < 200) (hcs : Dk.CanStep steps fuse fault) (hsz : (Ed.nm [108] u).length ≤ 100) :
    Calls Tryz.prog 12 #[.pointer (some ⟨d, 0, none⟩), .int .u64 u] W fun e W' => ∃ g F, e = .returned (.tuple #[.pointer (some ⟨g, 0, none⟩), .int .i64 0]) ∧ LW base w g d m (L ++ [⟨Ed.nm [108] u, [], 0, F, .slice none 0 0⟩]) room (steps + 1) (Dk.tick fuse) (Dk.tick fault) (Ed.nm [108] u) 0 0 W' := by
  have HN := Lib.hid (Ed.name_small u hu)
  have H := Lib.hid h
  have hz : Hid ((bs (Ed.nm [108] u)).size ≤ maxLen) := by rw [Hid, bs_size]; unfold maxLen; omega
  have hz2 : Hid ((bs (Ed.nm [108] u)).size ≤ 281474976710656) := by rw [Hid, bs_size]; omega
  obtain ⟨k1, k2, k3, k4, k5, k6, k7, k8⟩ := hcs
  have HC := Lib.hid fun (X : World) (hx : Dk.DiskAt X d m L room steps fuse fault false) => Dk.create_ok hx (bs (Ed.nm [108] u)) hz hz2 (by rw [bs_toList]; exact hn) (by rw [bs_toList]; exact hne) hfew k1 k2 k3 k4 k5 k6 k7 k8
  rw [bs_toList] at HC
  unfold Ed.SPost at HN
  generalize Ed.nm [108] u = name at *
  clear h
  go_enter Tryz.func12, Tryz.ntmps12
  have HW := Lib.hid (And.intro hl (And.intro hb hbs))
  clear hl hb hbs hn hne hfew k1 k2 k3 k4 k5 k6 k7 k8
  go_wp2_with (first
    | (go_at_call 34; (with_reducible refine (HN.out _).mono ?_); rintro e w1 ⟨rfl, hb1⟩
       have hal : Below W.heap.size W (w1.alloc (.cells #[.pointer (some ⟨d, 0, none⟩), .string (bs name), .int .i64 0, .int .u64 0, .bool false] 82)) := hb1.alloc hb1.size _
       have hz1 := hb1.size
       have L0 : Hid (LW base w w1.heap.size d m L room steps fuse fault name 0 0 (w1.alloc (.cells #[.pointer (some ⟨d, 0, none⟩), .string (bs name), .int .i64 0, .int .u64 0, .bool false] 82))) :=
         ⟨heap_alloc_new w1 _, H.out.below hal, fun hk => by have := H.out.lt _ hk; omega, by have := HW.out.2.2; omega, HW.out.1, HW.out.2.1.trans (hal.mono HW.out.2.2)⟩
       clear hal hb1)
    | (go_at_call 35; (refine (HC.out _ L0.out.dk).mono ?_); rintro e w2 ⟨rfl, F, hd, hm⟩
       have L2 := Lib.hid (L0.out.moves hd hm)
       clear hd hm))
  go_ret2
  exact ⟨w1.heap.size, F, rfl, L2.out⟩
/-- what a log's lay leaves of its file -/
abbrev laid (e : Dk.Ent) (data : List UInt8) (v : Value) : Dk.Ent := ⟨e.name, e.bytes ++ data, (e.bytes ++ data).length, e.blk, v⟩
set_option maxHeartbeats 1000000 in
theorem lay_ok (data : List UInt8) (h : LW base w g d m (A ++ e :: B) room steps fuse fault name len next W) (hne : e.name = name) (hsz : name.length ≤ 100) (hdz : data.length ≤ 1073741824) (hr0 : room ≤ 16777216) (hroom : ((Dk.usedL (A ++ e :: B) : Nat) : Int) + (data.length : Int) ≤ room)
    (hcs : Dk.CanStep steps fuse fault) (hcs2 : Dk.CanStep (steps + 1) (Dk.tick fuse) (Dk.tick fault)) :
    Calls Tryz.prog 38 #[.pointer (some ⟨g, 0, none⟩), .string (bs data)] W fun r W' => ∃ v, r = .returned (.int .i64 0) ∧ LW base w g d m (A ++ laid e data v :: B) room (steps + 1 + 1) (Dk.tick (Dk.tick fuse)) (Dk.tick (Dk.tick fault)) name len next W' ∧ W.heap.size ≤ W'.heap.size ∧ ∀ k, k < W.heap.size → k ∉ Dk.feet d m (A ++ e :: B) → W'.heap[k]? = W.heap[k]? := by
  have hz : Hid ((bs name).size ≤ maxLen) := by rw [Hid, bs_size]; unfold maxLen; omega
  have HA := Lib.hid fun (X : World) (hx : Dk.DiskAt X d m (A ++ e :: B) room steps fuse fault false) => Dk.append_ok hx (bs name) (bs data) hz (by rw [bs_size]; omega) (by rw [bs_toList]; exact hne) hr0 (by rw [bs_size]; exact hroom) hcs
  have HS := Lib.hid fun (X : World) (v : Value) (hx : Dk.DiskAt X d m (A ++ ⟨e.name, e.bytes ++ data, e.sure, e.blk, v⟩ :: B) room (steps + 1) (Dk.tick fuse) (Dk.tick fault) false) => Dk.sync_ok hx (bs name) hz (by rw [bs_toList]; exact hne) hcs2
  rw [bs_toList] at HA
  have H := Lib.hid h
  obtain ⟨c0, c1, c2, c3, c4, c5⟩ := h.cells
  clear h
  go_enter Tryz.func38, Tryz.ntmps38
  go_wp2
  go_region_held3 (fun wx => wx.cell? ⟨g, 0, none⟩ = some (.pointer (some ⟨d, 0, none⟩)) ∧ wx.cell? ⟨g, 1, none⟩ = some (.string (bs name))) (first | go_keep | (refine keepW ‹LW _ _ _ _ _ _ _ _ _ _ _ _ _ _›))
    (first
      | (go_at_call 80; (refine (HA.out _ (H.out.on (Below.refl _ _).drew).dk).mono ?_); rintro r w2 ⟨rfl, v2, hd, hm⟩
         have h2 := (H.out.on (Below.refl _ _).drew).moves hd hm
         have H2 := Lib.hid h2
         obtain ⟨d0, d1, d2, d3, d4, d5⟩ := h2.cells
         have M2 : Hid (Dk.Moves W.drew (Dk.feet d m (A ++ e :: B)) w2 (Dk.feet d m (A ++ ⟨e.name, e.bytes ++ data, e.sure, e.blk, v2⟩ :: B))) := hm
         clear hd hm h2))
  clear c0 c1 c2 c3 c4 c5
  go_wp2
  go_region_held3 (fun wx => wx.cell? ⟨g, 0, none⟩ = some (.pointer (some ⟨d, 0, none⟩)) ∧ wx.cell? ⟨g, 1, none⟩ = some (.string (bs name))) (first | go_keep | (refine keepW ‹LW _ _ _ _ _ _ _ _ _ _ _ _ _ _›))
    (first
      | (go_at_call 81; (refine (HS.out _ v2 (H2.out.on (Below.refl _ _).drew).dk).mono ?_); rintro r w3 ⟨rfl, hd, hm⟩
         have h3 := (H2.out.on (Below.refl _ _).drew).moves hd hm
         have H3 := Lib.hid h3
         have M3 := Lib.hid hm
         obtain ⟨e0, e1, e2, e3, e4, e5⟩ := h3.cells
         clear hd hm))
  go_wp2
  go_ret
  refine ⟨v2, rfl, H3.out, Nat.le_trans M2.out.only.size M3.out.only.size, fun k hk hf => ?_⟩
  have h1 := M2.out.only.block k hk hf
  refine (M3.out.only.block k (Nat.lt_of_lt_of_le hk M2.out.only.size) (fun hm => ?_)).trans h1
  rcases M2.out.fresh k hm with h2 | h2
  · exact hf h2
  · have h3 : W.heap.size ≤ k := h2
    omega
/-- the log's numbers turn -/
theorem LW.set2 (h : LW base w g d m L room steps fuse fault name len next W) (l2 : Nat) : LW base w g d m L room steps fuse fault name l2 next (W.setCell ⟨g, 2, none⟩ (.int .i64 l2)) := by
  have hb : ∀ (X : World) (i : Nat) (v : Value) (k : Nat), k ≠ g → (X.setCell ⟨g, i, none⟩ v).heap[k]? = X.heap[k]? := fun X i v k hk => Below.heap_setCell X ⟨g, i, none⟩ v k (fun e => hk (by simpa using e))
  exact ⟨heap_set h.log 2 _, disk_kept h.dk (fun k hk => hb _ _ _ k (fun e => h.apart (e ▸ hk))), h.apart, h.lowg, h.low, h.below.setCell (p := ⟨g, 2, none⟩) h.lowg _⟩
theorem LW.set3 (h : LW base w g d m L room steps fuse fault name len next W) (n2 : Nat) : LW base w g d m L room steps fuse fault name len n2 (W.setCell ⟨g, 3, none⟩ (.int .u64 n2)) := by
  have hb : ∀ (X : World) (i : Nat) (v : Value) (k : Nat), k ≠ g → (X.setCell ⟨g, i, none⟩ v).heap[k]? = X.heap[k]? := fun X i v k hk => Below.heap_setCell X ⟨g, i, none⟩ v k (fun e => hk (by simpa using e))
  exact ⟨heap_set h.log 3 _, disk_kept h.dk (fun k hk => hb _ _ _ k (fun e => h.apart (e ▸ hk))), h.apart, h.lowg, h.low, h.below.setCell (p := ⟨g, 3, none⟩) h.lowg _⟩
/-- a batch's box beside -/
abbrev bBox (seq : Nat) (v : Value) : Obj := .cells #[.int .u64 seq, v] 32 (0, 0)
theorem box_cells {W : World} {k seq : Nat} {v : Value} (h : W.heap[k]? = some (bBox seq v)) : W.cell? ⟨k, 0, none⟩ = some (.int .u64 seq) ∧ W.cell? ⟨k, 1, none⟩ = some v := ⟨cell_in h 0 _ rfl, cell_in h 1 _ rfl⟩
set_option maxHeartbeats 2000000 in
set_option maxRecDepth 100000 in
theorem add_ok {Aa : Option Addr} {c seq : Nat} {l : List Chg} (h : LW base w g d m (A ++ e :: B) room steps fuse fault name len next W) (RA : CRow W Aa l) (hsm : ∀ p ∈ l, p.small) (hc : chkB seq l = 0) (hns : next ≤ seq) (hlen : len ≤ 16777216)
    (hne : e.name = name) (hsz : name.length ≤ 100) (hr0 : room ≤ 16777216) (hroom : ((Dk.usedL (A ++ e :: B) : Nat) : Int) + ((lay len (bb seq l)).length : Int) ≤ room) (hcs : Dk.CanStep steps fuse fault) (hcs2 : Dk.CanStep (steps + 1) (Dk.tick fuse) (Dk.tick fault)) :
    Calls Tryz.prog 16 #[.pointer (some ⟨g, 0, none⟩), .agg #[.int .u64 seq, .slice Aa l.length c]] W fun r W' => ∃ v, r = .returned (.int .i64 0) ∧ LW base w g d m (A ++ laid e (lay len (bb seq l)) v :: B) room (steps + 1 + 1) (Dk.tick (Dk.tick fuse)) (Dk.tick (Dk.tick fault)) name (len + (lay len (bb seq l)).length) (seq + l.length) W' := by
  obtain ⟨q1, q2, q3, q4⟩ := chkB_ok.1 hc
  have hbl := bb_len (seq := seq) q2 q1
  have HB := Lib.hid fun (X : World) (hx : CRow X Aa l) => bytes_ok seq (c := c) (w := X) hx hsm hc
  have HL := Lib.hid fun (X : World) => flay_any (len : Int) (by omega) (by omega) (bb seq l) (by omega) X
  rw [Int.toNat_natCast] at HL
  have hdz : (lay len (bb seq l)).length ≤ 16777216 := by omega
  unfold ByPost at HB
  generalize lay len (bb seq l) = data at *
  generalize bb seq l = record at *
  have H := Lib.hid h
  have HNX := Lib.hid fun (X : World) => next_any seq (seq + l.length) Aa c l q3 q1 rfl X
  have hnf : W.heap.size ∉ Dk.feet d m (A ++ e :: B) := fun hk => by have := h.dk.lt _ hk; omega
  have HLY := Lib.hid fun (X : World) (hx : LW base w g d m (A ++ e :: B) room steps fuse fault name len next X) => lay_ok data hx hne hsz (by omega) hr0 hroom hcs hcs2
  have hal : Below W.heap.size W (W.alloc (.cells #[.int .u64 seq, .slice Aa l.length c] 32)) := (Below.refl _ _).alloc (Nat.le_refl _) _
  have hL1 := h.on hal
  obtain ⟨c0, c1, c2, c3, c4, c5⟩ := hL1.cells
  have H1 := Lib.hid (And.intro hL1 (And.intro (RA.on hal) (heap_alloc_new W (.cells #[.int .u64 seq, .slice Aa l.length c] 32))))
  have hz1 : W.heap.size < (W.alloc (.cells #[.int .u64 seq, .slice Aa l.length c] 32)).heap.size := by simp
  obtain ⟨nx, hnx⟩ : ∃ nx, seq + l.length = nx := ⟨_, rfl⟩
  obtain ⟨nl, hnl⟩ : ∃ nl, len + data.length = nl := ⟨_, rfl⟩
  have hw1 : IntKind.i64.wrap ((len : Int) + ((bs data).size : Int)) = (nl : Int) := by rw [bs_size, IntWalk.i64_in _ (by omega)]; omega
  rw [hnx] at HNX
  have HNL := Lib.hid (And.intro hnl hnx)
  have hgb : Hid (g ≠ W.heap.size) := Nat.ne_of_lt (hp_lt h.log)
  clear hnl hnx
  clear h hal hL1 RA hc hsm q2
  go_enter Tryz.func16, Tryz.ntmps16
  go_wp2
  go_region
  all_goals
    go_wp2_with (first
      | (go_at_call 36; (refine (HB.out _ (H1.out.2.1.on (Below.refl _ _).drew)).mono ?_); rintro r w2 ⟨rfl, hb2⟩
         have hb := ((Below.refl _ _).drew).trans hb2
         have h2 := H1.out.1.on hb
         have b2 := (hb.block _ hz1).trans H1.out.2.2
         have H2 := Lib.hid (And.intro h2 b2)
         obtain ⟨d0, d1, d2, d3, d4, d5⟩ := h2.cells
         have hz2 := hp_lt b2
         clear hb hb2 h2 b2)
      | (go_at_call 37; (refine (HL.out _).mono ?_); rintro r w3 ⟨rfl, hb3⟩
         have h3 := H2.out.1.on hb3
         have b3 := (hb3.block _ hz2).trans H2.out.2
         have H3 := Lib.hid (And.intro h3 b3)
         have hz3 := hp_lt b3
         clear hb3 h3 b3)
      | (go_at_call 38; (refine (HLY.out _ H3.out.1).mono ?_); rintro r w4 ⟨v4, rfl, h4, hz4, hk4⟩
         have b4 := (hk4 _ hz3 hnf).trans H3.out.2
         have h5 := h4.set2 nl
         have b5 : (w4.setCell ⟨g, 2, none⟩ (.int .i64 nl)).heap[W.heap.size]? = _ := (Below.heap_setCell w4 ⟨g, 2, none⟩ (.int .i64 nl) W.heap.size (fun e => hgb.out (by simpa using e.symm))).trans b4
         have H4 := Lib.hid (And.intro h5 b5)
         obtain ⟨e0, e1, e2, e3, e4, e5⟩ := h4.cells
         obtain ⟨f0, f1, f2, f3, f4, f5⟩ := h5.cells
         obtain ⟨p0, p1⟩ := box_cells b5
         have hz5 := hp_lt b5
         clear h4 hk4 b4 h5 b5)
      | (go_at_call 32; (refine (HNX.out _).mono ?_); rintro r w6 ⟨rfl, hb6⟩
         have h6 := H4.out.1.on hb6
         obtain ⟨r0, r1, r2, r3, r4, r5⟩ := h6.cells
         have H6 := Lib.hid (h6.set3 nx)
         clear hb6 h6))
  all_goals
    go_ret
    refine ⟨v4, rfl, ?_⟩
    rw [HNL.out.1, HNL.out.2]
    exact H6.out
end
end Go.Proofs.YtdkgieaanpfhcaaGreatDoor.Wa

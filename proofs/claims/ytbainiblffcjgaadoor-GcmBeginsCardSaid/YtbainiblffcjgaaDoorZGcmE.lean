/- Contracts of package gcm: a text taken exclusively with the nonce's blocks, sealed. -/
import Derived.Test.YtbainiblffcjgaaDoorZGcmD
namespace Go.Proofs.YtbainiblffcjgaaDoor.Gcm
set_option linter.unusedVariables false
set_option linter.unusedSimpArgs false
open Go Go.RowKit Kit
open Aes (gb tb tb_length arrB blk_byte enc enc_length Ciph)
open Ghash (none16 none_length len16)
open Field (cb cb_inj)
attribute [local go_sem] Oper.semAt_some

/-- An empty slice with room, made. -/
theorem make_room (N : Nat) (hN : N ≤ 140737488355328) : ∃ mk : Array Value, mk.size = N ∧ ∀ w, (Instr.makeSlice 24 (.int .i64 0) (.int .i64 (N : Int))).run Tryd.prog w = .ok (.slice (some ⟨w.heap.size, 0, none⟩) 0 N) (w.alloc (.cells mk 5)) := by
  obtain ⟨i, hi, hz0, hz1, hz2⟩ := info_parts (show (Tryd.prog.info? 5).map (fun i => (i.zero, i.size, i.bytes)) = some (some (.int .u8 0), 1, 1) by kernel_rfl)
  refine ⟨madeCells (Value.int .u8 0).cells (N * 1), by rw [size_madeCells, Nat.mul_one], fun w => ?_⟩
  have h := run_make (P := Tryd.prog) w 24 5 i (.int .u8 0) u8s_under hi hz0 .i64 .i64 0 (N : Int) (Int.le_refl _) (by omega) (by rw [hz2]; omega) (by omega)
  rw [hz1, Int.toNat_natCast] at h
  exact h
/-- The blocks that a round may write, of those that lay when the loop began: the row, the row's variable, the count. -/
def G3 (b : Nat) : Nat → Prop := fun k => k = b + 2 ∨ k = b + 3 ∨ k = b + 4
def F3 (b : Nat) : Nat → Prop := fun k => G3 b k ∨ b + 7 ≤ k
/-- What stands when the loop begins: b: where the function began; p, W, R: the sealer; nn: the nonce; l: the text. -/
structure Ms (b p : Nat) (W : List UInt8) (R : Nat) (nn l : List UInt8) (A : Option Addr) (n c : Nat) (w7 : World) : Prop where
  s : Blk w7 b 26 [.pointer (some ⟨p, 0, none⟩)]
  no : Blk w7 (b + 1) 38 (bvs nn)
  se : SealAt w7 p W R
  r : Row w7 A (bvs l)
  bs : Blk w7 (b + 5) 24 [.slice A n c]
  bn : Blk w7 (b + 6) 3 [.int .i64 16]
  lo : ∀ k, b ≤ k → ¬ (ab A = some k ∧ l ≠ [])
  pc : p < b ∧ ∃ g, g < b ∧ Blk w7 p 46 [.pointer (some ⟨g, 0, none⟩)] ∧ Ciph w7 g W R
theorem Ms.keep {b p : Nat} {W : List UInt8} {R : Nat} {nn l : List UInt8} {A : Option Addr} {n c : Nat} {w7 w8 : World} (h : Ms b p W R nn l A n c w7) (hz : w7.heap.size = b + 7) (k : Kp (F3 b) w7 w8) : Ms b p W R nn l A n c w8 := by
  have hb : ∀ j, j < b ∨ j = b + 1 ∨ j = b + 5 ∨ j = b + 6 ∨ j = b → ¬ F3 b j := fun j hj e => by unfold F3 G3 at e; omega
  obtain ⟨hp, g, hg, h1, h2⟩ := h.pc
  have h1' := h1.keep k (hb p (by omega))
  have h2' := h2.keep k (hb g (by omega))
  refine ⟨h.s.keep k (hb _ (by omega)), h.no.keep k (hb _ (by omega)), ⟨g, h1', h2'⟩, ?_, h.bs.keep k (hb _ (by omega)), h.bn.keep k (hb _ (by omega)), h.lo, hp, g, hg, h1', h2'⟩
  by_cases hl : l = []
  · rw [hl]; exact Row.nil _ _
  · exact h.r.keep k (fun j e e' => by
      have := h.r.lt (by intro e; exact hl (by simpa [bvs] using e)) j e
      rcases e' with e' | e'
      · exact h.lo j (by unfold G3 at e'; omega) ⟨e, hl⟩
      · omega)
/-- What stands between two rounds. -/
structure Mr (b : Nat) (W : List UInt8) (R : Nat) (nn l : List UInt8) (w7 : World) (pre : List Nat) (w8 : World) : Prop where
  o : ∃ A' n' c', n' = (mks W R nn l 0 pre).length ∧ Blk w8 (b + 3) 24 [.slice A' n' c'] ∧ Kit.Own 5 w8 A' n' c' (bvs (mks W R nn l 0 pre)) ∧ ∀ k, ab A' = some k → k = b + 2 ∨ b + 7 ≤ k
  x : Blk w8 (b + 4) 3 [.int .i64 ((pre.length + 2 : Nat) : Int)]
  kp : Kp (F3 b) w7 w8
theorem not_cells {W : World} {r : Nat} {g : Nat} {cs : Array Value} {t : TypeId} {fr : Nat × Nat} (h : W.heap[g]? = some (.cells cs t fr)) (hr : ∃ o : Obj, W.heap[r]? = some o ∧ o.isCells = false) : g ≠ r := by
  rintro rfl
  obtain ⟨o, ho, hc⟩ := hr
  rw [h] at ho; cases ho; cases hc
theorem Mr.own {b : Nat} {W : List UInt8} {R : Nat} {nn l : List UInt8} {w7 : World} (hz : w7.heap.size = b + 7) : OwnFrom w7.heap.size (fun pre w8 => Mr b W R nn l w7 pre w8) := by
  intro pre W1 W2 row h hg hr
  have k := Kp.of_grown (F := fun k => row = some k) hg (fun k e => e)
  obtain ⟨A', n', c', h1, h2, h3, h4⟩ := h.o
  refine ⟨⟨A', n', c', h1, h2.keep k (fun e => not_cells h2 (hr _ e).2 rfl), ?_, h4⟩, h.x.keep k (fun e => not_cells h.x (hr _ e).2 rfl), h.kp.trans k (fun j e => .inl (.inr (by have := (hr j e).1; omega)))⟩
  refine h3.keep k (fun j e e' => ?_)
  rcases h3.2 with ⟨h5, _⟩ | ⟨g, cap, cur, h5, _, h6, _⟩
  · injection h5 with h5; rw [h5] at e; cases e
  · injection h5 with h5
    rw [h5] at e; cases e
    exact not_cells h6 (hr _ e').2 rfl

/-- A piece, as a slice that reads it. -/
theorem pcv_row {w : World} {A : Option Addr} {l : List UInt8} {n : Nat} (h : Row w A (bvs l)) (hl : l.length = n) (x : Nat) : ∃ X q, pcv A n x = .slice X q q ∧ q = (piece l x).length ∧ q ≤ 16 ∧ Row w X (bvs (piece l x)) ∧ (ab X = ab A ∧ (q = 0 ∨ l ≠ [])) := by
  refine ⟨_, _, rfl, by rw [piece_length, hl], by omega, ?_, ab_cut _ _ _, ?_⟩
  · have h1 := (h.take (16 * x + min 16 (n - 16 * x))).cut (c := 16 * x + min 16 (n - 16 * x)) (k := 16 * x) (by rw [List.length_take]; omega)
    have e : ((bvs l).take (16 * x + min 16 (n - 16 * x))).drop (16 * x) = bvs (piece l x) := by
      rw [List.drop_take, show 16 * x + min 16 (n - 16 * x) - 16 * x = min 16 (n - 16 * x) by omega]
      rw [piece_eq, bvs, bvs, List.map_take, List.map_drop, List.take_eq_take_min (i := 16), List.length_drop, List.length_map, hl]
    rw [e] at h1
    exact h1
  · by_cases h0 : l = []
    · left; subst h0; simp at hl; omega
    · exact .inr h0
set_option maxHeartbeats 2000000 in
set_option maxRecDepth 100000 in
theorem masked_any (p : Nat) (W : List UInt8) (R : Nat) (nn l : List UInt8) (A : Option Addr) (n c : Nat) (w : World) (hS : SealAt w p W R) (hnn : nn.length = 12) (hl : l.length = n) (hc : n ≤ c) (hn : n ≤ 1099511627776) (hr : Row w A (bvs l)) :
    Calls Tryd.prog 18 #[.pointer (some ⟨p, 0, none⟩), .agg (bvs nn).toArray, .slice A n c] w fun e w' => ∃ A' c', e = .returned (.slice A' n c') ∧ Kit.Own 5 w' A' n c' (bvs (stream W R nn l)) ∧ Kp nob w w' ∧ ∀ k, ab A' = some k → w.heap.size ≤ k := by
  obtain ⟨mk, hmk1, hmk⟩ := make_room (n + 16) (by omega)
  simp only [show ((n + 16 : Nat) : Int) = (n : Int) + 16 by omega] at hmk
  have e1 : IntKind.i64.wrap ((n : Int) + 16) = (n : Int) + 16 := by rw [IntKind.wrap_i64]; omega
  have HNN := Lib.hid hnn; have HL := Lib.hid hl; have HM := Lib.hid hmk1; have HC := Lib.hid hc; have HN := Lib.hid hn
  obtain ⟨b, hb⟩ : ∃ b, b = w.heap.size := ⟨_, rfl⟩
  obtain ⟨w7, hw7⟩ : ∃ w7, w7 = ((((((w.alloc (.cells #[.pointer (some ⟨p, 0, none⟩)] 26)).alloc (.cells (bvs nn).toArray 38)).alloc (.cells mk 5)).alloc (.cells #[.slice (some ⟨w.heap.size + 1 + 1, 0, none⟩) 0 (n + 16)] 24)).alloc (.cells #[.int .i64 2] 3)).alloc (.cells #[.slice A n c] 24)).alloc (.cells #[.int .i64 16] 3) := ⟨_, rfl⟩
  have hz7 : w7.heap.size = b + 7 := by rw [hw7, hb]; simp
  have hk7 : Kp nob w w7 := by rw [hw7]; exact (((((((Kp.refl nob w).alloc _).alloc _).alloc _).alloc _).alloc _).alloc _).alloc _
  have hM : Ms b p W R nn l A n c w7 := by
    obtain ⟨g, h1, h2⟩ := hS.c
    have h1' := h1.keep hk7 (fun e => e)
    have h2' := h2.keep0 hk7
    refine ⟨?_, ?_, ⟨g, h1', h2'⟩, hr.keep0 hk7, ?_, ?_, ?_, by rw [hb]; exact h1.lt, g, by rw [hb]; exact h2.lt, h1', h2'⟩
    · rw [hw7]; exact ((((((Blk.new' hb rfl).alloc _).alloc _).alloc _).alloc _).alloc _).alloc _
    · rw [hw7]; exact (((((Blk.new' (by simp [hb]) rfl).alloc _).alloc _).alloc _).alloc _).alloc _
    · rw [hw7]; exact (Blk.new' (by simp [hb]) rfl).alloc _
    · rw [hw7]; exact Blk.new' (by simp [hb]) rfl
    · rintro k hk ⟨e, hl⟩
      have := hr.lt (by intro e; exact hl (by simpa [bvs] using e)) k e
      unfold G3 at hk; omega
  have hO : Mr b W R nn l w7 [] w7 := by
    refine ⟨⟨some ⟨b + 2, 0, none⟩, 0, n + 16, by rw [mks_nil]; rfl, ?_, ?_, fun k e => by cases e; exact .inl rfl⟩, ?_, Kp.refl _ _⟩
    · rw [hw7]; refine (((Blk.new' ?_ ?_).alloc _).alloc _).alloc _ <;> simp [hb]
    · rw [mks_nil]
      have h0 : Kit.Own 5 (((w.alloc (.cells #[.pointer (some ⟨p, 0, none⟩)] 26)).alloc (.cells (bvs nn).toArray 38)).alloc (.cells mk 5)) (some ⟨b + 2, 0, none⟩) 0 (n + 16) [] := by
        have := World.ownsRow_made (base := 0) (size := 1) (e := 5) ((w.alloc (.cells #[.pointer (some ⟨p, 0, none⟩)] 26)).alloc (.cells (bvs nn).toArray 38)) mk (n + 16) (Nat.zero_le _) (by unfold maxLen; omega) (by rw [hmk1, Nat.mul_one])
        rw [show ((w.alloc (.cells #[.pointer (some ⟨p, 0, none⟩)] 26)).alloc (.cells (bvs nn).toArray 38)).heap.size = b + 2 by simp [hb]] at this
        exact this
      rw [hw7]
      exact (((h0.alloc _).alloc _).alloc _).alloc _
    · rw [hw7]; exact ((Blk.new' (by simp [hb]) rfl).alloc _).alloc _
  have HM7 := Lib.hid hM; have HO7 := Lib.hid hO; have HK7 := Lib.hid hk7; have HB := Lib.hid hb; have HZ7 := Lib.hid hz7
  have c5 : w7.cell? ⟨b + 5, 0, none⟩ = some (.slice A n c) := hM.bs.cell 0
  have c6 : w7.cell? ⟨b + 6, 0, none⟩ = some (.int .i64 16) := hM.bn.cell 0
  clear hnn hl hS hr hmk1 hc hn hM hO hk7
  refine (callsIn_wide (n := 3)).1 ?_
  refine callsIn_of_wp_marks Tryd.func18 rfl trivial ?_ rfl
  simp only [Tryd.ntmps18, List.size_toArray, List.length_cons, List.length_nil, Nat.reduceAdd, Nat.reduceSub, Array.replicate_succ, Array.replicate_zero, List.push_toArray, List.append_toArray, List.nil_append, List.cons_append]
  gi_wp2_with (refine ⟨trivial, ?_⟩; refine (callsIn_wide.2 (chunk_any A n c _)).mono ?_; rintro e w' ⟨rfl, rfl⟩)
  rw [← hw7]
  simp only [← hb, Nat.add_assoc, Nat.reduceAdd]
  clear hw7 hmk hb
  refine wpIn_rangeFunc_ownF rfl (by decide) (gf := 41) (lb := #[.pointer (some ⟨b + 5, 0, none⟩), .pointer (some ⟨b + 6, 0, none⟩)]) rfl trivial (enters_of Tryd.func41 (by kernel_rfl) rfl)
    (chunk_stops 2 (b + 5) (b + 6) (F3 b) A n c (by have := HN.out; omega) HC.out (by unfold F3 G3; omega) (by unfold F3 G3; omega) w7 c5 c6 (by omega) (by omega)) (fun h k => kp_t h k) (kp_b (fun k hk => .inr (by omega))) (Below.refl _ _) (fun _ => rfl)
    (fun pre w8 => Mr b W R nn l w7 pre w8) (fun _ _ _ => False) (Mr.own hz7) (fun _ _ _ _ _ h _ _ => h) HO7.out
    (fun x => { tmps := #[.pointer (some ⟨p, 0, none⟩), .agg (bvs nn).toArray, .slice A n c, .pointer (some ⟨b, 0, none⟩), .pointer (some ⟨b + 1, 0, none⟩), undef, .slice none 0 0, .pointer (some ⟨b + 3, 0, none⟩), .pointer (some ⟨b + 4, 0, none⟩), pcv A n x, undef, undef, undef, .slice A n c, .int .i64 (n : Int), .int .i64 ((n : Int) + 16), .slice (some ⟨b + 2, 0, none⟩) 0 (n + 16), .slice A n c, .func (.func 41) #[] #[.pointer (some ⟨b + 5, 0, none⟩), .pointer (some ⟨b + 6, 0, none⟩)], pcv A n x, undef, undef, undef, undef, undef, undef, undef, undef, undef, undef, undef, undef, undef, undef, undef, undef, undef, undef, undef, undef, undef, undef, undef, undef, undef, undef, undef], defers := [] }) ?assign ?body ?done ?stop
  case assign =>
    intro l x W K hK
    gi_wp2
    exact hK
  case stop =>
    rintro D c pre W _ _ h _
    exact h.elim
  case done =>
    rintro D ys w8 hD rfl h hK
    have HO : Hid (∃ A' c', Blk w8 (b + 3) 24 [.slice A' n c'] ∧ Kit.Own 5 w8 A' n c' (bvs (stream W R nn l)) ∧ ∀ k, ab A' = some k → k = b + 2 ∨ b + 7 ≤ k) := Lib.hid (by
      obtain ⟨A', n', c', h1, h2, h3, h4⟩ := h.o
      rw [mks_all _ _ _ _ _ (by rw [HL.out]; omega)] at h1 h3
      rw [stream_length, HL.out] at h1
      subst h1
      exact ⟨A', c', h2, h3, h4⟩)
    have HK := Lib.hid h.kp
    clear h
    obtain ⟨A', c', h2, h3, h4⟩ := HO.out
    have c1 : w8.cell? ⟨b + 3, 0, none⟩ = some (.slice A' n c') := h2.cell 0
    have H3 := Lib.hid h3; have H4 := Lib.hid h4
    clear HO h2 h3 h4
    dsimp only
    gi_wp2
    refine ⟨by simp, .inl ⟨_, _, rfl, run_takeDeferred hK, ?_⟩⟩
    refine ⟨_, results_tmp rfl _ _ _, A', c', rfl, ownsRow_putObj H3.out _ hK rfl, ?_, fun k e => by have := H4.out k e; have := HB.out; omega⟩
    refine (HK7.out.since HK.out (fun i e => by have := HB.out; unfold F3 G3 at e; omega)).since (Kp.of_grown (F := fun k => k = D) (grownBy_putObj' w8 D _) (fun k e => by cases e; rfl)) (fun i e => by have := HB.out; rw [e]; omega)
  case body =>
    rintro lo pre x w8 h hlen
    have HM8 := Lib.hid (HM7.out.keep hz7 h.kp)
    have H8 := Lib.hid h
    clear h c5 c6
    obtain ⟨hpb, g, hgb, hg1, hg2⟩ := HM8.out.pc
    have HG := Lib.hid (And.intro hg1 hg2)
    obtain ⟨E, hE⟩ : ∃ E, E = enc W R (nb nn (pre.length + 2)) := ⟨_, rfl⟩
    have HE := Lib.hid hE
    have HEL := Lib.hid (show (bvs E).length = 16 by rw [bvs_length, hE, enc_length])
    have HNL := Lib.hid (show (bvs nn).length = 12 by rw [bvs_length, HNN.out])
    have HZ := Lib.hid (len16 none_length)
    have HPL := Lib.hid (show pre.length + 2 ≤ 1099511627776 by have := HN.out; omega)
    clear hE hg1 hg2
    gi_wp2
    rename_i K1 hK1
    have hcont : ∀ (m : Nat) (w9 : World), Kp nob w8 w9 → Blk w9 m 51 (bvs E) → w8.heap.size ≤ m → K1 { tmps := #[.pointer (some ⟨p, 0, none⟩), .agg (bvs nn).toArray, .slice A n c, .pointer (some ⟨b, 0, none⟩), .pointer (some ⟨b + 1, 0, none⟩), undef, .slice none 0 0, .pointer (some ⟨b + 3, 0, none⟩), .pointer (some ⟨b + 4, 0, none⟩), pcv A n x, .pointer (some ⟨m, 0, none⟩), undef, undef, .slice A n c, .int .i64 (n : Int), .int .i64 ((n : Int) + 16), .slice (some ⟨b + 2, 0, none⟩) 0 (n + 16), .slice A n c, .func (.func 41) #[] #[.pointer (some ⟨b + 5, 0, none⟩), .pointer (some ⟨b + 6, 0, none⟩)], pcv A n x, .pointer (some ⟨p, 0, none⟩), .pointer (some ⟨p, 0, none⟩), .pointer (some ⟨p, 0, none⟩), .pointer (some ⟨g, 0, none⟩), .agg (bvs nn).toArray, .int .i64 ((pre.length + 2 : Nat) : Int), .agg (bvs (nb nn (pre.length + 2))).toArray, .agg (bvs E).toArray, undef, undef, undef, undef, undef, undef, undef, undef, undef, undef, undef, undef, undef, undef, undef, undef, undef, undef, undef], defers := [] } w9 := by
      intro m w9 k9 hb9 hm9
      obtain ⟨X, q, hpc, hq, hq16, hrx, habx, hxl⟩ := pcv_row HM8.out.r HL.out x
      obtain ⟨A0, n0, c0, hn0, ho0, hO0, hA0⟩ := H8.out.o
      obtain ⟨P, hP⟩ : ∃ P, P = piece l x := ⟨_, rfl⟩
      obtain ⟨M0, hM0⟩ : ∃ M0, M0 = mks W R nn l 0 pre := ⟨_, rfl⟩
      have hml := mks_length W R nn l pre 0
      have hms := mks_snoc W R nn l x pre 0
      rw [Nat.zero_add, ← HE.out] at hms
      rw [← hP] at hq hrx hms
      rw [← hM0] at hn0 hO0 hml hms
      have H9 : Hid (Blk w9 (b + 3) 24 [.slice A0 n0 c0] ∧ Kit.Own 5 w9 A0 n0 c0 (bvs M0) ∧ Row w9 X (bvs P)) := Lib.hid ⟨ho0.keep k9 (fun e => e), hO0.keep k9 (fun _ _ e => e), hrx.keep0 k9⟩
      have HX : Hid (∀ j, ab X = some j → q ≠ 0 → ¬ (j = b + 3 ∨ ab A0 = some j)) := Lib.hid (fun j e hq0 h => by
        have hl0 := hxl.resolve_left hq0
        rw [habx] at e
        have hj := HM8.out.r.lt (by simpa [bvs] using hl0) j e
        rcases h with h | h
        · exact HM8.out.lo j (by omega) ⟨e, hl0⟩
        · have h7 := hA0 j h
          rcases h7 with h7 | h7
          · exact HM8.out.lo j (by omega) ⟨e, hl0⟩
          · exact HM8.out.lo j (by omega) ⟨e, hl0⟩)
      have HMM : Hid (¬ (m = b + 3 ∨ ab A0 = some m)) := Lib.hid (fun h => by
        have := ho0.lt
        rcases h with h | h
        · omega
        · have := hO0.lt m h; omega)
      apply hK1
      rw [hpc]
      have HPM := Lib.hid (show (bvs (M0 ++ mask E P)).length ≤ 1099511628000 by
        rw [bvs_length, List.length_append, mask_length]; have := HN.out; omega)
      have H80 := Lib.hid (And.intro ho0 hO0)
      have HMS := Lib.hid hms; have HML := Lib.hid hml; have HPQ := Lib.hid hq; have HQ16 := Lib.hid hq16; have HN0 := Lib.hid hn0; have HA0 := Lib.hid hA0; have HB9 := Lib.hid hb9; have HK9 := Lib.hid k9; have HM9 := Lib.hid hm9; have HHM := Lib.hid hM0
      clear hms hml hq hq16 hn0 hA0 hb9 k9 hm9 hM0 ho0 hO0 hrx habx hxl hpc hP
      gi_wp2
      gi_loopw [30] (fun vi wr => ∃ (k : Nat) (A' : Option Addr) (n' c' : Nat), k ≤ q ∧ vi = .int .i64 (k : Int) ∧ n' = (M0 ++ mask E (P.take k)).length ∧ Blk wr (b + 3) 24 [.slice A' n' c'] ∧ Kit.Own 5 wr A' n' c' (bvs (M0 ++ mask E (P.take k))) ∧ (ab A' = ab A0 ∨ ∃ j, ab A' = some j ∧ w9.heap.size ≤ j) ∧ Kp (fun j => j = b + 3 ∨ ab A0 = some j) w9 wr)
        (fun vi _ => q - (intOf vi).toNat)
      case atStart => exact ⟨0, A0, n0, c0, Nat.zero_le _, rfl, by rw [List.take_zero, mask_nil, List.append_nil]; exact HN0.out, H9.out.1, by rw [List.take_zero, mask_nil, List.append_nil]; exact H9.out.2.1, .inl rfl, Kp.refl _ _⟩
      case round =>
        obtain ⟨k, A', n', c', hk, rfl, hn', ho, hO, hA', hK⟩ := hrel
        by_cases hlt : k < q
        · obtain ⟨bx, ox, hXe, hbx, hcx⟩ := H9.out.2.2.at_ (i := k) (by rw [bvs_length, ← HPQ.out]; exact hlt)
          subst hXe
          obtain ⟨u, hu⟩ : ∃ u, u = gb P k := ⟨_, rfl⟩
          have hcx2 : wr.cell? ⟨bx, ox + k, none⟩ = some (.int .u8 (cb u)) := by
            rw [hK.cell (p := ⟨bx, ox + k, none⟩) hbx (HX.out bx rfl (by omega)), hcx, hu]
            have := Aes.gb_get P k (by rw [← HPQ.out]; exact hlt)
            rw [List.getElem?_eq_getElem (by rw [bvs_length, ← HPQ.out]; exact hlt)] at this
            exact this
          obtain ⟨v, hv⟩ : ∃ v, v = gb E k := ⟨_, rfl⟩
          have HU := Lib.hid hu; have HV := Lib.hid hv
          have hk16 : k < 16 := by have := HQ16.out; omega
          have HSN := Lib.hid (show M0 ++ mask E (P.take (k + 1)) = (M0 ++ mask E (P.take k)) ++ [u ^^^ v] by rw [mask_snoc E P k (by rw [← HPQ.out]; exact hlt), hu, hv, List.append_assoc])
          have HSL : Hid (n' + 1 ≤ 1099511628000) := Lib.hid (by
            have h1 := HPM.out
            have h2 : (M0 ++ mask E (P.take k)).length + 1 ≤ (bvs (M0 ++ mask E P)).length := by
              rw [bvs_length, List.length_append, List.length_append, mask_length, mask_length, List.length_take, ← HPQ.out]; omega
            omega)
          have HNEW : Hid (∀ j, ab A' = some j → j ≠ b + 3 ∧ j ≠ m ∧ (j = b + 2 ∨ b + 7 ≤ j)) := Lib.hid (fun j e => by
            have h3 := H9.out.1.lt
            have h4 := HB9.out.lt
            have h5 := HK9.out.size
            have h6 : b + 7 ≤ w8.heap.size := by have := H8.out.kp.size; omega
            rcases hA' with h | ⟨i, h, hi⟩
            · rw [h] at e
              refine ⟨fun h0 => ?_, fun h0 => HMM.out (.inr (by rw [← h0]; exact e)), HA0.out j e⟩
              have := HA0.out j e; omega
            · rw [h] at e; cases e
              exact ⟨by omega, by omega, .inr (by omega)⟩)
          have HO := Lib.hid hO; have HO1 := Lib.hid ho; have HA := Lib.hid hA'; have HKI := Lib.hid hK; have HNI := Lib.hid hn'
          have HBM := Lib.hid (HB9.out.keep hK HMM.out)
          clear hu hv hn' ho hO hA' hK hcx hbx
          gi_wp2
          refine reg_beginI (fun w' => Blk w' m 51 (bvs E)) (fun _ _ h => h) (by kernel_rfl) (by kernel_rfl) (HBM.out.keep (Kp.refl nob wr).drew (fun e => e)) (fun hS => ?_)
          have H0 := Lib.hid hS
          have HOd := Lib.hid (HO.out.keep (Kp.refl nob wr).drew (fun _ _ e => e))
          have HO1d := Lib.hid (HO1.out.keep (Kp.refl nob wr).drew (fun e => e))
          have HKd := Lib.hid (HKI.out.drew)
          clear hS
          have c1 : wr.drew.cell? ⟨b + 3, 0, none⟩ = some (.slice A' n' c') := HO1d.out.cell 0
          generalize wr.drew = wd at *
          refine reg_take (v := .int .u8 (cb u)) 1 (some 36) rfl rfl (by kernel_rfl) (by kernel_rfl) (by kernel_rfl) (by rfl) H0.out (fun w hw => by go_simp) ?_
          simp only [Act.put, List.setIfInBounds_toArray, List.set_cons_zero, List.set_cons_succ]
          refine reg_take (v := .int .i64 (k : Int)) 2 (some 37) rfl rfl (by kernel_rfl) (by kernel_rfl) (by kernel_rfl) (by rfl) H0.out (fun w hw => by go_simp) ?_
          simp only [Act.put, List.setIfInBounds_toArray, List.set_cons_zero, List.set_cons_succ]
          refine reg_take (v := .pointer (some ⟨m, k, none⟩)) 3 (some 38) rfl rfl (by kernel_rfl) (by kernel_rfl) (by kernel_rfl) (by rfl) H0.out (fun w hw => by go_simp; intro h; omega) ?_
          simp only [Act.put, List.setIfInBounds_toArray, List.set_cons_zero, List.set_cons_succ]
          refine reg_take (v := .int .u8 (cb v)) 4 (some 39) rfl rfl (by kernel_rfl) (by kernel_rfl) (by kernel_rfl) (by rfl) H0.out (fun w hw => by have c0 := blk_byte hw k (by have := HEL.out; rw [bvs_length] at this; omega); rw [← HV.out] at c0; go_simp) ?_
          simp only [Act.put, List.setIfInBounds_toArray, List.set_cons_zero, List.set_cons_succ]
          refine reg_take (v := .int .u8 (cb (u ^^^ v))) 5 (some 40) rfl rfl (by kernel_rfl) (by kernel_rfl) (by kernel_rfl) (by rfl) H0.out (fun w hw => by go_simp) ?_
          simp only [Act.put, List.setIfInBounds_toArray, List.set_cons_zero, List.set_cons_succ]
          have HSA := Lib.hid (H0.out.alloc (.cells #[.int .u8 (cb (u ^^^ v))] 5))
          obtain ⟨i0, hi0, hz0, hz1, hz2⟩ := info_parts (show (Tryd.prog.info? 5).map (fun i => (i.zero, i.size, i.bytes)) = some (some (.int .u8 0), 1, 1) by kernel_rfl)
          refine reg_stepOr (v := .slice A' n' c') (u := .slice (some ⟨wd.heap.size, 0, none⟩) 1 1) (wi := wd) (wj := wd.alloc (.cells #[.int .u8 (cb (u ^^^ v))] 5)) 0 6 (some 35) (some 41) rfl rfl rfl rfl (by kernel_rfl) (by rfl) (by rfl) (by go_simp) (by go_simp) H0.out HSA.out (fun _ => ?wa) (fun _ => ?wb)
          case wa =>
            simp only [Act.put, List.setIfInBounds_toArray, List.set_cons_zero, List.set_cons_succ]
            refine reg_step (w' := wd.alloc (.cells #[.int .u8 (cb (u ^^^ v))] 5)) (v := .slice (some ⟨wd.heap.size, 0, none⟩) 1 1) 6 (some 41) rfl rfl (by kernel_rfl) (by rfl) (by go_simp) HSA.out (fun _ => ?_)
            simp only [Act.put, List.setIfInBounds_toArray, List.set_cons_zero, List.set_cons_succ]
            refine reg_appK 7 (some 42) (.tmp 35) (.tmp 41) 24 rfl rfl rfl (by kernel_rfl) (by rfl) 1 (by decide) 5 i0 _ 1 u8s_under hi0 hz0 hz1 hz2 rfl A' n' c' (bvs (M0 ++ mask E (P.take k))) rfl (HOd.out.alloc _) ⟨wd.heap.size, 0, none⟩ 1 1 [.int .u8 (cb (u ^^^ v))] rfl rfl (row_one wd _ _) (bvs_one [u ^^^ v]) (by have := HSL.out; omega) (by have := HSL.out; omega) ?_
            intro A2 c2 w3 hown hg hab
            have hS3 : Blk w3 m 51 (bvs E) := HSA.out.keep (Kp.of_grown (F := rowF A') hg (fun k e => e)) (fun e => (HNEW.out m e).2.1 rfl)
            refine ⟨hS3, fun _ => ?_⟩
            simp only [Act.put, List.setIfInBounds_toArray, List.set_cons_zero, List.set_cons_succ]
            have HO3 := Lib.hid (show Kit.Own 5 w3 A2 (n' + 1) c2 (bvs (M0 ++ mask E (P.take (k + 1)))) by
              rw [HSN.out, bvs_append (M0 ++ mask E (P.take k))]; exact hown)
            have hb3 : Blk w3 (b + 3) 24 [.slice A' n' c'] := (HO1d.out.alloc _).keep (Kp.of_grown (F := rowF A') hg (fun k e => e)) (fun e => (HNEW.out _ e).1 rfl)
            have HB3 := Lib.hid (hb3.set_ 0 (.slice A2 (n' + 1) c2))
            have HNE : Hid (∀ j, ab A2 = some j → j ≠ b + 3) := Lib.hid (fun j e => by
              rcases hab with h | h
              · rw [h] at e; exact (HNEW.out j e).1
              · rw [h] at e; cases e; have := HO1d.out.lt; simp; omega)
            have HO4 := Lib.hid (HO3.out.far ⟨b + 3, 0, none⟩ (.slice A2 (n' + 1) c2) (fun j e => HNE.out j e))
            have HK4 : Hid (Kp (fun j => j = b + 3 ∨ ab A0 = some j) w9 (w3.setCell ⟨b + 3, 0, none⟩ (.slice A2 (n' + 1) c2))) := Lib.hid (by
              have h1 := (HKd.out.alloc (.cells #[.int .u8 (cb (u ^^^ v))] 5)).trans (Kp.of_grown (F := rowF A') hg (fun k e => e)) (fun j e => by
                rcases HA.out with h | ⟨i, h, hi⟩
                · exact .inl (.inr (by rw [← h]; exact e))
                · unfold rowF at e; rw [h] at e; cases e; exact .inr hi)
              exact h1.setCell (.inl (.inl rfl)) _)
            have HA4 : Hid (ab A2 = ab A0 ∨ ∃ j, ab A2 = some j ∧ w9.heap.size ≤ j) := Lib.hid (by
              rcases hab with h | h
              · rw [h]; exact HA.out
              · exact .inr ⟨_, h, by have := HKd.out.size; simp; omega⟩)
            have c3 := hb3.cell 0; have f3 := hb3.frozen 0
            refine reg_mute (w' := w3.setCell ⟨b + 3, 0, none⟩ (.slice A2 (n' + 1) c2)) 8 none rfl rfl (by kernel_rfl) (by rfl) (by go_simp) (hS3.far (fun e => HMM.out (.inl e)) _) (fun _ => ?_)
            simp only [Act.put, List.setIfInBounds_toArray, List.set_cons_zero, List.set_cons_succ]
            refine reg_end (by kernel_rfl) ?_
            clear hown hg hab hS3 hb3 c3 f3 c1
            gi_wp2
            go_roundw
            case rel => exact ⟨k + 1, A2, n' + 1, c2, by omega, by go_num, by rw [HSN.out, List.length_append, ← HNI.out]; rfl, HB3.out, HO4.out, HA4.out, HK4.out⟩
            case measure => simp [intOf]; omega
          case wb =>
            simp only [Act.put, List.setIfInBounds_toArray, List.set_cons_zero, List.set_cons_succ]
            have c2 : (wd.alloc (.cells #[.int .u8 (cb (u ^^^ v))] 5)).cell? ⟨b + 3, 0, none⟩ = some (.slice A' n' c') := (HO1d.out.alloc (.cells #[.int .u8 (cb (u ^^^ v))] 5)).cell 0
            refine reg_step (w' := wd.alloc (.cells #[.int .u8 (cb (u ^^^ v))] 5)) (v := .slice A' n' c') 0 (some 35) rfl rfl (by kernel_rfl) (by rfl) (by go_simp) HSA.out (fun _ => ?_)
            simp only [Act.put, List.setIfInBounds_toArray, List.set_cons_zero, List.set_cons_succ]
            clear c2
            refine reg_appK 7 (some 42) (.tmp 35) (.tmp 41) 24 rfl rfl rfl (by kernel_rfl) (by rfl) 1 (by decide) 5 i0 _ 1 u8s_under hi0 hz0 hz1 hz2 rfl A' n' c' (bvs (M0 ++ mask E (P.take k))) rfl (HOd.out.alloc _) ⟨wd.heap.size, 0, none⟩ 1 1 [.int .u8 (cb (u ^^^ v))] rfl rfl (row_one wd _ _) (bvs_one [u ^^^ v]) (by have := HSL.out; omega) (by have := HSL.out; omega) ?_
            intro A2 c2 w3 hown hg hab
            have hS3 : Blk w3 m 51 (bvs E) := HSA.out.keep (Kp.of_grown (F := rowF A') hg (fun k e => e)) (fun e => (HNEW.out m e).2.1 rfl)
            refine ⟨hS3, fun _ => ?_⟩
            simp only [Act.put, List.setIfInBounds_toArray, List.set_cons_zero, List.set_cons_succ]
            have HO3 := Lib.hid (show Kit.Own 5 w3 A2 (n' + 1) c2 (bvs (M0 ++ mask E (P.take (k + 1)))) by
              rw [HSN.out, bvs_append (M0 ++ mask E (P.take k))]; exact hown)
            have hb3 : Blk w3 (b + 3) 24 [.slice A' n' c'] := (HO1d.out.alloc _).keep (Kp.of_grown (F := rowF A') hg (fun k e => e)) (fun e => (HNEW.out _ e).1 rfl)
            have HB3 := Lib.hid (hb3.set_ 0 (.slice A2 (n' + 1) c2))
            have HNE : Hid (∀ j, ab A2 = some j → j ≠ b + 3) := Lib.hid (fun j e => by
              rcases hab with h | h
              · rw [h] at e; exact (HNEW.out j e).1
              · rw [h] at e; cases e; have := HO1d.out.lt; simp; omega)
            have HO4 := Lib.hid (HO3.out.far ⟨b + 3, 0, none⟩ (.slice A2 (n' + 1) c2) (fun j e => HNE.out j e))
            have HK4 : Hid (Kp (fun j => j = b + 3 ∨ ab A0 = some j) w9 (w3.setCell ⟨b + 3, 0, none⟩ (.slice A2 (n' + 1) c2))) := Lib.hid (by
              have h1 := (HKd.out.alloc (.cells #[.int .u8 (cb (u ^^^ v))] 5)).trans (Kp.of_grown (F := rowF A') hg (fun k e => e)) (fun j e => by
                rcases HA.out with h | ⟨i, h, hi⟩
                · exact .inl (.inr (by rw [← h]; exact e))
                · unfold rowF at e; rw [h] at e; cases e; exact .inr hi)
              exact h1.setCell (.inl (.inl rfl)) _)
            have HA4 : Hid (ab A2 = ab A0 ∨ ∃ j, ab A2 = some j ∧ w9.heap.size ≤ j) := Lib.hid (by
              rcases hab with h | h
              · rw [h]; exact HA.out
              · exact .inr ⟨_, h, by have := HKd.out.size; simp; omega⟩)
            have c3 := hb3.cell 0; have f3 := hb3.frozen 0
            refine reg_mute (w' := w3.setCell ⟨b + 3, 0, none⟩ (.slice A2 (n' + 1) c2)) 8 none rfl rfl (by kernel_rfl) (by rfl) (by go_simp) (hS3.far (fun e => HMM.out (.inl e)) _) (fun _ => ?_)
            simp only [Act.put, List.setIfInBounds_toArray, List.set_cons_zero, List.set_cons_succ]
            refine reg_end (by kernel_rfl) ?_
            clear hown hg hab hS3 hb3 c3 f3 c1
            gi_wp2
            go_roundw
            case rel => exact ⟨k + 1, A2, n' + 1, c2, by omega, by go_num, by rw [HSN.out, List.length_append, ← HNI.out]; rfl, HB3.out, HO4.out, HA4.out, HK4.out⟩
            case measure => simp [intOf]; omega
        · obtain rfl : q = k := by omega
          have htk : P.take q = P := List.take_of_length_le (by rw [HPQ.out]; omega)
          rw [htk] at hn' hO
          rw [← HMS.out] at hn' hO
          have hbx := H8.out.x.keep HK9.out (fun e => e)
          have hbx2 := hbx.keep hK (fun e => by
            rcases e with e | e
            · omega
            · have := HA0.out _ e; omega)
          have c4 : wr.cell? ⟨b + 4, 0, none⟩ = some (.int .i64 ((pre.length : Int) + 2)) := hbx2.cell 0
          have f4 := hbx2.frozen 0
          obtain ⟨N2, hN2⟩ : ∃ N2, N2 = pre.length + 3 := ⟨_, rfl⟩
          have e2 : IntKind.i64.wrap ((pre.length : Int) + 2 + 1) = (N2 : Int) := by rw [IntKind.wrap_i64]; have := HPL.out; omega
          have hkk : Kp (fun j => j = b + 3 ∨ j = b + 4 ∨ ab A0 = some j) w8 (wr.setCell ⟨b + 4, 0, none⟩ (.int .i64 (N2 : Int))) :=
            (((HK9.out.nob _).trans hK (fun j e => .inl (e.elim .inl (fun e => .inr (.inr e))))).setCell (.inl (.inr (.inl rfl))) _)
          have HKK := Lib.hid hkk
          have HOT : Hid (KeepsOthers w8 (wr.setCell ⟨b + 4, 0, none⟩ (.int .i64 (N2 : Int)))) := Lib.hid (hkk.others (fun j o hj ho => by
            rcases hj with rfl | rfl | e
            · have h1 : w8.heap[b + 3]? = _ := H80.out.1
              rw [h1] at ho; cases ho; rfl
            · have h1 : w8.heap[b + 4]? = _ := H8.out.x
              rw [h1] at ho; cases ho; rfl
            · rcases H80.out.2.2 with ⟨h5, _⟩ | ⟨g5, cap, cur, h5, _, h6, _⟩
              · injection h5 with h5; rw [h5] at e; cases e
              · injection h5 with h5
                rw [h5] at e; cases e
                rw [h6] at ho; cases ho; rfl))
          have HNW : Hid (∀ j, ab A' = some j → j = b + 2 ∨ b + 7 ≤ j) := Lib.hid (fun j e => by
            have h5 := HK9.out.size
            have h6 : b + 7 ≤ w8.heap.size := by have := H8.out.kp.size; omega
            rcases hA' with h | ⟨i, h, hi⟩
            · exact HA0.out j (by rw [← h]; exact e)
            · rw [h] at e; cases e; exact .inr (by omega))
          have HM2 : Hid (Mr b W R nn l w7 (pre ++ [x]) (wr.setCell ⟨b + 4, 0, none⟩ (.int .i64 (N2 : Int)))) := Lib.hid (by
            refine ⟨⟨A', n', c', hn', ho.far (by simp) _, hO.far _ _ (fun j e => ?_), fun j e => ?_⟩, ?_, ?_⟩
            · have := HNW.out j e
              simp only; omega
            · exact HNW.out j e
            · have := hbx2.set_ 0 (.int .i64 (N2 : Int))
              rw [List.length_append, show pre.length + [x].length + 2 = N2 by rw [hN2]; rfl]
              exact this
            · exact H8.out.kp.trans hkk (fun j e => by
                have h7 := H8.out.kp.size
                rcases e with e | e | e
                · exact .inl (.inl (.inr (.inl e)))
                · exact .inl (.inl (.inr (.inr e)))
                · rcases HA0.out j e with h | h
                  · exact .inl (.inl (.inl h))
                  · exact .inl (.inr h)))
          clear hbx hbx2 hkk hN2
          gi_wp2
          exact ⟨HOT.out, HKK.out.mono (fun j _ e => by
            rcases e with e | e | e
            · exact .inl (.inr (.inl e))
            · exact .inl (.inr (.inr e))
            · rcases HA0.out j e with h | h
              · exact .inl (.inl h)
              · exact .inr h), HM2.out⟩
    clear hK1
    refine reg_startI (fun w' => Kp nob w8 w') (fun _ _ h => h) (by kernel_rfl) (by kernel_rfl) (Kp.refl nob w8).drew (fun wd hd => ?_)
    have H0 := Lib.hid hd
    clear hd
    refine reg_take (v := .pointer (some ⟨p, 0, none⟩)) 0 (some 20) rfl rfl (by kernel_rfl) (by kernel_rfl) (by kernel_rfl) (by rfl) H0.out (fun w hw => by have c0 : w.cell? ⟨b, 0, none⟩ = _ := (HM8.out.s.keep hw (fun e => e)).cell 0; go_simp) ?_
    simp only [Act.put, List.setIfInBounds_toArray, List.set_cons_zero, List.set_cons_succ]
    refine reg_take (v := .pointer (some ⟨p, 0, none⟩)) 1 (some 21) rfl rfl (by kernel_rfl) (by kernel_rfl) (by kernel_rfl) (by rfl) H0.out (fun w hw => by go_simp) ?_
    simp only [Act.put, List.setIfInBounds_toArray, List.set_cons_zero, List.set_cons_succ]
    refine reg_take (v := .pointer (some ⟨p, 0, none⟩)) 2 (some 22) rfl rfl (by kernel_rfl) (by kernel_rfl) (by kernel_rfl) (by rfl) H0.out (fun w hw => by go_simp) ?_
    simp only [Act.put, List.setIfInBounds_toArray, List.set_cons_zero, List.set_cons_succ]
    refine reg_take (v := .pointer (some ⟨g, 0, none⟩)) 3 (some 23) rfl rfl (by kernel_rfl) (by kernel_rfl) (by kernel_rfl) (by rfl) H0.out (fun w hw => by have c0 : w.cell? ⟨p, 0, none⟩ = _ := (HG.out.1.keep hw (fun e => e)).cell 0; go_simp) ?_
    simp only [Act.put, List.setIfInBounds_toArray, List.set_cons_zero, List.set_cons_succ]
    refine reg_load 4 (some 24) 38 (.tmp 4) rfl rfl rfl (by kernel_rfl) (by kernel_rfl) (by kernel_rfl) (by rfl) H0.out (b + 1) 0 rfl (bvs nn) _ (fun _ x => (HM8.out.no.keep x (fun e => e)).range) arrN rfl (by rw [HNL.out]; kernel_rfl) ?_
    simp only [Act.put, List.setIfInBounds_toArray, List.set_cons_zero, List.set_cons_succ]
    refine reg_take (v := .int .i64 ((pre.length + 2 : Nat) : Int)) 5 (some 25) rfl rfl (by kernel_rfl) (by kernel_rfl) (by kernel_rfl) (by rfl) H0.out (fun w hw => by have c0 : w.cell? ⟨b + 4, 0, none⟩ = _ := (H8.out.x.keep hw (fun e => e)).cell 0; go_simp) ?_
    simp only [Act.put, List.setIfInBounds_toArray, List.set_cons_zero, List.set_cons_succ]
    refine reg_callOr (w' := wd.alloc (.cells (bvs none16).toArray 51)) (v := .pointer (some ⟨wd.heap.size, 0, none⟩)) 6 8 (some 26) (some 10) rfl rfl rfl rfl (by kernel_rfl) (by rfl) (by rfl) _ _ (exec_func 31 _ _ [.agg (bvs nn).toArray, .int .i64 ((pre.length + 2 : Nat) : Int)] rfl (by kernel_rfl) rfl) (by go_simp; rfl) (H0.out.alloc _) ?wa1 (fun _ => ?wb1)
    case wa1 =>
      refine (block_any nn (pre.length + 2) wd HNN.out HPL.out).mono ?_
      rintro e w1 ⟨rfl, k1⟩
      have H1 := Lib.hid (H0.out.trans k1 (fun _ e => e.elim))
      refine ⟨_, rfl, H1.out, fun _ => ?_⟩
      simp only [Act.put, List.setIfInBounds_toArray, List.set_cons_zero, List.set_cons_succ]
      refine reg_callOr (w' := w1.alloc (.cells (bvs none16).toArray 51)) (v := .pointer (some ⟨w1.heap.size, 0, none⟩)) 7 8 (some 27) (some 10) rfl rfl rfl rfl (by kernel_rfl) (by rfl) (by rfl) _ _ (exec_func 30 _ _ [.pointer (some ⟨g, 0, none⟩), .agg (bvs (nb nn (pre.length + 2))).toArray] rfl (by kernel_rfl) rfl) (by go_simp; rfl) (H1.out.alloc _) ?wa2 (fun _ => ?wb2)
      case wa2 =>
        refine (Aes.seal_any (nb nn (pre.length + 2)) W g R w1 (nb_length _ _ HNN.out) (HG.out.2.keep0 H1.out)).mono ?_
        rintro e w2 ⟨rfl, k2⟩
        rw [← HE.out]
        have H2 := Lib.hid (H1.out.trans k2 (fun _ e => e.elim))
        refine ⟨_, rfl, H2.out, fun _ => ?_⟩
        simp only [Act.put, List.setIfInBounds_toArray, List.set_cons_zero, List.set_cons_succ]
        refine reg_step (w' := w2.alloc (.cells (bvs none16).toArray 51)) (v := .pointer (some ⟨w2.heap.size, 0, none⟩)) 8 (some 10) rfl rfl (by kernel_rfl) (by rfl) (by go_simp; rfl) (H2.out.alloc _) (fun _ => ?_)
        simp only [Act.put, List.setIfInBounds_toArray, List.set_cons_zero, List.set_cons_succ]
        have hbk : Blk (w2.alloc (.cells (bvs none16).toArray 51)) w2.heap.size 51 (bvs none16) := Blk.new' rfl rfl
        have hge := H2.out.size
        refine reg_store 9 none 51 (.tmp 10) (.tmp 27) rfl rfl rfl (by kernel_rfl) (by rfl) w2.heap.size _ _ (bvs E) hbk rfl rfl (by rw [HEL.out, HZ.out]) (by rw [HEL.out]; kernel_rfl) (bvs_one _) ?_
        intro w99 hB99 k99 z99
        have hkk : Kp nob w8 w99 := (H2.out.alloc _).since k99 (fun i e => by unfold oneB at e; omega)
        refine ⟨hkk, fun _ => ?_⟩
        simp only [Act.put, List.setIfInBounds_toArray, List.set_cons_zero, List.set_cons_succ]
        exact reg_end (by kernel_rfl) (hcont w2.heap.size w99 hkk hB99 hge)
      case wb2 =>
        simp only [Act.put, List.setIfInBounds_toArray, List.set_cons_zero, List.set_cons_succ]
        have hbk : Blk (w1.alloc (.cells (bvs none16).toArray 51)) w1.heap.size 51 (bvs none16) := Blk.new' rfl rfl
        have hge := H1.out.size
        have H1a := Lib.hid (H1.out.alloc (.cells (bvs none16).toArray 51))
        generalize w1.alloc (.cells (bvs none16).toArray 51) = w1a at *
        refine reg_call 7 (some 27) rfl rfl (by kernel_rfl) (by rfl) _ _ (exec_func 30 _ _ [.pointer (some ⟨g, 0, none⟩), .agg (bvs (nb nn (pre.length + 2))).toArray] rfl (by kernel_rfl) rfl) ?_
        refine (Aes.seal_any (nb nn (pre.length + 2)) W g R w1a (nb_length _ _ HNN.out) (HG.out.2.keep0 H1a.out)).mono ?_
        rintro e w2 ⟨rfl, k2⟩
        rw [← HE.out]
        have H2 := Lib.hid (H1a.out.trans k2 (fun _ e => e.elim))
        refine ⟨_, rfl, H2.out, fun _ => ?_⟩
        simp only [Act.put, List.setIfInBounds_toArray, List.set_cons_zero, List.set_cons_succ]
        have hbk2 := hbk.keep k2 (fun e => e)
        refine reg_store 9 none 51 (.tmp 10) (.tmp 27) rfl rfl rfl (by kernel_rfl) (by rfl) w1.heap.size _ _ (bvs E) hbk2 rfl rfl (by rw [HEL.out, HZ.out]) (by rw [HEL.out]; kernel_rfl) (bvs_one _) ?_
        intro w99 hB99 k99 z99
        have hkk : Kp nob w8 w99 := H2.out.since k99 (fun i e => by unfold oneB at e; omega)
        refine ⟨hkk, fun _ => ?_⟩
        simp only [Act.put, List.setIfInBounds_toArray, List.set_cons_zero, List.set_cons_succ]
        exact reg_end (by kernel_rfl) (hcont w1.heap.size w99 hkk hB99 hge)
    case wb1 =>
      simp only [Act.put, List.setIfInBounds_toArray, List.set_cons_zero, List.set_cons_succ]
      have hbk : Blk (wd.alloc (.cells (bvs none16).toArray 51)) wd.heap.size 51 (bvs none16) := Blk.new' rfl rfl
      have hge := H0.out.size
      have H0a := Lib.hid (H0.out.alloc (.cells (bvs none16).toArray 51))
      generalize wd.alloc (.cells (bvs none16).toArray 51) = wda at *
      refine reg_call 6 (some 26) rfl rfl (by kernel_rfl) (by rfl) _ _ (exec_func 31 _ _ [.agg (bvs nn).toArray, .int .i64 ((pre.length + 2 : Nat) : Int)] rfl (by kernel_rfl) rfl) ?_
      refine (block_any nn (pre.length + 2) wda HNN.out HPL.out).mono ?_
      rintro e w1 ⟨rfl, k1⟩
      have H1 := Lib.hid (H0a.out.trans k1 (fun _ e => e.elim))
      refine ⟨_, rfl, H1.out, fun _ => ?_⟩
      simp only [Act.put, List.setIfInBounds_toArray, List.set_cons_zero, List.set_cons_succ]
      refine reg_call 7 (some 27) rfl rfl (by kernel_rfl) (by rfl) _ _ (exec_func 30 _ _ [.pointer (some ⟨g, 0, none⟩), .agg (bvs (nb nn (pre.length + 2))).toArray] rfl (by kernel_rfl) rfl) ?_
      refine (Aes.seal_any (nb nn (pre.length + 2)) W g R w1 (nb_length _ _ HNN.out) (HG.out.2.keep0 H1.out)).mono ?_
      rintro e w2 ⟨rfl, k2⟩
      rw [← HE.out]
      have H2 := Lib.hid (H1.out.trans k2 (fun _ e => e.elim))
      refine ⟨_, rfl, H2.out, fun _ => ?_⟩
      simp only [Act.put, List.setIfInBounds_toArray, List.set_cons_zero, List.set_cons_succ]
      have hbk2 := (hbk.keep k1 (fun e => e)).keep k2 (fun e => e)
      refine reg_store 9 none 51 (.tmp 10) (.tmp 27) rfl rfl rfl (by kernel_rfl) (by rfl) wd.heap.size _ _ (bvs E) hbk2 rfl rfl (by rw [HEL.out, HZ.out]) (by rw [HEL.out]; kernel_rfl) (bvs_one _) ?_
      intro w99 hB99 k99 z99
      have hkk : Kp nob w8 w99 := H2.out.since k99 (fun i e => by unfold oneB at e; omega)
      refine ⟨hkk, fun _ => ?_⟩
      simp only [Act.put, List.setIfInBounds_toArray, List.set_cons_zero, List.set_cons_succ]
      exact reg_end (by kernel_rfl) (hcont wd.heap.size w99 hkk hB99 hge)
end Go.Proofs.YtbainiblffcjgaaDoor.Gcm

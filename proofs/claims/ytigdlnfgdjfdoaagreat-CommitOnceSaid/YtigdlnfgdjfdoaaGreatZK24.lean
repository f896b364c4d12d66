/- Lemmas: RecB RecC RecD SegZ. -/
import Derived.Test.YtigdlnfgdjfdoaaGreatZK25
set_option maxHeartbeats 4000000
set_option maxRecDepth 100000
set_option linter.unusedVariables false
set_option linter.unusedSimpArgs false
namespace Go.Proofs.YtigdlnfgdjfdoaaGreat
namespace Rec
open Go Go.RowKit Kit
structure Bd where
 ql : Int
 qh : Int
 il : Int
 ih : Int
 nl : Int
 nh : Int
 wl : Int
 wh : Int
 body : Int
def bz : Bd := ⟨0, 0, 0, 0, 0, 0, 0, 0, 0⟩
def bds (k : Int) : Bd :=
 if k = 1 then { bz with ql := 1, qh := 16, il := 1, ih := 16, nl := 1, nh := 64, wl := 1, wh := 1048576 }
 else if k = 2 then { bz with ql := 1, qh := 16 }
 else if k = 3 then { bz with ql := 1, qh := 16, il := 1, ih := 1099511627776, body := 512 }
 else if k = 4 then { bz with ql := 1, qh := 16, il := 1, ih := 1099511627776, nl := 1, nh := 1125899907891200 }
 else if k = 5 ∨ k = 6 ∨ k = 10 then { bz with ql := 1, qh := 16, il := 1, ih := 1099511627776 }
 else if k = 13 then { bz with ql := 1, qh := 16, il := 1, ih := 1099511627777 }
 else if k = 7 then { bz with nl := 0, nh := 1125899906842624 }
 else if k = 8 ∨ k = 9 then { bz with il := 1, ih := 1099511627776 }
 else if k = 11 then { bz with ql := 1, qh := 16, il := 1, ih := 1099511627776, nl := 0, nh := 1125899907891200, wl := 0, wh := 16, body := 512 }
 else if k = 12 then { bz with ql := 1, qh := 16, il := 1, ih := 1099511627776, wl := 0, wh := 16, body := 512 }
 else bz
def kn (k : Int) : Bool := decide (1 ≤ k ∧ k ≤ 13)
def sv (lo hi : Int) : Value := .agg #[.int .i64 lo, .int .i64 hi]
def bcells (b : Bd) : List Value := [.int .i64 b.ql, .int .i64 b.qh, .int .i64 b.il, .int .i64 b.ih, .int .i64 b.nl, .int .i64 b.nh, .int .i64 b.wl, .int .i64 b.wh, .int .i64 b.body]
def bdv (b : Bd) : Value := .agg (bcells b).toArray
theorem good_bds (r : Rec) : good r = (kn r.kind && inB r.queue (bds r.kind).ql (bds r.kind).qh && inB r.id (bds r.kind).il (bds r.kind).ih && inB r.num (bds r.kind).nl (bds r.kind).nh && inB r.wait (bds r.kind).wl (bds r.kind).wh && decide ((r.body.length : Int) ≤ (bds r.kind).body)) := by
 obtain ⟨kind, queue, id, num, wait, body⟩ := r
 have hz : ∀ n : Int, decide (n = 0) = inB n 0 0 := fun n => by simp only [inB, ← Bool.decide_and]; congr 1; exact propext ⟨fun _ => by omega, fun _ => by omega⟩
 have hb : body.isEmpty = decide ((body.length : Int) ≤ 0) := by cases body <;> simp
 have h5 : decide (body.length ≤ 512) = decide ((body.length : Int) ≤ 512) := by simp; omega
 unfold good bds kn
 simp only [hz, hb, h5]
 split
 · rename_i h; subst h; simp [bz]
 split
 · rename_i h; subst h; simp [bz]
 split
 · rename_i h; subst h; simp [bz]
 split
 · rename_i h; subst h; simp [bz]
 split
 · rename_i h; rcases h with rfl | rfl | rfl <;> simp [bz]
 split
 · rename_i h; subst h; simp [bz]
 split
 · rename_i h; subst h; simp [bz]
 split
 · rename_i h; rcases h with rfl | rfl <;> simp [bz]
 split
 · rename_i h; subst h; simp [bz]
 split
 · rename_i h; subst h; simp [bz]
 · simp; omega
theorem has_any (n lo hi : Int) (w : World) : Calls Tryz.prog 78 #[sv lo hi, .int .i64 n] w fun e w' => e = .returned (.bool (inB n lo hi)) ∧ w' = w.alloc (.cells #[.int .i64 lo, .int .i64 hi] 147) := by
 unfold sv
 go_enter Tryz.func78, Tryz.ntmps78
 go_wp2
 all_goals
  go_ret
  refine ⟨?_, rfl⟩
  simp_all [inB] <;> omega
theorem bd_row : (Tryz.prog.underlying 149).map (·.isRow) = some true := by kernel_rfl
theorem bd_under : ∃ d, Tryz.prog.underlying 149 = some d ∧ d.isRow = true := by
 have h := bd_row
 cases hu : Tryz.prog.underlying 149 with
 | none => rw [hu] at h; cases h
 | some d => rw [hu] at h; exact ⟨d, rfl, by simpa using h⟩
theorem bd_size : (Tryz.prog.info? 149).map (·.size) = some 9 := by kernel_rfl
theorem boundsOf_any (k : Int) (w : World) : Calls Tryz.prog 77 #[.int .i64 k] w fun e w' => e = .returned (.tuple #[bdv (bds k), .bool (kn k)]) ∧ Kp nob w w' := by
 obtain ⟨d, hd1, hd2⟩ := bd_under
 go_enter Tryz.func77, Tryz.ntmps77
 go_wp2
 all_goals
  refine bodyPost_ret (results_rec rfl _ _ w.heap.size _ _ d rfl (Blk.new3 _ _ _ _ _ _) hd1 hd2 (by exact bd_size) _ rfl) rfl ⟨?_, Kp.new3 _ _ _ _ _⟩
  simp_all [bds, kn, bdv, bcells, bz] <;> omega
theorem cGood (r : Rec) (w : World) (hl : r.body.length ≤ 9223372036854775807) : Calls Tryz.prog 63 #[rv r] w fun e w' => e = .returned (.bool (good r)) ∧ Kp nob w w' := by
 have hg := good_bds r
 have hb := fun w' => boundsOf_any r.kind w'
 obtain ⟨B, hB⟩ : ∃ B, B = bds r.kind := ⟨_, rfl⟩
 obtain ⟨K, hK⟩ : ∃ K, K = kn r.kind := ⟨_, rfl⟩
 rw [← hB, ← hK] at hg
 simp only [← hB, ← hK] at hb
 clear hB hK
 obtain ⟨kind, queue, id, num, wait, body⟩ := r
 obtain ⟨ql, qh, il, ih, nl, nh, wl, wh, bl⟩ := B
 have HG := Lib.hid hg; clear hg
 have HBO := Lib.hid hb; clear hb
 simp only at hl
 have hh := has_any
 unfold sv at hh
 have HH := Lib.hid hh; clear hh
 unfold rv
 have k0 : Kp nob w (w.alloc (.cells #[.int .i64 kind, .int .i64 queue, .int .i64 id, .int .i64 num, .int .i64 wait, .string (str body)] 67)) := (Kp.refl nob w).alloc _
 have HK0 := Lib.hid k0; clear k0
 have HB0 := Lib.hid (Blk.new w 67 [.int .i64 kind, .int .i64 queue, .int .i64 id, .int .i64 num, .int .i64 wait, .string (str body)])
 go_enter Tryz.func63, Tryz.ntmps63
 go_wp2_with fail
 refine (HBO.out _).mono ?_
 rintro e w1 ⟨rfl, k1⟩
 have b1 := HB0.out.keep k1 (fun e => e)
 have HK1 := Lib.hid (HK0.out.trans k1 (fun _ e => e.elim))
 have c0 := b1.cell 0
 have c1 := b1.cell 1
 have c2 := b1.cell 2
 have c3 := fun a1 a2 a3 => (((b1.alloc a1).alloc a2).alloc a3).cell 3
 have c4 := fun a1 a2 a3 a4 => ((((b1.alloc a1).alloc a2).alloc a3).alloc a4).cell 4
 have c5 := fun a1 a2 a3 a4 a5 => (((((b1.alloc a1).alloc a2).alloc a3).alloc a4).alloc a5).cell 5
 have hlt := b1.lt
 simp at c0 c1 c2 c3 c4 c5
 clear b1 k1 HB0 HK0
 unfold bdv bcells
 simp only
 go_wp2_with (go_at_call 78; refine (HH.out _ _ _ _).mono ?_; rintro e w' ⟨rfl, rfl⟩)
 all_goals
  go_ret
  refine ⟨?_, by repeat (first | exact HK1.out | apply Kp.alloc)⟩
  rw [HG.out]
  simp_all
structure Pw (w : World) (r : Rec) (N : Nat) (A : Option Addr) (l : List UInt8) (w2 : World) : Prop where
 z : Blk w2 w.heap.size 67 (rcells r)
 i : IsW w2 N A l
 f : ∀ k, WF N A k → w.heap.size < k
 k : Kp nob w w2
theorem Pw.keep {w w2 w3 : World} {r : Rec} {N : Nat} {A : Option Addr} {l : List UInt8} (h : Pw w r N A l w2) (k : Kp nob w2 w3) : Pw w r N A l w3 := ⟨h.z.keep k (fun e => e), h.i.keep k (fun _ _ e => e), h.f, h.k.trans k (fun _ e => e.elim)⟩
theorem Pw.more {w w2 w3 : World} {r : Rec} {N : Nat} {A : Option Addr} {l l' : List UInt8} (h : Pw w r N A l w2) (p : WPost w2 N A l' w3) : ∃ A', Pw w r N A' l' w3 := by
 obtain ⟨A', h1, h2, h3⟩ := p
 refine ⟨A', h.z.keep h2 (fun e => Nat.lt_irrefl _ (h.f _ e)), h1, fun k e => ?_, h.k.since h2 (fun i e => Nat.le_of_lt (h.f i e))⟩
 rcases e with e | e
 · exact h.f k (.inl e)
 · exact h3.ge (N := w.heap.size + 1) (fun k e => h.f k (.inr e)) (by have := h.z.lt; omega) k e
theorem Pw.start {w w1 : World} {r : Rec} (hz : Blk w1 w.heap.size 67 (rcells r)) (k : Kp nob w w1) : Pw w r w1.heap.size none [] (w1.alloc (.cells #[.slice none 0 0] 137)) :=
 ⟨hz.alloc _, isW_new w1, fun j e => (by
  rcases e with rfl | e
  · exact hz.lt
  · cases e), k.alloc _⟩
theorem Pw.cells {w w2 : World} {r : Rec} {N : Nat} {A : Option Addr} {l : List UInt8} (h : Pw w r N A l w2) : w2.cell? ⟨w.heap.size, 0, none⟩ = some (.int .i64 r.kind) ∧ w2.cell? ⟨w.heap.size, 1, none⟩ = some (.int .i64 r.queue) ∧ w2.cell? ⟨w.heap.size, 2, none⟩ = some (.int .i64 r.id) ∧ w2.cell? ⟨w.heap.size, 3, none⟩ = some (.int .i64 r.num) ∧ w2.cell? ⟨w.heap.size, 4, none⟩ = some (.int .i64 r.wait) ∧ w2.cell? ⟨w.heap.size, 5, none⟩ = some (.string (str r.body)) :=
 ⟨h.z.cell 0, h.z.cell 1, h.z.cell 2, h.z.cell 3, h.z.cell 4, h.z.cell 5⟩
theorem Pw.byte {w w2 : World} {r : Rec} {N : Nat} {A : Option Addr} {l : List UInt8} (h : Pw w r N A l w2) (H : Nat) (hH : w2.heap.size = H) (v : Value) (b : UInt8) (hv : v = bv b) (t : TypeId) (hl : l.length ≤ 1048576) :
    Calls Tryz.prog 114 #[.pointer (some ⟨N, 0, none⟩), .slice (some ⟨H, 0, none⟩) 1 1] (w2.alloc (.cells #[v] t)) fun e w' => e = .returned (.tuple #[]) ∧ ∃ A', Pw w r N A' (l ++ [b]) w' := by
 subst hH hv
 have h2 := h.keep ((Kp.refl nob w2).alloc (.cells #[bv b] t))
 exact (wByte N A l (some ⟨w2.heap.size, 0, none⟩) 1 1 [b] _ h2.i (fun e => by cases e) rfl (row_one w2 (bv b) t) (by omega)).mono fun e w' ⟨he, p⟩ => ⟨he, h2.more p⟩
theorem Pw.num4 {w w2 : World} {r : Rec} {N : Nat} {A : Option Addr} {l : List UInt8} (h : Pw w r N A l w2) (H : Nat) (hH : w2.heap.size = H) (a b c d : Int) (t : TypeId) (hl : l.length ≤ 1048576) :
    Calls Tryz.prog 69 #[.pointer (some ⟨N, 0, none⟩), .slice (some ⟨H, 0, none⟩) 4 4] (w2.alloc (.cells #[.int .i64 a, .int .i64 b, .int .i64 c, .int .i64 d] t)) fun e w' => e = .returned (.tuple #[]) ∧ ∃ A', Pw w r N A' (l ++ [a, b, c, d].flatMap num8) w' := by
 subst hH
 have h2 := h.keep ((Kp.refl nob w2).alloc (.cells #[.int .i64 a, .int .i64 b, .int .i64 c, .int .i64 d] t))
 exact (wNum N A l (some ⟨w2.heap.size, 0, none⟩) 4 4 [a, b, c, d] _ h2.i rfl (row_new w2 (ivs [a, b, c, d]) t) h.i.apart (by omega) (by omega)).mono fun e w' ⟨he, p⟩ => ⟨he, h2.more p⟩
theorem Pw.text {w w2 : World} {r : Rec} {N : Nat} {A : Option Addr} {l : List UInt8} (h : Pw w r N A l w2) (H : Nat) (hH : w2.heap.size = H) (s : ByteArray) (t : TypeId) (hl : l.length ≤ 1048576) (hs : s.size ≤ 1048576) :
    Calls Tryz.prog 68 #[.pointer (some ⟨N, 0, none⟩), .slice (some ⟨H, 0, none⟩) 1 1] (w2.alloc (.cells #[.string s] t)) fun e w' => e = .returned (.tuple #[]) ∧ ∃ A', Pw w r N A' (l ++ textB s) w' := by
 subst hH
 have h2 := h.keep ((Kp.refl nob w2).alloc (.cells #[.string s] t))
 have ht := textB_le s
 exact (wText N A l (some ⟨w2.heap.size, 0, none⟩) 1 1 [s] _ h2.i rfl (row_one w2 (.string s) t) h.i.apart (by omega) (by simp; omega)).mono fun e w' ⟨he, p⟩ => ⟨he, by simpa using h2.more p⟩
theorem put_no (r : Rec) (w : World) (hl : r.body.length ≤ 9223372036854775807) (hg : good r = false) : Calls Tryz.prog 112 #[rv r] w fun e w' => e = .returned (.tuple #[.slice none 0 0, .int .i64 1]) ∧ Kp nob w w' := by
 have hgo := fun w' => cGood r w' hl
 rw [hg] at hgo
 have HG := Lib.hid hgo; clear hgo hg
 unfold rv at HG ⊢
 have HK0 := Lib.hid ((Kp.refl nob w).alloc (.cells #[.int .i64 r.kind, .int .i64 r.queue, .int .i64 r.id, .int .i64 r.num, .int .i64 r.wait, .string (str r.body)] 67))
 go_enter Tryz.func112, Tryz.ntmps112
 go_wp2_with fail
 refine (HG.out _).mono ?_
 rintro e w1 ⟨rfl, k1⟩
 go_wp2
 go_ret2
 exact ⟨rfl, HK0.out.trans k1 (fun _ e => e.elim)⟩
theorem put_yes (r : Rec) (w : World) (hg : good r = true) : Calls Tryz.prog 112 #[rv r] w fun e w' =>
    ∃ A c, e = .returned (.tuple #[.slice A (36 + r.body.length) c, .int .i64 0]) ∧ Kit.Own 5 w' A (36 + r.body.length) c (bvs (recB r)) ∧ Fresh w.heap.size A ∧ Kp nob w w' := by
 have hb := good_bounds r hg
 have hgo := fun w' => cGood r w' (by omega)
 rw [hg] at hgo
 have HG := Lib.hid hgo; clear hgo hg
 unfold rv at HG ⊢
 have HK0 := Lib.hid ((Kp.refl nob w).alloc (.cells #[.int .i64 r.kind, .int .i64 r.queue, .int .i64 r.id, .int .i64 r.num, .int .i64 r.wait, .string (str r.body)] 67))
 have HB0 := Lib.hid (Blk.new w 67 (rcells r))
 have hk8 : Value.int .u8 (r.kind % 256) = bv (UInt8.ofNat r.kind.toNat) := by rw [bv_ofNat]; congr 1; omega
 have HK8 := Lib.hid hk8
 have HB := Lib.hid hb
 clear hb hk8
 go_enter Tryz.func112, Tryz.ntmps112
 go_wp2_with fail
 refine (HG.out _).mono ?_
 rintro e w1 ⟨rfl, k1⟩
 have P0 := Lib.hid (Pw.start (HB0.out.keep k1 (fun e => e)) (HK0.out.trans k1 (fun _ e => e.elim)))
 obtain ⟨c0, c1, c2, c3, c4, c5⟩ := P0.out.cells
 clear HB0 HK0 k1 c1 c2 c3 c4 c5
 go_wp2_with fail
 refine (P0.out.byte _ (by simp) _ _ HK8.out _ (by simp)).mono ?_
 rintro e w2 ⟨rfl, A1, P1⟩
 have P1 := Lib.hid P1
 obtain ⟨d0, c1, c2, c3, c4, d5⟩ := P1.out.cells
 clear c0 P0 d0 d5
 go_wp2_with fail
 refine (P1.out.num4 _ rfl _ _ _ _ _ (by simp)).mono ?_
 rintro e w3 ⟨rfl, A2, P2⟩
 have P2 := Lib.hid P2
 obtain ⟨d0, d1, d2, d3, d4, c5⟩ := P2.out.cells
 clear c1 c2 c3 c4 P1 d0 d1 d2 d3 d4
 go_wp2_with fail
 refine (P2.out.text _ rfl _ _ (by simp) (by have := HB.out; simp; omega)).mono ?_
 rintro e w4 ⟨rfl, A3, P3⟩
 have P3 := Lib.hid P3
 clear c5 P2
 have he : ([] : List UInt8) ++ [UInt8.ofNat r.kind.toNat] ++ [r.queue, r.id, r.num, r.wait].flatMap num8 ++ textB (str r.body) = recB r := by unfold recB; simp
 rw [he] at P3
 have hl := recB_length r (by have := HB.out; omega)
 have HL := Lib.hid hl; clear hl he
 go_wp2_with fail
 refine (wBytes w1.heap.size A3 _ _ P3.out.i (by have := HB.out; have := HL.out; omega)).mono ?_
 rintro e w5 ⟨A4, c5, rfl, ho, k5, hf, hn⟩
 go_wp2
 go_ret2
 rw [HL.out] at ho ⊢
 exact ⟨A4, c5, rfl, ho, fun k e => Nat.le_trans P3.out.k.size (hf k e), P3.out.k.trans k5 (fun _ e => e.elim)⟩
theorem size_any (A : Option Addr) (m d : Nat) (rs : List Rec) (w : World) (hm : rs.length = m) (hp : Rrow w A rs) (hT : total rs ≤ 1099511627776) (hd : m ≤ maxLen) :
    Calls Tryz.prog 72 #[.slice A m d] w fun e w' => e = .returned (.int .i64 (total rs : Nat)) ∧ Kp nob w w' := by
 unfold maxLen at hd
 go_enter Tryz.func72, Tryz.ntmps72
 go_wp2
 go_loopw [3, 8] (fun t i wr => ∃ k : Nat, k ≤ m ∧ i = .int .i64 k ∧ t = .int .i64 (total (rs.take k) : Nat) ∧ Kp nob w wr)
  (fun _ i _ => m - (intOf i).toNat)
 case atStart => exact ⟨0, Nat.zero_le _, rfl, rfl, Kp.refl _ _⟩
 case round =>
  obtain ⟨k, hk, rfl, rfl, kr⟩ := hrel
  by_cases hlt : k < m
  · obtain ⟨bb, oo, rfl, hbb, hc0, hc1, hc2, hc3, hc4, hc5⟩ := (hp.keep0 kr).at_ (i := k) (by omega)
    have hsn := total_snoc rs k (by omega)
    have htk := total_take rs (k + 1)
    obtain ⟨p, hpe⟩ : ∃ p, p = rs[k]'(by omega) := ⟨_, rfl⟩
    rw [← hpe] at hc0 hc1 hc2 hc3 hc4 hc5 hsn
    obtain ⟨T, hTe⟩ : ∃ T, T = total (rs.take k) := ⟨_, rfl⟩
    rw [← hTe] at hsn ⊢
    have hb1 : (T : Int) + (36 + (p.body.length : Int)) ≤ 9223372036854775807 := by omega
    have H1 := Lib.hid hpe; have H2 := Lib.hid hTe; have H3 := Lib.hid hsn; have H4 := Lib.hid htk; have H5 := Lib.hid hT
    clear hpe hTe hsn htk
    go_wp2
    go_roundw
    case rel => exact ⟨k + 1, by omega, by go_num, by rw [H3.out]; go_num, kr.alloc _⟩
    case measure => simp [intOf]; omega
  · obtain rfl : k = m := by omega
    rw [List.take_of_length_le (by omega)]
    go_wp2
    go_ret
    exact ⟨rfl, kr⟩
end Rec
namespace Seg
open Go Go.RowKit Kit
open Rec (Rec good ftot fsec split Rrow Sr SrOk total size_any)
theorem ftot_total (rs : List Rec) : ftot rs = 48 + 27 * rs.length + total rs := by
 unfold ftot total
 induction rs with
 | nil => rfl
 | cons r rs ih => simp only [List.map_cons, List.sum_cons, List.length_cons]; omega
theorem size_c : SizeC := by
 intro A m d rs w hm hp hT hd
 have hf := ftot_total rs
 have HF := Lib.hid hf
 have HS := Lib.hid (fun w' (k : Kp nob w w') => size_any A m d rs w' hm (hp.keep0 k) (by omega) (by unfold maxLen; omega))
 obtain ⟨T, hT2⟩ : ∃ T, T = total rs := ⟨_, rfl⟩
 rw [← hT2] at HS HF hf
 have e1 : IntKind.i64.wrap ((27 : Int) * (m : Int)) = ((27 * m : Nat) : Int) := by rw [IntWalk.i64_in _ (by omega)]; omega
 have e2 : IntKind.i64.wrap ((48 : Int) + ((27 * m : Nat) : Int)) = ((48 + 27 * m : Nat) : Int) := by rw [IntWalk.i64_in _ (by omega)]; omega
 have e3 : IntKind.i64.wrap (((48 + 27 * m : Nat) : Int) + (T : Int)) = ((48 + 27 * m + T : Nat) : Int) := by rw [IntWalk.i64_in _ (by omega)]; omega
 have HE : Hid (ftot rs = 48 + 27 * m + T) := Lib.hid (by omega)
 have hTb : T ≤ 1099511627776 := by omega
 clear hm hp hT hT2 hf
 go_enter Tryz.func50, Tryz.ntmps50
 go_wp2_with (first | (go_at_call 72; refine (HS.out _ (Kp.refl _ _)).mono ?_; rintro e w2 ⟨rfl, k2⟩) | fail)
 go_ret
 exact ⟨by rw [HE.out]; go_num, k2⟩
theorem sectors_c : SectorsC := by
 intro A m d rs w hm hp hT hd
 have HF := Lib.hid (size_c A m d rs w hm hp hT hd)
 have HS := Lib.hid (show fsec rs = (ftot rs + 255) / 256 from rfl)
 obtain ⟨T, hT2⟩ : ∃ T, T = ftot rs := ⟨_, rfl⟩
 rw [← hT2] at HF hT HS
 have e1 : IntKind.i64.wrap ((T : Int) + 256) = ((T + 256 : Nat) : Int) := by rw [IntWalk.i64_in _ (by omega)]; omega
 have e2 : IntKind.i64.wrap (((T + 256 : Nat) : Int) - 1) = ((T + 255 : Nat) : Int) := by rw [IntWalk.i64_in _ (by omega)]; omega
 have e3 : ((T + 255 : Nat) : Int).tdiv 256 = (((T + 255) / 256 : Nat) : Int) := by rw [Int.tdiv_eq_ediv_of_nonneg (by omega)]; omega
 have e4 : IntKind.i64.wrap (((T + 255) / 256 : Nat) : Int) = (((T + 255) / 256 : Nat) : Int) := by rw [IntWalk.i64_in _ (by omega)]
 clear hm hp hd hT2
 go_enter Tryz.func51, Tryz.ntmps51
 go_wp2_with fail
 refine HF.out.mono ?_
 rintro e w2 ⟨rfl, k2⟩
 have e5 : ((T : Int) + 256 - 1) / 256 = (((T + 255) / 256 : Nat) : Int) := by omega
 have H5 := Lib.hid e5; clear e5 e1 e2 e3 e4
 go_wp2
 go_ret
 refine ⟨?_, k2⟩
 rw [HS.out, ← H5.out]; rfl
theorem lenF_in (l : List UInt8) : ∃ v : Nat, (sIn (l.take 8, false) 48 16384).1 = (v : Int) ∧ v ≤ 16384 ∧ lenF l = if l.length < v then 0 else v := by
 by_cases h8 : 8 ≤ l.length
 · have hs : sTake (l.take 8, false) 8 = ((l.take 8, true), ([], false)) := by
     have := sTake_app (l.take 8) [] 8 (by rw [List.length_take]; omega)
     rw [List.append_nil] at this; exact this
   have hn : sNum (l.take 8, false) = (wrap64 (lowN (l.take 8) : Nat), ([], false)) := by unfold sNum; rw [hs]
   unfold sIn lenF
   rw [hn]
   obtain ⟨x, hx⟩ : ∃ x, x = wrap64 (lowN (l.take 8) : Nat) := ⟨_, rfl⟩
   rw [← hx]
   by_cases hc : x < 48 ∨ 16384 < x
   · rw [if_pos hc, if_neg (by omega)]
     exact ⟨0, rfl, by omega, by rw [if_neg (by omega)]⟩
   · rw [if_neg hc]
     refine ⟨x.toNat, by simp only; omega, by omega, ?_⟩
     by_cases hl : l.length < x.toNat
     · rw [if_pos hl, if_neg (by omega)]
     · rw [if_neg hl, if_pos (by omega)]
 · have hs : sTake (l.take 8, false) 8 = (([], false), bust) := sTake_no _ _ (.inl (by simp only [List.length_take]; omega))
   have hn : (sNum (l.take 8, false)).1 = 0 := by unfold sNum; rw [hs]; show wrap64 ((lowN [] : Nat) : Int) = 0; rw [show lowN [] = 0 from rfl]; unfold wrap64; omega
   unfold sIn lenF
   rw [if_pos (.inl (by rw [hn]; decide)), if_neg (by omega)]
   exact ⟨0, rfl, by omega, by rw [if_neg (by omega)]⟩
theorem length_c : LengthC := by
 intro A n c l w hn hr hl hA hc hcm
 unfold maxLen at hcm
 obtain ⟨v, hv, hv2, hv3⟩ := lenF_in l
 have HL : Hid (lenF l = if n < v then 0 else v) := Lib.hid (by rw [← hn]; exact hv3)
 have main : ∀ k : Nat, k = min 8 n → ∀ w', Kp nob w w' → Calls Tryz.prog 101 #[.slice A k c] w' fun e w' => ∃ b A', e = .returned (.pointer (some ⟨b, 0, none⟩)) ∧ IsR w' b A' (l.take 8) false ∧ Kp nob w w' ∧ (∀ k, WF b A' k → w.heap.size ≤ k) := by
  intro k hk w' kw
  have hrow : Row w' A (bvs (l.take 8)) := by
   have := (hr.keep0 kw).take 8
   rw [bvs, List.map_take]; exact this
  refine (rRead A k c (l.take 8) w' (by rw [List.length_take]; omega) (by omega) hA hrow).mono ?_
  rintro e w2 ⟨b, A', rfl, h1, h2, h3⟩
  exact ⟨b, A', rfl, h1, kw.trans h2 (fun _ e => e.elim), fun i e => Nat.le_trans kw.size (h3 i e)⟩
 have HM := Lib.hid main
 have HI := Lib.hid (fun (b : Nat) (A' : Option Addr) (w' : World) (h : IsR w' b A' (l.take 8) false) => rIn b A' (l.take 8, false) 48 16384 w' h)
 rw [hv] at HI
 have HN := Lib.hid hn
 clear main hv hv3 hr hn
 have hn64 : (n : Int) ≤ 9223372036854775807 := by omega
 by_cases h8 : n ≤ 8
 · have hmin : min (n : Int) 8 = (n : Int) := by omega
   have HK : Hid (n = min 8 n) := Lib.hid (by omega)
   go_enter Tryz.func86, Tryz.ntmps86
   go_wp2_with (first
    | (go_at_call 101; refine (HM.out n HK.out _ (Kp.refl _ _)).mono ?_; rintro e w2 ⟨b, A', rfl, h1, k2, h3⟩)
    | (go_at_call 102; refine (HI.out b A' _ h1).mono ?_; rintro e w3 ⟨rfl, A3, h4, k3, h5⟩; have HK3 : Hid (Kp nob w w3) := Lib.hid (k2.trans k3 (fun i e => .inr (h3 i (.inl e)))); clear h1 k2 h3 h4 k3 h5)
    | fail)
   go_wp2
   all_goals
    go_ret
    refine ⟨?_, HK3.out⟩
    rw [HL.out]
    first
     | (rw [if_pos (by omega)]; rfl)
     | (rw [if_neg (by omega)]; rfl)
 · have h8b : 8 < n := by omega
   have hmin : min (n : Int) 8 = 8 := by omega
   have h8c : (8 : Int) ≤ (c : Int) := by omega
   have HK : Hid (8 = min 8 n) := Lib.hid (by omega)
   go_enter Tryz.func86, Tryz.ntmps86
   go_wp2_with (first
    | (go_at_call 101; refine (HM.out 8 HK.out _ (Kp.refl _ _)).mono ?_; rintro e w2 ⟨b, A', rfl, h1, k2, h3⟩)
    | (go_at_call 102; refine (HI.out b A' _ h1).mono ?_; rintro e w3 ⟨rfl, A3, h4, k3, h5⟩; have HK3 : Hid (Kp nob w w3) := Lib.hid (k2.trans k3 (fun i e => .inr (h3 i (.inl e)))); clear h1 k2 h3 h4 k3 h5)
    | fail)
   go_wp2
   all_goals
    go_ret
    refine ⟨?_, HK3.out⟩
    rw [HL.out]
    first
     | (rw [if_pos (by omega)]; rfl)
     | (rw [if_neg (by omega)]; rfl)
end Seg
end Go.Proofs.YtigdlnfgdjfdoaaGreat

/- The code's Good. -/
import Derived.Test.YtadhhnlolnnkhaaRecV
import Derived.Test.YtadhhnlolnnkhaaResR
namespace Go.Proofs.Ytadhhnlolnnkhaa.Rec
set_option linter.unusedVariables false
set_option linter.unusedSimpArgs false
open Go Go.RowKit Kit

structure Bd where
  ql : Int
  qh : Int
  il : Int
  ih : Int
  nl : Int
  nh : Int
  wl : Int
  wh : Int
  body : Int
def bz : Bd := ⟨0, 0, 0, 0, 0, 0, 0, 0, 0⟩
/-- A kind's bounds. -/
def bds (k : Int) : Bd :=
  if k = 1 then { bz with ql := 1, qh := 16, il := 1, ih := 16, nl := 1, nh := 64, wl := 1, wh := 1048576 }
  else if k = 2 then { bz with ql := 1, qh := 16 }
  else if k = 3 then { bz with ql := 1, qh := 16, il := 1, ih := 1099511627776, body := 512 }
  else if k = 4 then { bz with ql := 1, qh := 16, il := 1, ih := 1099511627776, nl := 1, nh := 1125899907891200 }
  else if k = 5 ∨ k = 6 ∨ k = 10 then { bz with ql := 1, qh := 16, il := 1, ih := 1099511627776 }
  else if k = 13 then { bz with ql := 1, qh := 16, il := 1, ih := 1099511627777 }
  else if k = 7 then { bz with nl := 0, nh := 1125899906842624 }
  else if k = 8 ∨ k = 9 then { bz with il := 1, ih := 1099511627776 }
  else if k = 11 then { bz with ql := 1, qh := 16, il := 1, ih := 1099511627776, nl := 0, nh := 1125899907891200, wl := 0, wh := 16, body := 512 }
  else if k = 12 then { bz with ql := 1, qh := 16, il := 1, ih := 1099511627776, wl := 0, wh := 16, body := 512 }
  else bz
def kn (k : Int) : Bool := decide (1 ≤ k ∧ k ≤ 13)
def sv (lo hi : Int) : Value := .agg #[.int .i64 lo, .int .i64 hi]
def bcells (b : Bd) : List Value := [.int .i64 b.ql, .int .i64 b.qh, .int .i64 b.il, .int .i64 b.ih, .int .i64 b.nl, .int .i64 b.nh, .int .i64 b.wl, .int .i64 b.wh, .int .i64 b.body]
def bdv (b : Bd) : Value := .agg (bcells b).toArray

theorem good_bds (r : Rec) : good r = (kn r.kind && inB r.queue (bds r.kind).ql (bds r.kind).qh && inB r.id (bds r.kind).il (bds r.kind).ih && inB r.num (bds r.kind).nl (bds r.kind).nh && inB r.wait (bds r.kind).wl (bds r.kind).wh && decide ((r.body.length : Int) ≤ (bds r.kind).body)) := by
  obtain ⟨kind, queue, id, num, wait, body⟩ := r
  have hz : ∀ n : Int, decide (n = 0) = inB n 0 0 := fun n => by simp only [inB, ← Bool.decide_and]; congr 1; exact propext ⟨fun _ => by omega, fun _ => by omega⟩
  have hb : body.isEmpty = decide ((body.length : Int) ≤ 0) := by cases body <;> simp
  have h5 : decide (body.length ≤ 512) = decide ((body.length : Int) ≤ 512) := by simp; omega
  unfold good bds kn
  simp only [hz, hb, h5]
  split
  · rename_i h; subst h; simp [bz]
  split
  · rename_i h; subst h; simp [bz]
  split
  · rename_i h; subst h; simp [bz]
  split
  · rename_i h; subst h; simp [bz]
  split
  · rename_i h; rcases h with rfl | rfl | rfl <;> simp [bz]
  split
  · rename_i h; subst h; simp [bz]
  split
  · rename_i h; subst h; simp [bz]
  split
  · rename_i h; rcases h with rfl | rfl <;> simp [bz]
  split
  · rename_i h; subst h; simp [bz]
  split
  · rename_i h; subst h; simp [bz]
  · simp; omega

set_option maxHeartbeats 400000 in
theorem has_any (n lo hi : Int) (w : World) : Calls Try.prog 24 #[sv lo hi, .int .i64 n] w fun e w' => e = .returned (.bool (inB n lo hi)) ∧ w' = w.alloc (.cells #[.int .i64 lo, .int .i64 hi] 51) := by
  unfold sv
  go_enter Try.func24, Try.ntmps24
  go_wp2
  all_goals
    go_ret
    refine ⟨?_, rfl⟩
    simp_all [inB] <;> omega

theorem bd_row : (Try.prog.underlying 53).map (·.isRow) = some true := by kernel_rfl
theorem bd_under : ∃ d, Try.prog.underlying 53 = some d ∧ d.isRow = true := by
  have h := bd_row
  cases hu : Try.prog.underlying 53 with
  | none => rw [hu] at h; cases h
  | some d => rw [hu] at h; exact ⟨d, rfl, by simpa using h⟩
theorem bd_size : (Try.prog.info? 53).map (·.size) = some 9 := by kernel_rfl

set_option maxHeartbeats 4000000 in
set_option maxRecDepth 100000 in
theorem boundsOf_any (k : Int) (w : World) : Calls Try.prog 23 #[.int .i64 k] w fun e w' => e = .returned (.tuple #[bdv (bds k), .bool (kn k)]) ∧ Kp nob w w' := by
  obtain ⟨d, hd1, hd2⟩ := bd_under
  go_enter Try.func23, Try.ntmps23
  go_wp2
  all_goals
    refine bodyPost_ret (results_rec rfl _ _ w.heap.size _ _ d rfl (Blk.new3 _ _ _ _ _ _) hd1 hd2 (by exact bd_size) _ rfl) rfl ⟨?_, Kp.new3 _ _ _ _ _⟩
    simp_all [bds, kn, bdv, bcells, bz] <;> omega

set_option maxHeartbeats 4000000 in
set_option maxRecDepth 100000 in
theorem cGood (r : Rec) (w : World) (hl : r.body.length ≤ 9223372036854775807) : Calls Try.prog 13 #[rv r] w fun e w' => e = .returned (.bool (good r)) ∧ Kp nob w w' := by
  have hg := good_bds r
  have hb := fun w' => boundsOf_any r.kind w'
  obtain ⟨B, hB⟩ : ∃ B, B = bds r.kind := ⟨_, rfl⟩
  obtain ⟨K, hK⟩ : ∃ K, K = kn r.kind := ⟨_, rfl⟩
  rw [← hB, ← hK] at hg
  simp only [← hB, ← hK] at hb
  clear hB hK
  obtain ⟨kind, queue, id, num, wait, body⟩ := r
  obtain ⟨ql, qh, il, ih, nl, nh, wl, wh, bl⟩ := B
  have HG := Lib.hid hg; clear hg
  have HBO := Lib.hid hb; clear hb
  simp only at hl
  have hh := has_any
  unfold sv at hh
  have HH := Lib.hid hh; clear hh
  unfold rv
  have k0 : Kp nob w (w.alloc (.cells #[.int .i64 kind, .int .i64 queue, .int .i64 id, .int .i64 num, .int .i64 wait, .string (str body)] 23)) := (Kp.refl nob w).alloc _
  have HK0 := Lib.hid k0; clear k0
  have HB0 := Lib.hid (Blk.new w 23 [.int .i64 kind, .int .i64 queue, .int .i64 id, .int .i64 num, .int .i64 wait, .string (str body)])
  go_enter Try.func13, Try.ntmps13
  go_wp2_with fail
  refine (HBO.out _).mono ?_
  rintro e w1 ⟨rfl, k1⟩
  have b1 := HB0.out.keep k1 (fun e => e)
  have HK1 := Lib.hid (HK0.out.trans k1 (fun _ e => e.elim))
  have c0 := b1.cell 0
  have c1 := b1.cell 1
  have c2 := b1.cell 2
  have c3 := fun a1 a2 a3 => (((b1.alloc a1).alloc a2).alloc a3).cell 3
  have c4 := fun a1 a2 a3 a4 => ((((b1.alloc a1).alloc a2).alloc a3).alloc a4).cell 4
  have c5 := fun a1 a2 a3 a4 a5 => (((((b1.alloc a1).alloc a2).alloc a3).alloc a4).alloc a5).cell 5
  have hlt := b1.lt
  simp at c0 c1 c2 c3 c4 c5
  clear b1 k1 HB0 HK0
  unfold bdv bcells
  simp only
  go_wp2_with (go_at_call 24; refine (HH.out _ _ _ _).mono ?_; rintro e w' ⟨rfl, rfl⟩)
  all_goals
    go_ret
    refine ⟨?_, by repeat (first | exact HK1.out | apply Kp.alloc)⟩
    rw [HG.out]
    simp_all
end Go.Proofs.Ytadhhnlolnnkhaa.Rec

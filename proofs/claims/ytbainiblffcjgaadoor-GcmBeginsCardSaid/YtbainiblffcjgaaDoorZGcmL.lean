/- What the laws of layer 8 play: alive, key. -/
import Derived.Test.YtbainiblffcjgaaDoorZGcmO
import Derived.Test.YtbainiblffcjgaaDoorZGb
import Derived.Test.YtbainiblffcjgaaDoorZFieldK
namespace Go.Proofs.YtbainiblffcjgaaDoor.Gcm
set_option linter.unusedVariables false
set_option linter.unusedSimpArgs false
open Go Go.RowKit Kit
open Aes (gb tb tb_length arrB enc enc_length allW noughts)
open Ghash (none16 none_length len16)
open Field (cb cb_inj Sq)
open Sha (Pc PcsOk catP)

theorem arr32u : Tryd.prog.underlying 22 = some (.array 32 5) := by kernel_rfl
theorem key_to (g o h : Nat) (hh : h ≤ 32) (w : World) : (Instr.sliceAt 22 (.pointer (some ⟨g, o, none⟩)) none (some (.int .i64 h)) none).run Tryd.prog w = .ok (.slice (some ⟨g, o, none⟩) h 32) w := by
  have ha : Tryd.prog.underlying 22 = some (.array (Tryd.prog.arrayLen 22) (Tryd.prog.elem 22)) := by kernel_rfl
  have hl : Tryd.prog.arrayLen 22 = 32 := by kernel_rfl
  have he : Tryd.prog.elem 22 = 5 := by kernel_rfl
  have hz : (sizeOf 5).run Tryd.prog w = .ok 1 w := by kernel_rfl
  rw [run_sliceAt_array_h w _ _ ha _ _ (by omega) (by rw [hl]; omega), hl, he, hz]
  simp [Result.andThen, slicedAt, Addr.add]
theorem key_all (g o : Nat) (w : World) : (Instr.sliceAt 22 (.pointer (some ⟨g, o, none⟩)) none none none).run Tryd.prog w = .ok (.slice (some ⟨g, o, none⟩) 32 32) w := by
  have ha : Tryd.prog.underlying 22 = some (.array (Tryd.prog.arrayLen 22) (Tryd.prog.elem 22)) := by kernel_rfl
  have hl : Tryd.prog.arrayLen 22 = 32 := by kernel_rfl
  have he : Tryd.prog.elem 22 = 5 := by kernel_rfl
  have hz : (sizeOf 5).run Tryd.prog w = .ok 1 w := by kernel_rfl
  rw [run_sliceAt_array_all w _ _ ha, hl, he, hz]
  simp [Result.andThen, slicedAt, Addr.add]
theorem make_u8 (n : Nat) (hn : n ≤ 1099511627776) (w : World) : (Instr.makeSlice 24 (.int .i64 (n : Int)) (.int .i64 (n : Int))).run Tryd.prog w = .ok (.slice (some ⟨w.heap.size, 0, none⟩) n n) (w.alloc (.cells (bvs (List.replicate n 0)).toArray 5)) := by
  obtain ⟨i, hi, hz0, hz1, hz2⟩ := info_parts (show (Tryd.prog.info? 5).map (fun i => (i.zero, i.size, i.bytes)) = some (some (.int .u8 0), 1, 1) by kernel_rfl)
  have h := run_make (P := Tryd.prog) w 24 5 i (.int .u8 0) u8s_under hi hz0 .i64 .i64 (n : Int) (n : Int) (by omega) (Int.le_refl _) (by rw [hz2]; omega) (by omega)
  rw [hz1, Int.toNat_natCast, Nat.mul_one] at h
  have e : madeCells (Value.int .u8 0).cells n = (bvs (List.replicate n 0)).toArray := by
    apply Array.ext
    · rw [size_madeCells]; simp [bvs]
    · intro i h1 h2
      simp [madeCells, bvs, bv, Value.cells, Nat.mod_one]
  rw [e] at h
  exact h
/-- The key's bytes: 16 or all 32 of them. -/
def kb (l : List UInt8) (s : Bool) : List UInt8 := if s then l.take 16 else l
def nk (s : Bool) : Nat := if s then 4 else 8
theorem kb_length (l : List UInt8) (s : Bool) (h : l.length = 32) : (kb l s).length = 4 * nk s := by
  cases s
  · exact h
  · show (l.take 16).length = 16; rw [List.length_take]; omega
theorem nk_or (s : Bool) : nk s = 4 ∨ nk s = 8 := by cases s <;> simp [nk]
theorem nk_le (s : Bool) : 1 ≤ nk s ∧ nk s ≤ 8 := by cases s <;> simp [nk]
set_option maxHeartbeats 1000000 in
set_option maxRecDepth 100000 in
theorem key_any (l : List UInt8) (s : Bool) (w : World) (hl : l.length = 32) :
    Calls Tryd.prog 11 #[.agg (bvs l).toArray, .bool s] w fun e w' => ∃ A c, e = .returned (.slice A (4 * nk s) c) ∧ Kit.Own 5 w' A (4 * nk s) c (bvs (kb l s)) ∧ Kp nob w w' ∧ ∀ k, ab A = some k → w.heap.size < k := by
  have HL := Lib.hid hl
  have HBL := Lib.hid (show Blk (w.alloc (.cells (bvs l).toArray 22)) w.heap.size 22 (bvs l) from Blk.new' rfl rfl)
  have HK := Lib.hid ((Kp.refl nob w).alloc (.cells (bvs l).toArray 22))
  have hs1 := key_to w.heap.size 0 16 (by omega)
  have hs2 := key_all w.heap.size 0
  have hz1 : (w.alloc (.cells (bvs l).toArray 22)).heap.size = w.heap.size + 1 := by simp
  obtain ⟨i0, hi, h0, h1, h2⟩ := info_parts (show (Tryd.prog.info? 5).map (fun i => (i.zero, i.size, i.bytes)) = some (some (.int .u8 0), 1, 1) by kernel_rfl)
  have HI := Lib.hid (And.intro hi (And.intro h0 (And.intro h1 h2)))
  have HT := Lib.hid (show (bvs (l.take 16)).length = 16 by rw [bvs_length, List.length_take]; omega)
  have HT2 := Lib.hid (show (bvs l).length = 32 by rw [bvs_length]; exact hl)
  clear hl hi h0 h1 h2
  go_enter Tryd.func11, Tryd.ntmps11
  obtain ⟨w0, hw0⟩ : ∃ w0, w0 = w.alloc (.cells (bvs l).toArray 22) := ⟨_, rfl⟩
  rw [← hw0] at hz1
  have HW := Lib.hid hw0
  rw [← hw0] at HBL HK
  have HO : Hid (Kit.Own 5 (w0.alloc (.cells #[] 5)) (some ⟨w0.heap.size, 0, none⟩) 0 0 []) := Lib.hid (World.ownsRow_made w0 #[] 0 (Nat.zero_le _) (by simp [maxLen]) rfl)
  have HR1 := Lib.hid (show Row (w0.alloc (.cells #[] 5)) (some ⟨w.heap.size, 0, none⟩) (bvs (l.take 16)) by have := (HBL.out.alloc (.cells #[] 5)).row.take 16; rw [bvs, ← List.map_take] at this; exact this)
  have HR2 := Lib.hid ((HBL.out.alloc (.cells #[] 5)).row)
  clear hw0
  cases s with
  | false =>
    go_wp2_with (first
      | (rw [← HW.out]; fail)
      | (refine wpList_appR _ rfl (.tmp 9) (.tmp 10) 24 rfl 5 i0 (.int .u8 0) 1 u8s_under HI.out.1 HI.out.2.1 HI.out.2.2.1 HI.out.2.2.2 rfl (some ⟨w.heap.size + 1, 0, none⟩) 0 0 [] rfl (by have := HO.out; rw [hz1, HW.out] at this; exact this) (some ⟨w.heap.size, 0, none⟩) 32 32 (bvs l) rfl (fun e => by cases e) HT2.out (by have := HR2.out; rw [HW.out] at this; exact this) (bvs_one _) (by omega) (by omega) ?_
         intro A5 c5 w5 hown hg hab
         have HO5 := Lib.hid (show Kit.Own 5 w5 A5 32 c5 (bvs l) from hown)
         rw [← HW.out] at hg
         have HK5 := Lib.hid ((HK.out.alloc (.cells #[] 5)).since (Kp.of_grown (F := fun k => w.heap.size < k) hg (fun k e => by cases e; exact Nat.lt_succ_self _)) (fun k e => Nat.le_of_lt e))
         have HA5 : Hid (∀ k, ab A5 = some k → w.heap.size < k) := Lib.hid (fun k e => by
           rcases hab with h | h
           · rw [h] at e; cases e; exact Nat.lt_succ_self _
           · rw [h] at e; cases e; simp; omega)
         clear hown hg hab)
      | fail)
    go_ret
    exact ⟨A5, c5, rfl, HO5.out, HK5.out, HA5.out⟩
  | true =>
    go_wp2_with (first
      | (refine wpList_appR _ rfl (.tmp 6) (.tmp 7) 24 rfl 5 i0 (.int .u8 0) 1 u8s_under HI.out.1 HI.out.2.1 HI.out.2.2.1 HI.out.2.2.2 rfl (some ⟨w.heap.size + 1, 0, none⟩) 0 0 [] rfl (by have := HO.out; rw [hz1, HW.out] at this; exact this) (some ⟨w.heap.size, 0, none⟩) 16 32 (bvs (l.take 16)) rfl (fun e => by cases e) HT.out (by have := HR1.out; rw [HW.out] at this; exact this) (bvs_one _) (by omega) (by omega) ?_
         intro A5 c5 w5 hown hg hab
         have HO5 := Lib.hid (show Kit.Own 5 w5 A5 16 c5 (bvs (l.take 16)) from hown)
         rw [← HW.out] at hg
         have HK5 := Lib.hid ((HK.out.alloc (.cells #[] 5)).since (Kp.of_grown (F := fun k => w.heap.size < k) hg (fun k e => by cases e; exact Nat.lt_succ_self _)) (fun k e => Nat.le_of_lt e))
         have HA5 : Hid (∀ k, ab A5 = some k → w.heap.size < k) := Lib.hid (fun k e => by
           rcases hab with h | h
           · rw [h] at e; cases e; exact Nat.lt_succ_self _
           · rw [h] at e; cases e; simp; omega)
         clear hown hg hab)
      | fail)
    go_ret
    exact ⟨A5, c5, rfl, HO5.out, HK5.out, HA5.out⟩
theorem gs_take_at (W : List UInt8) (R : Nat) (n text aad : List UInt8) (i : Nat) (h : text.length = i) : (gs W R n text aad).take i = stream W R n text := by subst h; exact gs_take ..
/-- No piece at all. -/
theorem aad_none (w : World) : Aad w none 0 [] := ⟨rfl, Row.nil _ _, Sha.pcs_nil _ _, (fun _ h => by cases h), by omega, by simp [catP]⟩
/-- One piece, as a call hands it in. -/
theorem aad_one {w : World} (q : Pc) (h1 : q.l.length = q.n) (h2 : Row w q.A (bvs q.l)) (h3 : q.n ≤ q.c) (h4 : q.c ≤ maxLen) (h5 : q.A = none → q.c = 0) (h6 : q.n ≤ 1099511627776) : Aad (w.alloc (.cells #[.slice q.A q.n q.c] 24)) (some ⟨w.heap.size, 0, none⟩) 1 [q] :=
  ⟨rfl, row_new w [.slice q.A q.n q.c] _, Sha.pcs_one h1 (h2.alloc _) (.inr (fun _ _ e => e)) h3 h4, (fun p hp => by rcases List.mem_singleton.1 hp with rfl; exact h5), by omega, by rw [Sha.catP_one, h1]; exact h6⟩
/-- Two pieces, cut at i, as a call hands them in. -/
theorem aad_two {w : World} (B : Option Addr) (m d : Nat) (o : List UInt8) (i : Nat) (h1 : o.length = m) (h2 : Row w B (bvs o)) (h3 : m ≤ d) (h4 : d ≤ maxLen) (h5 : B = none → d = 0) (h6 : m ≤ 1099511627776) (hi : i ≤ m) : Aad (w.alloc (.cells #[.slice B i d, .slice (cutA B d i) (m - i) (d - i)] 24)) (some ⟨w.heap.size, 0, none⟩) 2 [⟨B, i, d, o.take i⟩, ⟨cutA B d i, m - i, d - i, o.drop i⟩] := by
  have r1 : Row w B (bvs (o.take i)) := by have := h2.take i; rw [bvs, ← List.map_take] at this; exact this
  have r2 : Row w (cutA B d i) (bvs (o.drop i)) := by
    have := h2.cut (c := d) (k := i) (by rw [bvs_length]; omega)
    rw [bvs, ← List.map_drop] at this; exact this
  refine ⟨rfl, row_new w [.slice B i d, .slice (cutA B d i) (m - i) (d - i)] _, ?_, ?_, by omega, ?_⟩
  · exact Sha.pcs_more (Sha.pcs_one (by show (o.take i).length = i; rw [List.length_take]; omega) (r1.alloc _) (.inr (fun _ _ e => e)) (by show i ≤ d; omega) h4) (Sha.pcs_one (by show (o.drop i).length = m - i; rw [List.length_drop]; omega) (r2.alloc _) (.inr (fun _ _ e => e)) (by show m - i ≤ d - i; omega) (Nat.le_trans (Nat.sub_le _ _) h4))
  · intro p hp
    rcases List.mem_cons.1 hp with rfl | hp
    · exact h5
    · rcases List.mem_singleton.1 hp with rfl
      intro e
      have hB : B = none := by
        cases B with
        | none => rfl
        | some a => have := ab_cut (some a) d i; rw [show cutA (some a) d i = none from e] at this; cases this
      show d - i = 0
      rw [h5 hB]; omega
  · rw [Sha.catP_two]; show (o.take i ++ o.drop i).length ≤ _; rw [List.take_append_drop]; omega
theorem gs_drop_at (W : List UInt8) (R : Nat) (n text aad : List UInt8) (i : Nat) (h : text.length = i) : (gs W R n text aad).drop i = tag W R n aad (stream W R n text) := by subst h; exact gs_drop ..
def deadG : List UInt8 := gs (allW noughts) 9 none12 [] []
theorem deadG_eq : gs (allW noughts) 9 none12 [] [] = deadG := rfl
theorem deadG_take : deadG.take 4 = [88, 226, 252, 206] := told
theorem deadG_length : deadG.length = 16 := by rw [← deadG_eq, gs_length]; rfl
theorem deadG_at (i : Nat) (x : UInt8) (h : i < 4) (hx : ([88, 226, 252, 206] : List UInt8)[i]? = some x) : (bvs deadG)[i]? = some (.int .u8 (cb x)) := by
  rw [← deadG_take, List.getElem?_take, if_pos h] at hx
  rw [bvs, List.getElem?_map, hx]; rfl
attribute [irreducible] deadG
set_option maxHeartbeats 1000000 in
set_option maxRecDepth 100000 in
theorem alive_yes (w : World) (ht : Sq w) :
    Calls Tryd.prog 9 #[] w fun e w' => e = .returned (.bool true) ∧ Kp nob w w' := by
  have HT := Lib.hid ht; clear ht
  have hmk : ∀ w, (Instr.makeSlice 24 (.int .i64 16) (.int .i64 16)).run Tryd.prog w = .ok (.slice (some ⟨w.heap.size, 0, none⟩) 16 16) (w.alloc (.cells (bvs noughts).toArray 5)) := make_u8 16 (by omega)
  have HDL := Lib.hid deadG_length
  go_enter Tryd.func9, Tryd.ntmps9
  go_wp2_with fail
  refine (new_yes 4 noughts (some ⟨w.heap.size, 0, none⟩) 16 _ (HT.out.keep0 ((Kp.refl nob w).alloc _)) rfl (.inl rfl) (row_new w (bvs noughts) _) (by omega)).mono ?_
  rintro e w1 ⟨p, rfl, hs, hp, k1⟩
  have HS := Lib.hid hs
  have K1 := Lib.hid (((Kp.refl nob w).alloc _).trans k1 (fun _ e => e.elim))
  clear hs hp k1 hmk
  go_wp2_with fail
  refine (seal_yes p (allW noughts) 9 none12 [] none 0 0 none 0 0 [] w1 HS.out rfl rfl (by omega) (Row.nil _ _) (aad_none _) (by omega) (by simp [catP])).mono ?_
  rintro e w2 ⟨A2, c2, rfl, hO, k2, hA⟩
  rw [Sha.catP_nil, deadG_eq] at hO
  obtain ⟨g, hg, hlt, hc0, hf0, _⟩ := hO.at_ (i := 0) (by omega)
  subst hg
  have hc : ∀ (i : Nat) (x : UInt8), i < 4 → ([88, 226, 252, 206] : List UInt8)[i]? = some x → w2.cell? ⟨g, i, none⟩ = some (.int .u8 (cb x)) := fun i x h hx => by
    obtain ⟨b, o, hb, _, hcell⟩ := hO.row.at_ (i := i) (by rw [bvs_length, deadG_length]; omega)
    cases hb
    rw [Nat.zero_add] at hcell
    rw [hcell, ← deadG_at i x h hx, List.getElem?_eq_getElem]
  have c0 := hc 0 88 (by omega) rfl
  have c1 := hc 1 226 (by omega) rfl
  have c2 := hc 2 252 (by omega) rfl
  have c3 := hc 3 206 (by omega) rfl
  have K2 := Lib.hid (K1.out.trans k2 (fun _ e => e.elim))
  clear hO k2 hA hc0 hf0 hc K1 hlt
  simp only [show cb 88 = 88 from rfl, show cb 226 = 226 from rfl, show cb 252 = 252 from rfl, show cb 206 = 206 from rfl] at c0 c1 c2 c3
  go_wp2
  go_ret
  exact ⟨rfl, K2.out⟩
end Go.Proofs.YtbainiblffcjgaaDoor.Gcm

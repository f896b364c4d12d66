/- Layer 16 (chain): the code's Add. -/
import Derived.Test.YtigdlnfgdjfdoaaGreatZK22
set_option maxHeartbeats 4000000
set_option maxRecDepth 100000
set_option linter.unusedVariables false
set_option linter.unusedSimpArgs false
namespace Go.Proofs.YtigdlnfgdjfdoaaGreat
namespace Disk
open Go Go.RowKit Kit
attribute [local go_sem] Oper.semAt_some
structure FarI (D : Dk) (i : Nat) : Prop where
 waits : D.waits.length ≤ 90000 + i
 acts : D.acts ≤ 900000000000 + i
 fuse : D.fuse ≤ 9223372036854775807
 keep : D.keep < 18446744073709551616
theorem FarI.write {D : Dk} {i : Nat} (h : FarI D i) (p : Int) (b : List UInt8) : FarI (write E8 D p b).1 (i + 1) := by
 have h0 : FarI D (i + 1) := ⟨by have := h.waits; omega, by have := h.acts; omega, h.fuse, h.keep⟩
 unfold Disk.write
 split
 · exact h0
 · split
   · exact h0
   · split
     · exact h0
     · rename_i h1 h2 h3
       have hon := act_on D (by simpa using h1)
       have hw : FarI (wrote (Disk.act D).1 p.toNat b) (i + 1) := by
        rw [hon]
        refine ⟨?_, by show D.acts + 1 ≤ _; have := h.acts; omega, by show D.fuse - 1 ≤ _; have := h.fuse; omega, h.keep⟩
        show (D.waits ++ [_]).length ≤ _
        rw [List.length_append]
        have := h.waits
        simp; omega
       split
       · have ho : (wrote (Disk.act D).1 p.toNat b).off = false := by rw [hon]; show D.off = false; simpa using h1
         refine ⟨?_, ?_, ?_, ?_⟩ <;> rw [lose_on _ D.keep ho]
         · exact Nat.zero_le _
         · exact hw.acts
         · exact Nat.zero_le _
         · exact hw.keep
       · exact hw
theorem pcw_row {w : World} {A : Option Addr} {l : List UInt8} {n : Nat} (h : Row w A (bvs l)) (hl : l.length = n) (x : Nat) : ∃ X q, pcw A n x = .slice X q q ∧ q = ((l.drop (256 * x)).take 256).length ∧ q ≤ 256 ∧ Row w X (bvs ((l.drop (256 * x)).take 256)) := by
 refine ⟨_, _, rfl, by rw [List.length_take, List.length_drop, hl], by omega, ?_⟩
 have h1 := (h.take (256 * x + min 256 (n - 256 * x))).cut (c := 256 * x + min 256 (n - 256 * x)) (k := 256 * x) (by rw [List.length_take]; omega)
 have e : ((bvs l).take (256 * x + min 256 (n - 256 * x))).drop (256 * x) = bvs ((l.drop (256 * x)).take 256) := by
  rw [List.drop_take, show 256 * x + min 256 (n - 256 * x) - 256 * x = min 256 (n - 256 * x) by omega]
  rw [bvs, bvs, List.map_take, List.map_drop, List.take_eq_take_min (i := 256), List.length_drop, List.length_map, hl]
 rw [e] at h1
 exact h1
theorem add_no (D : Dk) (g N S : Nat) (W : Option Addr) (cW a : Nat) (A : Ar) (X : Option Addr) (n c : Nat) (s : List UInt8) (w : World) (hd : Cd w g N S W cW D) (ha : IsA w a g A) (hp : A.pos ≤ A.top) (ht : A.top ≤ D.now.length)
    (hn : s.length = n) (hr : Row w X (bvs s)) (hc : n ≤ c) (hcm : c ≤ maxLen) (hX : X = none → c = 0) (hl : n ≤ 1048576) (e0 : Int) (he : whyNot D A s = e0) (he0 : e0 ≠ 0) :
    Calls Tryz.prog 80 #[.pointer (some ⟨a, 0, none⟩), .slice X n c] w fun e w' => e = .returned (.int .i64 e0) ∧ Kp nob w w' := by
 have HK := Lib.hid (fun a b => (((Kp.refl nob w).alloc a).alloc b))
 have HR := Lib.hid (fun x y => refused_c D g N S W cW a A X n c s _ (hd.keep0 (HK.out x y)) (areaP.keep ha (HK.out x y) (fun e => e)) hp ht hn (hr.keep0 (HK.out x y)) hc hcm hX hl)
 rw [he] at HR
 have hb : Blk ((w.alloc (.cells #[.pointer (some ⟨a, 0, none⟩)] 102)).alloc (.cells #[.int .i64 0] 30)) (w.heap.size + 1) 30 [.int .i64 0] := Blk.new' (by simp) rfl
 have HB := Lib.hid hb
 have hne : (e0 != 0) = true := by simpa using he0
 have hne2 : ¬ (e0 = 0) := he0
 clear hd ha hp ht hn hr hc hcm hX hl he hb he0
 go_enter Tryz.func80, Tryz.ntmps80
 go_wp2_with fail
 refine (HR.out _ _).mono ?_
 rintro e w1 ⟨rfl, k1⟩
 have hb1 := HB.out.keep k1 (fun e => e)
 have c1 : w1.cell? ⟨w.heap.size + 1, 0, none⟩ = some (.int .i64 0) := hb1.cell 0
 have f1 := hb1.frozen 0
 have HB1 := Lib.hid (hb1.set_ 0 (.int .i64 e0))
 have HK1 : Hid (Kp nob w (w1.setCell ⟨w.heap.size + 1, 0, none⟩ (.int .i64 e0))) := Lib.hid (((HK.out _ _).trans k1 (fun _ e => e.elim)).setCell (.inr (by simp)) _)
 clear k1 hb1
 go_wp2
 exact bodyPost_ret (results_cell1 rfl _ _ (w.heap.size + 1) (.int .i64 e0) rfl (HB1.out.cell 0) (agg_e _)) rfl ⟨rfl, HK1.out⟩
theorem Cd.putO {w : World} {g N S : Nat} {W : Option Addr} {cW : Nat} {D : Dk} (h : Cd w g N S W cW D) {l : Nat} {o : Obj} (o' : Obj) (hl : w.heap[l]? = some o) (hc : o.isCells = false) : Cd (w.putObj l o') g N S W cW D :=
 ⟨h.b.putO o' hl hc, h.now.putO o' hl hc, h.safe.putO o' hl hc, h.waits.putO o' hl hc, h.ok, h.al, h.max, h.ne, h.nw⟩
theorem Cd.celled {w : World} {g N S : Nat} {W : Option Addr} {cW : Nat} {D : Dk} (h : Cd w g N S W cW D) (k : Nat) (o : Obj) (hk : dF g N S W k) (ho : w.heap[k]? = some o) : o.isCells = true := by
 rcases hk with rfl | rfl | rfl | e
 · have hx : w.heap[k]? = _ := h.b
   rw [hx] at ho; cases ho; rfl
 · have hx : w.heap[k]? = _ := h.now
   rw [hx] at ho; cases ho; rfl
 · have hx : w.heap[k]? = _ := h.safe
   rw [hx] at ho; cases ho; rfl
 · rcases h.waits.2 with ⟨h5, _⟩ | ⟨g5, cap, cur, h5, _, h6, _⟩
   · injection h5 with h5; rw [h5] at e; cases e
   · injection h5 with h5
     rw [h5] at e; cases e
     rw [h6] at ho; cases ho; rfl
structure Ax (B R a g N S : Nat) (W : Option Addr) (cW : Nat) (D : Dk) (A : Ar) (X : Option Addr) (n c : Nat) (s : List UInt8) (w w6 : World) : Prop where
 sz : w6.heap.size = R + 3
 le : B + 2 ≤ R
 b0 : Blk w6 B 102 [.pointer (some ⟨a, 0, none⟩)]
 b1 : Blk w6 (B + 1) 30 [.int .i64 0]
 b6 : Blk w6 R 3 [.int .i64 ((A.pos + 0 : Nat) : Int)]
 b7 : Blk w6 (R + 1) 58 [.slice X n c]
 b8 : Blk w6 (R + 2) 3 [.int .i64 256]
 cd : Cd w6 g N S W cW D
 ia : IsA w6 a g A
 kp : Kp nob w w6
 row : Row w6 X (bvs s)
 lt : a < B ∧ (∀ j, dF g N S W j → j < B)
 xf : ∀ j, ab X = some j → j < B ∧ ¬ dF g N S W j
def FA (g N S : Nat) (W : Option Addr) (R : Nat) : Nat → Prop := fun j => dF g N S W j ∨ j = R ∨ R + 3 ≤ j
structure Ai (R a g N S : Nat) (W : Option Addr) (D : Dk) (A : Ar) (s : List UInt8) (w6 : World) (i : Nat) (w7 : World) : Prop where
 ex : ∃ Di Wi ci, aAdds D A.pos s = aAdds Di (A.pos + i) (s.drop (256 * i)) ∧ Cd w7 g N S Wi ci Di ∧ FarI Di i ∧ ∀ k, ab Wi = some k → ab W = some k ∨ R + 3 ≤ k
 b6 : Blk w7 R 3 [.int .i64 ((A.pos + i : Nat) : Int)]
 kp : Kp (FA g N S W R) w6 w7
structure As (B R a g N S : Nat) (W : Option Addr) (D : Dk) (A : Ar) (s : List UInt8) (w w7 : World) : Prop where
 ex : ∃ D' q e W2 c2, e ≠ 0 ∧ aAdds D A.pos s = (D', q, e) ∧ Cd w7 g N S W2 c2 D' ∧ (∀ k, ab W2 = some k → ab W = some k ∨ R + 3 ≤ k) ∧ Blk w7 (B + 1) 30 [.int .i64 e]
 ia : IsA w7 a g A
 kp : Kp (dF g N S W) w w7
theorem Ai.keep {R a g N S : Nat} {W : Option Addr} {D : Dk} {A : Ar} {s : List UInt8} {w6 w7 w8 : World} {i : Nat} (h : Ai R a g N S W D A s w6 i w7) (k : Kp nob w7 w8) : Ai R a g N S W D A s w6 i w8 := by
 obtain ⟨Di, Wi, ci, h1, h2, h3⟩ := h.ex
 exact ⟨⟨Di, Wi, ci, h1, h2.keep0 k, h3⟩, h.b6.keep k (fun e => e), h.kp.trans k (fun _ e => e.elim)⟩
theorem Ai.putO {R a g N S : Nat} {W : Option Addr} {D : Dk} {A : Ar} {s : List UInt8} {w6 w7 : World} {i : Nat} (h : Ai R a g N S W D A s w6 i w7) {l : Nat} {o : Obj} (o' : Obj) (hB : R + 3 ≤ l) (hl : w7.heap[l]? = some o) (hc : o.isCells = false) : Ai R a g N S W D A s w6 i (w7.putObj l o') := by
 obtain ⟨Di, Wi, ci, h1, h2, h3⟩ := h.ex
 exact ⟨⟨Di, Wi, ci, h1, h2.putO o' hl hc, h3⟩, h.b6.putO o' hl hc, h.kp.trans (Kp.putO _ _ _) (fun j e => .inl (.inr (.inr (by omega))))⟩
theorem As.keep {B R a g N S : Nat} {W : Option Addr} {D : Dk} {A : Ar} {s : List UInt8} {w w7 w8 : World} (h : As B R a g N S W D A s w w7) (k : Kp nob w7 w8) : As B R a g N S W D A s w w8 := by
 obtain ⟨D', q, e, W2, c2, h0, h1, h2, h3, h4⟩ := h.ex
 exact ⟨⟨D', q, e, W2, c2, h0, h1, h2.keep0 k, h3, h4.keep k (fun e => e)⟩, areaP.keep h.ia k (fun e => e), h.kp.trans k (fun _ e => e.elim)⟩
theorem As.putO {B R a g N S : Nat} {W : Option Addr} {D : Dk} {A : Ar} {s : List UInt8} {w w7 : World} (h : As B R a g N S W D A s w w7) {l : Nat} {o : Obj} (o' : Obj) (hB : w.heap.size ≤ l) (hl : w7.heap[l]? = some o) (hc : o.isCells = false) : As B R a g N S W D A s w (w7.putObj l o') := by
 obtain ⟨D', q, e, W2, c2, h0, h1, h2, h3, h4⟩ := h.ex
 exact ⟨⟨D', q, e, W2, c2, h0, h1, h2.putO o' hl hc, h3, h4.putO o' hl hc⟩, Blk.putO h.ia o' hl hc, h.kp.trans (Kp.putO _ _ _) (fun j e => .inr (by omega))⟩
theorem add_go (D : Dk) (g N S : Nat) (W : Option Addr) (cW a : Nat) (A : Ar) (X : Option Addr) (n c : Nat) (s : List UInt8) (w : World) (hd : Cd w g N S W cW D) (ha : IsA w a g A) (hne : ¬ dF g N S W a) (hp : A.pos ≤ A.top) (ht : A.top ≤ D.now.length) (hfar : Far D)
    (hn : s.length = n) (hr : Row w X (bvs s)) (hc : n ≤ c) (hcm : c ≤ maxLen) (hX : X = none → c = 0) (hxf : s = [] ∨ ∀ i, ab X = some i → ¬ aF g N S W a i) (hl : n ≤ 1048576) (he : whyNot D A s = 0) :
    Calls Tryz.prog 80 #[.pointer (some ⟨a, 0, none⟩), .slice X n c] w fun e w' => e = .returned (.int .i64 (aAdd D A s).2.2) ∧ AddP areaP D g N S W a A s w w' := by
 have hw : s.length ≠ 0 ∧ flen s = s.length ∧ D.off = false ∧ ¬ 256 * (A.top - A.pos) < s.length := by
  unfold whyNot at he
  split at he
  · exact absurd he (by decide)
  · split at he
    · exact absurd he (by decide)
    · split at he
      · exact absurd he (by decide)
      · rename_i h1 h2 h3
        exact ⟨fun e => h1 (.inl e), Classical.byContradiction fun e => h1 (.inr e), by simpa using h2, h3⟩
 have hadd : aAdd D A s = if (aAdds D A.pos s).2.2 = 0 then ((aAdds D A.pos s).1, { A with pos := (aAdds D A.pos s).2.1 }, 0) else ((aAdds D A.pos s).1, A, (aAdds D A.pos s).2.2) := by
  unfold aAdd
  rw [if_neg (by intro e; rcases e with e | e; exact hw.1 e; exact e hw.2.1), if_neg (by simp [hw.2.2.1]), if_neg hw.2.2.2]
 have hsn : s ≠ [] := fun e => hw.1 (by rw [e]; rfl)
 have hxf2 : ∀ j, ab X = some j → j < w.heap.size ∧ ¬ dF g N S W j := fun j e => by
  refine ⟨hr.lt (fun e2 => hw.1 (by rw [← bvs_length s, e2]; rfl)) j e, ?_⟩
  rcases hxf with h | h
  · exact absurd h hsn
  · exact fun e2 => h j e (.inl e2)
 have HK := Lib.hid (fun a b => (((Kp.refl nob w).alloc a).alloc b))
 have HR := Lib.hid (fun x y => refused_c D g N S W cW a A X n c s _ (hd.keep0 (HK.out x y)) (areaP.keep ha (HK.out x y) (fun e => e)) hp ht hn (hr.keep0 (HK.out x y)) hc hcm hX hl)
 rw [he] at HR
 have HAX : Hid (∀ w1, Kp nob ((w.alloc (.cells #[.pointer (some ⟨a, 0, none⟩)] 102)).alloc (.cells #[.int .i64 0] 30)) w1 →
     Ax w.heap.size w1.heap.size a g N S W cW D A X n c s w (((w1.alloc (.cells #[.int .i64 ((A.pos + 0 : Nat) : Int)] 3)).alloc (.cells #[.slice X n c] 58)).alloc (.cells #[.int .i64 256] 3))) := Lib.hid (by
  intro w1 k1
  have k6 : Kp nob w1 (((w1.alloc (.cells #[.int .i64 ((A.pos + 0 : Nat) : Int)] 3)).alloc (.cells #[.slice X n c] 58)).alloc (.cells #[.int .i64 256] 3)) := (((Kp.refl nob w1).alloc _).alloc _).alloc _
  have k16 := k1.trans k6 (fun _ e => e.elim)
  have kk := (HK.out _ _).trans k16 (fun _ e => e.elim)
  have hsz := k1.size
  simp only [World.size_alloc] at hsz
  refine ⟨by simp, by omega, ?_, ?_, ?_, ?_, ?_, hd.keep0 kk, areaP.keep ha kk (fun e => e), kk, hr.keep0 kk, ⟨Blk.lt ha, hd.lt⟩, hxf2⟩
  · exact ((Blk.new' rfl rfl : Blk _ w.heap.size 102 [.pointer (some ⟨a, 0, none⟩)]).alloc _).keep k16 (fun e => e)
  · exact (Blk.new' (by simp) rfl : Blk _ (w.heap.size + 1) 30 [.int .i64 0]).keep k16 (fun e => e)
  · exact ((Blk.new' rfl rfl).alloc _).alloc _
  · exact (Blk.new' (by simp) rfl).alloc _
  · exact Blk.new' (by simp) rfl)
 have HW := Lib.hid hadd
 have HF := Lib.hid (And.intro hn (And.intro hc (And.intro hl (And.intro hfar hw.1))))
 have HPT := Lib.hid (And.intro hp ht)
 have hca : ∀ w1, Kp nob ((w.alloc (.cells #[.pointer (some ⟨a, 0, none⟩)] 102)).alloc (.cells #[.int .i64 0] 30)) w1 → w1.cell? ⟨w.heap.size, 0, none⟩ = some (.pointer (some ⟨a, 0, none⟩)) ∧ w1.cell? ⟨a, 1, none⟩ = some (.int .i64 ((A.pos + 0 : Nat) : Int)) := fun w1 k1 => by
  have hb : Blk w1 w.heap.size 102 [.pointer (some ⟨a, 0, none⟩)] := ((Blk.new' rfl rfl : Blk _ w.heap.size 102 [.pointer (some ⟨a, 0, none⟩)]).alloc _).keep k1 (fun e => e)
  exact ⟨hb.cell 0, (areaP.keep ha ((HK.out _ _).trans k1 (fun _ e => e.elim)) (fun e => e) : IsA w1 a g A).cells.2.1⟩
 have HCA := Lib.hid hca
 clear hd ha hp ht hn hr hc hcm hX hl he hw hadd hsn hxf hxf2 hca hfar
 refine (callsIn_wide (n := 3)).1 ?_
 refine callsIn_of_wp_marks Tryz.func80 rfl trivial ?_ rfl
 simp only [Tryz.ntmps80, List.size_toArray, List.length_cons, List.length_nil, Nat.reduceAdd, Nat.reduceSub, Array.replicate_succ, Array.replicate_zero, List.push_toArray, List.append_toArray, List.nil_append, List.cons_append]
 gi_wp2_with fail
 refine ⟨trivial, ?_⟩
 refine (callsIn_wide.2 (HR.out _ _)).mono ?_
 rintro e w1 ⟨rfl, k1⟩
 obtain ⟨ca0, ca1⟩ := HCA.out w1 k1
 have hax := HAX.out w1 k1
 obtain ⟨w6, hw6⟩ : ∃ w6, w6 = ((w1.alloc (.cells #[.int .i64 ((A.pos + 0 : Nat) : Int)] 3)).alloc (.cells #[.slice X n c] 58)).alloc (.cells #[.int .i64 256] 3) := ⟨_, rfl⟩
 obtain ⟨B, hB⟩ : ∃ B, B = w.heap.size := ⟨_, rfl⟩
 obtain ⟨R, hR⟩ : ∃ R, R = w1.heap.size := ⟨_, rfl⟩
 rw [← hw6, ← hB, ← hR] at hax
 have HAx := Lib.hid hax
 have HW6 := Lib.hid hw6
 have HBR := Lib.hid (And.intro hB hR)
 clear hax hw6 hB hR k1 HAX
 gi_wp2_with fail
 refine ⟨trivial, ?_⟩
 refine (callsIn_wide.2 (chunk_any X n c _)).mono ?_
 rintro e w2 ⟨rfl, rfl⟩
 gi_wp2
 have e6 : w6 = ((w1.alloc (.cells #[.int .i64 (A.pos : Int)] 3)).alloc (.cells #[.slice X n c] 58)).alloc (.cells #[.int .i64 256] 3) := HW6.out
 rw [← e6, ← HBR.out.1, ← HBR.out.2]
 simp only [Nat.add_assoc, Nat.reduceAdd]
 clear e6 ca0 ca1 HCA HR
 obtain ⟨M, hM⟩ : ∃ M, M = (n + 255) / 256 := ⟨_, rfl⟩
 have HM := Lib.hid hM
 clear hM
 refine rangeK (n := 3) (by decide) (gf := 115) (lb := #[.pointer (some ⟨R + 1, 0, none⟩), .pointer (some ⟨R + 2, 0, none⟩)]) rfl (enters_of Tryz.func115 (by kernel_rfl) rfl) (el := fun i _ => #[pcw X n i]) (fun i k => rfl)
  (V := fun i _ _ => i < (n + 255) / 256) (fun i k W' l o o' _ _ h => h) (K := Kp (FA g N S W R)) (fun h k => kp_t h k) (fun W' l o o' hl _ _ => (Kp.putO W' l o').mono (fun j _ e => .inr (.inr (by have := HAx.out.sz; omega))))
  (m := (n + 255) / 256) (chunk_iter 2 (R + 1) (R + 2) (FA g N S W R) X n c (by have := HF.out; omega) HF.out.2.1 (fun e => by have := HAx.out.lt.2; have := HAx.out.le; rcases e with e | e | e; (have := HAx.out.lt.2 _ e; omega); omega; omega) (fun e => by have := HAx.out.le; rcases e with e | e | e; (have := HAx.out.lt.2 _ e; omega); omega; omega) w6 (HAx.out.b7.cell 0) (HAx.out.b8.cell 0) HAx.out.b7.lt HAx.out.b8.lt)
  (Ai R a g N S W D A s w6) (As B R a g N S W D A s w) (fun i A' B' h k => h.keep k) (fun A' B' h k => h.keep k) (fun i A' l o o' hl h1 h2 h => h.putO o' (by have := HAx.out.sz; omega) h1 h2) (fun A' l o o' hl h1 h2 h => h.putO o' (by have := HAx.out.kp.size; omega) h1 h2)
  ?zero (fun i k => { tmps := #[.pointer (some ⟨a, 0, none⟩), .slice X n c, .pointer (some ⟨B, 0, none⟩), undef, .pointer (some ⟨B + 1, 0, none⟩), .int .i64 0, .pointer (some ⟨R, 0, none⟩), pcw X n i, undef, .pointer (some ⟨a, 0, none⟩), .slice X n c, .int .i64 0, .int .i64 0, .bool false, undef, .pointer (some ⟨a, 0, none⟩), .pointer (some ⟨a, 0, none⟩), .pointer (some ⟨a, 1, none⟩), .int .i64 (A.pos : Int), .slice X n c, .func (.func 115) #[] #[.pointer (some ⟨R + 1, 0, none⟩), .pointer (some ⟨R + 2, 0, none⟩)], pcw X n i, undef, undef, undef, undef, undef, undef, undef, undef, undef, undef, undef, undef, undef, undef, undef, undef], defers := [] }) ?assign ?body ?done ?stop
 case zero =>
  refine ⟨⟨D, W, cW, rfl, HAx.out.cd, ⟨HF.out.2.2.2.1.waits, HF.out.2.2.2.1.acts, HF.out.2.2.2.1.fuse, HF.out.2.2.2.1.keep⟩, fun k e => .inl e⟩, HAx.out.b6, Kp.refl _ _⟩
 case assign =>
  intro l i k W' K' hK'
  gi_wp2
  exact hK'
 case stop =>
  intro D0 W' hD0 hs hdef
  obtain ⟨D', q, e, W2, c2, h0, h1, h2, h3, h4⟩ := hs.ex
  have HS := Lib.hid (And.intro h0 (And.intro h1 (And.intro h2 (And.intro h3 (And.intro h4 (And.intro hs.ia hs.kp))))))
  clear h0 h1 h2 h3 h4 hs
  dsimp only
  gi_wp2
  refine ⟨by simp, .inl ⟨_, _, rfl, run_takeDeferred hdef, ?_⟩⟩
  obtain ⟨h0, h1, h2, h3, h4, h5, h6⟩ := HS.out
  refine ⟨_, results_cell1 rfl _ _ (B + 1) (.int .i64 e) rfl ((h4.putO _ hdef rfl).cell 0) (agg_e _), ?_⟩
  have ha : aAdd D A s = (D', A, e) := by rw [HW.out, h1]; rw [if_neg h0]
  unfold AddP
  rw [ha]
  have hD1 : w.heap.size ≤ D0 := by have := HAx.out.kp.size; omega
  exact ⟨rfl, W2, c2, h2.putO _ hdef rfl, (h6.mono (fun j _ e => .inl e)).trans (Kp.putO _ _ _) (fun j e => .inr (by omega)), (fun k e => (h3 k e).imp id (fun e => by have := HBR.out.1; have := HAx.out.le; omega)), Blk.putO h5 _ hdef rfl⟩
 case done =>
  intro D0 W' hD0 h hdef
  rw [← HM.out] at h
  obtain ⟨Di, Wi, ci, h1, h2, h3, h4⟩ := h.ex
  rw [aAdds_nil Di _ (s.drop (256 * M)) (by rw [List.length_drop]; have := HF.out.1; have := HM.out; omega)] at h1
  have ha : aAdd D A s = (Di, { A with pos := A.pos + M }, 0) := by rw [HW.out, h1]; rfl
  have hle := HAx.out.le
  have haB := HAx.out.lt.1
  have hlt := HAx.out.lt.2
  have nB : ¬ FA g N S W R B := fun e => by rcases e with e | e | e; (have := hlt _ e; omega); omega; omega
  have nB1 : ¬ FA g N S W R (B + 1) := fun e => by rcases e with e | e | e; (have := hlt _ e; omega); omega; omega
  have na : ¬ FA g N S W R a := fun e => by rcases e with e | e | e; exact hne e; omega; omega
  have hb0 := HAx.out.b0.keep h.kp nB
  have hb1 := HAx.out.b1.keep h.kp nB1
  have hia : IsA W' a g A := areaP.keep HAx.out.ia h.kp na
  have c0 : W'.cell? ⟨B, 0, none⟩ = some (.pointer (some ⟨a, 0, none⟩)) := hb0.cell 0
  have c1 : W'.cell? ⟨B + 1, 0, none⟩ = some (.int .i64 0) := hb1.cell 0
  have f1 := hb1.frozen 0
  have ca : W'.cell? ⟨a, 1, none⟩ = some (.int .i64 (A.pos : Int)) := hia.cells.2.1
  have fa : W'.frozen? ⟨a, 1, none⟩ = false := Blk.frozen hia 1
  have cR : W'.cell? ⟨R, 0, none⟩ = some (.int .i64 ((A.pos + M : Nat) : Int)) := h.b6.cell 0
  have n1 : ¬ (a = B + 1) := by omega
  have n1' : ¬ (B + 1 = a) := by omega
  have n0 : ¬ (B = a) := by omega
  obtain ⟨w9, hw9⟩ : ∃ w9, w9 = (W'.setCell ⟨a, 1, none⟩ (.int .i64 ((A.pos + M : Nat) : Int))).setCell ⟨B + 1, 0, none⟩ (.int .i64 0) := ⟨_, rfl⟩
  have k9 : Kp (fun j => j = a ∨ j = B + 1) W' w9 := by
   rw [hw9]
   exact ((Kp.refl (fun j => j = a ∨ j = B + 1) W').setCell (p := ⟨a, 1, none⟩) (.inl (.inl rfl)) _).setCell (p := ⟨B + 1, 0, none⟩) (.inl (.inr rfl)) _
  have hd9 : w9.heap[D0]? = some (.deferred (some [])) := (k9.block D0 (Array.getElem?_eq_some_iff.1 hdef).1 (by have := HAx.out.sz; omega)).trans hdef
  have hdi : ∀ j, dF g N S Wi j → dF g N S W j ∨ R + 3 ≤ j := fun j e => by
   rcases e with e | e | e | e
   · exact .inl (.inl e)
   · exact .inl (.inr (.inl e))
   · exact .inl (.inr (.inr (.inl e)))
   · exact (h4 j e).imp (fun e => .inr (.inr (.inr e))) id
  have hcd9 : Cd w9 g N S Wi ci Di := h2.keep k9 (fun j e e2 => by
   rcases hdi j e with e3 | e3
   · rcases e2 with rfl | rfl
     · exact hne e3
     · have := hlt _ e3; omega
   · omega)
  have hB9 : Blk w9 (B + 1) 30 [.int .i64 0] := by rw [hw9]; exact (hb1.far (p := ⟨a, 1, none⟩) (by simpa using n1') _).set_ 0 (.int .i64 0)
  have hA9 : IsA w9 a g { A with pos := A.pos + M } := by
   rw [hw9]; exact (Blk.set_ hia 1 (.int .i64 ((A.pos + M : Nat) : Int))).far (by simpa using n1) _
  have hk9 : Kp (aF g N S W a) w w9 := by
   have hBw := HBR.out.1
   have hk6 := HAx.out.kp
   refine ((hk6.nob (aF g N S W a)).trans h.kp (fun j e => ?_)).trans k9 (fun j e => ?_)
   · rcases e with e | e | e
     · exact .inl (.inl e)
     · exact .inr (by omega)
     · exact .inr (by omega)
   · rcases e with rfl | rfl
     · exact .inl (.inr rfl)
     · exact .inr (by omega)
  have HH := Lib.hid (And.intro ha (And.intro hd9 (And.intro hcd9 (And.intro hB9 (And.intro hA9 (And.intro hk9 h4))))))
  have HW9 := Lib.hid hw9
  clear ha hd9 hcd9 hB9 hA9 hk9 hdi h4 k9 hw9 h1 h2 h3 h hb0 hb1 hia nB nB1 na hlt hdef
  dsimp only
  gi_wp2
  refine ⟨by simp, ?_⟩
  obtain ⟨ha, hd9, hcd9, hB9, hA9, hk9, h4⟩ := HH.out
  have e9 := HW9.out
  have hsize : w9.heap.size = W'.heap.size := by rw [e9]; simp
  refine .inl ⟨_, w9.putObj D0 (.deferred none), rfl, ?_, ?_⟩
  · rw [e9] at hd9; rw [e9]; exact run_takeDeferred hd9
  refine ⟨_, results_cell1 rfl _ _ (B + 1) (.int .i64 0) rfl ((hB9.putO _ hd9 rfl).cell 0) (agg_e _), ?_⟩
  unfold AddP
  rw [ha]
  have hD1 : w.heap.size ≤ D0 := by have := HAx.out.kp.size; omega
  exact ⟨rfl, Wi, ci, hcd9.putO _ hd9 rfl, hk9.trans (Kp.putO _ _ _) (fun j e => .inr (by omega)), (fun k e => (h4 k e).imp id (fun e => by have := HBR.out.1; omega)), Blk.putO hA9 _ hd9 rfl⟩
 case body =>
  intro l i k W' h hi
  obtain ⟨Di, Wi, ci, h1, h2, h3, h4⟩ := h.ex
  have hle := HAx.out.le
  have haB := HAx.out.lt.1
  have hlt := HAx.out.lt.2
  have hn := HF.out.1
  have hdi : ∀ j, dF g N S Wi j → dF g N S W j ∨ R + 3 ≤ j := fun j e => by
   rcases e with e | e | e | e
   · exact .inl (.inl e)
   · exact .inl (.inr (.inl e))
   · exact .inl (.inr (.inr (.inl e)))
   · exact (h4 j e).imp (fun e => .inr (.inr (.inr e))) id
  have nB : ¬ FA g N S W R B := fun e => by rcases e with e | e | e; (have := hlt _ e; omega); omega; omega
  have nB1 : ¬ FA g N S W R (B + 1) := fun e => by rcases e with e | e | e; (have := hlt _ e; omega); omega; omega
  have na : ¬ FA g N S W R a := fun e => by rcases e with e | e | e; exact hne e; omega; omega
  have hrow : Row W' X (bvs s) := HAx.out.row.keep h.kp (fun j e e2 => by
   have hx := HAx.out.xf j e
   rcases e2 with e2 | e2 | e2
   · exact hx.2 e2
   · omega
   · omega)
  obtain ⟨Y, q, hpc, hq, hq2, hry⟩ := pcw_row hrow hn i
  rw [hpc]
  have hcall := fun wd (kd : Kp nob W' wd) => write_any Di ((A.pos + i : Nat) : Int) Y q q ((s.drop (256 * i)).take 256) g N S Wi ci wd (h2.keep0 kd) hq.symm (hry.keep0 kd) (by omega) (by have := h3.waits; have := HF.out; omega) (by have := h3.acts; have := HF.out; omega) h3.fuse h3.keep
  have hdl : 0 < (s.drop (256 * i)).length := by rw [List.length_drop]; omega
  obtain ⟨Z, hZ⟩ : ∃ Z, Z = write E8 Di ((A.pos + i : Nat) : Int) ((s.drop (256 * i)).take 256) := ⟨_, rfl⟩
  rw [← hZ] at hcall
  have hgo : Z.2 = 0 → aAdds D A.pos s = aAdds Z.1 (A.pos + i + 1) (s.drop (256 * (i + 1))) := fun e => by
   rw [h1, aAdds_go Di (A.pos + i) (s.drop (256 * i)) hdl (by rw [← hZ]; exact e), ← hZ, List.drop_drop, show 256 * i + 256 = 256 * (i + 1) by omega]
  have hstp : Z.2 ≠ 0 → aAdds D A.pos s = (Z.1, A.pos + i, Z.2) := fun e => by
   rw [h1, aAdds_stop Di (A.pos + i) (s.drop (256 * i)) hdl (by rw [← hZ]; exact e), ← hZ]
  have hfz : FarI Z.1 (i + 1) := by rw [hZ]; exact h3.write _ _
  have hb0 := HAx.out.b0.keep h.kp nB
  have hb1 := HAx.out.b1.keep h.kp nB1
  have hia : IsA W' a g A := areaP.keep HAx.out.ia h.kp na
  have HZa : Hid ((Z.2 = 0 → aAdds D A.pos s = aAdds Z.1 (A.pos + i + 1) (s.drop (256 * (i + 1)))) ∧ (Z.2 ≠ 0 → aAdds D A.pos s = (Z.1, A.pos + i, Z.2)) ∧ FarI Z.1 (i + 1)) := Lib.hid ⟨hgo, hstp, hfz⟩
  have HC := Lib.hid hcall
  have HCD := Lib.hid h2
  have HR := Lib.hid h
  have HB := Lib.hid (And.intro hb0 (And.intro hb1 hia))
  have HDI := Lib.hid (And.intro hdi (And.intro hlt h4))
  have HSM := Lib.hid (show A.pos + i ≤ 2000000 by have := HF.out; have := HPT.out; have := HAx.out.cd.max; omega)
  have ndB : ¬ dF g N S Wi B := fun e => by rcases hdi _ e with e | e; (have := hlt _ e; omega); omega
  have nda : ¬ dF g N S Wi a := fun e => by rcases hdi _ e with e | e; exact hne e; omega
  have ndR : ¬ dF g N S Wi R := fun e => by rcases hdi _ e with e | e; (have := hlt _ e; omega); omega
  have HND := Lib.hid (And.intro ndB (And.intro nda ndR))
  clear hZ hcall hgo hstp hfz h1 h2 h3 h4 h hb0 hb1 hia hdi hlt hpc hq hq2 hry hrow hdl ndB nda ndR nB nB1 na hn hi
  gi_wp2
  rename_i K1 hK1
  refine reg_beginI (fun w' => Kp (dF g N S Wi) W' w') (fun _ _ h => h) (by kernel_rfl) (by kernel_rfl) (Kp.refl _ W').drew (fun hd => ?_)
  have HD0 : Hid (Kp nob W' W'.drew) := Lib.hid (Kp.refl nob W').drew
  have H0 := Lib.hid hd
  clear hd
  generalize W'.drew = wd at *
  refine reg_tk (v := .pointer (some ⟨a, 0, none⟩)) 0 22 rfl rfl (by kernel_rfl) (by rfl) H0.out (fun w hw => by have c0 : w.cell? ⟨B, 0, none⟩ = _ := (HB.out.1.keep hw HND.out.1).cell 0; go_simp) ?_; simp only [Act.put, zp1, zp2, zp3]
  refine reg_tk (v := .pointer (some ⟨a, 0, none⟩)) 1 23 rfl rfl (by kernel_rfl) (by rfl) H0.out (fun w hw => by go_simp) ?_; simp only [Act.put, zp1, zp2, zp3]
  refine reg_tk (v := .pointer (some ⟨a, 0, none⟩)) 2 24 rfl rfl (by kernel_rfl) (by rfl) H0.out (fun w hw => by go_simp) ?_; simp only [Act.put, zp1, zp2, zp3]
  refine reg_tk (v := .pointer (some ⟨g, 0, none⟩)) 3 25 rfl rfl (by kernel_rfl) (by rfl) H0.out (fun w hw => by have c0 : w.cell? ⟨a, 0, none⟩ = _ := (areaP.keep HB.out.2.2 hw HND.out.2.1 : IsA w a g A).cells.1; go_simp) ?_; simp only [Act.put, zp1, zp2, zp3]
  refine reg_tk (v := .int .i64 ((A.pos + i : Nat) : Int)) 4 26 rfl rfl (by kernel_rfl) (by rfl) H0.out (fun w hw => by have c0 : w.cell? ⟨R, 0, none⟩ = _ := (HR.out.b6.keep hw HND.out.2.2).cell 0; go_simp) ?_; simp only [Act.put, zp1, zp2, zp3]
  refine reg_tk (v := .slice Y q q) 5 27 rfl rfl (by kernel_rfl) (by rfl) H0.out (fun w hw => by go_simp) ?_; simp only [Act.put, zp1, zp2, zp3]
  refine reg_call 6 (some 28) rfl rfl (by kernel_rfl) (by rfl) _ _ (exec_func 95 _ _ [.pointer (some ⟨g, 0, none⟩), .int .i64 ((A.pos + i : Nat) : Int), .slice Y q q] rfl (by kernel_rfl) rfl) ?_
  refine (HC.out wd HD0.out).mono ?_
  rintro e w8 ⟨rfl, hz⟩
  have hz2 := Dz.since HD0.out hz
  obtain ⟨W2, c2, hcd, hk8, hw2⟩ := hz2
  refine ⟨_, rfl, hk8, fun _ => ?_⟩
  simp only [Act.put, zp1, zp2, zp3]
  refine reg_tk (v := .int .i64 Z.2) 7 8 rfl rfl (by kernel_rfl) (by rfl) hk8 (fun w hw => by go_simp) ?_; simp only [Act.put, zp1, zp2, zp3]
  refine reg_end (by kernel_rfl) (hK1 _ _ ?_)
  have HZ := Lib.hid (And.intro hcd (And.intro hk8 hw2))
  clear hcd hk8 hw2 hz HC HD0 H0 hK1
  have hW6 := HAx.out.sz
  have hW7 := HR.out.kp.size
  have hwn : ∀ k, ab W2 = some k → ab W = some k ∨ R + 3 ≤ k := fun k e => by
   rcases HZ.out.2.2 k e with e | e
   · exact HDI.out.2.2 k e
   · exact .inr (by omega)
  have hdn : ∀ j, dF g N S W2 j → dF g N S W j ∨ R + 3 ≤ j := fun j e => by
   rcases e with e | e | e | e
   · exact .inl (.inl e)
   · exact .inl (.inr (.inl e))
   · exact .inl (.inr (.inr (.inl e)))
   · exact (hwn j e).imp (fun e => .inr (.inr (.inr e))) id
  have hko : KeepsOthers W' w8 := HZ.out.2.1.others (fun k o hk ho => HCD.out.celled k o hk ho)
  have hb1 := HB.out.2.1.keep HZ.out.2.1 (fun e => by
   have := HDI.out.1 _ e
   rcases this with e | e
   · have := HDI.out.2.1 _ e; omega
   · omega)
  have hb6 := HR.out.b6.keep HZ.out.2.1 HND.out.2.2
  have hia : IsA w8 a g A := areaP.keep HB.out.2.2 HZ.out.2.1 HND.out.2.1
  have c1 : w8.cell? ⟨B + 1, 0, none⟩ = some (.int .i64 0) := hb1.cell 0
  have f1 := hb1.frozen 0
  have c6 : w8.cell? ⟨R, 0, none⟩ = some (.int .i64 ((A.pos + i : Nat) : Int)) := hb6.cell 0
  have f6 := hb6.frozen 0
  have hfz := HZa.out.2.2
  have kFA : Kp (FA g N S W R) W' w8 := HZ.out.2.1.mono (fun j _ e => (HDI.out.1 j e).imp id (fun e => .inr e))
  by_cases hz0 : Z.2 = 0
  · have hgo := HZa.out.1 hz0
    obtain ⟨w9, hw9⟩ : ∃ w9, w9 = w8.setCell ⟨R, 0, none⟩ (.int .i64 ((A.pos + (i + 1) : Nat) : Int)) := ⟨_, rfl⟩
    have k9 : Kp (fun j => j = R) w8 w9 := by rw [hw9]; exact (Kp.refl (fun j => j = R) w8).setCell (p := ⟨R, 0, none⟩) (.inl rfl) _
    have ko9 : KeepsOthers w8 w9 := k9.others (fun j o hj ho => by
     rw [hj] at ho
     have hx : w8.heap[R]? = _ := hb6
     rw [hx] at ho; cases ho; rfl)
    have HE : Hid (KeepsOthers W' w9 ∧ Kp (FA g N S W R) W' w9 ∧ Ai R a g N S W D A s w6 (i + 1) w9) := Lib.hid (by
     have kk : Kp (FA g N S W R) W' w9 := kFA.trans k9 (fun j e => .inl (.inr (.inl e)))
     refine ⟨hko.trans ko9, kk, ⟨Z.1, W2, c2, hgo, HZ.out.1.keep k9 (fun j e e2 => ?_), hfz, hwn⟩, ?_, HR.out.kp.trans kk (fun _ e => .inl e)⟩
     · rcases hdn j e with e3 | e3
       · have := HDI.out.2.1 j e3; omega
       · omega
     · rw [hw9]; exact hb6.set_ 0 _)
    have HW9 := Lib.hid hw9
    have e4 : IntKind.i64.wrap ((A.pos : Int) + (i : Int) + 1) = (A.pos : Int) + (i : Int) + 1 := by have := HSM.out; rw [IntWalk.i64_in _ (by omega)]
    clear hgo hw9 k9 ko9 kFA hko hb1 hb6 hia hfz hdn hwn
    rw [hz0]
    gi_wp2
    have hE := HE.out
    rw [HW9.out] at hE
    exact hE
  · have hst := HZa.out.2.1 hz0
    obtain ⟨w9, hw9⟩ : ∃ w9, w9 = w8.setCell ⟨B + 1, 0, none⟩ (.int .i64 Z.2) := ⟨_, rfl⟩
    have k9 : Kp (fun j => j = B + 1) w8 w9 := by rw [hw9]; exact (Kp.refl (fun j => j = B + 1) w8).setCell (p := ⟨B + 1, 0, none⟩) (.inl rfl) _
    have ko9 : KeepsOthers w8 w9 := k9.others (fun j o hj ho => by
     rw [hj] at ho
     have hx : w8.heap[B + 1]? = _ := hb1
     rw [hx] at ho; cases ho; rfl)
    have HE : Hid (KeepsOthers W' w9 ∧ As B R a g N S W D A s w w9) := Lib.hid (by
     have hBw := HBR.out.1
     refine ⟨hko.trans ko9, ⟨Z.1, A.pos + i, Z.2, W2, c2, hz0, hst, HZ.out.1.keep k9 (fun j e e2 => ?_), hwn, ?_⟩, areaP.keep hia k9 (fun e => by omega), ?_⟩
     · rcases hdn j e with e3 | e3
       · have := HDI.out.2.1 j e3; omega
       · omega
     · rw [hw9]; exact hb1.set_ 0 _
     · refine (((HAx.out.kp.nob (dF g N S W)).trans HR.out.kp (fun j e => ?_)).trans HZ.out.2.1 (fun j e => ?_)).trans k9 (fun j e => .inr (by omega))
       · rcases e with e | e | e
         · exact .inl e
         · exact .inr (by omega)
         · exact .inr (by omega)
       · exact (HDI.out.1 j e).imp id (fun e => by omega))
    have HW9 := Lib.hid hw9
    have hzb : (Z.2 != 0) = true := by simpa using hz0
    clear hst hw9 k9 ko9 kFA hko hb1 hb6 hia hfz hdn hwn
    gi_wp2
    have hE := HE.out
    rw [HW9.out] at hE
    exact hE
theorem add_c : AddC areaP := by
 intro D g N S W cW a A X n c s w hd ha hne hp ht hfar hn hr hc hcm hX hxf hl
 by_cases he : whyNot D A s = 0
 · exact add_go D g N S W cW a A X n c s w hd ha hne hp ht hfar hn hr hc hcm hX hxf hl he
 · have hadd : aAdd D A s = (D, A, whyNot D A s) := by
     unfold aAdd whyNot
     unfold whyNot at he
     split
     · rfl
     · split
       · rfl
       · split
         · rfl
         · rename_i h1 h2 h3
           exfalso
           rw [if_neg h1, if_neg h2, if_neg h3] at he
           exact he rfl
   rw [hadd]
   unfold AddP
   rw [hadd]
   refine (add_no D g N S W cW a A X n c s w hd ha hp ht hn hr hc hcm hX hl _ rfl he).mono ?_
   rintro e w' ⟨rfl, k⟩
   exact ⟨rfl, W, cW, hd.keep0 k, k.nob _, (fun _ e => .inl e), areaP.keep ha k (fun e => e)⟩
end Disk
end Go.Proofs.YtigdlnfgdjfdoaaGreat

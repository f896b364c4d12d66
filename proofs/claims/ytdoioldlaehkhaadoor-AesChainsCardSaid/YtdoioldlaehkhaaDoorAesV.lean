/- Contracts of the document's own AES: a block sealed under words. -/
import Derived.Test.YtdoioldlaehkhaaDoorAesR
namespace Go.Proofs.YtdoioldlaehkhaaDoor.Aes
open Go Go.RowKit Kit
open Field (cb cb_inj fBox fTimes)

/-- A byte of the rows that are turned, each boxed. -/
def sr (B : List UInt8) (i : Nat) : UInt8 := Field.box (gb B (4 * ((i / 4 + i % 4) % 4) + i % 4))
theorem sr_eq (B : List UInt8) (i : Nat) : sr B i = Field.box (gb B (4 * ((i / 4 + i % 4) % 4) + i % 4)) := rfl
theorem sr_all (B : List UInt8) : tb (sr B) = rows (sub B) := by
  rw [rows_eq]
  refine tb_ext fun i hi => ?_
  rw [sub_eq, gb_tb _ _ (by omega)]; rfl
/-- A column's byte, so far. -/
def cs (X : List UInt8) (i : Nat) : Nat → UInt8
  | 0 => 0
  | j + 1 => cs X i j ^^^ Field.tm (gb X (4 * (i / 4) + j)) (fac j (i % 4))
theorem cs_zero (X : List UInt8) (i : Nat) : cs X i 0 = 0 := rfl
theorem cs_succ (X : List UInt8) (i j : Nat) : cs X i (j + 1) = cs X i j ^^^ Field.tm (gb X (4 * (i / 4) + j)) (fac j (i % 4)) := rfl
theorem cs_all (X : List UInt8) : tb (fun i => cs X i 4) = mix X := by
  rw [mix_eq]
  refine tb_ext fun i hi => ?_
  rw [cs_succ, cs_succ, cs_succ, cs_succ, cs_zero, UInt8.zero_xor]; rfl
/-- The columns, so far: i bytes, and j parts of one more. -/
def ms (X : List UInt8) (q j : Nat) : List UInt8 := tb fun i => if i < q then cs X i 4 else if i = q then cs X i j else 0
theorem ms_zero (X : List UInt8) : ms X 0 0 = tb fun _ => 0 := tb_ext fun i _ => by
  rw [if_neg (by omega)]; split <;> rfl
theorem ms_all (X : List UInt8) : ms X 16 0 = mix X := by
  rw [← cs_all]; exact tb_ext fun i h => if_pos h
theorem ms_get (X : List UInt8) (q j : Nat) (h : q < 16) : (bvs (ms X q j))[q]? = some (.int .u8 (cb (cs X q j))) := by
  rw [ms, tb_get _ _ h, if_neg (Nat.lt_irrefl q), if_pos rfl]
theorem ms_step (X : List UInt8) (q j : Nat) : (ms X q j).set q (cs X q (j + 1)) = ms X q (j + 1) := by
  rw [ms, set_tb, ms]
  refine tb_ext fun i _ => ?_
  by_cases h : i = q
  · subst h; rw [if_pos rfl, if_neg (Nat.lt_irrefl i), if_pos rfl]
  · rw [if_neg h]
    by_cases h2 : i < q
    · rw [if_pos h2, if_pos h2]
    · rw [if_neg h2, if_neg h2, if_neg h, if_neg h]
theorem ms_next (X : List UInt8) (q : Nat) : ms X q 4 = ms X (q + 1) 0 := by
  refine tb_ext fun i _ => ?_
  by_cases h : i = q
  · subst h; rw [if_neg (Nat.lt_irrefl i), if_pos rfl, if_pos (Nat.lt_succ_self _)]
  · by_cases h2 : i < q
    · rw [if_pos h2, if_pos (by omega)]
    · rw [if_neg h2, if_neg h, if_neg (by omega)]
      split <;> rfl
theorem ms_length (X : List UInt8) (q j : Nat) : (ms X q j).length = 16 := tb_length _
attribute [irreducible] sr cs ms
theorem zero16 : (tb fun _ => 0) = List.replicate 16 0 := by decide +kernel

/-- The state behind i rounds of R + 1. -/
def stt (W : List UInt8) (R : Nat) (b : List UInt8) (i : Nat) : List UInt8 := if i ≤ R then going W b i else enc W R b
theorem stt_zero (W : List UInt8) (R : Nat) (b : List UInt8) : stt W R b 0 = add (rk W 0) b := by rw [stt, if_pos (by omega), going_zero]
theorem stt_mid (W : List UInt8) (R : Nat) (b : List UInt8) (i : Nat) (h : i < R) : stt W R b (i + 1) = add (rk W (i + 1)) (mix (rows (sub (stt W R b i)))) := by
  rw [stt, stt, if_pos (by omega), if_pos (by omega), going_succ]
theorem stt_end (W : List UInt8) (R : Nat) (b : List UInt8) : stt W R b (R + 1) = add (rk W (R + 1)) (rows (sub (stt W R b R))) := by
  rw [stt, stt, if_neg (by omega), if_pos (by omega), enc_eq]
theorem stt_all (W : List UInt8) (R : Nat) (b : List UInt8) : stt W R b (R + 1) = enc W R b := by rw [stt, if_neg (by omega)]
theorem stt_length (W : List UInt8) (R : Nat) (b : List UInt8) (i : Nat) : (stt W R b i).length = 16 := by
  rw [stt]; split
  · exact going_length _ _ _
  · exact enc_length _ _ _
attribute [irreducible] stt
theorem sr_at (B : List UInt8) (c q : Nat) (hc : c < 4) (hq : q < 4) : sr B (4 * c + q) = Field.box (gb B (4 * ((c + q) % 4) + q)) := by
  rw [sr_eq, show (4 * c + q) / 4 = c by omega, show (4 * c + q) % 4 = q by omega]
theorem cs_at (X : List UInt8) (c k j : Nat) (hc : c < 4) (hk : k < 4) : cs X (4 * c + k) (j + 1) = cs X (4 * c + k) j ^^^ Field.tm (gb X (4 * c + j)) (fac j k) := by
  rw [cs_succ, show (4 * c + k) / 4 = c by omega, show (4 * c + k) % 4 = k by omega]

/-- What a round leaves as it is: the state's block, and the answer's. -/
structure Base (w : World) (B : List UInt8) (z : List Value) (w2 : World) : Prop where
  state : Blk w2 w.heap.size 23 (bvs B)
  ans : Blk w2 (w.heap.size + 1) 23 z
  kp : Kp nob w w2
theorem Base.drew {w w2 : World} {B : List UInt8} {z : List Value} (h : Base w B z w2) : Base w B z w2.drew :=
  ⟨h.state.keep (Kp.refl nob _).drew (fun e => e), h.ans.keep (Kp.refl nob _).drew (fun e => e), h.kp.drew⟩
theorem Base.alloc {w w2 : World} {B : List UInt8} {z : List Value} (h : Base w B z w2) (o : Obj) : Base w B z (w2.alloc o) := ⟨h.state.alloc o, h.ans.alloc o, h.kp.alloc o⟩
theorem Base.set {w w2 : World} {B : List UInt8} {z : List Value} (h : Base w B z w2) {p : Addr} (hp : w.heap.size + 1 < p.block) (u : Value) : Base w B z (w2.setCell p u) :=
  ⟨h.state.far (by omega) u, h.ans.far (by omega) u, h.kp.setCell (.inr (by omega)) u⟩
theorem Base.keep {w w2 w3 : World} {F : Nat → Prop} {B : List UInt8} {z : List Value} (h : Base w B z w2) (k : Kp F w2 w3) (hF : ∀ i, F i → w.heap.size + 1 < i) : Base w B z w3 :=
  ⟨h.state.keep k (fun e => by have := hF _ e; omega), h.ans.keep k (fun e => by have := hF _ e; omega), h.kp.since k (fun i e => by have := hF i e; omega)⟩
theorem Base.lt {w w2 : World} {B : List UInt8} {z : List Value} (h : Base w B z w2) : w.heap.size + 1 < w2.heap.size := h.ans.lt

theorem fac_at (j k : Nat) : gb [2, 3, 1, 1] ((j + 4 - k) % 4) = fac j k := rfl
theorem wrap_to (x : Int) (n : Nat) (h : x = (n : Int)) (hn : n < 1000000) : IntKind.i64.wrap x = (n : Int) := by rw [h, IntKind.wrap_i64]; omega
theorem wrap_toI (x y : Int) (h : x = y) (hn : -1000000 < y ∧ y < 1000000) : IntKind.i64.wrap x = y := by rw [h, IntKind.wrap_i64]; omega
theorem tmod_four (E F : Nat) (h : F = E % 4) : (E : Int).tmod 4 = (F : Int) := by rw [Int.tmod_eq_emod_of_nonneg (by omega)]; omega
/-- What stands while the columns are made. -/
structure Mix (w : World) (B X : List UInt8) (g1 g2 : Nat) (Y : List UInt8) (w2 : World) : Prop where
  y : Blk w2 g2 23 (bvs Y)
  f : Blk w2 (g2 + 1) 52 (bvs [2, 3, 1, 1])
  x : Blk w2 g1 23 (bvs X)
  base : Base w B (bvs (tb fun _ => 0)) w2
theorem Mix.drewN {w w2 : World} {B X Y : List UInt8} {g1 g2 : Nat} (h : Mix w B X g1 g2 Y w2) (n : Nat) : Mix w B X g1 g2 Y (w2.drewN n) :=
  have k := (Kp.refl nob w2).drewN n
  ⟨h.y.keep k (fun e => e), h.f.keep k (fun e => e), h.x.keep k (fun e => e), h.base.keep k (fun _ e => e.elim)⟩
theorem Mix.drew {w w2 : World} {B X Y : List UInt8} {g1 g2 : Nat} (h : Mix w B X g1 g2 Y w2) : Mix w B X g1 g2 Y w2.drew :=
  have k := (Kp.refl nob w2).drew
  ⟨h.y.keep k (fun e => e), h.f.keep k (fun e => e), h.x.keep k (fun e => e), h.base.keep k (fun _ e => e.elim)⟩
theorem Mix.set {w w2 : World} {B X Y : List UInt8} {g1 g2 : Nat} (h : Mix w B X g1 g2 Y w2) (h1 : w.heap.size + 1 < g1) (h2 : g1 < g2) (i : Nat) (u : UInt8) : Mix w B X g1 g2 (Y.set i u) (w2.setCell ⟨g2, i, none⟩ (.int .u8 (cb u))) :=
  ⟨by have := h.y.set_ i (.int .u8 (cb u)); rwa [bvs_setb] at this, h.f.far (by simp) _, h.x.far (by simp; omega) _, h.base.set (by simp; omega) _⟩

set_option maxHeartbeats 4000000 in
set_option maxRecDepth 100000 in
theorem fSeal (b W : List UInt8) (A : Option Addr) (cA R : Nat) (w : World) (hb : b.length = 16) (hW : W.length = 16 * (R + 2)) (hr : Row w A (bvs W)) (hc : 4 * (R + 2) ≤ cA) (hR : R ≤ 100) :
    Calls Tryd.prog 12 #[.slice A (4 * (R + 2)) cA, .agg (bvs b).toArray] w fun e w' => e = .returned (.agg (bvs (enc W R b)).toArray) ∧ Kp nob w w' := by
  have HB := Lib.hid hb; have HW := Lib.hid hW; clear hb hW
  have HR := Lib.hid hr; clear hr
  have HL := Lib.hid (show (bvs b).length = 16 by rw [bvs_length, HB.out])
  have h0 : Base w b (bvs (tb fun _ => 0)) ((w.alloc (.cells (bvs b).toArray 23)).alloc (.cells (bvs (tb fun _ => 0)).toArray 23)) :=
    ⟨(Blk.new w _ _).alloc _, Blk.new' (by simp) rfl, ((Kp.refl nob w).alloc _).alloc _⟩
  have H0 := Lib.hid h0; clear h0
  go_enter Tryd.func12, Tryd.ntmps12
  go_wp2_with (first
    | (refine wpList_load_blk rfl 23 (.tmp 3) rfl _ _ _ H0.out.state rfl _ arr16 rfl (by rw [HL.out]; kernel_rfl) ?_)
    | fail)
  refine (fAdded b W A (4 * (R + 2)) cA 0 _ HB.out (by rw [HW.out]; omega) (HR.out.keep0 H0.out.kp) hc (by omega) (by omega)).mono ?_
  rintro e w1 ⟨rfl, k1⟩
  rw [← stt_zero W R b]
  have H1 := Lib.hid (H0.out.keep k1 (fun _ e => e.elim))
  have HS := Lib.hid (show ∀ i, (bvs (stt W R b i)).length = 16 from fun i => by rw [bvs_length, stt_length])
  clear H0 k1
  go_wp2_with (refine wpList_store_blk rfl 23 (.tmp 3) (.tmp 21) rfl _ _ (bvs b) (bvs (stt W R b 0)) H1.out.state rfl rfl (by rw [HL.out, HS.out]) (by rw [HS.out]; kernel_rfl) (bvs_one _) ?_; intro w2 hB2 k2 z2)
  have HB2 := Lib.hid (show Base w (stt W R b 0) (bvs (tb fun _ => 0)) w2 from ⟨hB2, H1.out.ans.keep k2 (fun e => by unfold oneB at e; omega), H1.out.kp.since k2 (fun i e => by unfold oneB at e; omega)⟩)
  clear H1 hB2 k2 z2
  go_wp2
  go_loopw [6] (fun vr wr => ∃ i : Nat, i ≤ R + 1 ∧ vr = .int .i64 ((i : Int) + 1) ∧ Base w (stt W R b i) (bvs (tb fun _ => 0)) wr)
    (fun vr _ => R + 5 - (intOf vr).toNat)
  case atStart => exact ⟨0, by omega, rfl, HB2.out⟩
  case round =>
    obtain ⟨i, hi, rfl, hbase⟩ := hrel
    clear HB2
    have HBS := Lib.hid hbase; clear hbase
    obtain ⟨B, hBd⟩ : ∃ B, B = stt W R b i := ⟨_, rfl⟩
    rw [← hBd] at HBS
    have HBD := Lib.hid hBd; clear hBd
    by_cases hlt : i ≤ R
    · obtain ⟨g1, hg1⟩ : ∃ g, g = wr.heap.size := ⟨_, rfl⟩
      have hX0 : Blk (wr.alloc (.cells (bvs (tb fun _ => 0)).toArray 23)) g1 23 (bvs (pt (sr B) (fun _ => 0) (4 * 0))) := by rw [pt_zero]; exact Blk.new' hg1 rfl
      have HX0 := Lib.hid (And.intro hX0 (HBS.out.alloc (.cells (bvs (tb fun _ => 0)).toArray 23))); clear hX0
      have hg : w.heap.size + 1 < g1 := by rw [hg1]; exact HBS.out.lt
      go_wp2
      rw [← hg1]
      clear hg1
      go_loopw [8] (fun vc w3 => ∃ c : Nat, c ≤ 4 ∧ vc = .int .i64 c ∧ Blk w3 g1 23 (bvs (pt (sr B) (fun _ => 0) (4 * c))) ∧ Base w B (bvs (tb fun _ => 0)) w3)
        (fun vc _ => 4 - (intOf vc).toNat)
      case atStart => exact ⟨0, by omega, rfl, HX0.out.1, HX0.out.2⟩
      case round =>
        obtain ⟨c, hc4, rfl, hX, hb3⟩ := hrel
        have HX := Lib.hid (And.intro hX hb3); clear hX hb3 HX0
        by_cases hlc : c < 4
        · go_wp2
          go_loopw [9] (fun vq w4 => ∃ q : Nat, q ≤ 4 ∧ vq = .int .i64 q ∧ Blk w4 g1 23 (bvs (pt (sr B) (fun _ => 0) (4 * c + q))) ∧ Base w B (bvs (tb fun _ => 0)) w4)
            (fun vq _ => 4 - (intOf vq).toNat)
          case atStart => exact ⟨0, by omega, rfl, by rw [Nat.add_zero]; exact HX.out.1, HX.out.2⟩
          case round =>
            obtain ⟨q, hq4, rfl, hX4, hb4⟩ := hrel
            have HX4 := Lib.hid (And.intro hX4 hb4); clear hX4 hb4 HX
            by_cases hlq : q < 4
            · have hcell := blk_byte HX4.out.2.state (4 * ((c + q) % 4) + q) (by rw [HBD.out, stt_length]; omega)
              have hx := HX4.out.1.cell (4 * c + q)
              rw [pt_get _ _ _ (by omega)] at hx
              have hf := HX4.out.1.frozen (4 * c + q)
              have HSR := Lib.hid (sr_at B c q hlc hlq)
              go_wp2_with fail
              refine (fBox (gb B (4 * ((c + q) % 4) + q)) _).mono ?_
              rintro e w5 ⟨rfl, rfl⟩
              rw [← HSR.out]
              go_wp2
              go_roundw
              case rel =>
                refine ⟨q + 1, by omega, by go_num, ?_, HX4.out.2.set (by simpa using hg) _⟩
                have := HX4.out.1.set_ (4 * c + q) (.int .u8 (cb (sr B (4 * c + q))))
                rw [bvs_setb, pt_set] at this
                exact this
              case measure => simp [intOf]; omega
            · obtain rfl : q = 4 := by omega
              go_wp2
              go_roundw
              case rel => exact ⟨c + 1, by omega, by go_num, HX4.out.1, HX4.out.2⟩
              case measure => simp [intOf]; omega
        · have hX1 := HX.out.1
          rw [show 4 * c = 16 by omega, pt_all, sr_all] at hX1
          have HX1 := Lib.hid (And.intro hX1 HX.out.2)
          obtain ⟨X, hXd⟩ : ∃ X, X = rows (sub B) := ⟨_, rfl⟩
          have HXL := Lib.hid (show (bvs X).length = 16 by rw [bvs_length, hXd, rows_length])
          rw [← hXd] at HX1
          have HXD := Lib.hid hXd
          clear hX1 HX hXd
          by_cases hlr : i < R
          · obtain ⟨g2, hg2⟩ : ∃ g, g = wr.heap.size := ⟨_, rfl⟩
            have hY0 : Blk (wr.alloc (.cells (bvs (tb fun _ => 0)).toArray 23)) g2 23 (bvs (ms X (4 * 0) 0)) := by rw [Nat.mul_zero, ms_zero]; exact Blk.new' hg2 rfl
            have hF0 : Blk ((wr.alloc (.cells (bvs (tb fun _ => 0)).toArray 23)).alloc (.cells (bvs [2, 3, 1, 1]).toArray 52)) (g2 + 1) 52 (bvs [2, 3, 1, 1]) := Blk.new' (by rw [hg2]; simp) rfl
            have hg3 : g1 < g2 := by rw [hg2]; exact HX1.out.1.lt
            have HM0 := Lib.hid (Mix.mk (hY0.alloc _) hF0 ((HX1.out.1.alloc _).alloc _) ((HX1.out.2.alloc _).alloc _))
            clear hY0 hF0 HX1
            go_wp2
            rw [← hg2]
            clear hg2
            go_loopw [12] (fun vc w3 => ∃ c : Nat, c ≤ 4 ∧ vc = .int .i64 c ∧ Mix w B X g1 g2 (ms X (4 * c) 0) w3)
              (fun vc _ => 4 - (intOf vc).toNat)
            case atStart => exact ⟨0, by omega, rfl, HM0.out⟩
            case round =>
              obtain ⟨c, hc4, rfl, hm⟩ := hrel
              have HM := Lib.hid hm; clear hm HM0
              by_cases hlc : c < 4
              · go_wp2
                go_loopw [13] (fun vk w4 => ∃ k : Nat, k ≤ 4 ∧ vk = .int .i64 k ∧ Mix w B X g1 g2 (ms X (4 * c + k) 0) w4)
                  (fun vk _ => 4 - (intOf vk).toNat)
                case atStart => exact ⟨0, by omega, rfl, by rw [Nat.add_zero]; exact HM.out⟩
                case round =>
                  obtain ⟨k, hk4, rfl, hm⟩ := hrel
                  have HK := Lib.hid hm; clear hm HM
                  by_cases hlk : k < 4
                  · go_wp2
                    go_loopw [14] (fun vj w5 => ∃ j : Nat, j ≤ 4 ∧ vj = .int .i64 j ∧ Mix w B X g1 g2 (ms X (4 * c + k) j) w5)
                      (fun vj _ => 4 - (intOf vj).toNat)
                    case atStart => exact ⟨0, by omega, rfl, HK.out⟩
                    case round =>
                      obtain ⟨j, hj4, rfl, hm⟩ := hrel
                      have HJ := Lib.hid hm; clear hm HK
                      by_cases hlj : j < 4
                      · have HCS := Lib.hid (cs_at X c k j hlc hlk)
                        have HJD := Lib.hid HJ.out.drew
                        go_wp2
                        refine wp_region_still_tail 25 (by kernel_rfl) (by kernel_rfl) ?_
                        change wpStill _ _ wr.drew (fun a' => wpList _ _ _ _ a' wr.drew) _ _
                        clear HJ
                        generalize wr.drew = wd at *
                        obtain ⟨C, hC⟩ : ∃ C, C = 4 * c := ⟨_, rfl⟩
                        obtain ⟨P, hP⟩ : ∃ P, P = C + k := ⟨_, rfl⟩
                        obtain ⟨Q, hQ⟩ : ∃ Q, Q = C + j := ⟨_, rfl⟩
                        obtain ⟨D, hD⟩ : ∃ D : Int, D = (j : Int) - (k : Int) := ⟨_, rfl⟩
                        obtain ⟨E, hE⟩ : ∃ E, E = j + 4 - k := ⟨_, rfl⟩
                        obtain ⟨F, hF⟩ : ∃ F, F = E % 4 := ⟨_, rfl⟩
                        rw [← hC, ← hP, ← hQ] at HCS
                        rw [← hC, ← hP] at HJD
                        have hP16 : P < 16 := by omega
                        have hQ16 : Q < 16 := by omega
                        have hF4 : F < 4 := by omega
                        have hy := HJD.out.y.cell P
                        rw [ms_get _ _ _ hP16] at hy
                        have hx := blk_byte HJD.out.x Q (by have := HXL.out; rw [bvs_length] at this; omega)
                        have hf := blk_byte HJD.out.f F hF4
                        rw [hF, hE, fac_at j k, ← hE, ← hF] at hf
                        have hfr := HJD.out.y.frozen P
                        have e1 : IntKind.i64.wrap (4 * (c : Int)) = (C : Int) := wrap_to _ _ (by omega) (by omega)
                        have e2 : IntKind.i64.wrap ((C : Int) + (k : Int)) = (P : Int) := wrap_to _ _ (by omega) (by omega)
                        have e3 : IntKind.i64.wrap ((C : Int) + (j : Int)) = (Q : Int) := wrap_to _ _ (by omega) (by omega)
                        have e4 : IntKind.i64.wrap ((j : Int) - (k : Int)) = D := wrap_toI _ _ (by omega) (by omega)
                        have e5 : IntKind.i64.wrap (D + 4) = (E : Int) := wrap_to _ _ (by omega) (by omega)
                        have e6 : (E : Int).tmod 4 = (F : Int) := tmod_four _ _ hF
                        have e7 : IntKind.i64.wrap (F : Int) = (F : Int) := wrap_to _ _ rfl (by omega)
                        have b1 : (0 : Int) ≤ (P : Int) ∧ (P : Int) < 16 := by omega
                        have b2 : (0 : Int) ≤ (Q : Int) ∧ (Q : Int) < 16 := by omega
                        have b3 : (0 : Int) ≤ (F : Int) ∧ (F : Int) < 4 := by omega
                        have HPP := Lib.hid (show P = 4 * c + k by rw [hP, hC])
                        clear hC hP hQ hD hE hF
                        simp only [List.take_succ_cons, List.take_zero, List.drop_succ_cons, List.drop_zero]
                        repeat still_step
                        still_call ((fTimes (gb X Q) (fac j k) _).mono fun _ _ h => ⟨h.1, h.2.symm⟩)
                        repeat still_step
                        refine wpStill_nil ?_
                        go_wp2
                        refine ⟨?rel, by simp [intOf]; omega⟩
                        case rel =>
                          have q1 : decide ((i : Int) + 1 < (R : Int) + 2 - 1) = true := by simp; omega
                          have q2 : decide ((c : Int) < 4) = true := by simp; omega
                          have q3 : decide ((k : Int) < 4) = true := by simp; omega
                          simp only [q1, q2, q3]
                          (repeat apply Exists.intro)
                          refine ⟨?_, rfl⟩
                          refine ⟨j + 1, by omega, by go_num, ?_⟩
                          have := HJD.out.set hg hg3 P (cs X P (j + 1))
                          rw [ms_step, HCS.out] at this
                          rw [← HPP.out]
                          exact this
                      · obtain rfl : j = 4 := by omega
                        go_wp2
                        go_roundw
                        case rel => exact ⟨k + 1, by omega, by go_num, by rw [← Nat.add_assoc, ← ms_next]; exact HJ.out⟩
                        case measure => simp [intOf]; omega
                  · obtain rfl : k = 4 := by omega
                    go_wp2
                    go_roundw
                    case rel => exact ⟨c + 1, by omega, by go_num, HK.out⟩
                    case measure => simp [intOf]; omega
              · obtain rfl : c = 4 := by omega
                have hm := HM.out
                rw [show 4 * 4 = 16 from rfl, ms_all] at hm
                have HE := Lib.hid hm; clear hm HM
                have HML := Lib.hid (show (bvs (mix X)).length = 16 by rw [bvs_length, mix_length])
                have HST := Lib.hid (stt_mid W R b i hlr)
                go_wp2_with (first
                  | (refine wpList_load_blk rfl 23 (.tmp 10) rfl _ _ _ HE.out.y rfl _ arr16 rfl (by rw [HML.out]; kernel_rfl) ?_)
                  | (refine wpList_store_blk rfl 23 (.tmp 7) (.tmp 92) rfl _ _ (bvs X) (bvs (mix X)) HE.out.x rfl rfl (by rw [HML.out, HXL.out]) (by rw [HML.out]; kernel_rfl) (bvs_one _) ?_
                     intro w5 hB5 k5 z5
                     have HB5 := Lib.hid hB5
                     have HS5 := Lib.hid (HE.out.base.keep k5 (fun i e => by unfold oneB at e; omega))
                     clear hB5 k5 z5)
                  | (refine wpList_load_blk rfl 23 (.tmp 7) rfl _ _ _ HB5.out rfl _ arr16 rfl (by rw [HML.out]; kernel_rfl) ?_))
                have hrr := HR.out.keep0 HS5.out.kp
                refine (fAdded (mix X) W A (4 * (R + 2)) cA (i + 1) w5 (mix_length X) (by rw [HW.out]; omega) hrr hc (by omega) (by omega)).mono ?_
                rintro e w6 ⟨rfl, k6⟩
                rw [show add (rk W (i + 1)) (mix X) = stt W R b (i + 1) by rw [HST.out, HXD.out, HBD.out]]
                have HS6 := Lib.hid (HS5.out.keep k6 (fun _ e => e.elim))
                have HBL := Lib.hid (show (bvs B).length = 16 by rw [HBD.out, HS.out])
                clear k6 hrr
                go_wp2_with (refine wpList_store_blk rfl 23 (.tmp 3) (.tmp 96) rfl _ _ (bvs B) (bvs (stt W R b (i + 1))) HS6.out.state rfl rfl (by rw [HBL.out, HS.out]) (by rw [HS.out]; kernel_rfl) (bvs_one _) ?_; intro w7 hB7 k7 z7)
                have HB7 := Lib.hid (show Base w (stt W R b (i + 1)) (bvs (tb fun _ => 0)) w7 from ⟨hB7, HS6.out.ans.keep k7 (fun e => by unfold oneB at e; omega), HS6.out.kp.since k7 (fun i e => by unfold oneB at e; omega)⟩)
                clear hB7 k7 z7
                go_wp2
                exact ⟨⟨i + 1, by omega, by go_num, HB7.out⟩, by simp [intOf]; omega⟩
          · have HIR := Lib.hid (show i = R by omega)
            have d0 : decide ((i : Int) + 1 < (R : Int) + 2 - 1) = false := by simp; omega
            have HST := Lib.hid (stt_end W R b)
            go_wp2_with (refine wpList_load_blk rfl 23 (.tmp 7) rfl _ _ _ HX1.out.1 rfl _ arr16 rfl (by rw [HXL.out]; kernel_rfl) ?_)
            have hrr := HR.out.keep0 HX1.out.2.kp
            refine (fAdded X W A (4 * (R + 2)) cA (i + 1) wr (by have := HXL.out; rwa [bvs_length] at this) (by rw [HW.out]; omega) hrr hc (by omega) (by omega)).mono ?_
            rintro e w6 ⟨rfl, k6⟩
            rw [show add (rk W (i + 1)) X = stt W R b (i + 1) by rw [HIR.out, HST.out, HXD.out, HBD.out, HIR.out]]
            have HS6 := Lib.hid (HX1.out.2.keep k6 (fun _ e => e.elim))
            have HBL := Lib.hid (show (bvs B).length = 16 by rw [HBD.out, HS.out])
            clear k6 hrr
            go_wp2_with (refine wpList_store_blk rfl 23 (.tmp 3) (.tmp 96) rfl _ _ (bvs B) (bvs (stt W R b (i + 1))) HS6.out.state rfl rfl (by rw [HBL.out, HS.out]) (by rw [HS.out]; kernel_rfl) (bvs_one _) ?_; intro w7 hB7 k7 z7)
            have HB7 := Lib.hid (show Base w (stt W R b (i + 1)) (bvs (tb fun _ => 0)) w7 from ⟨hB7, HS6.out.ans.keep k7 (fun e => by unfold oneB at e; omega), HS6.out.kp.since k7 (fun i e => by unfold oneB at e; omega)⟩)
            clear hB7 k7 z7
            go_wp2
            exact ⟨⟨i + 1, by omega, by go_num, HB7.out⟩, by simp [intOf]; omega⟩
    · have hir : i = R + 1 := by omega
      have HE := HBS.out
      rw [HBD.out, hir, stt_all] at HE
      have HF := Lib.hid HE
      have HM := Lib.hid (show (bvs (enc W R b)).length = 16 by rw [bvs_length, enc_length])
      have HZ := Lib.hid (show (bvs (tb fun _ => 0)).length = 16 by rw [bvs_length, tb_length])
      clear HE hir
      go_wp2_with (first
        | (refine wpList_load_blk rfl 23 (.tmp 3) rfl _ _ _ HF.out.state rfl _ arr16 rfl (by rw [HM.out]; kernel_rfl) ?_)
        | (refine wpList_store_blk rfl 23 (.tmp 4) (.tmp 97) rfl _ _ (bvs (tb fun _ => 0)) (bvs (enc W R b)) HF.out.ans rfl rfl (by rw [HZ.out, HM.out]) (by rw [HM.out]; kernel_rfl) (bvs_one _) ?_; intro w2 hB2 k2 z2))
      have hsz : (Tryd.prog.info? 23).map (·.size) = some (bvs (enc W R b)).toArray.size := by
        rw [List.size_toArray, HM.out]; kernel_rfl
      refine bodyPost_ret (results_cell_row rfl _ _ (w.heap.size + 1) _ _ _ _ rfl hB2 arr16 rfl hsz) rfl ⟨rfl, HF.out.kp.since k2 (fun i e => by cases e; omega)⟩
end Go.Proofs.YtdoioldlaehkhaaDoor.Aes

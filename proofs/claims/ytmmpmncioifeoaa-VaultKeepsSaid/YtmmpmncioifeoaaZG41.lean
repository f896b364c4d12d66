/- The statement of coffretlaw10.VaultKeeps, over any table of squares, and over what 'note' does. · The table of squares out of the world's shape: eight bytes, whatever they are (where a row doesn't tell of it). · coffretlaw10.VaultKeeps for all arguments, over what 'note' does; the table of squares out of the world's shape. -/
import Derived.Test.YtmmpmncioifeoaaZG40
import Derived.Test.YtmmpmncioifeoaaZG28
import Derived.ProofKit
import Derived.HandedShaped
namespace Go.Proofs.Ytmmpmncioifeoaa.Vault
set_option linter.unusedVariables false
set_option linter.unusedSimpArgs false
open Go Go.RowKit Kit
open Ideal (Iw Iq Ans Arg Args Thing mk out sealT opn z32 zc zc_eq args_one)
open Sha (Pc PcsOk catP)
open Field (Sq)

theorem copied {w1 w2 : World} {M : Option Addr} {m cM H : Nat} {l : List UInt8} (hH : H = w1.heap.size + 1) (hown : Kit.Own 5 w2 M (0 + m) cM ([] ++ bvs l)) (hg : (w1.alloc (.cells #[] 5)).grownBy w2 (some w1.heap.size)) (hab : ab M = some w1.heap.size ∨ ab M = some H) : Kit.Own 5 w2 M m cM (bvs l) ∧ Kp nob w1 w2 ∧ ∀ k, ab M = some k → w1.heap.size ≤ k := by
  refine ⟨by rw [Nat.zero_add, List.nil_append] at hown; exact hown, ((Kp.refl nob w1).alloc _).since (Kp.of_grown (F := fun k => k = w1.heap.size) hg (fun k e => by cases e; rfl)) (fun k e => Nat.le_of_eq e.symm), fun k e => ?_⟩
  rcases hab with h | h
  · rw [h] at e; cases e; exact Nat.le_refl _
  · rw [h] at e; cases e; omega
theorem own_empty (w1 : World) : Kit.Own 5 (w1.alloc (.cells #[] 5)) (some ⟨w1.heap.size, 0, none⟩) 0 0 [] := World.ownsRow_made w1 #[] 0 (Nat.zero_le _) (by simp [maxLen]) rfl
theorem conv_row (w1 : World) (A2 : Option Addr) (n c : Nat) (l : List UInt8) (hn : l.length = n) (hr : Row w1 A2 (bvs l)) : (convert 29 9 (.slice A2 n c)).run Try.prog w1 = .ok (.string (str l)) w1 :=
  run_bytes_str w1 29 9 5 u8n_under (by kernel_rfl) (by kernel_rfl) A2 n c l hn hr
set_option maxHeartbeats 1000000 in
set_option maxRecDepth 100000 in
theorem keeps_no (dif : List UInt8 → List UInt8 → Bool) (Z : World → Prop) (hN : NoteC dif Z) (r : Bool) (A : Option Addr) (n c : Nat) (B : Option Addr) (m d : Nat) (w : World) (hz : ∀ w', Kp nob w w' → Z w') (h : 1024 < n ∨ 1024 < m) :
    Calls Try.prog 5 #[.bool r, .slice A n c, .slice B m d] w fun e w' => e = .returned (.bool true) ∧ Kp nob w w' := by
  have HY := Lib.hid (alive_yes dif Z hN w hz)
  clear hN hz
  go_enter Try.func5, Try.ntmps5
  go_wp2_with fail
  refine HY.out.mono ?_
  rintro e w1 ⟨rfl, k1⟩
  by_cases h1 : 1024 < n
  · have d1 : decide ((1024 : Int) < (n : Int)) = true := by simp; omega
    clear h1 h
    go_wp2
    go_ret
    exact ⟨rfl, k1⟩
  · have d1 : decide ((1024 : Int) < (n : Int)) = false := by simp; omega
    have d2 : decide ((1024 : Int) < (m : Int)) = true := by simp; omega
    clear h1 h
    go_wp2
    go_ret
    exact ⟨rfl, k1⟩
set_option maxHeartbeats 4000000 in
set_option maxRecDepth 100000 in
theorem keeps_yes [Inhabited Field.SqTab] (dif : List UInt8 → List UInt8 → Bool) (Z : World → Prop) (hN : NoteC dif Z) (r : Bool) (A : Option Addr) (n c : Nat) (x : List UInt8) (B : Option Addr) (m d : Nat) (o : List UInt8) (w : World) (hs : Sq w) (hz : ∀ w', Kp nob w w' → Z w')
    (h1 : x.length = n) (h2 : A = none → c = 0) (h3 : Row w A (bvs x)) (h4 : n ≤ c) (g1 : o.length = m) (g2 : B = none → d = 0) (g3 : Row w B (bvs o)) (g4 : m ≤ d) (hn : n ≤ 1024) (hm : m ≤ 1024) :
    Calls Try.prog 5 #[.bool r, .slice A n c, .slice B m d] w fun e w' => e = .returned (.bool true) ∧ Kp nob w w' := by
  subst h1; subst g1
  have d1 : decide ((1024 : Int) < (x.length : Int)) = false := by simp; omega
  have d2 : decide ((1024 : Int) < (o.length : Int)) = false := by simp; omega
  have HXL := Lib.hid (show (bvs x).length = x.length by rw [bvs_length])
  have HOL := Lib.hid (show (bvs o).length = o.length by rw [bvs_length])
  have HX := Lib.hid (And.intro h2 (And.intro h3 h4)); have HO := Lib.hid (And.intro g2 (And.intro g3 g4)); have HB := Lib.hid (And.intro hn hm)
  obtain ⟨i0, hi, z0, z1, z2⟩ := info_parts (show (Try.prog.info? 5).map (fun i => (i.zero, i.size, i.bytes)) = some (some (.int .u8 0), 1, 1) by kernel_rfl)
  have HI := Lib.hid (And.intro hi (And.intro z0 (And.intro z1 z2)))
  have HY := Lib.hid (alive_yes dif Z hN w hz)
  have HN := Lib.hid hN; have HZ := Lib.hid hz; have HSQ := Lib.hid hs
  have HSL := Lib.hid (Aes.sq_lt hs)
  clear hN hz h2 h3 h4 g2 g3 g4 hn hm hi z0 z1 z2 hs
  go_enter Try.func5, Try.ntmps5
  go_wp2_with fail
  refine HY.out.mono ?_
  rintro e w1 ⟨rfl, k1⟩
  have HK1 := Lib.hid k1
  clear k1 HY
  go_wp2_with fail
  refine (Ideal.new_i w1).mono ?_
  rintro e w2 ⟨p, F, rfl, hq⟩
  have HQ := Lib.hid hq; clear hq
  go_wp2_with (first
    | (refine wpList_built rfl 28 _ rfl (.agg zc.toArray) (by exact exec_build _ _ rfl [] _ rfl (zk_build _)) ?_)
    | fail)
  rw [zc_eq]
  refine (ideal_any p z32 9 w2 z32_length).mono ?_
  rintro e w3 ⟨v, mm, rfl, hv, k3, n1, n2⟩
  have HF : Hid (Fresh0 w1 w3 v mm p F z32 9) := Lib.hid (fresh_of HQ.out hv k3 n1 n2)
  have HK3 : Hid (Kp nob w w3) := Lib.hid (HK1.out.trans HF.out.kp (fun _ e => e.elim))
  clear hv k3 n1 n2 HQ
  cases r
  case false =>
    have HSO : Hid (SO w3 v (uF F v mm) x o) := Lib.hid (so_ideal dif Z HN.out w3 v mm p F x o HF.out.vs HF.out.iw HF.out.ne HB.out.1 HB.out.2 (fun w' h => HZ.out w' (HK3.out.since h (fun k e => Nat.le_trans HK1.out.size (HF.out.f k e)))))
    have HG : Hid (∀ k, uF F v mm k → w.heap.size ≤ k ∧ k < w3.heap.size) := Lib.hid (fun k h => h.elim (fun h => ⟨Nat.le_trans HK1.out.size (HF.out.f k h), HF.out.iw.lt k h⟩) (fun h => h.elim (fun h => h ▸ ⟨Nat.le_trans HK1.out.size HF.out.lt.1, HF.out.vs.b.b.lt⟩) (fun h => h ▸ ⟨Nat.le_trans HK1.out.size HF.out.lt.2, HF.out.vs.b.s.lt⟩)))
    obtain ⟨G, hG⟩ : ∃ G, G = uF F v mm := ⟨_, rfl⟩
    rw [← hG] at HSO HG
    clear hG HF HN HZ HSQ HSL HK1
    go_wp2_with (first
      | (refine wpList_appR _ rfl (.tmp 32) (.tmp 33) 29 rfl 5 i0 (.int .u8 0) 1 u8n_under HI.out.1 HI.out.2.1 HI.out.2.2.1 HI.out.2.2.2 rfl (some ⟨w3.heap.size, 0, none⟩) 0 0 [] rfl (own_empty w3) A x.length c (bvs x) rfl HX.out.1 HXL.out ((HX.out.2.1.keep0 HK3.out).alloc _) (bvs_one _) (by have := HB.out; omega) (by have := HB.out; omega) ?_
         intro T cT w4 hown hg hab
         have HT := Lib.hid (copied (by simp) hown hg hab)
         clear hown hg hab)
      | (refine wpList_appR _ rfl (.tmp 35) (.tmp 36) 29 rfl 5 i0 (.int .u8 0) 1 u8n_under HI.out.1 HI.out.2.1 HI.out.2.2.1 HI.out.2.2.2 rfl (some ⟨w4.heap.size, 0, none⟩) 0 0 [] rfl (own_empty w4) B o.length d (bvs o) rfl HO.out.1 HOL.out ((HO.out.2.1.keep0 (HK3.out.trans HT.out.2.1 (fun _ e => e.elim))).alloc _) (bvs_one _) (by have := HB.out; omega) (by have := HB.out; omega) ?_
         intro Q cQ w5 hown hg hab
         have HQ2 := Lib.hid (copied (by simp) hown hg hab)
         clear hown hg hab)
      | (refine wpList_built rfl 28 _ rfl (.agg zc.toArray) (by exact exec_build _ _ rfl [] _ rfl (zk_build _)) ?_)
      | fail)
    rw [zc_eq]
    have HK5 := Lib.hid (HT.out.2.1.trans HQ2.out.2.1 (fun _ e => e.elim))
    have HTA : Hid (Arg w5 G T x.length cT x) := Lib.hid ⟨rfl, HT.out.1.row.keep0 HQ2.out.2.1, .inr (fun k e h => by have := HT.out.2.2 k e; have := HG.out k h; omega), HT.out.1.cap.1, HT.out.1.cap.2, own_none HT.out.1⟩
    have HQA : Hid (Arg w5 G Q o.length cQ o) := Lib.hid ⟨rfl, HQ2.out.1.row, .inr (fun k e h => by have := HQ2.out.2.2 k e; have := HG.out k h; have := HT.out.2.1.size; omega), HQ2.out.1.cap.1, HQ2.out.1.cap.2, own_none HQ2.out.1⟩
    have HTB : Hid (∀ k, ab T = some k → w3.heap.size ≤ k ∧ k < w5.heap.size) := Lib.hid (fun k e => ⟨HT.out.2.2 k e, Nat.lt_of_lt_of_le (HT.out.1.lt k e) HQ2.out.2.1.size⟩)
    have HQB : Hid (∀ k, ab Q = some k → w3.heap.size ≤ k ∧ k < w5.heap.size) := Lib.hid (fun k e => ⟨Nat.le_trans HT.out.2.1.size (HQ2.out.2.2 k e), HQ2.out.1.lt k e⟩)
    have HK35 := Lib.hid (HK3.out.trans HK5.out (fun _ e => e.elim))
    clear HT HQ2
    refine (HSO.out T cT Q cQ w5 HK5.out HTA.out HQA.out).mono ?_
    rintro e w6 ⟨X, cX, Y, G2, rfl, hx, fx, k6, f2, hop⟩
    have HXA := Lib.hid hx
    have HYL := Lib.hid (show (bvs Y).length = x.length + 16 by rw [bvs_length]; exact hx.len)
    have HFX := Lib.hid fx; have HK6 := Lib.hid k6; have HF2 := Lib.hid f2; have HOP := Lib.hid hop
    have HK06 : Hid (Kp nob w w6) := Lib.hid (HK35.out.since k6 (fun k e => (HG.out k e).1))
    clear hx fx k6 f2 hop HSO
    go_wp2_with (first
      | (refine wpList_appR _ rfl (.tmp 47) (.tmp 48) 29 rfl 5 i0 (.int .u8 0) 1 u8n_under HI.out.1 HI.out.2.1 HI.out.2.2.1 HI.out.2.2.2 rfl (some ⟨w6.heap.size, 0, none⟩) 0 0 [] rfl (own_empty w6) X (x.length + 16) cX (bvs Y) rfl HXA.out.nil HYL.out (HXA.out.row.alloc _) (bvs_one _) (by have := HB.out; omega) (by have := HB.out; omega) ?_
         intro C cC w7 hown hg hab
         have HC := Lib.hid (copied (by simp) hown hg hab)
         clear hown hg hab)
      | (refine wpList_built rfl 28 _ rfl (.agg zc.toArray) (by exact exec_build _ _ rfl [] _ rfl (zk_build _)) ?_)
      | fail)
    rw [zc_eq]
    have HCA : Hid (Arg w7 G2 C (x.length + 16) cC Y) := Lib.hid ⟨HXA.out.len, HC.out.1.row, .inr (fun k e h => by
        have h1 := HC.out.2.2 k e
        have h2 := (HF2.out k h).2
        omega), HC.out.1.cap.1, HC.out.1.cap.2, own_none HC.out.1⟩
    have HQ7 : Hid (Arg w7 G2 Q o.length cQ o) := Lib.hid ⟨rfl, (HQA.out.row.keep HK6.out (fun k e h => by have := HQB.out k e; have := (HG.out k h).2; omega)).keep0 HC.out.2.1, .inr (fun k e h => by
        have h1 := HQB.out k e
        rcases (HF2.out k h).1 with h2 | h2
        · have := (HG.out k h2).2; omega
        · omega), HQA.out.cap, HQA.out.mx, HQA.out.nil⟩
    refine (HOP.out C cC w7 HC.out.2.1 HCA.out HQ7.out).mono ?_
    rintro e w8 ⟨Z, cZ, rfl, hz8, k8, f8⟩
    have HK8 : Hid (Kp nob w w8) := Lib.hid (HK06.out.trans (HC.out.2.1.trans k8 (fun _ e => e.elim)) (fun _ e => e.elim))
    have HZ8 := Lib.hid hz8; have HFZ := Lib.hid f8
    have hq8 : Row w8 Q (bvs o) := HQ7.out.row.keep0 k8
    have ht8 : Row w8 T (bvs x) := ((HTA.out.row.keep HK6.out (fun k e h => by have := HTB.out k e; have := (HG.out k h).2; omega)).keep0 HC.out.2.1).keep0 k8
    have hx8 : Row w8 X (bvs Y) := (HXA.out.row.keep0 HC.out.2.1).keep0 k8
    have hc8 : Kit.Own 5 w8 C (x.length + 16) cC (bvs Y) := HC.out.1.keep k8 (fun _ _ e => e)
    have HC8 := Lib.hid hc8
    have HCF := Lib.hid (fun k (e : ab C = some k) => HC.out.2.2 k e)
    have HCL := Lib.hid (fun k (e : ab C = some k) => HC.out.1.lt k e)
    have q1 := conv_row w8 T x.length cT x rfl ht8
    have q2 := conv_row w8 A x.length c x rfl (HX.out.2.1.keep0 HK8.out)
    have q3 := conv_row w8 Q o.length cQ o rfl hq8
    have q4 := conv_row w8 B o.length d o rfl (HO.out.2.1.keep0 HK8.out)
    have q5 := conv_row w8 C (x.length + 16) cC Y HXA.out.len hc8.row
    have q6 := conv_row w8 X (x.length + 16) cX Y HXA.out.len hx8
    have HYN := Lib.hid HXA.out.len
    clear hz8 k8 f8 hq8 ht8 hx8 hc8 HOP HCA HQ7 HTA HQA HXA HTB HQB HC HFX HK6 HF2 HG HK5 HK35 d1 d2
    go_wp2
    go_loopw [84] (fun vi wr => ∃ (k : Nat) (lm : List UInt8), k ≤ x.length + 16 ∧ vi = .int .i64 (k : Int) ∧ Kit.Own 5 wr C (x.length + 16) cC (bvs lm) ∧ Kp (rowF C) w8 wr)
      (fun vi _ => x.length + 16 - (intOf vi).toNat)
    case atStart => exact ⟨0, Y, Nat.zero_le _, rfl, HC8.out, Kp.refl _ _⟩
    case round =>
      obtain ⟨k, lm, hk, rfl, oM, kr⟩ := hrel
      by_cases hlt : k < x.length + 16
      · obtain ⟨bm, rfl, hbm, hcm, hfm, hsm⟩ := oM.at_ hlt
        have hml : lm.length = x.length + 16 := by simpa using oM.len
        obtain ⟨xm, hxm⟩ : ∃ x, x = lm[k]'(by omega) := ⟨_, rfl⟩
        have hcm' : wr.cell? ⟨bm, k, none⟩ = some (.int .u8 xm.toNat) := by rw [hcm, hxm]; simp [bvs, bv]
        have hb1 := xm.toNat_lt
        obtain ⟨k1, hk1⟩ : ∃ k1 : Nat, k1 = k + 1 := ⟨_, rfl⟩
        have e9 : IntKind.i64.wrap ((k : Int) + 1) = (k1 : Int) := by have := HB.out.1; rw [IntKind.wrap_i64]; omega
        have HK1 := Lib.hid hk1
        clear hcm hxm q1 q2 q3 q4 q5 q6 hk1
        go_wp2
        go_roundw
        case rel =>
          refine ⟨k1, lm.set k (UInt8.ofNat (xm.toNat + 1)), by have := HK1.out; clear e9; omega, rfl, ?_, ?_⟩
          · rw [← bvs_set]
            exact oM.set k _
          · exact kr.setCell (p := ⟨bm, k, none⟩) (.inl rfl) _
        case measure => (have hkk := HK1.out; clear e9; simp [intOf]; omega)
      · have hzr : Row wr Z (bvs x) := HZ8.out.keep kr (fun k e h => by have h1 := HFZ.out k e; have h2 := HCL.out k h; omega)
        have hkr : Kp nob w wr := HK8.out.since kr (fun k h => by have h1 := HCF.out k h; have := HK06.out.size; omega)
        have har : Row wr A (bvs x) := HX.out.2.1.keep0 hkr
        have q7 := conv_row wr Z x.length cZ x rfl hzr
        have q8 := conv_row wr A x.length c x rfl har
        have HKR := Lib.hid hkr
        clear hzr hkr har q1 q2 q3 q4 q5 q6
        go_wp2
        go_ret
        exact ⟨by simp, HKR.out⟩
  case true =>
    go_wp2_with (first
      | (refine wpList_built rfl 28 _ rfl (.agg zc.toArray) (by exact exec_build _ _ rfl [] _ rfl (zk_build _)) ?_)
      | fail)
    rw [zc_eq]
    refine (real_any z32 9 w3 z32_length).mono ?_
    rintro e w3' ⟨v', mm', rfl, hv, k3, n1, n2⟩
    have HK3' : Hid (Kp nob w w3') := Lib.hid (HK3.out.trans k3 (fun _ e => e.elim))
    have hvs : Vs nob w3' v' mm' rmk z32 9 [] 0 := vs_new hv
    have hs3 := HK3.out.size
    have HSO : Hid (SO w3' v' (vF v' mm') x o) := Lib.hid (so_real dif Z HN.out w3' v' mm' x o hvs (HSQ.out.keep0 HK3'.out) HB.out.1 HB.out.2 (fun h => by have := HSL.out; rcases h with h | h <;> omega) (fun w' h => HZ.out w' (HK3'.out.trans h (fun _ e => e.elim))))
    have HG : Hid (∀ k, vF v' mm' k → w.heap.size ≤ k ∧ k < w3'.heap.size) := Lib.hid (fun k h => h.elim (fun h => h ▸ ⟨by omega, hv.b.lt⟩) (fun h => h ▸ ⟨by omega, hv.s.lt⟩))
    obtain ⟨G, hG⟩ : ∃ G, G = vF v' mm' := ⟨_, rfl⟩
    rw [← hG] at HSO HG
    clear hG HF HN HZ HSQ HSL HK1 HK3 hv hvs k3 n1 n2 hs3
    go_wp2_with (first
      | (refine wpList_appR _ rfl (.tmp 32) (.tmp 33) 29 rfl 5 i0 (.int .u8 0) 1 u8n_under HI.out.1 HI.out.2.1 HI.out.2.2.1 HI.out.2.2.2 rfl (some ⟨w3'.heap.size, 0, none⟩) 0 0 [] rfl (own_empty w3') A x.length c (bvs x) rfl HX.out.1 HXL.out ((HX.out.2.1.keep0 HK3'.out).alloc _) (bvs_one _) (by have := HB.out; omega) (by have := HB.out; omega) ?_
         intro T cT w4 hown hg hab
         have HT := Lib.hid (copied (by simp) hown hg hab)
         clear hown hg hab)
      | (refine wpList_appR _ rfl (.tmp 35) (.tmp 36) 29 rfl 5 i0 (.int .u8 0) 1 u8n_under HI.out.1 HI.out.2.1 HI.out.2.2.1 HI.out.2.2.2 rfl (some ⟨w4.heap.size, 0, none⟩) 0 0 [] rfl (own_empty w4) B o.length d (bvs o) rfl HO.out.1 HOL.out ((HO.out.2.1.keep0 (HK3'.out.trans HT.out.2.1 (fun _ e => e.elim))).alloc _) (bvs_one _) (by have := HB.out; omega) (by have := HB.out; omega) ?_
         intro Q cQ w5 hown hg hab
         have HQ2 := Lib.hid (copied (by simp) hown hg hab)
         clear hown hg hab)
      | (refine wpList_built rfl 28 _ rfl (.agg zc.toArray) (by exact exec_build _ _ rfl [] _ rfl (zk_build _)) ?_)
      | fail)
    rw [zc_eq]
    have HK5 := Lib.hid (HT.out.2.1.trans HQ2.out.2.1 (fun _ e => e.elim))
    have HTA : Hid (Arg w5 G T x.length cT x) := Lib.hid ⟨rfl, HT.out.1.row.keep0 HQ2.out.2.1, .inr (fun k e h => by have := HT.out.2.2 k e; have := HG.out k h; omega), HT.out.1.cap.1, HT.out.1.cap.2, own_none HT.out.1⟩
    have HQA : Hid (Arg w5 G Q o.length cQ o) := Lib.hid ⟨rfl, HQ2.out.1.row, .inr (fun k e h => by have := HQ2.out.2.2 k e; have := HG.out k h; have := HT.out.2.1.size; omega), HQ2.out.1.cap.1, HQ2.out.1.cap.2, own_none HQ2.out.1⟩
    have HTB : Hid (∀ k, ab T = some k → w3'.heap.size ≤ k ∧ k < w5.heap.size) := Lib.hid (fun k e => ⟨HT.out.2.2 k e, Nat.lt_of_lt_of_le (HT.out.1.lt k e) HQ2.out.2.1.size⟩)
    have HQB : Hid (∀ k, ab Q = some k → w3'.heap.size ≤ k ∧ k < w5.heap.size) := Lib.hid (fun k e => ⟨Nat.le_trans HT.out.2.1.size (HQ2.out.2.2 k e), HQ2.out.1.lt k e⟩)
    have HK35 := Lib.hid (HK3'.out.trans HK5.out (fun _ e => e.elim))
    clear HT HQ2
    refine (HSO.out T cT Q cQ w5 HK5.out HTA.out HQA.out).mono ?_
    rintro e w6 ⟨X, cX, Y, G2, rfl, hx, fx, k6, f2, hop⟩
    have HXA := Lib.hid hx
    have HYL := Lib.hid (show (bvs Y).length = x.length + 16 by rw [bvs_length]; exact hx.len)
    have HFX := Lib.hid fx; have HK6 := Lib.hid k6; have HF2 := Lib.hid f2; have HOP := Lib.hid hop
    have HK06 : Hid (Kp nob w w6) := Lib.hid (HK35.out.since k6 (fun k e => (HG.out k e).1))
    clear hx fx k6 f2 hop HSO
    go_wp2_with (first
      | (refine wpList_appR _ rfl (.tmp 47) (.tmp 48) 29 rfl 5 i0 (.int .u8 0) 1 u8n_under HI.out.1 HI.out.2.1 HI.out.2.2.1 HI.out.2.2.2 rfl (some ⟨w6.heap.size, 0, none⟩) 0 0 [] rfl (own_empty w6) X (x.length + 16) cX (bvs Y) rfl HXA.out.nil HYL.out (HXA.out.row.alloc _) (bvs_one _) (by have := HB.out; omega) (by have := HB.out; omega) ?_
         intro C cC w7 hown hg hab
         have HC := Lib.hid (copied (by simp) hown hg hab)
         clear hown hg hab)
      | (refine wpList_built rfl 28 _ rfl (.agg zc.toArray) (by exact exec_build _ _ rfl [] _ rfl (zk_build _)) ?_)
      | fail)
    rw [zc_eq]
    have HCA : Hid (Arg w7 G2 C (x.length + 16) cC Y) := Lib.hid ⟨HXA.out.len, HC.out.1.row, .inr (fun k e h => by
        have h1 := HC.out.2.2 k e
        have h2 := (HF2.out k h).2
        omega), HC.out.1.cap.1, HC.out.1.cap.2, own_none HC.out.1⟩
    have HQ7 : Hid (Arg w7 G2 Q o.length cQ o) := Lib.hid ⟨rfl, (HQA.out.row.keep HK6.out (fun k e h => by have := HQB.out k e; have := (HG.out k h).2; omega)).keep0 HC.out.2.1, .inr (fun k e h => by
        have h1 := HQB.out k e
        rcases (HF2.out k h).1 with h2 | h2
        · have := (HG.out k h2).2; omega
        · omega), HQA.out.cap, HQA.out.mx, HQA.out.nil⟩
    refine (HOP.out C cC w7 HC.out.2.1 HCA.out HQ7.out).mono ?_
    rintro e w8 ⟨Z, cZ, rfl, hz8, k8, f8⟩
    have HK8 : Hid (Kp nob w w8) := Lib.hid (HK06.out.trans (HC.out.2.1.trans k8 (fun _ e => e.elim)) (fun _ e => e.elim))
    have HZ8 := Lib.hid hz8; have HFZ := Lib.hid f8
    have hq8 : Row w8 Q (bvs o) := HQ7.out.row.keep0 k8
    have ht8 : Row w8 T (bvs x) := ((HTA.out.row.keep HK6.out (fun k e h => by have := HTB.out k e; have := (HG.out k h).2; omega)).keep0 HC.out.2.1).keep0 k8
    have hx8 : Row w8 X (bvs Y) := (HXA.out.row.keep0 HC.out.2.1).keep0 k8
    have hc8 : Kit.Own 5 w8 C (x.length + 16) cC (bvs Y) := HC.out.1.keep k8 (fun _ _ e => e)
    have HC8 := Lib.hid hc8
    have HCF := Lib.hid (fun k (e : ab C = some k) => HC.out.2.2 k e)
    have HCL := Lib.hid (fun k (e : ab C = some k) => HC.out.1.lt k e)
    have q1 := conv_row w8 T x.length cT x rfl ht8
    have q2 := conv_row w8 A x.length c x rfl (HX.out.2.1.keep0 HK8.out)
    have q3 := conv_row w8 Q o.length cQ o rfl hq8
    have q4 := conv_row w8 B o.length d o rfl (HO.out.2.1.keep0 HK8.out)
    have q5 := conv_row w8 C (x.length + 16) cC Y HXA.out.len hc8.row
    have q6 := conv_row w8 X (x.length + 16) cX Y HXA.out.len hx8
    have HYN := Lib.hid HXA.out.len
    clear hz8 k8 f8 hq8 ht8 hx8 hc8 HOP HCA HQ7 HTA HQA HXA HTB HQB HC HFX HK6 HF2 HG HK5 HK35 d1 d2
    go_wp2
    go_loopw [84] (fun vi wr => ∃ (k : Nat) (lm : List UInt8), k ≤ x.length + 16 ∧ vi = .int .i64 (k : Int) ∧ Kit.Own 5 wr C (x.length + 16) cC (bvs lm) ∧ Kp (rowF C) w8 wr)
      (fun vi _ => x.length + 16 - (intOf vi).toNat)
    case atStart => exact ⟨0, Y, Nat.zero_le _, rfl, HC8.out, Kp.refl _ _⟩
    case round =>
      obtain ⟨k, lm, hk, rfl, oM, kr⟩ := hrel
      by_cases hlt : k < x.length + 16
      · obtain ⟨bm, rfl, hbm, hcm, hfm, hsm⟩ := oM.at_ hlt
        have hml : lm.length = x.length + 16 := by simpa using oM.len
        obtain ⟨xm, hxm⟩ : ∃ x, x = lm[k]'(by omega) := ⟨_, rfl⟩
        have hcm' : wr.cell? ⟨bm, k, none⟩ = some (.int .u8 xm.toNat) := by rw [hcm, hxm]; simp [bvs, bv]
        have hb1 := xm.toNat_lt
        obtain ⟨k1, hk1⟩ : ∃ k1 : Nat, k1 = k + 1 := ⟨_, rfl⟩
        have e9 : IntKind.i64.wrap ((k : Int) + 1) = (k1 : Int) := by have := HB.out.1; rw [IntKind.wrap_i64]; omega
        have HK1 := Lib.hid hk1
        clear hcm hxm q1 q2 q3 q4 q5 q6 hk1
        go_wp2
        go_roundw
        case rel =>
          refine ⟨k1, lm.set k (UInt8.ofNat (xm.toNat + 1)), by have := HK1.out; clear e9; omega, rfl, ?_, ?_⟩
          · rw [← bvs_set]
            exact oM.set k _
          · exact kr.setCell (p := ⟨bm, k, none⟩) (.inl rfl) _
        case measure => (have hkk := HK1.out; clear e9; simp [intOf]; omega)
      · have hzr : Row wr Z (bvs x) := HZ8.out.keep kr (fun k e h => by have h1 := HFZ.out k e; have h2 := HCL.out k h; omega)
        have hkr : Kp nob w wr := HK8.out.since kr (fun k h => by have h1 := HCF.out k h; have := HK06.out.size; omega)
        have har : Row wr A (bvs x) := HX.out.2.1.keep0 hkr
        have q7 := conv_row wr Z x.length cZ x rfl hzr
        have q8 := conv_row wr A x.length c x rfl har
        have HKR := Lib.hid hkr
        clear hzr hkr har q1 q2 q3 q4 q5 q6
        go_wp2
        go_ret
        exact ⟨by simp, HKR.out⟩
end Go.Proofs.Ytmmpmncioifeoaa.Vault
namespace Go.Proofs.Ytmmpmncioifeoaa.Field
set_option linter.unusedVariables false
set_option linter.unusedSimpArgs false
open Go Go.RowKit Kit

theorem byte_of_has {n : Int} (h : IntKind.has .u8 n) : ∃ b : UInt8, Value.int .u8 n = bv b := by
  have h1 : (0 : Int) ≤ n := h.1
  have h2 : n ≤ (255 : Int) := h.2
  refine ⟨UInt8.ofNat n.toNat, ?_⟩
  have e : ((UInt8.ofNat n.toNat).toNat : Int) = n := by
    rw [UInt8.toNat_ofNat']
    omega
  rw [bv, e]
theorem bytes_of_each (l : List Value) (h : ∀ v ∈ l, ∃ b : UInt8, v = bv b) : ∃ bs : List UInt8, bs.length = l.length ∧ l = bvs bs := by
  induction l with
  | nil => exact ⟨[], rfl, rfl⟩
  | cons v l ih =>
    obtain ⟨b, hb⟩ := h v (by simp)
    obtain ⟨bs, h1, h2⟩ := ih (fun x hx => h x (by simp [hx]))
    exact ⟨b :: bs, by simp [h1], by simp [bvs] at h2 ⊢; exact ⟨hb, h2⟩⟩
/-- A variable of n bytes holds n bytes. -/
theorem bytes_of_shapedOpen {P : Program} {w : World} {g n : Nat} {t u : TypeId} {zero : Array Value}
    (h : w.ShapedOpen P) (hg : g < P.globals.size) (h0 : ((begin P (fun _ _ => 0) default).world.heap[g]?).bind Obj.row? = some (zero, t)) (hz : zero.size = n)
    (hb : P.buildable t = true) (hc : P.cellTypes P.depth t = some (List.replicate n u)) (hu : P.underlying u = some (.int .u8)) :
    ∃ l : List UInt8, l.length = n ∧ w.rangeAt g 0 (bvs l) := by
  obtain ⟨cs, hh, hs, hr⟩ := h.1 g zero t hg h0
  obtain ⟨ts, hts, _, hall⟩ := hr hb
  rw [hc] at hts
  cases hts
  have he : ∀ v ∈ cs.toList, ∃ b : UInt8, v = bv b := by
    intro v hv
    obtain ⟨i, hi⟩ := List.mem_iff_getElem?.1 hv
    obtain ⟨x, hx, hok⟩ := hall i v (by simpa using hi)
    have hxu : x = u := by
      have hm := List.mem_of_getElem? hx
      exact (List.mem_replicate.1 hm).2
    subst hxu
    unfold Cell.ok at hok
    rw [hu] at hok
    cases v <;> simp at hok
    obtain ⟨rfl, hk⟩ := hok
    exact byte_of_has hk
  obtain ⟨l, hl, hv⟩ := bytes_of_each cs.toList he
  refine ⟨l, by rw [hl]; simp [hs, hz], ?_⟩
  intro j v hj
  rw [← hv] at hj
  have hj' : cs[j]? = some v := by simpa using hj
  obtain ⟨hlt, _⟩ := Array.getElem?_eq_some_iff.1 hj'
  simp [World.cell?, hh, hj']

/-- The package's table holds eight bytes. -/
theorem sq_of_shaped {w : World} (h : w.ShapedOpen Try.prog) : ∃ l : List UInt8, l.length = 8 ∧ w.rangeAt 3 0 (bvs l) :=
  bytes_of_shapedOpen (n := 8) (t := 199) (u := 5) (zero := #[.int .u8 0, .int .u8 0, .int .u8 0, .int .u8 0, .int .u8 0, .int .u8 0, .int .u8 0, .int .u8 0]) h
    (of_decide_eq_true (by kernel_rfl)) (by kernel_rfl) rfl (by kernel_rfl) (by kernel_rfl) (by kernel_rfl)
end Go.Proofs.Ytmmpmncioifeoaa.Field
namespace Go.Proofs.Ytmmpmncioifeoaa.Vault
set_option linter.unusedVariables false
set_option linter.unusedSimpArgs false
open Go Go.RowKit Kit

theorem keeps_walk (dif : List UInt8 → List UInt8 → Bool) (Z : World → Prop) (hN : NoteC dif Z) (r : Bool) (A : Option Addr) (n c : Nat) (x : List UInt8) (B : Option Addr) (m d : Nat) (o : List UInt8) (w : World) (hz : ∀ w', Kp nob w w' → Z w') (hsh : w.ShapedOpen Try.prog)
    (h1 : x.length = n) (h2 : A = none → c = 0) (h3 : Row w A (bvs x)) (h4 : n ≤ c) (h5 : c ≤ maxLen) (g1 : o.length = m) (g2 : B = none → d = 0) (g3 : Row w B (bvs o)) (g4 : m ≤ d) (g5 : d ≤ maxLen) :
    Calls Try.prog 5 #[.bool r, .slice A n c, .slice B m d] w fun e w' => e = .returned (.bool true) ∧ Kp nob w w' := by
  by_cases h : 1024 < n ∨ 1024 < m
  · exact keeps_no dif Z hN r A n c B m d w hz h
  · obtain ⟨l, hl, hr⟩ := Field.sq_of_shaped hsh
    letI : Inhabited Field.SqTab := ⟨⟨l, hl⟩⟩
    have hs : Field.Sq w := by
      unfold Field.Sq
      have e : Field.gSQ = l := by with_unfolding_all rfl
      rw [e]; exact hr
    exact keeps_yes dif Z hN r A n c x B m d o w hs hz h1 h2 h3 h4 g1 g2 g3 g4 (by omega) (by omega)
end Go.Proofs.Ytmmpmncioifeoaa.Vault

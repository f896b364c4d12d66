/- Package vault: a real vault; its Seal and Open. · Package vault: Open of a vault of a world. · Package vault: what a vault seals, it opens: a real one, and one of a world. -/
import Derived.Test.YtmmpmncioifeoaaZG39
import Derived.Test.YtmmpmncioifeoaaZG09
import Derived.Test.YtmmpmncioifeoaaZG17
namespace Go.Proofs.Ytmmpmncioifeoaa.Vault
set_option linter.unusedVariables false
set_option linter.unusedSimpArgs false
open Go Go.RowKit Kit
open Ideal (Arg Args)
open Sha (Pc PcsOk catP)
open Gcm (gs gs_length)
open Aes (allW)
open Field (Sq)

theorem place_sizeR (l : List UInt8) (h : l.length = 44) : (Try.prog.info? 56).map (·.size) = some (bvs l).length := by rw [bvs_length, h]; kernel_rfl
theorem args_monoR {w : World} {F G : Nat → Prop} {B : Option Addr} {m : Nat} {ps : List Pc} (h : Args w F B m ps) (hG : ∀ i, i < w.heap.size → G i → F i) : Args w G B m ps :=
  ⟨h.len, h.row, by
    by_cases e : ps = []
    · exact .inl e
    · exact .inr (fun k hk hg => (h.far.resolve_left e) k hk (hG k (h.row.lt (by simpa using e) k hk) hg)), fun q hq => by
    obtain ⟨h1, h2, h3, h4, h5⟩ := h.pcs q hq
    refine ⟨h1, h2, ?_, h4, h5⟩
    by_cases e : q.l = []
    · exact .inl e
    · exact .inr (fun k hk hg => (h3.resolve_left e) k hk (hG k (h2.lt (by simpa [bvs] using e) k hk) hg)), h.nil, h.max⟩
set_option maxHeartbeats 1000000 in
set_option maxRecDepth 100000 in
theorem real_any (ms : List UInt8) (lim : Int) (w : World) (h : ms.length = 32) :
    Calls Try.prog 16 #[.agg (bvs ms).toArray, .int .i64 lim] w fun e w' => ∃ v m, e = .returned (.pointer (some ⟨v, 0, none⟩)) ∧ Vb w' v m rmk ms lim.toNat [] 0 ∧ Kp nob w w' ∧ w.heap.size ≤ v ∧ w.heap.size ≤ m := by
  have HM := Lib.hid h
  have HB := Lib.hid (Blk.new w 28 (bvs ms))
  go_enter Try.func16, Try.ntmps16
  go_wp2_with (first
    | (refine wpList_load_blk rfl 28 (.tmp 2) rfl _ _ _ HB.out rfl _ key_under rfl (key_size ms HM.out) ?_)
    | (go_at_call 17; refine (newVault_any _ _ ms lim _ HM.out).mono ?_; rintro e w2 ⟨v, m, rfl, hv, k2, n1, n2⟩)
    | fail)
  go_ret
  simp at n1 n2
  exact ⟨v, m, rfl, hv, ((Kp.refl _ _).alloc _).trans k2 (fun _ e => e.elim), by omega, by omega⟩
set_option maxHeartbeats 4000000 in
set_option maxRecDepth 100000 in
theorem seal_real [Inhabited Field.SqTab] (dif : List UInt8 → List UInt8 → Bool) (Z : World → Prop) (hN : NoteC dif Z) (v m : Nat) (ms : List UInt8) (lim : Nat) (sl : List (Pl × List UInt8)) (cl : Nat) (key : List UInt8) (hk : key.length = 32) (e s : Int)
    (T : Option Addr) (nt ct' : Nat) (text : List UInt8) (B : Option Addr) (md d : Nat) (ps : List Pc) (w0 : World)
    (hv : Vs nob w0 v m rmk ms lim sl cl) (ht : Arg w0 (vF v m) T nt ct' text) (hp : Args w0 (vF v m) B md ps) (lt : text.length ≤ 1048576) (lp : (catP ps).length ≤ 1048576) (hc : cl ≤ 1099511627776)
    (hr : refu lim e s = 0) (hs : Sq w0) (hz : ∀ w', Kp nob w0 w' → Z w') :
    Calls Try.prog 9 #[.pointer (some ⟨v, 0, none⟩), .agg (bvs key).toArray, .int .i64 e, .int .i64 s, .slice T nt ct', .slice B md d] w0 fun x w' => ∃ X cX, x = .returned (.tuple #[.slice X (text.length + 16) cX, .int .i64 0]) ∧
      Vs nob w' v m rmk ms lim (upd sl (pl key (nonce e s) hk (nonce_length e s)) text) (cl + clash dif sl (pl key (nonce e s) hk (nonce_length e s)) text) ∧ Kp (vF v m) w0 w' ∧ Arg w' (vF v m) X (text.length + 16) cX (gs (allW key) 13 (nonce e s) text (catP ps)) ∧ ∀ k, ab X = some k → w0.heap.size ≤ k := by
  have k0 := (Kp.refl nob w0).alloc (.cells (bvs key).toArray 28)
  have HB := Lib.hid (Blk.new w0 28 (bvs key))
  have HV0 := Lib.hid hv; have HT0 := Lib.hid ht; have HP0 := Lib.hid hp
  have HR := Lib.hid (show Calls Try.prog 18 #[.pointer (some ⟨v, 0, none⟩), .int .i64 e, .int .i64 s] (w0.alloc (.cells (bvs key).toArray 28)) fun x w' => x = .returned (.int .i64 0) ∧ (w0.alloc (.cells (bvs key).toArray 28)) = w' by
    have := refused_any v m rmk ms lim _ cl e s _ (hv.b.keep0 k0)
    rw [hr] at this; exact this)
  have HK0 := Lib.hid k0
  have HH := Lib.hid (And.intro hk (And.intro lt (And.intro lp hc)))
  obtain ⟨P0, hP0⟩ : ∃ P0, P0 = pl key (nonce e s) hk (nonce_length e s) := ⟨_, rfl⟩
  rw [← hP0]
  have HPV := Lib.hid (show pv P0 = .agg (bvs (key ++ nonce e s)).toArray by rw [hP0]; rfl)
  have HBP := Lib.hid (fun w => build_place key (nonce e s) hk (nonce_length e s) w)
  rw [← hP0, HPV.out] at HBP
  have HSQ := Lib.hid hs
  clear hv ht hp k0 hr hP0 hs
  go_enter Try.func9, Try.ntmps9
  go_wp2_with fail
  refine HR.out.mono ?_
  rintro x w1 ⟨rfl, rfl⟩
  clear HR
  clear hk lt lp hc
  go_wp2
  rename_i K1 hK1
  have hcont : ∀ (g : Nat) (w9 : World), Kp nob w0 w9 → Blk w9 g 56 (bvs (key ++ nonce e s)) → w0.heap.size ≤ g → K1 { tmps := #[.pointer (some ⟨v, 0, none⟩), .agg (bvs key).toArray, .int .i64 e, .int .i64 s, .slice T nt ct', .slice B md d, undef, .pointer (some ⟨w0.heap.size, 0, none⟩), undef, undef, undef, undef, .slice none 0 0, .int .i64 0, .int .i64 0, .pointer (some ⟨g, 0, none⟩), undef, undef, .pointer (some ⟨v, 0, none⟩), .int .i64 e, .int .i64 s, .int .i64 0, .int .i64 0, .bool false, undef, .agg (bvs key).toArray, .int .i64 e, .int .i64 s, .agg (bvs (nonce e s)).toArray, .agg (bvs (key ++ nonce e s)).toArray, undef, undef, undef, undef, undef, undef, undef, undef, undef, undef, undef, undef, undef, undef, undef, undef, undef, undef, undef], defers := [] } w9 := by
    intro g w9 k9 b9 hg
    have HK9 := Lib.hid k9
    have HT9 := Lib.hid ((HT0.out.keep0 k9).mono (G := nob) (fun i _ e => e.elim))
    have HP9 := Lib.hid (HP0.out.keep0 k9)
    have HS : Hid (Kp nob w0 w9.drew ∧ Blk w9.drew g 56 (bvs (key ++ nonce e s))) := Lib.hid ⟨k9.drew, b9.keep (Kp.refl nob _).drew (fun e => e)⟩
    have HPS := Lib.hid (place_sizeR (key ++ nonce e s) (by rw [List.length_append, HH.out.1, nonce_length]))
    clear hg k9 b9
    apply hK1
    go_wp2
    refine reg_begin (fun w => Kp nob w0 w ∧ Blk w g 56 (bvs (key ++ nonce e s))) (by kernel_rfl) HS.out (fun _ => ?_)
    refine reg_take (v := .pointer (some ⟨v, 0, none⟩)) 0 (some 31) rfl rfl (by kernel_rfl) (by kernel_rfl) (by kernel_rfl) (by rfl) HS.out (fun w hw => by go_simp) ?_
    simp only [Act.put, List.setIfInBounds_toArray, List.set_cons_zero, List.set_cons_succ]
    refine reg_take (v := .pointer (some ⟨v, 0, none⟩)) 1 (some 32) rfl rfl (by kernel_rfl) (by kernel_rfl) (by kernel_rfl) (by rfl) HS.out (fun w hw => by go_simp) ?_
    simp only [Act.put, List.setIfInBounds_toArray, List.set_cons_zero, List.set_cons_succ]
    refine reg_take (v := .pointer (some ⟨v, 0, none⟩)) 2 (some 33) rfl rfl (by kernel_rfl) (by kernel_rfl) (by kernel_rfl) (by rfl) HS.out (fun w hw => by go_simp) ?_
    simp only [Act.put, List.setIfInBounds_toArray, List.set_cons_zero, List.set_cons_succ]
    refine reg_take (v := rmk) 3 (some 34) rfl rfl (by kernel_rfl) (by kernel_rfl) (by kernel_rfl) (by rfl) HS.out (fun w hw => by have hc := (HV0.out.keep0 hw.1).b.mk_; go_simp) ?_
    simp only [Act.put, List.setIfInBounds_toArray, List.set_cons_zero, List.set_cons_succ]
    refine reg_load 4 (some 35) 56 (.tmp 15) rfl rfl rfl (by kernel_rfl) (by kernel_rfl) (by kernel_rfl) (by rfl) HS.out g 0 rfl (bvs (key ++ nonce e s)) _ (fun w hw => hw.2.range) place_under rfl HPS.out ?_
    simp only [Act.put, List.setIfInBounds_toArray, List.set_cons_zero, List.set_cons_succ]
    refine reg_take (v := .slice T nt ct') 5 (some 36) rfl rfl (by kernel_rfl) (by kernel_rfl) (by kernel_rfl) (by rfl) HS.out (fun w hw => by go_simp) ?_
    simp only [Act.put, List.setIfInBounds_toArray, List.set_cons_zero, List.set_cons_succ]
    refine reg_take (v := .slice B md d) 6 (some 37) rfl rfl (by kernel_rfl) (by kernel_rfl) (by kernel_rfl) (by rfl) HS.out (fun w hw => by go_simp) ?_
    simp only [Act.put, List.setIfInBounds_toArray, List.set_cons_zero, List.set_cons_succ]
    refine reg_call 7 (some 38) rfl rfl (by kernel_rfl) (by rfl) _ _ (exec_invoke 79 73 (.agg #[]) (.agg #[]) _ _ _ _ [.agg (bvs (key ++ nonce e s)).toArray, .slice T nt ct', .slice B md d] rfl rfl (by kernel_rfl) (by kernel_rfl) rfl) ?_
    have kd := (Kp.refl nob w9).drew
    refine (rm_seal key (nonce e s) HH.out.1 (nonce_length e s) T nt ct' text B md d ps (vF v m) _ ((HSQ.out.keep0 HK9.out).keep0 kd) (HT9.out.keep0 kd) (HP9.out.keep0 kd) HH.out.2.1 HH.out.2.2.1).mono ?_
    rintro x w2 ⟨X, cX, rfl, hx, k2, f2⟩
    have k02 := (HK9.out.trans kd (fun _ e => e.elim)).trans k2 (fun _ e => e.elim)
    have HX := Lib.hid hx
    have HFX := Lib.hid (fun k e => Nat.le_trans (HK9.out.trans kd (fun _ e => e.elim)).size (f2 k e))
    have HS2 : Hid (Kp nob w0 w2 ∧ Blk w2 g 56 (bvs (key ++ nonce e s))) := Lib.hid ⟨k02, HS.out.2.keep k2 (fun e => e)⟩
    clear hx k2 f2 k02 kd HS
    refine ⟨_, rfl, HS2.out, fun _ => ?_⟩
    simp only [Act.put, List.setIfInBounds_toArray, List.set_cons_zero, List.set_cons_succ]
    refine reg_take (v := .tuple #[.slice X (text.length + 16) cX, .int .i64 0]) 8 (some 30) rfl rfl (by kernel_rfl) (by kernel_rfl) (by kernel_rfl) (by rfl) HS2.out (fun w hw => by go_simp) ?_
    simp only [Act.put, List.setIfInBounds_toArray, List.set_cons_zero, List.set_cons_succ]
    refine reg_take (v := .slice X (text.length + 16) cX) 9 (some 39) rfl rfl (by kernel_rfl) (by kernel_rfl) (by kernel_rfl) (by rfl) HS2.out (fun w hw => by go_simp) ?_
    simp only [Act.put, List.setIfInBounds_toArray, List.set_cons_zero, List.set_cons_succ]
    refine reg_take (v := .int .i64 0) 10 (some 40) rfl rfl (by kernel_rfl) (by kernel_rfl) (by kernel_rfl) (by rfl) HS2.out (fun w hw => by go_simp) ?_
    simp only [Act.put, List.setIfInBounds_toArray, List.set_cons_zero, List.set_cons_succ]
    refine reg_take (v := .slice X (text.length + 16) cX) 11 (some 16) rfl rfl (by kernel_rfl) (by kernel_rfl) (by kernel_rfl) (by rfl) HS2.out (fun w hw => by go_simp) ?_
    simp only [Act.put, List.setIfInBounds_toArray, List.set_cons_zero, List.set_cons_succ]
    refine reg_take (v := .int .i64 0) 12 (some 17) rfl rfl (by kernel_rfl) (by kernel_rfl) (by kernel_rfl) (by rfl) HS2.out (fun w hw => by go_simp) ?_
    simp only [Act.put, List.setIfInBounds_toArray, List.set_cons_zero, List.set_cons_succ]
    refine reg_end (by kernel_rfl) ?_
    have HB2 := Lib.hid HS2.out.2
    have hlt : v < w0.heap.size ∧ m < w0.heap.size := ⟨HV0.out.b.b.lt, HV0.out.b.s.lt⟩
    have HNT := Lib.hid (hN nob v m rmk ms lim sl cl P0 T nt ct' text w2 (hz w2 HS2.out.1) (HV0.out.keep0 HS2.out.1) (fun _ e => e.elim) (HT0.out.keep0 HS2.out.1) HH.out.2.2.2 HH.out.2.1)
    rw [HPV.out] at HNT
    have HLT := Lib.hid hlt
    clear hlt hz hN
    go_wp2_with (first
      | (refine wpList_load_blk rfl 56 (.tmp 15) rfl _ _ _ HB2.out rfl _ place_under rfl HPS.out ?_)
      | (go_at_call 20; refine HNT.out.mono ?_; rintro x w3 ⟨rfl, hv3, k3⟩; have HV3 := Lib.hid hv3; have HK3 := Lib.hid k3; clear hv3 k3)
      | fail)
    go_ret2
    have hfx : ∀ k, ab X = some k → ¬ vF v m k := fun k e h => by have := HFX.out k e; have := HLT.out; rcases h with h | h <;> omega
    exact ⟨X, cX, rfl, HV3.out, (HS2.out.1.nob _).trans HK3.out (fun i e => .inl e), ⟨gs_length _ _ _ _ _, HX.out.row.keep HK3.out hfx, .inr hfx, HX.out.cap.1, HX.out.cap.2, own_none HX.out⟩, HFX.out⟩
  have HS : Hid (Kp nob w0 (w0.alloc (.cells (bvs key).toArray 28)).drew) := Lib.hid HK0.out.drew
  have HBK := Lib.hid (HB.out.keep (Kp.refl nob _).drew (fun e => e))
  have HKS := Lib.hid (key_size key HH.out.1)
  generalize hw1 : (w0.alloc (.cells (bvs key).toArray 28)).drew = w1 at *
  clear HB HK0
  refine reg_begin (fun w => Kp nob w0 w ∧ Blk w w0.heap.size 28 (bvs key)) (by kernel_rfl) ?hb (fun _ => ?_)
  case hb => rw [hw1]; exact ⟨HS.out, HBK.out⟩
  rw [hw1]
  clear hw1
  have HS0 := Lib.hid (And.intro HS.out HBK.out)
  have HPS := Lib.hid (place_sizeR (key ++ nonce e s) (by rw [List.length_append, HH.out.1, nonce_length]))
  refine reg_load 0 (some 25) 28 (.tmp 7) rfl rfl rfl (by kernel_rfl) (by kernel_rfl) (by kernel_rfl) (by rfl) HS0.out w0.heap.size 0 rfl (bvs key) _ (fun w hw => hw.2.range) key_under rfl HKS.out ?_
  simp only [Act.put, List.setIfInBounds_toArray, List.set_cons_zero, List.set_cons_succ]
  refine reg_take (v := .int .i64 e) 1 (some 26) rfl rfl (by kernel_rfl) (by kernel_rfl) (by kernel_rfl) (by rfl) HS0.out (fun w hw => by go_simp) ?_
  simp only [Act.put, List.setIfInBounds_toArray, List.set_cons_zero, List.set_cons_succ]
  refine reg_take (v := .int .i64 s) 2 (some 27) rfl rfl (by kernel_rfl) (by kernel_rfl) (by kernel_rfl) (by rfl) HS0.out (fun w hw => by go_simp) ?_
  simp only [Act.put, List.setIfInBounds_toArray, List.set_cons_zero, List.set_cons_succ]
  refine reg_callOr (w' := w1.alloc (.cells (bvs (List.replicate 44 0)).toArray 56)) (v := .pointer (some ⟨w1.heap.size, 0, none⟩)) 3 5 (some 28) (some 15) rfl rfl rfl rfl (by kernel_rfl) (by rfl) (by rfl) _ _ (exec_func 19 _ _ [.int .i64 e, .int .i64 s] rfl (by kernel_rfl) rfl) (by kernel_rfl) ⟨HS0.out.1.alloc _, HS0.out.2.alloc _⟩ ?_ (fun _ => ?_)
  · refine (nonceOf_any e s _).mono ?_
    rintro x w2 ⟨rfl, k2⟩
    have HS1 := Lib.hid (show Kp nob w0 w2 ∧ Blk w2 w0.heap.size 28 (bvs key) from ⟨HS0.out.1.trans k2 (fun _ e => e.elim), HS0.out.2.keep k2 (fun e => e)⟩)
    clear k2
    refine ⟨_, rfl, HS1.out, fun _ => ?_⟩
    simp only [Act.put, List.setIfInBounds_toArray, List.set_cons_zero, List.set_cons_succ]
    refine reg_take (v := .agg (bvs (key ++ nonce e s)).toArray) 4 (some 29) rfl rfl (by kernel_rfl) (by kernel_rfl) (by kernel_rfl) (by rfl) HS1.out (fun w hw => by exact exec_build _ _ rfl [(0, .agg (bvs key).toArray), (1, .agg (bvs (nonce e s)).toArray)] _ rfl (HBP.out w)) ?_
    simp only [Act.put, List.setIfInBounds_toArray, List.set_cons_zero, List.set_cons_succ]
    refine reg_step (w' := w2.alloc (.cells (bvs (List.replicate 44 0)).toArray 56)) (v := .pointer (some ⟨w2.heap.size, 0, none⟩)) 5 (some 15) rfl rfl (by kernel_rfl) (by rfl) (by kernel_rfl) ⟨HS1.out.1.alloc _, HS1.out.2.alloc _⟩ (fun _ => ?_)
    simp only [Act.put, List.setIfInBounds_toArray, List.set_cons_zero, List.set_cons_succ]
    have HB9 := Lib.hid (Blk.new w2 56 (bvs (List.replicate 44 0)))
    refine reg_store 6 none 56 (.tmp 15) (.tmp 29) rfl rfl rfl (by kernel_rfl) (by rfl) w2.heap.size 56 _ (bvs (key ++ nonce e s)) HB9.out rfl rfl (by rw [bvs_length, bvs_length, List.length_append, HH.out.1, nonce_length]; rfl) HPS.out (bvs_one _) ?_
    intro w5 b5 k5 z5
    have hge : w0.heap.size ≤ w2.heap.size := HS1.out.1.size
    have hk5 : Kp nob w0 w5 := (HS1.out.1.alloc _).since k5 (fun i e => by have e : i = w2.heap.size := e; omega)
    refine ⟨⟨hk5, (HS1.out.2.alloc _).keep k5 (fun e => by have e : w0.heap.size = w2.heap.size := e; have := HS1.out.2.lt; omega)⟩, fun _ => ?_⟩
    simp only [Act.put, List.setIfInBounds_toArray, List.set_cons_zero, List.set_cons_succ]
    exact reg_end (by kernel_rfl) (hcont w2.heap.size w5 hk5 b5 hge)
  · have HS1 := Lib.hid (show Kp nob w0 (w1.alloc (.cells (bvs (List.replicate 44 0)).toArray 56)) ∧ Blk (w1.alloc (.cells (bvs (List.replicate 44 0)).toArray 56)) w0.heap.size 28 (bvs key) from ⟨HS0.out.1.alloc _, HS0.out.2.alloc _⟩)
    have HB9 := Lib.hid (Blk.new w1 56 (bvs (List.replicate 44 0)))
    simp only [Act.put, List.setIfInBounds_toArray, List.set_cons_zero, List.set_cons_succ]
    refine reg_call 3 (some 28) rfl rfl (by kernel_rfl) (by rfl) _ _ (exec_func 19 _ _ [.int .i64 e, .int .i64 s] rfl (by kernel_rfl) rfl) ?_
    refine (nonceOf_any e s _).mono ?_
    rintro x w2 ⟨rfl, k2⟩
    have HS2 := Lib.hid (show Kp nob w0 w2 ∧ Blk w2 w0.heap.size 28 (bvs key) from ⟨HS1.out.1.trans k2 (fun _ e => e.elim), HS1.out.2.keep k2 (fun e => e)⟩)
    have HB8 := Lib.hid (HB9.out.keep k2 (fun e => e))
    clear k2
    refine ⟨_, rfl, HS2.out, fun _ => ?_⟩
    simp only [Act.put, List.setIfInBounds_toArray, List.set_cons_zero, List.set_cons_succ]
    refine reg_take (v := .agg (bvs (key ++ nonce e s)).toArray) 4 (some 29) rfl rfl (by kernel_rfl) (by kernel_rfl) (by kernel_rfl) (by rfl) HS2.out (fun w hw => by exact exec_build _ _ rfl [(0, .agg (bvs key).toArray), (1, .agg (bvs (nonce e s)).toArray)] _ rfl (HBP.out w)) ?_
    simp only [Act.put, List.setIfInBounds_toArray, List.set_cons_zero, List.set_cons_succ]
    refine reg_store 6 none 56 (.tmp 15) (.tmp 29) rfl rfl rfl (by kernel_rfl) (by rfl) w1.heap.size 56 _ (bvs (key ++ nonce e s)) HB8.out rfl rfl (by rw [bvs_length, bvs_length, List.length_append, HH.out.1, nonce_length]; rfl) HPS.out (bvs_one _) ?_
    intro w5 b5 k5 z5
    have hge : w0.heap.size ≤ w1.heap.size := HS0.out.1.size
    have hk5 : Kp nob w0 w5 := HS2.out.1.since k5 (fun i e => by have e : i = w1.heap.size := e; omega)
    refine ⟨⟨hk5, HS2.out.2.keep k5 (fun e => by have e : w0.heap.size = w1.heap.size := e; have := HS0.out.2.lt; omega)⟩, fun _ => ?_⟩
    simp only [Act.put, List.setIfInBounds_toArray, List.set_cons_zero, List.set_cons_succ]
    exact reg_end (by kernel_rfl) (hcont w1.heap.size w5 hk5 b5 hge)
set_option maxHeartbeats 4000000 in
set_option maxRecDepth 100000 in
theorem open_real [Inhabited Field.SqTab] (v m : Nat) (ms : List UInt8) (lim : Nat) (sl : List (Pl × List UInt8)) (cl : Nat) (G : Nat → Prop) (key : List UInt8) (hk : key.length = 32) (e s : Int)
    (T : Option Addr) (nt ct' : Nat) (b text : List UInt8) (B : Option Addr) (md d : Nat) (ps : List Pc) (F : Nat → Prop) (w0 : World)
    (hv : Vs G w0 v m rmk ms lim sl cl) (ht : Arg w0 nob T nt ct' b) (hp : Args w0 F B md ps) (lt : text.length ≤ 1048576) (hb : b = gs (allW key) 13 (nonce e s) text (catP ps)) (lp : (catP ps).length ≤ 1048576) (hr : refu lim e s = 0) (hs : Sq w0) :
    Calls Try.prog 10 #[.pointer (some ⟨v, 0, none⟩), .agg (bvs key).toArray, .int .i64 e, .int .i64 s, .slice T nt ct', .slice B md d] w0 fun x w' => ∃ X cX, x = .returned (.tuple #[.slice X text.length cX, .int .i64 0]) ∧ Row w' X (bvs text) ∧ Kp nob w0 w' ∧ ∀ k, ab X = some k → w0.heap.size ≤ k := by
  have k0 := (Kp.refl nob w0).alloc (.cells (bvs key).toArray 28)
  have HB := Lib.hid (Blk.new w0 28 (bvs key))
  have HV0 := Lib.hid hv; have HT0 := Lib.hid ht; have HP0 := Lib.hid hp
  have HR := Lib.hid (show Calls Try.prog 18 #[.pointer (some ⟨v, 0, none⟩), .int .i64 e, .int .i64 s] (w0.alloc (.cells (bvs key).toArray 28)) fun x w' => x = .returned (.int .i64 0) ∧ (w0.alloc (.cells (bvs key).toArray 28)) = w' by
    have := refused_any v m rmk ms lim _ cl e s _ (hv.b.keep0 k0)
    rw [hr] at this; exact this)
  have HK0 := Lib.hid k0
  have HH := Lib.hid (And.intro hk (And.intro lt (And.intro lp hb)))
  have HBP := Lib.hid (fun w => build_place key (nonce e s) hk (nonce_length e s) w)
  rw [show pv (pl key (nonce e s) hk (nonce_length e s)) = .agg (bvs (key ++ nonce e s)).toArray from rfl] at HBP
  have HSQ := Lib.hid hs
  clear hv ht hp k0 hr hs hk lt lp hb
  go_enter Try.func10, Try.ntmps10
  go_wp2_with fail
  refine HR.out.mono ?_
  rintro x w1 ⟨rfl, rfl⟩
  clear HR
  go_wp2
  have HS : Hid (Kp nob w0 (w0.alloc (.cells (bvs key).toArray 28)).drew) := Lib.hid HK0.out.drew
  have HBK := Lib.hid (HB.out.keep (Kp.refl nob _).drew (fun e => e))
  have HKS := Lib.hid (key_size key HH.out.1)
  generalize hw1 : (w0.alloc (.cells (bvs key).toArray 28)).drew = w1 at *
  clear HB HK0
  refine reg_begin (fun w => Kp nob w0 w ∧ Blk w w0.heap.size 28 (bvs key)) (by kernel_rfl) ?hb (fun _ => ?_)
  case hb => rw [hw1]; exact ⟨HS.out, HBK.out⟩
  rw [hw1]
  clear hw1
  have HS0 := Lib.hid (And.intro HS.out HBK.out)
  refine reg_take (v := .pointer (some ⟨v, 0, none⟩)) 0 (some 22) rfl rfl (by kernel_rfl) (by kernel_rfl) (by kernel_rfl) (by rfl) HS0.out (fun w hw => by go_simp) ?_
  simp only [Act.put, List.setIfInBounds_toArray, List.set_cons_zero, List.set_cons_succ]
  refine reg_take (v := .pointer (some ⟨v, 0, none⟩)) 1 (some 23) rfl rfl (by kernel_rfl) (by kernel_rfl) (by kernel_rfl) (by rfl) HS0.out (fun w hw => by go_simp) ?_
  simp only [Act.put, List.setIfInBounds_toArray, List.set_cons_zero, List.set_cons_succ]
  refine reg_take (v := .pointer (some ⟨v, 0, none⟩)) 2 (some 24) rfl rfl (by kernel_rfl) (by kernel_rfl) (by kernel_rfl) (by rfl) HS0.out (fun w hw => by go_simp) ?_
  simp only [Act.put, List.setIfInBounds_toArray, List.set_cons_zero, List.set_cons_succ]
  refine reg_take (v := rmk) 3 (some 25) rfl rfl (by kernel_rfl) (by kernel_rfl) (by kernel_rfl) (by rfl) HS0.out (fun w hw => by have hc := (HV0.out.keep0 hw.1).b.mk_; go_simp) ?_
  simp only [Act.put, List.setIfInBounds_toArray, List.set_cons_zero, List.set_cons_succ]
  refine reg_load 4 (some 26) 28 (.tmp 7) rfl rfl rfl (by kernel_rfl) (by kernel_rfl) (by kernel_rfl) (by rfl) HS0.out w0.heap.size 0 rfl (bvs key) _ (fun w hw => hw.2.range) key_under rfl HKS.out ?_
  simp only [Act.put, List.setIfInBounds_toArray, List.set_cons_zero, List.set_cons_succ]
  refine reg_take (v := .int .i64 e) 5 (some 27) rfl rfl (by kernel_rfl) (by kernel_rfl) (by kernel_rfl) (by rfl) HS0.out (fun w hw => by go_simp) ?_
  simp only [Act.put, List.setIfInBounds_toArray, List.set_cons_zero, List.set_cons_succ]
  refine reg_take (v := .int .i64 s) 6 (some 28) rfl rfl (by kernel_rfl) (by kernel_rfl) (by kernel_rfl) (by rfl) HS0.out (fun w hw => by go_simp) ?_
  simp only [Act.put, List.setIfInBounds_toArray, List.set_cons_zero, List.set_cons_succ]
  refine reg_take (v := .slice T nt ct') 9 (some 31) rfl rfl (by kernel_rfl) (by kernel_rfl) (by kernel_rfl) (by rfl) HS0.out (fun w hw => by go_simp) ?_
  simp only [Act.put, List.setIfInBounds_toArray, List.set_cons_zero, List.set_cons_succ]
  refine reg_take (v := .slice B md d) 10 (some 32) rfl rfl (by kernel_rfl) (by kernel_rfl) (by kernel_rfl) (by rfl) HS0.out (fun w hw => by go_simp) ?_
  simp only [Act.put, List.setIfInBounds_toArray, List.set_cons_zero, List.set_cons_succ]
  refine reg_take (v := rmk) 11 (some 33) rfl rfl (by kernel_rfl) (by kernel_rfl) (by kernel_rfl) (by rfl) HS0.out (fun w hw => by first | (go_simp; done) | kernel_rfl) ?_
  simp only [Act.put, List.setIfInBounds_toArray, List.set_cons_zero, List.set_cons_succ]
  refine reg_take (v := rmk) 12 (some 34) rfl rfl (by kernel_rfl) (by kernel_rfl) (by kernel_rfl) (by rfl) HS0.out (fun w hw => by go_simp) ?_
  simp only [Act.put, List.setIfInBounds_toArray, List.set_cons_zero, List.set_cons_succ]
  refine reg_call 7 (some 29) rfl rfl (by kernel_rfl) (by rfl) _ _ (exec_func 19 _ _ [.int .i64 e, .int .i64 s] rfl (by kernel_rfl) rfl) ?_
  refine (nonceOf_any e s _).mono ?_
  rintro x w2 ⟨rfl, k2⟩
  have HS1 := Lib.hid (show Kp nob w0 w2 ∧ Blk w2 w0.heap.size 28 (bvs key) from ⟨HS0.out.1.trans k2 (fun _ e => e.elim), HS0.out.2.keep k2 (fun e => e)⟩)
  clear k2
  refine ⟨_, rfl, HS1.out, fun _ => ?_⟩
  simp only [Act.put, List.setIfInBounds_toArray, List.set_cons_zero, List.set_cons_succ]
  refine reg_take (v := .agg (bvs (key ++ nonce e s)).toArray) 8 (some 30) rfl rfl (by kernel_rfl) (by kernel_rfl) (by kernel_rfl) (by rfl) HS1.out (fun w hw => by exact exec_build _ _ rfl [(0, .agg (bvs key).toArray), (1, .agg (bvs (nonce e s)).toArray)] _ rfl (HBP.out w)) ?_
  simp only [Act.put, List.setIfInBounds_toArray, List.set_cons_zero, List.set_cons_succ]
  refine reg_call 13 (some 35) rfl rfl (by kernel_rfl) (by rfl) _ _ (exec_invoke 78 73 (.agg #[]) (.agg #[]) _ _ _ _ [.agg (bvs (key ++ nonce e s)).toArray, .slice T nt ct', .slice B md d] rfl rfl (by kernel_rfl) (by kernel_rfl) rfl) ?_
  refine (rm_open key (nonce e s) HH.out.1 (nonce_length e s) T nt ct' b text B md d ps F _ (HSQ.out.keep0 HS1.out.1) (HT0.out.keep0 HS1.out.1) (HP0.out.keep0 HS1.out.1) HH.out.2.1 HH.out.2.2.2 HH.out.2.2.1).mono ?_
  rintro x w3 ⟨X, cX, rfl, hx, k3, f3⟩
  have HX := Lib.hid hx
  have HFX := Lib.hid (fun k e => Nat.le_trans HS1.out.1.size (f3 k e))
  have HS3 := Lib.hid (show Kp nob w0 w3 ∧ Blk w3 w0.heap.size 28 (bvs key) from ⟨HS1.out.1.trans k3 (fun _ e => e.elim), HS1.out.2.keep k3 (fun e => e)⟩)
  clear hx k3 f3
  refine ⟨_, rfl, HS3.out, fun _ => ?_⟩
  simp only [Act.put, List.setIfInBounds_toArray, List.set_cons_zero, List.set_cons_succ]
  refine reg_take (v := .slice X text.length cX) 14 (some 36) rfl rfl (by kernel_rfl) (by kernel_rfl) (by kernel_rfl) (by rfl) HS3.out (fun w hw => by go_simp) ?_
  simp only [Act.put, List.setIfInBounds_toArray, List.set_cons_zero, List.set_cons_succ]
  refine reg_take (v := .int .i64 0) 15 (some 37) rfl rfl (by kernel_rfl) (by kernel_rfl) (by kernel_rfl) (by rfl) HS3.out (fun w hw => by go_simp) ?_
  simp only [Act.put, List.setIfInBounds_toArray, List.set_cons_zero, List.set_cons_succ]
  refine reg_take (v := .slice X text.length cX) 16 (some 12) rfl rfl (by kernel_rfl) (by kernel_rfl) (by kernel_rfl) (by rfl) HS3.out (fun w hw => by go_simp) ?_
  simp only [Act.put, List.setIfInBounds_toArray, List.set_cons_zero, List.set_cons_succ]
  refine reg_take (v := .int .i64 0) 17 (some 13) rfl rfl (by kernel_rfl) (by kernel_rfl) (by kernel_rfl) (by rfl) HS3.out (fun w hw => by go_simp) ?_
  simp only [Act.put, List.setIfInBounds_toArray, List.set_cons_zero, List.set_cons_succ]
  refine reg_end (by kernel_rfl) ?_
  go_wp2
  go_ret2
  exact ⟨X, cX, rfl, HX.out, HS3.out.1, HFX.out⟩
end Go.Proofs.Ytmmpmncioifeoaa.Vault
namespace Go.Proofs.Ytmmpmncioifeoaa.Vault
set_option linter.unusedVariables false
set_option linter.unusedSimpArgs false
open Go Go.RowKit Kit
open Ideal (Iw Iq Ans Arg Args Thing mk out sealT opn macT derT hashT z32)
open Sha (Pc PcsOk catP)

set_option maxHeartbeats 4000000 in
set_option maxRecDepth 100000 in
theorem open_yes (G : Nat → Prop) (v m p : Nat) (F : Nat → Prop) (ts : List Thing) (ms : List UInt8) (lim : Nat) (sl : List (Pl × List UInt8)) (cl : Nat) (key : List UInt8) (hk : key.length = 32) (e s : Int)
    (T : Option Addr) (nt ct' : Nat) (b : List UInt8) (B : Option Addr) (md d : Nat) (ps : List Pc) (w0 : World)
    (hv : Vs G w0 v m (imk p) ms lim sl cl) (hw : Iw w0 p F ts) (ht : Arg w0 F T nt ct' b) (hp : Args w0 F B md ps) (hl : ts.length ≤ 100000) (lt : b.length ≤ 1048592) (lp : (catP ps).length ≤ 1048576) (hr : refu lim e s = 0) :
    Calls Try.prog 10 #[.pointer (some ⟨v, 0, none⟩), .agg (bvs key).toArray, .int .i64 e, .int .i64 s, .slice T nt ct', .slice B md d] w0 fun x w' => OpenA (opn ts key (nonce e s) (catP ps) b) w0 w' x := by
  have k0 := (Kp.refl nob w0).alloc (.cells (bvs key).toArray 28)
  have HB := Lib.hid (Blk.new w0 28 (bvs key))
  have HV0 := Lib.hid hv; have HW0 := Lib.hid hw; have HT0 := Lib.hid ht; have HP0 := Lib.hid hp
  have HR := Lib.hid (show Calls Try.prog 18 #[.pointer (some ⟨v, 0, none⟩), .int .i64 e, .int .i64 s] (w0.alloc (.cells (bvs key).toArray 28)) fun x w' => x = .returned (.int .i64 0) ∧ (w0.alloc (.cells (bvs key).toArray 28)) = w' by
    have := refused_any v m (imk p) ms lim _ cl e s _ (hv.b.keep0 k0)
    rw [hr] at this; exact this)
  have HK0 := Lib.hid k0
  have HH := Lib.hid (And.intro hk (And.intro hl (And.intro lt lp)))
  have HBP := Lib.hid (fun w => build_place key (nonce e s) hk (nonce_length e s) w)
  rw [show pv (pl key (nonce e s) hk (nonce_length e s)) = .agg (bvs (key ++ nonce e s)).toArray from rfl] at HBP
  clear hv hw ht hp k0 hr hk hl lt lp
  go_enter Try.func10, Try.ntmps10
  go_wp2_with fail
  refine HR.out.mono ?_
  rintro x w1 ⟨rfl, rfl⟩
  clear HR
  go_wp2
  have HS : Hid (Kp nob w0 (w0.alloc (.cells (bvs key).toArray 28)).drew) := Lib.hid HK0.out.drew
  have HBK := Lib.hid (HB.out.keep (Kp.refl nob _).drew (fun e => e))
  have HKS := Lib.hid (key_size key HH.out.1)
  generalize hw1 : (w0.alloc (.cells (bvs key).toArray 28)).drew = w1 at *
  clear HB HK0
  refine reg_begin (fun w => Kp nob w0 w ∧ Blk w w0.heap.size 28 (bvs key)) (by kernel_rfl) ?hb (fun _ => ?_)
  case hb => rw [hw1]; exact ⟨HS.out, HBK.out⟩
  rw [hw1]
  clear hw1
  have HS0 := Lib.hid (And.intro HS.out HBK.out)
  refine reg_take (v := .pointer (some ⟨v, 0, none⟩)) 0 (some 22) rfl rfl (by kernel_rfl) (by kernel_rfl) (by kernel_rfl) (by rfl) HS0.out (fun w hw => by go_simp) ?_
  simp only [Act.put, List.setIfInBounds_toArray, List.set_cons_zero, List.set_cons_succ]
  refine reg_take (v := .pointer (some ⟨v, 0, none⟩)) 1 (some 23) rfl rfl (by kernel_rfl) (by kernel_rfl) (by kernel_rfl) (by rfl) HS0.out (fun w hw => by go_simp) ?_
  simp only [Act.put, List.setIfInBounds_toArray, List.set_cons_zero, List.set_cons_succ]
  refine reg_take (v := .pointer (some ⟨v, 0, none⟩)) 2 (some 24) rfl rfl (by kernel_rfl) (by kernel_rfl) (by kernel_rfl) (by rfl) HS0.out (fun w hw => by go_simp) ?_
  simp only [Act.put, List.setIfInBounds_toArray, List.set_cons_zero, List.set_cons_succ]
  refine reg_take (v := imk p) 3 (some 25) rfl rfl (by kernel_rfl) (by kernel_rfl) (by kernel_rfl) (by rfl) HS0.out (fun w hw => by have hc := (HV0.out.keep0 hw.1).b.mk_; go_simp) ?_
  simp only [Act.put, List.setIfInBounds_toArray, List.set_cons_zero, List.set_cons_succ]
  refine reg_load 4 (some 26) 28 (.tmp 7) rfl rfl rfl (by kernel_rfl) (by kernel_rfl) (by kernel_rfl) (by rfl) HS0.out w0.heap.size 0 rfl (bvs key) _ (fun w hw => hw.2.range) key_under rfl HKS.out ?_
  simp only [Act.put, List.setIfInBounds_toArray, List.set_cons_zero, List.set_cons_succ]
  refine reg_take (v := .int .i64 e) 5 (some 27) rfl rfl (by kernel_rfl) (by kernel_rfl) (by kernel_rfl) (by rfl) HS0.out (fun w hw => by go_simp) ?_
  simp only [Act.put, List.setIfInBounds_toArray, List.set_cons_zero, List.set_cons_succ]
  refine reg_take (v := .int .i64 s) 6 (some 28) rfl rfl (by kernel_rfl) (by kernel_rfl) (by kernel_rfl) (by rfl) HS0.out (fun w hw => by go_simp) ?_
  simp only [Act.put, List.setIfInBounds_toArray, List.set_cons_zero, List.set_cons_succ]
  refine reg_take (v := .slice T nt ct') 9 (some 31) rfl rfl (by kernel_rfl) (by kernel_rfl) (by kernel_rfl) (by rfl) HS0.out (fun w hw => by go_simp) ?_
  simp only [Act.put, List.setIfInBounds_toArray, List.set_cons_zero, List.set_cons_succ]
  refine reg_take (v := .slice B md d) 10 (some 32) rfl rfl (by kernel_rfl) (by kernel_rfl) (by kernel_rfl) (by rfl) HS0.out (fun w hw => by go_simp) ?_
  simp only [Act.put, List.setIfInBounds_toArray, List.set_cons_zero, List.set_cons_succ]
  refine reg_take (v := imk p) 11 (some 33) rfl rfl (by kernel_rfl) (by kernel_rfl) (by kernel_rfl) (by rfl) HS0.out (fun w hw => by first | (go_simp; done) | kernel_rfl) ?_
  simp only [Act.put, List.setIfInBounds_toArray, List.set_cons_zero, List.set_cons_succ]
  refine reg_take (v := imk p) 12 (some 34) rfl rfl (by kernel_rfl) (by kernel_rfl) (by kernel_rfl) (by rfl) HS0.out (fun w hw => by go_simp) ?_
  simp only [Act.put, List.setIfInBounds_toArray, List.set_cons_zero, List.set_cons_succ]
  refine reg_call 7 (some 29) rfl rfl (by kernel_rfl) (by rfl) _ _ (exec_func 19 _ _ [.int .i64 e, .int .i64 s] rfl (by kernel_rfl) rfl) ?_
  refine (nonceOf_any e s _).mono ?_
  rintro x w2 ⟨rfl, k2⟩
  have HS1 := Lib.hid (show Kp nob w0 w2 ∧ Blk w2 w0.heap.size 28 (bvs key) from ⟨HS0.out.1.trans k2 (fun _ e => e.elim), HS0.out.2.keep k2 (fun e => e)⟩)
  clear k2
  refine ⟨_, rfl, HS1.out, fun _ => ?_⟩
  simp only [Act.put, List.setIfInBounds_toArray, List.set_cons_zero, List.set_cons_succ]
  refine reg_take (v := .agg (bvs (key ++ nonce e s)).toArray) 8 (some 30) rfl rfl (by kernel_rfl) (by kernel_rfl) (by kernel_rfl) (by rfl) HS1.out (fun w hw => by exact exec_build _ _ rfl [(0, .agg (bvs key).toArray), (1, .agg (bvs (nonce e s)).toArray)] _ rfl (HBP.out w)) ?_
  simp only [Act.put, List.setIfInBounds_toArray, List.set_cons_zero, List.set_cons_succ]
  refine reg_call 13 (some 35) rfl rfl (by kernel_rfl) (by rfl) _ _ (exec_invoke 46 45 (.agg #[.pointer (some ⟨p, 0, none⟩)]) (.agg #[.pointer (some ⟨p, 0, none⟩)]) _ _ _ _ [.agg (bvs (key ++ nonce e s)).toArray, .slice T nt ct', .slice B md d] rfl rfl (by kernel_rfl) (by kernel_rfl) rfl) ?_
  refine (im_open p F ts key (nonce e s) HH.out.1 (nonce_length e s) T nt ct' b B md d ps _ (HW0.out.keep HS1.out.1 (fun _ _ e => e)) (HT0.out.keep0 HS1.out.1) (HP0.out.keep0 HS1.out.1) HH.out.2.1 HH.out.2.2.1 HH.out.2.2.2).mono ?_
  rintro x w3 ⟨X, cX, rfl, k3, hx, f3⟩
  have HFX := Lib.hid (fun k e => Nat.le_trans HS1.out.1.size (f3 k e))
  clear f3
  obtain ⟨er, her⟩ : ∃ er : Int, er = (if (opn ts key (nonce e s) (catP ps) b).isSome then (0 : Int) else 9) := ⟨_, rfl⟩
  rw [← her]
  have HER := Lib.hid her
  have HX := Lib.hid hx
  have HS3 := Lib.hid (show Kp nob w0 w3 ∧ Blk w3 w0.heap.size 28 (bvs key) from ⟨HS1.out.1.trans k3 (fun _ e => e.elim), HS1.out.2.keep k3 (fun e => e)⟩)
  clear hx k3 her
  refine ⟨_, rfl, HS3.out, fun _ => ?_⟩
  simp only [Act.put, List.setIfInBounds_toArray, List.set_cons_zero, List.set_cons_succ]
  refine reg_take (v := .slice X ((opn ts key (nonce e s) (catP ps) b).getD []).length cX) 14 (some 36) rfl rfl (by kernel_rfl) (by kernel_rfl) (by kernel_rfl) (by rfl) HS3.out (fun w hw => by go_simp) ?_
  simp only [Act.put, List.setIfInBounds_toArray, List.set_cons_zero, List.set_cons_succ]
  refine reg_take (v := .int .i64 er) 15 (some 37) rfl rfl (by kernel_rfl) (by kernel_rfl) (by kernel_rfl) (by rfl) HS3.out (fun w hw => by go_simp) ?_
  simp only [Act.put, List.setIfInBounds_toArray, List.set_cons_zero, List.set_cons_succ]
  refine reg_take (v := .slice X ((opn ts key (nonce e s) (catP ps) b).getD []).length cX) 16 (some 12) rfl rfl (by kernel_rfl) (by kernel_rfl) (by kernel_rfl) (by rfl) HS3.out (fun w hw => by go_simp) ?_
  simp only [Act.put, List.setIfInBounds_toArray, List.set_cons_zero, List.set_cons_succ]
  refine reg_take (v := .int .i64 er) 17 (some 13) rfl rfl (by kernel_rfl) (by kernel_rfl) (by kernel_rfl) (by rfl) HS3.out (fun w hw => by go_simp) ?_
  simp only [Act.put, List.setIfInBounds_toArray, List.set_cons_zero, List.set_cons_succ]
  refine reg_end (by kernel_rfl) ?_
  go_wp2
  go_ret2
  unfold OpenA
  exact ⟨X, cX, by rw [← HER.out]; rfl, HS3.out.1, HX.out, HFX.out⟩
end Go.Proofs.Ytmmpmncioifeoaa.Vault
namespace Go.Proofs.Ytmmpmncioifeoaa.Vault
set_option linter.unusedVariables false
set_option linter.unusedSimpArgs false
open Go Go.RowKit Kit
open Ideal (Iw Iq Ans Arg Args Thing mk out sealT opn z32 args_one)
open Sha (Pc PcsOk catP)
open Gcm (gs gs_length)
open Aes (allW)
open Field (Sq)

/-- The vault at v, whose blocks are G, seals x with o known besides, and opens what it sealed. -/
def SO (w0 : World) (v : Nat) (G : Nat → Prop) (x o : List UInt8) : Prop :=
  ∀ (T : Option Addr) (cT : Nat) (Q : Option Addr) (cQ : Nat) (w4 : World), Kp nob w0 w4 → Arg w4 G T x.length cT x → Arg w4 G Q o.length cQ o →
    Calls Try.prog 9 #[.pointer (some ⟨v, 0, none⟩), .agg (bvs z32).toArray, .int .i64 1, .int .i64 1, .slice T x.length cT, .slice (some ⟨w4.heap.size, 0, none⟩) 1 1] (w4.alloc (.cells #[.slice Q o.length cQ] 29)) fun e w6 =>
      ∃ X cX Y, ∃ G2 : Nat → Prop, e = .returned (.tuple #[.slice X (x.length + 16) cX, .int .i64 0]) ∧ Arg w6 G2 X (x.length + 16) cX Y ∧ (∀ k, ab X = some k → w4.heap.size ≤ k) ∧ Kp G w4 w6 ∧ (∀ k, G2 k → (G k ∨ w4.heap.size ≤ k) ∧ k < w6.heap.size) ∧
        ∀ (C : Option Addr) (cC : Nat) (w7 : World), Kp nob w6 w7 → Arg w7 G2 C (x.length + 16) cC Y → Arg w7 G2 Q o.length cQ o →
          Calls Try.prog 10 #[.pointer (some ⟨v, 0, none⟩), .agg (bvs z32).toArray, .int .i64 1, .int .i64 1, .slice C (x.length + 16) cC, .slice (some ⟨w7.heap.size, 0, none⟩) 1 1] (w7.alloc (.cells #[.slice Q o.length cQ] 29)) fun e w8 =>
            ∃ Z cZ, e = .returned (.tuple #[.slice Z x.length cZ, .int .i64 0]) ∧ Row w8 Z (bvs x) ∧ Kp nob w7 w8 ∧ ∀ k, ab Z = some k → w7.heap.size ≤ k
theorem refu9 : refu 9 1 1 = 0 := by decide
theorem so_real [Inhabited Field.SqTab] (dif : List UInt8 → List UInt8 → Bool) (Z : World → Prop) (hN : NoteC dif Z) (w0 : World) (v m : Nat) (x o : List UInt8) (hv : Vs nob w0 v m rmk z32 9 [] 0) (hs : Sq w0) (hx : x.length ≤ 1024) (ho : o.length ≤ 1024) (hg : ¬ vF v m 3) (hz : ∀ w', Kp nob w0 w' → Z w') : SO w0 v (vF v m) x o := by
  intro T cT Q cQ w4 k4 ht hq
  have k1 := (Kp.refl nob w4).alloc (.cells #[.slice Q o.length cQ] 29)
  have k41 := k4.trans k1 (fun _ e => e.elim)
  have hG : ∀ k, vF v m k → k < w4.heap.size := fun k h => Nat.lt_of_lt_of_le (h.elim (fun h => h ▸ hv.b.b.lt) (fun h => h ▸ hv.b.s.lt)) k4.size
  have h := seal_real dif Z hN v m z32 9 [] 0 z32 z32_length 1 1 T x.length cT x (some ⟨w4.heap.size, 0, none⟩) 1 1 _ _ (hv.keep0 k41) (ht.keep0 k1) (args_one (t := 29) hq hG) (by omega) (by rw [Sha.catP_one]; show o.length ≤ _; omega) (by omega) refu9 (hs.keep0 k41) (fun w' h => hz w' (k41.trans h (fun _ e => e.elim)))
  rw [Sha.catP_one] at h
  refine h.mono ?_
  rintro e w6 ⟨X, cX, rfl, hv6, k6, ha, hf⟩
  refine ⟨X, cX, _, vF v m, rfl, ha, fun k e => Nat.le_trans k1.size (hf k e), (k1.nob _).trans k6 (fun i e => .inl e), fun k e => ⟨.inl e, e.elim (fun h => h ▸ hv6.b.b.lt) (fun h => h ▸ hv6.b.s.lt)⟩, ?_⟩
  intro C cC w7 k7 hc hq7
  have k8 := (Kp.refl nob w7).alloc (.cells #[.slice Q o.length cQ] 29)
  have k78 := k7.trans k8 (fun _ e => e.elim)
  have hG7 : ∀ k, vF v m k → k < w7.heap.size := fun k h => Nat.lt_of_lt_of_le (h.elim (fun h => h ▸ hv6.b.b.lt) (fun h => h ▸ hv6.b.s.lt)) k7.size
  have hs6 : Sq w6 := range_keep hs ((k41.nob (vF v m)).trans k6 (fun i e => .inl e)) hg
  have h := open_real v m z32 9 _ _ nob z32 z32_length 1 1 C (x.length + 16) cC _ x (some ⟨w7.heap.size, 0, none⟩) 1 1 _ (vF v m) _ (hv6.keep0 k78) ((hc.keep0 k8).mono (fun i _ e => e.elim)) (args_one (t := 29) hq7 hG7) (by omega) (by rw [Sha.catP_one]) (by rw [Sha.catP_one]; show o.length ≤ _; omega) refu9 (hs6.keep0 k78)
  refine h.mono ?_
  rintro e w8 ⟨Z, cZ, rfl, hr, k9, hf⟩
  exact ⟨Z, cZ, rfl, hr, k8.trans k9 (fun _ e => e.elim), fun k e => Nat.le_trans k8.size (hf k e)⟩
theorem so_ideal (dif : List UInt8 → List UInt8 → Bool) (Z : World → Prop) (hN : NoteC dif Z) (w0 : World) (v m p : Nat) (F : Nat → Prop) (x o : List UInt8) (hv : Vs F w0 v m (imk p) z32 9 [] 0) (hw : Iw w0 p F []) (hF : ¬ F v ∧ ¬ F m) (hx : x.length ≤ 1024) (ho : o.length ≤ 1024) (hz : ∀ w', Kp F w0 w' → Z w') : SO w0 v (uF F v m) x o := by
  intro T cT Q cQ w4 k4 ht hq
  have k1 := (Kp.refl nob w4).alloc (.cells #[.slice Q o.length cQ] 29)
  have k41 := k4.trans k1 (fun _ e => e.elim)
  have hG : ∀ k, uF F v m k → k < w4.heap.size := fun k h => Nat.lt_of_lt_of_le (h.elim (hw.lt k) (fun h => h.elim (fun h => h ▸ hv.b.b.lt) (fun h => h ▸ hv.b.s.lt))) k4.size
  have h := seal_yes dif Z hN v m p F [] z32 9 [] 0 z32 z32_length 1 1 T x.length cT x (some ⟨w4.heap.size, 0, none⟩) 1 1 _ _ (hv.keep0 k41) (hw.keep k41 (fun _ _ e => e)) hF (ht.keep0 k1) (args_one (t := 29) hq hG) (Nat.zero_le _) (by omega) (by rw [Sha.catP_one]; show o.length ≤ _; omega) (by omega) refu9 (fun w' h => hz w' ((k41.nob F).trans h (fun _ e => .inl e)))
  rw [Sha.catP_one] at h
  refine h.mono ?_
  rintro e w6 ⟨F2, X, cX, rfl, hs⟩
  have hyl : (out [] (sealT z32 (nonce 1 1) o x) (x.length + 16)).length = x.length + 16 := Ideal.out_length _ _ _ (by omega)
  refine ⟨X, cX, _, uF F2 v m, rfl, ⟨hyl, hs.x.row, .inr (fun k e => (hs.x.far k e).2), by rw [← hyl]; exact hs.x.cap, hs.x.mx, hs.x.nil⟩, fun k e => Nat.le_trans k1.size (hs.x.far k e).1, (k1.nob _).trans hs.kp (fun i e => .inl e), fun k e => ?_, ?_⟩
  · rcases e with e | e
    · exact ⟨(hs.f k e).imp .inl (fun e => Nat.le_trans k1.size e), hs.iw.lt k e⟩
    · exact ⟨.inl (.inr e), e.elim (fun h => h ▸ hs.vs.b.b.lt) (fun h => h ▸ hs.vs.b.s.lt)⟩
  · intro C cC w7 k7 hc hq7
    have k8 := (Kp.refl nob w7).alloc (.cells #[.slice Q o.length cQ] 29)
    have k78 := k7.trans k8 (fun _ e => e.elim)
    have hG7 : ∀ k, F2 k → k < w7.heap.size := fun k h => Nat.lt_of_lt_of_le (hs.iw.lt k h) k7.size
    have hlen := Ideal.mk_length_le [] (sealT z32 (nonce 1 1) o x)
    have h := open_yes F2 v m p F2 (mk [] (sealT z32 (nonce 1 1) o x)) z32 9 _ _ z32 z32_length 1 1 C (x.length + 16) cC _ (some ⟨w7.heap.size, 0, none⟩) 1 1 _ _ (hs.vs.keep0 k78) (hs.iw.keep k78 (fun _ _ e => e)) ((hc.keep0 k8).mono (fun i _ e => .inl e)) (args_one (t := 29) (hq7.mono (G := F2) (fun i _ e => .inl e)) hG7) (by simp at hlen; omega) (by rw [hyl]; omega) (by rw [Sha.catP_one]; show o.length ≤ _; omega) refu9
    rw [Sha.catP_one] at h
    rw [show opn (mk [] (sealT z32 (nonce 1 1) o x)) z32 (nonce 1 1) o (out [] (sealT z32 (nonce 1 1) o x) (x.length + 16)) = some x from Ideal.opn_sealed [] z32 (nonce 1 1) o x (by simp)] at h
    refine h.mono ?_
    rintro e w8 ⟨Z, cZ, rfl, k9, hr, hf⟩
    exact ⟨Z, cZ, rfl, hr, k8.trans k9 (fun _ e => e.elim), fun k e => Nat.le_trans k8.size (hf k e)⟩
end Go.Proofs.Ytmmpmncioifeoaa.Vault

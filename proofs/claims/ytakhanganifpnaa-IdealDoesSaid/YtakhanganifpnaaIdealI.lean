/- The code's ideal world: Open, in the document's words. -/
import Derived.Test.YtakhanganifpnaaIdealU
namespace Go.Proofs.Ytakhanganifpnaa.Ideal
set_option linter.unusedVariables false
set_option linter.unusedSimpArgs false
open Go Go.RowKit Kit
open Sha (Pc PcsOk catP catP_snoc catP_le)

theorem ct_seals {u : Thing} (h : u.kind = 83) : ct u = u := if_pos h
theorem seal_eta {t : Thing} (h : t.kind = 83) : t = sealT t.a t.b t.c t.d := by
  obtain ⟨k, a, b, c, d⟩ := t
  simp only at h
  subst h; rfl
theorem open_i (p : Nat) (F : Nat → Prop) (ts : List Thing) (K : Option Addr) (nk ck : Nat) (key : List UInt8) (N : Option Addr) (nn cn : Nat) (nonce : List UInt8) (T : Option Addr) (nt ct' : Nat) (text : List UInt8) (B : Option Addr) (m d : Nat) (ps : List Pc) (w : World)
    (hw : Iw w p F ts) (hk : Arg w F K nk ck key) (hn : Arg w F N nn cn nonce) (ht : Arg w F T nt ct' text) (hp : Args w F B m ps) (hl : ts.length ≤ 100000) (lk : key.length ≤ 1048576) (ln : nonce.length ≤ 1048576) (lt : text.length ≤ 1048592) (lp : (catP ps).length ≤ 1048576) :
    Calls Try.prog 13 #[.pointer (some ⟨p, 0, none⟩), .slice K nk ck, .slice N nn cn, .slice T nt ct', .slice B m d] w fun e w' => ∃ X cX, e = .returned (.tuple #[.slice X ((opn ts key nonce (catP ps) text).getD []).length cX, .int .i64 (if (opn ts key nonce (catP ps) text).isSome then 0 else 9)]) ∧
      Kp nob w w' ∧ Row w' X (bvs ((opn ts key nonce (catP ps) text).getD [])) := by
  obtain ⟨bn, bs, rfl, hw, hg⟩ := hw
  have hcl : (ts.map ct).length ≤ 100000 := by rw [List.length_map]; exact hl
  have no : opn ts key nonce (catP ps) text = none → ∀ (e : Ending) (w' : World), (e = .returned (.tuple #[.slice none 0 0, .int .i64 9]) ∧ Kp nob w w') → ∃ X cX, e = .returned (.tuple #[.slice X ((opn ts key nonce (catP ps) text).getD []).length cX, .int .i64 (if (opn ts key nonce (catP ps) text).isSome then 0 else 9)]) ∧ Kp nob w w' ∧ Row w' X (bvs ((opn ts key nonce (catP ps) text).getD [])) := by
    rintro h e w' ⟨rfl, k⟩
    rw [h]
    exact ⟨none, 0, rfl, k, Row.nil _ _⟩
  by_cases hm : ∃ (i : Nat) (t : Thing), (ts.map ct)[i]? = some t ∧ t.kind = 83 ∧ (i : Int) + 1 = numOf text
  · obtain ⟨i, t, hit, hkd, hnum⟩ := hm
    have hts : ts[i]? = some t := by
      rw [List.getElem?_map] at hit
      cases hx : ts[i]? with
      | none => rw [hx] at hit; cases hit
      | some u =>
        rw [hx] at hit
        have e : ct u = t := Option.some.inj hit
        have hu : u.kind = 83 := by rw [← ct_kind u, e]; exact hkd
        rw [← e, ct_seals hu]
    have hnd : ts.Nodup := (List.pairwise_map.1 hw.nd).imp (fun h e => h (by rw [e]))
    have hnt : num ts t = i + 1 := num_of_at ts t i hnd hts
    have back : ∀ dd, opn ts key nonce (catP ps) text = some dd → t = sealT key nonce (catP ps) dd ∧ text = tok 83 (i + 1) (t.d.length + 16) := by
      intro dd h
      obtain ⟨h1, h2, h3⟩ := opn_num hl h
      have hn0 : num ts (sealT key nonce (catP ps) dd) = i + 1 := by omega
      have h4 := num_at ts _ (show num ts (sealT key nonce (catP ps) dd) ≠ 0 by omega)
      rw [hn0, Nat.add_sub_cancel, hts] at h4
      have e := Option.some.inj h4
      exact ⟨e, by rw [h2, hn0, e]; rfl⟩
    have none_of : (¬ ∃ dd, t = sealT key nonce (catP ps) dd ∧ text = tok 83 (i + 1) (t.d.length + 16)) → opn ts key nonce (catP ps) text = none := by
      intro h
      cases hq : opn ts key nonce (catP ps) text with
      | none => rfl
      | some dd => exact absurd ⟨dd, back dd hq⟩ h
    by_cases he : text = tok 83 (i + 1) (t.d.length + 16)
    · by_cases ha : t.a = key
      · by_cases hb : t.b = nonce
        · by_cases hc : t.c = catP ps
          · have hs : opn ts key nonce (catP ps) text = some t.d := by
              have e := seal_eta hkd
              rw [ha, hb, hc] at e
              refine (opn_iff _ _ _ _ _ _ (by omega)).2 ⟨by rw [← e]; exact List.mem_of_getElem? hts, ?_⟩
              rw [← e, out_old _ _ _ (List.mem_of_getElem? hts), hnt, he, hkd]
            refine (open_hit5 p bn bs _ K nk ck key N nn cn nonce T nt ct' text B m d ps w hw hk hn ht hp lt lp hcl i t hit hkd hnum.symm he ha hb hc).mono ?_
            rintro e w' ⟨X, cX, rfl, k, hr⟩
            rw [hs]
            exact ⟨X, cX, rfl, k, hr⟩
          · exact (open_hit4 p bn bs _ K nk ck key N nn cn nonce T nt ct' text B m d ps w hw hk hn ht hp lt lp hcl i t hit hkd hnum.symm he ha hb hc).mono (no (none_of (fun ⟨dd, e, _⟩ => hc (by rw [e]; rfl))))
        · exact (open_hit3 p bn bs _ K nk ck key N nn cn nonce T nt ct' text B m d ps w hw hk hn ht hp lt lp hcl i t hit hkd hnum.symm he ha hb).mono (no (none_of (fun ⟨dd, e, _⟩ => hb (by rw [e]; rfl))))
      · exact (open_hit2 p bn bs _ K nk ck key N nn cn nonce T nt ct' text B m d ps w hw hk hn ht hp lt lp hcl i t hit hkd hnum.symm he ha).mono (no (none_of (fun ⟨dd, e, _⟩ => ha (by rw [e]; rfl))))
    · exact (open_hit1 p bn bs _ K nk ck key N nn cn nonce T nt ct' text B m d ps w hw hk hn ht hp lt lp hcl i t hit hkd hnum.symm he).mono (no (none_of (fun ⟨dd, _, e⟩ => he e)))
  · refine (open_miss p bn bs _ K nk ck key N nn cn nonce T nt ct' text B m d ps w hw hk hn ht hp lt lp hcl (fun i t h1 h2 e => hm ⟨i, t, h1, h2, e⟩)).mono (no ?_)
    cases hq : opn ts key nonce (catP ps) text with
    | none => rfl
    | some dd =>
      obtain ⟨h1, h2, h3⟩ := opn_num hl hq
      have h0 : num ts (sealT key nonce (catP ps) dd) ≠ 0 := fun e => (num_none _ _).1 e h1
      have h4 := num_at ts _ h0
      exact absurd ⟨num ts (sealT key nonce (catP ps) dd) - 1, sealT key nonce (catP ps) dd, by rw [List.getElem?_map, h4]; rfl, rfl, by rw [h3]; omega⟩ hm
/-- Nothing is opened in no world; nothing is sealed. -/
theorem open_nil (K N T B : Value) (w : World) : Calls Try.prog 13 #[.pointer none, K, N, T, B] w fun e w' => e = .returned (.tuple #[.slice none 0 0, .int .i64 2]) ∧ w = w' := by
  go_enter Try.func13, Try.ntmps13
  go_wp2
  go_ret2
  exact ⟨rfl, rfl⟩
theorem seal_nil (K N T B : Value) (w : World) : Calls Try.prog 11 #[.pointer none, K, N, T, B] w fun e w' => e = .returned (.tuple #[.slice none 0 0, .int .i64 2]) ∧ w = w' := by
  go_enter Try.func11, Try.ntmps11
  go_wp2
  go_ret2
  exact ⟨rfl, rfl⟩
end Go.Proofs.Ytakhanganifpnaa.Ideal

import PyProof.Rows.All
import Wide.All
import OpenK.AllK
import Wide.FinOn
import HandS.ForMost
import HandS.ForExc
import HandS.IsInst
import HandS.TupAny
import HandS.Rev
import HandS.Deep
import HandS.Flow
import HandS.Wide
import HandS.Conv
import HandS.Steps
import HandS.ExcInit
import HandS.ExcField
import HandS.Style
import KE.KExcIs
import HandS.ExcValue
import HandS.ExcIs
import HandS.CallLocal
import HandS.List
import PyProof.DelItemList
import HandS.Text
import HandS.RaiseMore
import KE.OsRunLaw
import PySem.Challenge.RW_listasks_k06_texts_read_to_the_first_wro
set_option Elab.async false
set_option linter.all false
set_option maxRecDepth 100000
set_option maxHeartbeats 4000000
/-! A logic over plain data: states are slots of data and own lists, expressions and statements are read as what they do to these. -/
namespace Ab
open PySem PySem.Spec PyProof.Rows L2

/-! ### heaps with a part that is hidden -/
def Hide (B : Addr → Bool) (H : Hp) : Hp := fun a => if B a = true then none else H a
section
variable {B B' : Addr → Bool} {H H' : Hp} {a : Addr} {o : HO} {K : PySem.W.Frag} {v : V} {d : PyData} {vs : List V} {ds : List PyData}
theorem hide_f (h : B a = false) : Hide B H a = H a := by unfold Hide; rw [h]; rfl
theorem hide_t (h : B a = true) : Hide B H a = none := by unfold Hide; rw [if_pos h]
theorem hide_some (h : Hide B H a = some o) : B a = false ∧ H a = some o := by
  cases e : B a with
  | true => rw [hide_t e] at h; cases h
  | false => rw [hide_f e] at h; exact ⟨rfl, h⟩
theorem same_hide : Same (Hide B H) H := fun a o h => (hide_some h).2
theorem seqT {xs : List V} (e : Same H H') (h : SqT K H a xs) : SqT K H' a xs := by
  rcases h with (h | ⟨o, h⟩) | h
  · exact .inl (.inl (e _ _ h))
  · exact .inl (.inr ⟨o, e _ _ h⟩)
  · exact .inr h
mutual
theorem dp_mono (e : Same H H') : ∀ (d : PyData) (v : V), Dp K H v d → Dp K H' v d
  | .none, _, h => by cases h; exact .non
  | .bool b, _, h => by cases h; exact .bl b
  | .int i, _, h => by cases h; exact .int i
  | .str x, _, h => by cases h; exact .str x
  | .list ds, _, h => by
    cases h with
    | lst hs ha => exact .lst (e.seq hs) (dps_mono e ds _ ha)
  | .tuple ds, _, h => by
    cases h with
    | tup hs ha => exact .tup (seqT e hs) (dps_mono e ds _ ha)
  | .dict _, _, h => by cases h
theorem dps_mono (e : Same H H') : ∀ (ds : List PyData) (vs : List V), DpAll K H vs ds → DpAll K H' vs ds
  | [], _, h => by cases h; exact .nil
  | d :: ds, _, h => by
    cases h with
    | cons h1 h2 => exact .cons (dp_mono e d _ h1) (dps_mono e ds _ h2)
end
theorem dps_len : ∀ {vs : List V} {ds : List PyData}, DpAll K H vs ds → vs.length = ds.length
  | [], _, h => by cases h; rfl
  | _ :: _, _, h => by
    cases h with
    | cons h1 h2 => rw [List.length_cons, List.length_cons, dps_len h2]
theorem dps_at : ∀ {vs : List V} {ds : List PyData} {i : Nat} {d : PyData}, DpAll K H vs ds → ds[i]? = some d → ∃ v, vs[i]? = some v ∧ Dp K H v d
  | [], _, i, d, h, e => by cases h; simp at e
  | v :: _, _, 0, d, h, e => by
    cases h with
    | cons h1 h2 => simp at e; subst e; exact ⟨v, rfl, h1⟩
  | _ :: _, _, i + 1, d, h, e => by
    cases h with
    | cons h1 h2 => simp at e; obtain ⟨v, a, b⟩ := dps_at h2 e; exact ⟨v, by simpa using a, b⟩
theorem dps_at' : ∀ {vs : List V} {ds : List PyData} {i : Nat} {v : V}, DpAll K H vs ds → vs[i]? = some v → ∃ d, ds[i]? = some d ∧ Dp K H v d
  | [], _, i, d, h, e => by simp at e
  | w :: _, _, 0, v, h, e => by
    cases h with
    | cons h1 h2 => simp at e; subst e; exact ⟨_, rfl, h1⟩
  | _ :: _, _, i + 1, v, h, e => by
    cases h with
    | cons h1 h2 => simp at e; obtain ⟨d, a, b⟩ := dps_at' h2 e; exact ⟨d, by simpa using a, b⟩
theorem dps_app : ∀ {vs : List V} {ds : List PyData} {ws : List V} {es : List PyData}, DpAll K H vs ds → DpAll K H ws es → DpAll K H (vs ++ ws) (ds ++ es)
  | [], _, _, _, h, k => by cases h; exact k
  | _ :: _, _, _, _, h, k => by
    cases h with
    | cons h1 h2 => exact .cons h1 (dps_app h2 k)
theorem dps_take : ∀ {vs : List V} {ds : List PyData} (n : Nat), DpAll K H vs ds → DpAll K H (vs.take n) (ds.take n)
  | [], _, n, h => by cases h; simp; exact .nil
  | _ :: _, _, 0, h => by simp; exact .nil
  | _ :: _, _, n + 1, h => by
    cases h with
    | cons h1 h2 => exact .cons h1 (dps_take n h2)
theorem dps_drop : ∀ {vs : List V} {ds : List PyData} (n : Nat), DpAll K H vs ds → DpAll K H (vs.drop n) (ds.drop n)
  | [], _, n, h => by cases h; simp; exact .nil
  | _ :: _, _, 0, h => h
  | _ :: _, _, n + 1, h => by
    cases h with
    | cons h1 h2 => exact dps_drop n h2
theorem dps_dropLast {vs : List V} {ds : List PyData} (h : DpAll K H vs ds) : DpAll K H vs.dropLast ds.dropLast := by
  rw [List.dropLast_eq_take, List.dropLast_eq_take, dps_len h]
  exact dps_take _ h
end

/-! ### frames, slots, own lists -/
/-- what a caller holds: addresses that data never name, and what is true of them -/
structure Sy where
  B : Addr → Bool
  I : Hp → Prop
  mono : ∀ H H', (∀ a o, B a = true → H a = some o → H' a = some o) → I H → I H'
  trk : ∀ H a, I H → B a = true → H a ≠ none
inductive Sv where
  | dat (d : PyData)
  | own (a : Addr)
  | obj (a C : Addr) (fs : List (Str × PyData))
  | no
abbrev Mm := List (Addr × Bool × List PyData)
def Bm (S : Sy) (M : Mm) : Addr → Bool := fun a => S.B a || M.any fun p => p.1 == a
def RSv (K : PySem.W.Frag) (G : Hp) : Option V → Sv → Prop
  | o, .dat d => ∃ v, o = some v ∧ Dp K G v d
  | o, .own a => o = some (.ref a)
  | o, .obj a C fs => o = some (.ref a) ∧ ∃ dx, G a = some (exo a C dx) ∧ ((dx = none ∧ fs = []) ∨ ∃ d fv, dx = some d ∧ G d = some (exd d fv) ∧ fv.map (·.1) = fs.map (·.1) ∧ DpAll K G (fv.map (·.2)) (fs.map (·.2)))
  | _, .no => True
structure Rs (K : PySem.W.Frag) (G : Hp) (σ : L2.St) (as : List Sv) : Prop where
  len : σ.length = as.length
  at_ : ∀ (i : Nat) (s : Sv), as[i]? = some s → ∃ o : Option V, σ[i]? = some o ∧ RSv K G o s
/-- lists may be written -/
def Stb (S : Sy) (p : Addr) : Prop := ∀ H l l', S.I H → H p = some (.lst l) → S.I (upd H p (.lst l'))
structure Ok0 (K : PySem.W.Frag) (S : Sy) (H0 H : Hp) (M : Mm) : Prop where
  xt : ∀ a o, S.B a = false → H0 a = some o → H a = some o
  inv : S.I H
  nd : (M.map (·.1)).Nodup
  loc : ∀ p ∈ M, (p.2.1 = true → S.B p.1 = false ∧ H0 p.1 = none) ∧ (p.2.1 = false → S.B p.1 = true ∧ Stb S p.1)
  mem : ∀ p ∈ M, ∃ vs, H p.1 = some (.lst vs) ∧ DpAll K (Hide (Bm S M) H) vs p.2.2
def Gh (S : Sy) (M : Mm) (H : Hp) : Hp := Hide (Bm S M) H

section
variable {K : PySem.W.Frag} {S : Sy} {H0 H H' : Hp} {σ : L2.St} {as : List Sv} {M : Mm} {G G' : Hp}
theorem RSv.mono {o : Option V} {s : Sv} (e : Same G G') (h : RSv K G o s) : RSv K G' o s := by
  cases s with
  | dat d => obtain ⟨v, a, b⟩ := h; exact ⟨v, a, dp_mono e _ _ b⟩
  | own a => exact h
  | obj a C fs =>
    obtain ⟨h1, dx, h2, h3⟩ := h
    refine ⟨h1, dx, e _ _ h2, ?_⟩
    rcases h3 with h3 | ⟨d, fv, q1, q2, q3, q4⟩
    · exact .inl h3
    · exact .inr ⟨d, fv, q1, e _ _ q2, q3, dps_mono e _ _ q4⟩
  | no => trivial
theorem Rs.mono (e : Same G G') (h : Rs K G σ as) : Rs K G' σ as := ⟨h.len, fun i s q => let ⟨o, a, b⟩ := h.at_ i s q; ⟨o, a, b.mono e⟩⟩
theorem Rs.set {v : V} {s : Sv} (i : Nat) (h : Rs K G σ as) (r : RSv K G (some v) s) : Rs K G (σ.set i (some v)) (as.set i s) := by
  refine ⟨by rw [List.length_set, List.length_set, h.len], fun j t q => ?_⟩
  by_cases e : i = j
  · subst e
    have hl : i < as.length := by
      have := (List.getElem?_eq_some_iff.mp q).1
      simpa using this
    rw [List.getElem?_set_self hl] at q
    cases q
    exact ⟨some v, List.getElem?_set_self (by rw [h.len]; exact hl), r⟩
  · rw [List.getElem?_set_ne e] at q
    obtain ⟨o, a, b⟩ := h.at_ j t q
    exact ⟨o, by rw [List.getElem?_set_ne e]; exact a, b⟩
theorem bm_trk (h : Ok0 K S H0 H M) (a : Addr) (e : Bm S M a = true) : H a ≠ none := by
  rcases (Bool.or_eq_true _ _).mp e with e | e
  · exact S.trk H a h.inv e
  · obtain ⟨p, hp, q⟩ := List.any_eq_true.mp e
    obtain ⟨vs, k, _⟩ := h.mem p hp
    have : p.1 = a := by simpa using q
    rw [← this, k]
    simp
theorem bm_false {a : Addr} : Bm S M a = false ↔ S.B a = false ∧ ∀ p ∈ M, p.1 ≠ a := by
  unfold Bm
  rw [Bool.or_eq_false_iff, List.any_eq_false]
  simp
theorem new_same {p : Addr} {o : HO} {B : Addr → Bool} (hp : H p = none) : Same (Hide B H) (Hide B (upd H p o)) := fun a u e => by
  obtain ⟨e1, e2⟩ := hide_some e
  rw [hide_f e1, upd_ne (ne_of_none e2 hp)]
  exact e2
theorem ok_new {p : Addr} {o : HO} (h : Ok0 K S H0 H M) (hp : H p = none) : Ok0 K S H0 (upd H p o) M := by
  refine ⟨fun a u e1 e2 => ?_, S.mono H _ (fun a u e1 e2 => ?_) h.inv, h.nd, h.loc, fun q hq => ?_⟩
  · have q := h.xt a u e1 e2
    rw [upd_ne (ne_of_none q hp)]; exact q
  · rw [upd_ne (ne_of_none e2 hp)]; exact e2
  · obtain ⟨vs, a, b⟩ := h.mem q hq
    exact ⟨vs, by rw [upd_ne (ne_of_none a hp)]; exact a, dps_mono (new_same hp) _ _ b⟩
theorem new_hid {p : Addr} (h : Ok0 K S H0 H M) (hp : H p = none) : Bm S M p = false := by
  cases e : Bm S M p with
  | false => rfl
  | true => exact absurd hp (bm_trk h p e)
end

/-! ### what is read -/
section
variable (K : PySem.W.Frag)
def W (te : TE) (as : List Sv) (M : Mm) (P : PyData → Mm → Prop) : Prop := ∀ S H0 σ H, Ok0 K S H0 H M → Rs K (Gh S M H) σ as → ∀ Q : VK,
  (∀ v H' d M', Ok0 K S H0 H' M' → Same (Gh S M H) (Gh S M' H') → Dp K (Gh S M' H') v d → P d M' → Q v H') → te σ H Q
def WT (t : TT) (as : List Sv) (M : Mm) (P : Bool → Mm → Prop) : Prop := ∀ S H0 σ H, Ok0 K S H0 H M → Rs K (Gh S M H) σ as → ∀ Q : Bool → Hp → Prop,
  (∀ b H' M', Ok0 K S H0 H' M' → Same (Gh S M H) (Gh S M' H') → P b M' → Q b H') → t σ H Q
def RA (K : PySem.W.Frag) (G : Hp) : List V → List Sv → Prop
  | [], [] => True
  | v :: vs, s :: ss => RSv K G (some v) s ∧ RA K G vs ss
  | _, _ => False
def WA (ta : TA) (as : List Sv) (M : Mm) (P : List Sv → Mm → Prop) : Prop := ∀ S H0 σ H, Ok0 K S H0 H M → Rs K (Gh S M H) σ as → ∀ Q : List V → Hp → Prop,
  (∀ vs H' ss M', Ok0 K S H0 H' M' → Same (Gh S M H) (Gh S M' H') → RA K (Gh S M' H') vs ss → P ss M' → Q vs H') → ta σ H Q
def WO (to : TO) (as : List Sv) (M : Mm) (P : Option Int → Mm → Prop) : Prop := ∀ S H0 σ H, Ok0 K S H0 H M → Rs K (Gh S M H) σ as → ∀ Q : Option Int → Hp → Prop,
  (∀ o H' M', Ok0 K S H0 H' M' → Same (Gh S M H) (Gh S M' H') → P o M' → Q o H') → to σ H Q
structure AE where
  nx : List Sv → Mm → Prop
  rt : PyData → Mm → Prop
  bk : List Sv → Mm → Prop := fun _ _ => False
  ct : List Sv → Mm → Prop := fun _ _ => False
def WS (ts : TS) (as : List Sv) (M : Mm) (A : AE) : Prop := ∀ S H0 σ H (D : Ends), Ok0 K S H0 H M → Rs K (Gh S M H) σ as →
  (∀ σ' H' as' M', Ok0 K S H0 H' M' → Rs K (Gh S M' H') σ' as' → Same (Gh S M H) (Gh S M' H') → A.nx as' M' → D.nx σ' H') →
  (∀ v H' d M', Ok0 K S H0 H' M' → Dp K (Gh S M' H') v d → A.rt d M' → D.rt v H') →
  (∀ σ' H' as' M', Ok0 K S H0 H' M' → Rs K (Gh S M' H') σ' as' → Same (Gh S M H) (Gh S M' H') → A.bk as' M' → D.bk σ' H') →
  (∀ σ' H' as' M', Ok0 K S H0 H' M' → Rs K (Gh S M' H') σ' as' → Same (Gh S M H) (Gh S M' H') → A.ct as' M' → D.ct σ' H') → ts D σ H
end

section
variable {K : PySem.W.Frag} {as : List Sv} {M : Mm} {te ta tb tc : TE} {P : PyData → Mm → Prop}
theorem ra_mono {G G' : Hp} (e : Same G G') : ∀ {vs : List V} {ss : List Sv}, RA K G vs ss → RA K G' vs ss
  | [], [], _ => trivial
  | _ :: _, _ :: _, h => ⟨h.1.mono e, ra_mono e h.2⟩
  | [], _ :: _, h => h.elim
  | _ :: _, [], h => h.elim
theorem ra_len {G : Hp} : ∀ {vs : List V} {ss : List Sv}, RA K G vs ss → vs.length = ss.length
  | [], [], _ => rfl
  | _ :: _, _ :: _, h => by rw [List.length_cons, List.length_cons, ra_len h.2]
  | [], _ :: _, h => h.elim
  | _ :: _, [], h => h.elim
theorem ra_dat {G : Hp} : ∀ {vs : List V} {ds : List PyData}, RA K G vs (ds.map .dat) → DpAll K G vs ds
  | [], [], _ => .nil
  | _ :: _, _ :: _, h => by
    obtain ⟨⟨v, e, q⟩, h2⟩ := h
    cases e
    exact .cons q (ra_dat h2)
  | [], _ :: _, h => h.elim
  | _ :: _, [], h => h.elim
theorem dat_ra {G : Hp} : ∀ {vs : List V} {ds : List PyData}, DpAll K G vs ds → RA K G vs (ds.map .dat)
  | [], [], _ => trivial
  | _ :: _, _ :: _, h => by
    cases h with
    | cons h1 h2 => exact ⟨⟨_, rfl, h1⟩, dat_ra h2⟩
  | [], _ :: _, h => by cases h
  | _ :: _, [], h => by cases h
theorem ra_start {G : Hp} : ∀ {vs : List V} {ss : List Sv} (n : Nat), RA K G vs ss → Rs K G (vs.map some ++ List.replicate n none) (ss ++ List.replicate n .no)
  | [], [], n, _ => ⟨by simp, fun i s q => by
      simp only [List.nil_append] at q
      have hi : i < n := by have := (List.getElem?_eq_some_iff.mp q).1; simpa using this
      rw [List.getElem?_replicate, if_pos hi] at q
      cases q
      exact ⟨none, by simp [List.getElem?_replicate, hi], trivial⟩⟩
  | v :: vs, s :: ss, n, h => by
    have ih := ra_start n h.2
    refine ⟨by have := ih.len; simp only [List.length_append, List.length_map, List.length_cons, List.length_replicate] at this ⊢; omega, fun i t q => ?_⟩
    cases i with
    | zero =>
      simp at q
      subst q
      exact ⟨some v, by simp, h.1⟩
    | succ i =>
      obtain ⟨o, a, b⟩ := ih.at_ i t (by simpa using q)
      exact ⟨o, by simpa using a, b⟩
  | [], _ :: _, _, h => h.elim
  | _ :: _, [], _, h => h.elim
theorem W.imp {P' : PyData → Mm → Prop} (h : W K te as M P) (i : ∀ d M', P d M' → P' d M') : W K te as M P' := fun S H0 σ H k r Q q => h S H0 σ H k r Q fun v H' d M' a b c e => q v H' d M' a b c (i _ _ e)
theorem w_var {i : Nat} {d : PyData} (h : as[i]? = some (.dat d)) (p : P d M) : W K (tVar i) as M P := fun S H0 σ H k r Q q => by
  obtain ⟨o, a, v, e, b⟩ := r.at_ i _ h
  subst e
  exact ⟨v, a, q v H d M k (Same.refl _) b p⟩
theorem w_int {i : Int} (p : P (.int i) M) : W K (tC (.int i)) as M P := fun S H0 σ H k r Q q => q _ H _ M k (Same.refl _) (.int i) p
theorem w_str {i : Str} (p : P (.str i) M) : W K (tC (.str i)) as M P := fun S H0 σ H k r Q q => q _ H _ M k (Same.refl _) (.str i) p
theorem w_bl {i : Bool} (p : P (.bool i) M) : W K (tC (.bl i)) as M P := fun S H0 σ H k r Q q => q _ H _ M k (Same.refl _) (.bl i) p
theorem w_non (p : P .none M) : W K (tC .non) as M P := fun S H0 σ H k r Q q => q _ H _ M k (Same.refl _) .non p
/-- a tuple of texts that stands in the written part -/
theorem w_cT {a : Addr} {ds : List PyData} (hk : ∀ H, Dp K H (.ref a) (.tuple ds)) (p : P (.tuple ds) M) : W K (tC (.ref a)) as M P := fun S H0 σ H k r Q q => q _ H _ M k (Same.refl _) (hk _) p
theorem wa_nil {P : List Sv → Mm → Prop} (p : P [] M) : WA K tNil as M P := fun S H0 σ H k r Q q => q [] H [] M k (Same.refl _) trivial p
theorem wa_cons {tr : TA} {P : List Sv → Mm → Prop} (h : W K te as M fun d M1 => WA K tr as M1 fun ss M2 => P (.dat d :: ss) M2) : WA K (tCons te tr) as M P := fun S H0 σ H k r Q q =>
  h S H0 σ H k r _ fun v H1 d M1 k1 e1 b1 hr => hr S H0 σ H1 k1 (r.mono e1) _ fun vs H2 ss M2 k2 e2 b2 p => q _ H2 (.dat d :: ss) M2 k2 (e1.trans e2) ⟨⟨v, rfl, dp_mono e2 _ _ b1⟩, b2⟩ p
theorem wa_mut {i : Nat} {a : Addr} {tr : TA} {P : List Sv → Mm → Prop} (h : as[i]? = some (.own a)) (hr : WA K tr as M fun ss M2 => P (.own a :: ss) M2) : WA K (tCons (tVar i) tr) as M P := fun S H0 σ H k r Q q => by
  obtain ⟨o, e1, e2⟩ := r.at_ i _ h
  cases (show o = some (V.ref a) from e2)
  exact ⟨.ref a, e1, hr S H0 σ H k r _ fun vs H2 ss M2 k2 e2 b2 p => q _ H2 (.own a :: ss) M2 k2 e2 ⟨rfl, b2⟩ p⟩
theorem sz_of {n : Nat} (h : n ≤ 100000) : n ≤ sizeLine := Nat.le_trans h (by decide)
theorem w_tup {ta : TA} (h : WA K ta as M fun ss M' => ∃ ds : List PyData, ss = ds.map .dat ∧ ds.length ≤ 100000 ∧ P (.tuple ds) M') : W K (tTup ta) as M P := fun S H0 σ H k r Q q =>
  h S H0 σ H k r _ fun vs H1 ss M1 k1 e1 b1 ⟨ds, es, hl, p⟩ => by
    subst es
    have bd := ra_dat b1
    refine ⟨sz_of (by rw [dps_len bd]; exact hl), fun a ha => q _ _ (.tuple ds) M1 (ok_new k1 ha) (e1.trans (new_same ha)) ?_ p⟩
    have hh : Gh S M1 (upd H1 a (.tup vs)) a = some (.tup vs) := by unfold Gh; rw [hide_f (new_hid k1 ha), upd_same]
    exact .tup (.of hh) (dps_mono (new_same ha) _ _ bd)
theorem w_lst {ta : TA} (h : WA K ta as M fun ss M' => ∃ ds : List PyData, ss = ds.map .dat ∧ ds.length ≤ 100000 ∧ P (.list ds) M') : W K (tLst ta) as M P := fun S H0 σ H k r Q q =>
  h S H0 σ H k r _ fun vs H1 ss M1 k1 e1 b1 ⟨ds, es, hl, p⟩ => by
    subst es
    have bd := ra_dat b1
    refine ⟨sz_of (by rw [dps_len bd]; exact hl), fun a ha => q _ _ (.list ds) M1 (ok_new k1 ha) (e1.trans (new_same ha)) ?_ p⟩
    have hh : Gh S M1 (upd H1 a (.lst vs)) a = some (.lst vs) := by unfold Gh; rw [hide_f (new_hid k1 ha), upd_same]
    exact .lst (.of hh) (dps_mono (new_same ha) _ _ bd)
/-- two-place operations that write nothing -/
def AO (K : PySem.W.Frag) (r : R2) (f : PyData → PyData → (PyData → Prop) → Prop) : Prop := ∀ (B : Addr → Bool) (H : Hp) (x y : V) (a b : PyData) (P : PyData → Prop), (∀ c, B c = true → H c ≠ none) → Dp K (Hide B H) x a → Dp K (Hide B H) y b → f a b P →
  ∀ Q : VK, (∀ v d H', (H' = H ∨ ∃ p o, H p = none ∧ H' = upd H p o) → Dp K (Hide B H') v d → P d → Q v H') → r x y H Q
theorem w_op {r : R2} {f : PyData → PyData → (PyData → Prop) → Prop} (ho : AO K r f) (h : W K ta as M fun a M1 => W K tb as M1 fun b M2 => f a b fun d => P d M2) : W K (tOp r ta tb) as M P := fun S H0 σ H k rs Q q =>
  h S H0 σ H k rs _ fun x H1 a M1 k1 e1 b1 h2 => h2 S H0 σ H1 k1 (rs.mono e1) _ fun y H2 b M2 k2 e2 b2 p => ho _ H2 x y a b _ (bm_trk k2) (dp_mono e2 _ _ b1) b2 p Q fun v d H3 hc hd pd => by
    rcases hc with rfl | ⟨c, o, hn, rfl⟩
    · exact q v _ d M2 k2 (e1.trans e2) hd pd
    · exact q v _ d M2 (ok_new k2 hn) ((e1.trans e2).trans (new_same hn)) hd pd
theorem w_op2 {r : R2} {f : PyData → PyData → (PyData → Prop) → Prop} (ho : AO K r f) {tx : TE} (e : tx = tOp r ta tb) (h : W K ta as M fun a M1 => W K tb as M1 fun b M2 => f a b fun d => P d M2) : W K tx as M P := by
  subst e; exact w_op ho h
/-- one-place built-ins on data that write nothing -/
def AC (K : PySem.W.Frag) (r : List V → Hp → VK → Prop) (f : List PyData → (PyData → Prop) → Prop) : Prop := ∀ (B : Addr → Bool) (H : Hp) (xs : List V) (as : List PyData) (P : PyData → Prop), (∀ c, B c = true → H c ≠ none) → DpAll K (Hide B H) xs as → f as P →
  ∀ Q : VK, (∀ v d H', (H' = H ∨ ∃ p o, H p = none ∧ H' = upd H p o) → Dp K (Hide B H') v d → P d → Q v H') → r xs H Q
theorem w_cb {r : List V → Hp → VK → Prop} {f : List PyData → (PyData → Prop) → Prop} {ta : TA} (ho : AC K r f) (h : WA K ta as M fun ss M1 => ∃ ds : List PyData, ss = ds.map .dat ∧ f ds fun d => P d M1) : W K (tCB r ta) as M P := fun S H0 σ H k rs Q q =>
  h S H0 σ H k rs _ fun xs H1 ss M1 k1 e1 b1 ⟨ds, es, p⟩ => by
    subst es
    refine ho _ H1 xs ds _ (bm_trk k1) (ra_dat b1) p Q fun v d H3 hc hd pd => ?_
    rcases hc with rfl | ⟨c, o, hn, rfl⟩
    · exact q v _ d M1 k1 e1 hd pd
    · exact q v _ d M1 (ok_new k1 hn) (e1.trans (new_same hn)) hd pd
/-! tests -/
variable {t u : TT} {PT : Bool → Mm → Prop}
theorem wt_test (h : W K te as M fun d M' => ∃ b, d = .bool b ∧ PT b M') : WT K (tTest te) as M PT := fun S H0 σ H k r Q q =>
  h S H0 σ H k r _ fun v H1 d M1 k1 e1 b1 ⟨b, ed, p⟩ => by subst ed; cases b1; exact ⟨b, rfl, q b H1 M1 k1 e1 p⟩
theorem wt_B (h : W K te as M fun d M' => ∃ b, d = .bool b ∧ PT b M') : WT K (tB te) as M PT := fun S H0 σ H k r Q q =>
  h S H0 σ H k r _ fun v H1 d M1 k1 e1 b1 ⟨b, ed, p⟩ => by subst ed; cases b1; exact ⟨b, rfl, q b H1 M1 k1 e1 p⟩
theorem wt_not (h : WT K t as M fun b M' => PT (!b) M') : WT K (tNot t) as M PT := fun S H0 σ H k r Q q => h S H0 σ H k r _ fun b H1 M1 k1 e1 p => q _ H1 M1 k1 e1 p
theorem wt_and (h : WT K t as M fun b M1 => if b = true then WT K u as M1 PT else PT false M1) : WT K (tAnd t u) as M PT := fun S H0 σ H k r Q q => h S H0 σ H k r _ fun b H1 M1 k1 e1 p => by
  cases b with
  | true => exact (show WT K u as M1 PT from p) S H0 σ H1 k1 (r.mono e1) _ fun c H2 M2 k2 e2 p2 => q c H2 M2 k2 (e1.trans e2) p2
  | false => exact q false H1 M1 k1 e1 p
theorem wt_or (h : WT K t as M fun b M1 => if b = true then PT true M1 else WT K u as M1 PT) : WT K (tOr t u) as M PT := fun S H0 σ H k r Q q => h S H0 σ H k r _ fun b H1 M1 k1 e1 p => by
  cases b with
  | false => exact (show WT K u as M1 PT from p) S H0 σ H1 k1 (r.mono e1) _ fun c H2 M2 k2 e2 p2 => q c H2 M2 k2 (e1.trans e2) p2
  | true => exact q true H1 M1 k1 e1 p
theorem w_andV (h : W K ta as M fun d M1 => ∃ b, d = .bool b ∧ if b = true then W K tb as M1 P else P (.bool false) M1) : W K (tAndV ta tb) as M P := fun S H0 σ H k r Q q =>
  h S H0 σ H k r _ fun v H1 d M1 k1 e1 b1 ⟨b, ed, p⟩ => by
    subst ed; cases b1
    refine ⟨b, rfl, ?_⟩
    cases b with
    | true => exact (show W K tb as M1 P from p) S H0 σ H1 k1 (r.mono e1) _ fun v H2 d M2 k2 e2 b2 p2 => q v H2 d M2 k2 (e1.trans e2) b2 p2
    | false => exact q _ H1 _ M1 k1 e1 (.bl false) p
theorem w_orV (h : W K ta as M fun d M1 => ∃ b, d = .bool b ∧ if b = true then P (.bool true) M1 else W K tb as M1 P) : W K (tOrV ta tb) as M P := fun S H0 σ H k r Q q =>
  h S H0 σ H k r _ fun v H1 d M1 k1 e1 b1 ⟨b, ed, p⟩ => by
    subst ed; cases b1
    refine ⟨b, rfl, ?_⟩
    cases b with
    | false => exact (show W K tb as M1 P from p) S H0 σ H1 k1 (r.mono e1) _ fun v H2 d M2 k2 e2 b2 p2 => q v H2 d M2 k2 (e1.trans e2) b2 p2
    | true => exact q _ H1 _ M1 k1 e1 (.bl true) p
theorem w_notV (h : W K ta as M fun d M1 => ∃ b, d = .bool b ∧ P (.bool (!b)) M1) : W K (tNotV ta) as M P := fun S H0 σ H k r Q q =>
  h S H0 σ H k r _ fun v H1 d M1 k1 e1 b1 ⟨b, ed, p⟩ => by subst ed; cases b1; exact ⟨b, rfl, q _ H1 _ M1 k1 e1 (.bl _) p⟩
theorem w_ite (h : WT K t as M fun b M1 => if b = true then W K ta as M1 P else W K tb as M1 P) : W K (tIf t ta tb) as M P := fun S H0 σ H k r Q q => h S H0 σ H k r _ fun b H1 M1 k1 e1 p => by
  cases b with
  | true => exact (show W K ta as M1 P from p) S H0 σ H1 k1 (r.mono e1) _ fun v H2 d M2 k2 e2 b2 p2 => q v H2 d M2 k2 (e1.trans e2) b2 p2
  | false => exact (show W K tb as M1 P from p) S H0 σ H1 k1 (r.mono e1) _ fun v H2 d M2 k2 e2 b2 p2 => q v H2 d M2 k2 (e1.trans e2) b2 p2
theorem wo_none {P : Option Int → Mm → Prop} (p : P none M) : WO K tNoPart as M P := fun S H0 σ H k r Q q => q none H M k (Same.refl _) p
theorem wo_some {P : Option Int → Mm → Prop} (h : W K te as M fun d M' => ∃ i, d = .int i ∧ P (some i) M') : WO K (tPart te) as M P := fun S H0 σ H k r Q q =>
  h S H0 σ H k r _ fun v H1 d M1 k1 e1 b1 ⟨i, ed, p⟩ => by subst ed; cases b1; exact ⟨i, rfl, q _ H1 M1 k1 e1 p⟩
/-! statements -/
variable {A : AE} {s1 s2 : TS}
theorem ws_next (p : A.nx as M) : WS K tNext as M A := fun S H0 σ H D k r n _ _ _ => n σ H as M k r (Same.refl _) p
theorem ws_never (h : False) : WS K tNever as M A := h.elim
theorem ws_seq (h : WS K s1 as M { A with nx := fun as' M' => WS K s2 as' M' A }) : WS K (tSeq s1 s2) as M A := fun S H0 σ H D k r n rt b c =>
  h S H0 σ H { D with nx := s2 D } k r (fun σ' H' as' M' k' r' e' p => p S H0 σ' H' D k' r' (fun σ'' H'' as'' M'' k'' r'' e'' => n σ'' H'' as'' M'' k'' r'' (e'.trans e'')) rt
    (fun σ'' H'' as'' M'' k'' r'' e'' => b σ'' H'' as'' M'' k'' r'' (e'.trans e'')) (fun σ'' H'' as'' M'' k'' r'' e'' => c σ'' H'' as'' M'' k'' r'' (e'.trans e''))) rt b c
theorem ws_set {i : Nat} (h : W K te as M fun d M' => A.nx (as.set i (.dat d)) M') : WS K (tAsg te (gName i)) as M A := fun S H0 σ H D k r n _ _ _ =>
  h S H0 σ H k r _ fun v H1 d M1 k1 e1 b1 p => n _ H1 (as.set i (.dat d)) M1 k1 ((r.mono e1).set i (s := .dat d) ⟨v, rfl, b1⟩) e1 p
theorem ws_ret (h : W K te as M A.rt) : WS K (tRet te) as M A := fun S H0 σ H D k r _ rt _ _ => h S H0 σ H k r _ fun v H1 d M1 k1 e1 b1 p => rt v H1 d M1 k1 b1 p
theorem ws_retN (p : A.rt .none M) : WS K tRetN as M A := fun S H0 σ H D k r _ rt _ _ => rt .non H .none M k .non p
theorem ws_drop (h : W K te as M fun _ M' => A.nx as M') : WS K (tDrop te) as M A := fun S H0 σ H D k r n _ _ _ =>
  h S H0 σ H k r _ fun v H1 d M1 k1 e1 b1 p => n σ H1 as M1 k1 (r.mono e1) e1 p
theorem ws_if (h : WT K t as M fun b M' => if b = true then WS K s1 as M' A else WS K s2 as M' A) : WS K (tIfS t s1 s2) as M A := fun S H0 σ H D k r n rt bb cc => h S H0 σ H k r _ fun b H1 M1 k1 e1 p => by
  have go : ∀ s, WS K s as M1 A → s D σ H1 := fun s hs => hs S H0 σ H1 D k1 (r.mono e1) (fun σ'' H'' as'' M'' k'' r'' e'' => n σ'' H'' as'' M'' k'' r'' (e1.trans e'')) rt
    (fun σ'' H'' as'' M'' k'' r'' e'' => bb σ'' H'' as'' M'' k'' r'' (e1.trans e'')) (fun σ'' H'' as'' M'' k'' r'' e'' => cc σ'' H'' as'' M'' k'' r'' (e1.trans e''))
  cases b with
  | true => exact go s1 p
  | false => exact go s2 p
theorem ws_break (p : A.bk as M) : WS K tBreak as M A := fun S H0 σ H D k r _ _ b _ => b σ H as M k r (Same.refl _) p
theorem ws_cont (p : A.ct as M) : WS K tCont as M A := fun S H0 σ H D k r _ _ _ c => c σ H as M k r (Same.refl _) p
/-- a, b = x, y -/
theorem ws_par {i j : Nat} {ta : TA} (h : WA K ta as M fun ss M' => ∃ a b, ss = [a, b] ∧ A.nx ((as.set i a).set j b) M') : WS K (tPar i j ta) as M A := fun S H0 σ H D k r n _ _ _ =>
  h S H0 σ H k r _ fun vs H1 ss M1 k1 e1 b1 ⟨a, b, es, p⟩ => by
    subst es
    match vs, b1 with
    | [v, w], ⟨q1, q2, _⟩ => exact ⟨v, w, rfl, n _ H1 _ M1 k1 (((r.mono e1).set i q1).set j q2) e1 p⟩
end
end Ab

set_option Elab.async false
set_option linter.all false
set_option maxRecDepth 100000
set_option maxHeartbeats 4000000
namespace Ab
open PySem PySem.Spec PyProof.Rows L2

/-! ### own lists -/
def mset (M : Mm) (p : Addr) (xs : List PyData) : Mm := M.map fun q => if q.1 = p then (p, q.2.1, xs) else q
def mdel (M : Mm) (p : Addr) : Mm := M.filter fun q => !(q.1 == p)
section
variable {K : PySem.W.Frag} {S : Sy} {H0 H H' : Hp} {σ : L2.St} {as : List Sv} {M : Mm} {p : Addr} {fl : Bool} {xs ys : List PyData} {vs ws : List V}
theorem mset_fst : ∀ M : Mm, (mset M p xs).map (·.1) = M.map (·.1)
  | [] => rfl
  | q :: M => by
    have ih := mset_fst M
    unfold mset at ih ⊢
    rw [List.map_cons, List.map_cons, List.map_cons, ih]
    by_cases e : q.1 = p
    · rw [if_pos e, e]
    · rw [if_neg e]
theorem any_fst {M N : Mm} (h : M.map (·.1) = N.map (·.1)) (a : Addr) : (M.any fun q => q.1 == a) = N.any fun q => q.1 == a := by
  have e1 : ∀ L : Mm, (L.any fun q => q.1 == a) = (L.map (·.1)).any fun b => b == a := fun L => by rw [List.any_map]; rfl
  rw [e1, e1, h]
theorem bm_set : Bm S (mset M p xs) = Bm S M := by
  funext a
  unfold Bm
  rw [any_fst (mset_fst M)]
theorem mem_uniq : ∀ {M : Mm}, (M.map (·.1)).Nodup → ∀ {q r : Addr × Bool × List PyData}, q ∈ M → r ∈ M → q.1 = r.1 → q = r
  | [], _, _, _, h, _, _ => by cases h
  | m :: M, nd, q, r, hq, hr, e => by
    rw [List.map_cons, List.nodup_cons] at nd
    rcases List.mem_cons.mp hq with e1 | hq2
    · rcases List.mem_cons.mp hr with e2 | hr2
      · rw [e1, e2]
      · exact absurd (by rw [← e1, e]; exact List.mem_map_of_mem hr2) nd.1
    · rcases List.mem_cons.mp hr with e2 | hr2
      · exact absurd (by rw [← e2, ← e]; exact List.mem_map_of_mem hq2) nd.1
      · exact mem_uniq nd.2 hq2 hr2 e
theorem own_bm (hm : (p, fl, xs) ∈ M) : Bm S M p = true := by
  unfold Bm
  rw [Bool.or_eq_true]
  exact .inr (List.any_eq_true.mpr ⟨_, hm, by simp⟩)
theorem gh_write (hm : (p, fl, xs) ∈ M) {o : HO} : Gh S (mset M p ys) (upd H p o) = Gh S M H := by
  unfold Gh
  rw [bm_set]
  funext a
  by_cases e : Bm S M a = true
  · rw [hide_t e, hide_t e]
  · have e' : Bm S M a = false := by simpa using e
    rw [hide_f e', hide_f e', upd_ne (fun z => by rw [z, own_bm hm] at e'; cases e')]
theorem ok_write (k : Ok0 K S H0 H M) (hm : (p, fl, xs) ∈ M) (hd : DpAll K (Gh S M H) ws ys) : Ok0 K S H0 (upd H p (.lst ws)) (mset M p ys) := by
  obtain ⟨vs, hp, hv⟩ := k.mem _ hm
  have hp : H p = some (.lst vs) := hp
  have lc := k.loc _ hm
  have ge : Hide (Bm S (mset M p ys)) (upd H p (.lst ws)) = Hide (Bm S M) H := gh_write hm
  refine ⟨fun a o e1 e2 => ?_, ?_, by rw [mset_fst]; exact k.nd, fun q hq => ?_, fun q hq => ?_⟩
  · have ne : a ≠ p := fun z => by
      subst z
      cases fl with
      | true => rw [(lc.1 rfl).2] at e2; cases e2
      | false => have z := (lc.2 rfl).1; rw [e1] at z; cases z
    rw [upd_ne ne]
    exact k.xt a o e1 e2
  · cases fl with
    | true => exact S.mono H _ (fun a o e1 e2 => by rw [upd_ne (fun z => by subst z; have z := (lc.1 rfl).1; rw [e1] at z; cases z)]; exact e2) k.inv
    | false => exact (lc.2 rfl).2 H vs ws k.inv hp
  · obtain ⟨r, hr, e⟩ := List.mem_map.mp hq
    have lr := k.loc r hr
    by_cases z : r.1 = p
    · rw [if_pos z] at e
      subst e
      rw [z] at lr
      exact lr
    · rw [if_neg z] at e
      subst e
      exact lr
  · obtain ⟨r, hr, e⟩ := List.mem_map.mp hq
    rw [ge]
    by_cases z : r.1 = p
    · rw [if_pos z] at e
      subst e
      exact ⟨ws, upd_same, hd⟩
    · rw [if_neg z] at e
      subst e
      obtain ⟨us, a, b⟩ := k.mem r hr
      exact ⟨us, by rw [upd_ne z]; exact a, b⟩
theorem same_own (k : Ok0 K S H0 H M) (hp : H p = none) {o : HO} : Same (Gh S M H) (Gh S ((p, fl, xs) :: M) (upd H p o)) := fun a u e => by
  obtain ⟨e1, e2⟩ := hide_some e
  have ne : a ≠ p := ne_of_none e2 hp
  have e3 : Bm S ((p, fl, xs) :: M) a = false := by
    rw [bm_false] at e1 ⊢
    refine ⟨e1.1, fun q hq => ?_⟩
    rcases List.mem_cons.mp hq with rfl | hq
    · exact fun z => ne z.symm
    · exact e1.2 q hq
  unfold Gh
  rw [hide_f e3, upd_ne ne]
  exact e2
theorem ok_own (k : Ok0 K S H0 H M) (hp : H p = none) (hd : DpAll K (Gh S M H) vs xs) : Ok0 K S H0 (upd H p (.lst vs)) ((p, true, xs) :: M) := by
  have nb := bm_false.mp (new_hid k hp)
  have sm : Same (Gh S M H) (Gh S ((p, true, xs) :: M) (upd H p (.lst vs))) := same_own k hp
  have k2 := ok_new (o := .lst vs) k hp
  refine ⟨k2.xt, k2.inv, ?_, fun q hq => ?_, fun q hq => ?_⟩
  · rw [List.map_cons, List.nodup_cons]
    refine ⟨fun z => ?_, k.nd⟩
    obtain ⟨q, hq, e⟩ := List.mem_map.mp z
    exact nb.2 q hq e
  · rcases List.mem_cons.mp hq with rfl | hq
    · refine ⟨fun _ => ⟨nb.1, ?_⟩, fun z => by cases z⟩
      cases e : H0 p with
      | none => rfl
      | some o => have z := k.xt p o nb.1 e; rw [hp] at z; cases z
    · exact k.loc q hq
  · rcases List.mem_cons.mp hq with rfl | hq
    · exact ⟨vs, upd_same, dps_mono sm _ _ hd⟩
    · obtain ⟨us, a, b⟩ := k.mem q hq
      exact ⟨us, by rw [upd_ne (ne_of_none a hp)]; exact a, dps_mono sm _ _ b⟩
variable {A : AE} {te : TE} {ta : TA}
theorem ws_new {i : Nat} (h : WA K ta as M fun ss M' => ∃ ds : List PyData, ss = ds.map .dat ∧ ds.length ≤ 100000 ∧ ∀ a, (∀ q ∈ M', q.1 ≠ a) → A.nx (as.set i (.own a)) ((a, true, ds) :: M')) : WS K (tAsg (tLst ta) (gName i)) as M A := fun S H0 σ H D k r n _ _ _ =>
  h S H0 σ H k r _ fun vs H1 ss M1 k1 e1 b1 ⟨ds, es, hl, p⟩ => by
    subst es
    have bd := ra_dat b1
    refine ⟨sz_of (by rw [dps_len bd]; exact hl), fun a ha => ?_⟩
    have sm : Same (Gh S M1 H1) (Gh S ((a, true, ds) :: M1) (upd H1 a (.lst vs))) := same_own k1 ha
    exact n _ _ (as.set i (.own a)) _ (ok_own k1 ha bd) (((r.mono e1).mono sm).set i (s := .own a) rfl) (e1.trans sm) (p a (bm_false.mp (new_hid k1 ha)).2)
theorem tyl (k : Ok0 K S H0 H M) (hm : (p, fl, xs) ∈ M) : tyV K "list" (.ref p) H := by
  obtain ⟨vs, hp, _⟩ := k.mem _ hm
  exact Or.inl ⟨rfl, vs, SqL.of hp⟩
theorem ws_app {i : Nat} (hi : as[i]? = some (.own p)) (hm : (p, fl, xs) ∈ M) (h : W K te as M fun d M' => ∃ fl' ys, (p, fl', ys) ∈ M' ∧ ys.length < 100000 ∧ A.nx as (mset M' p (ys ++ [d]))) :
    WS K (tDrop (tBM K "list" rAppend (tVar i) (tCons te tNil))) as M A := fun S H0 σ H D k r n _ _ _ => by
  obtain ⟨o, e1, e2⟩ := r.at_ i _ hi
  cases (show o = some (V.ref p) from e2)
  refine ⟨.ref p, e1, tyl k hm, h S H0 σ H k r _ fun v H1 d M1 k1 e1 b1 ⟨fl', ys, hy, hl, q⟩ => ?_⟩
  obtain ⟨us, hp, hu⟩ := k1.mem _ hy
  refine ⟨p, us, v, rfl, rfl, hp, Nat.lt_of_lt_of_le (by rw [dps_len hu]; exact hl) (by decide), ?_⟩
  have ge : Gh S (mset M1 p (ys ++ [d])) (upd H1 p (.lst (us ++ [v]))) = Gh S M1 H1 := gh_write hy
  have k2 := ok_write (ws := us ++ [v]) (ys := ys ++ [d]) k1 hy (dps_app hu (.cons b1 .nil))
  exact n σ _ as _ k2 (by rw [ge]; exact r.mono e1) (by rw [ge]; exact e1) q
theorem ws_pop {i j : Nat} {d : PyData} (hi : as[i]? = some (.own p)) (hm : (p, fl, xs) ∈ M) (hl : xs[xs.length - 1]? = some d) (h : A.nx (as.set j (.dat d)) (mset M p xs.dropLast)) :
    WS K (tAsg (tBM0 K "list" rPop (tVar i)) (gName j)) as M A := fun S H0 σ H D k r n _ _ _ => by
  obtain ⟨o, e1, e2⟩ := r.at_ i _ hi
  cases (show o = some (V.ref p) from e2)
  obtain ⟨us, hp, hu⟩ := k.mem _ hm
  obtain ⟨v, hv, hvd⟩ := dps_at hu hl
  have ge : Gh S (mset M p xs.dropLast) (upd H p (.lst us.dropLast)) = Gh S M H := gh_write hm
  have k2 := ok_write (ws := us.dropLast) (ys := xs.dropLast) k hm (dps_dropLast hu)
  refine ⟨.ref p, e1, tyl k hm, p, us, v, rfl, rfl, hp, by rw [dps_len hu]; exact hv, ?_⟩
  exact n _ _ (as.set j (.dat d)) _ k2 (by rw [ge]; exact r.set j (s := .dat d) ⟨v, rfl, hvd⟩) (by rw [ge]; exact Same.refl _) h
theorem wt_own {i : Nat} {PT : Bool → Mm → Prop} (hi : as[i]? = some (.own p)) (hm : (p, fl, xs) ∈ M) (h : PT (!xs.isEmpty) M) : WT K (tTru K (tVar i)) as M PT := fun S H0 σ H k r Q q => by
  obtain ⟨o, e1, e2⟩ := r.at_ i _ hi
  cases (show o = some (V.ref p) from e2)
  obtain ⟨us, hp, hu⟩ := k.mem _ hm
  have el : us.isEmpty = xs.isEmpty := by
    have := dps_len hu
    cases us <;> cases xs <;> simp at this ⊢
  exact ⟨.ref p, e1, !us.isEmpty, Or.inl ⟨us, SqL.of hp, rfl⟩, by rw [el]; exact q _ H M k (Same.refl _) h⟩
/-- an own list of the def's is read from here on -/
def afrz (p : Addr) (xs : List PyData) : Sv → Sv
  | .own a => if a = p then .dat (.list xs) else .own a
  | s => s
theorem ws_frz {ts : TS} (hm : (p, true, xs) ∈ M) (h : WS K ts (as.map (afrz p xs)) (mdel M p) A) : WS K ts as M A := fun S H0 σ H D k r n rt b c => by
  obtain ⟨us, hp, hu⟩ := k.mem _ hm
  have hp : H p = some (.lst us) := hp
  have sb := (k.loc _ hm).1 rfl
  have sub : ∀ q ∈ mdel M p, q ∈ M ∧ q.1 ≠ p := fun q hq => by
    have z := List.mem_filter.mp hq
    exact ⟨z.1, by simpa using z.2⟩
  have bmp : Bm S (mdel M p) p = false := bm_false.mpr ⟨sb.1, fun q hq => (sub q hq).2⟩
  have sm : Same (Gh S M H) (Gh S (mdel M p) H) := fun a o e => by
    obtain ⟨e1, e2⟩ := hide_some e
    rw [bm_false] at e1
    unfold Gh
    rw [hide_f (bm_false.mpr ⟨e1.1, fun q hq => e1.2 q (sub q hq).1⟩)]
    exact e2
  have k2 : Ok0 K S H0 H (mdel M p) := ⟨k.xt, k.inv, (List.filter_sublist.map _).nodup k.nd, fun q hq => k.loc q (sub q hq).1, fun q hq => by
    obtain ⟨ws, a, b⟩ := k.mem q (sub q hq).1
    exact ⟨ws, a, dps_mono sm _ _ b⟩⟩
  have hg : Gh S (mdel M p) H p = some (.lst us) := by unfold Gh; rw [hide_f bmp]; exact hp
  have r2 : Rs K (Gh S (mdel M p) H) σ (as.map (afrz p xs)) := ⟨by rw [List.length_map]; exact r.len, fun i s q => by
    rw [List.getElem?_map] at q
    cases e : as[i]? with
    | none => rw [e] at q; cases q
    | some t =>
      rw [e] at q
      cases q
      obtain ⟨o, e1, e2⟩ := r.at_ i t e
      refine ⟨o, e1, ?_⟩
      cases t with
      | dat d => exact RSv.mono sm (s := .dat d) e2
      | no => trivial
      | obj a C fs => exact RSv.mono sm (s := .obj a C fs) e2
      | own a =>
        show RSv K _ o (if a = p then .dat (.list xs) else .own a)
        by_cases z : a = p
        · rw [if_pos z]
          subst z
          exact ⟨.ref a, e2, .lst (SqL.of hg) (dps_mono sm _ _ hu)⟩
        · rw [if_neg z]
          exact e2⟩
  exact h S H0 σ H D k2 r2 (fun σ' H' as' M' k' r' e' => n σ' H' as' M' k' r' (sm.trans e')) rt (fun σ' H' as' M' k' r' e' => b σ' H' as' M' k' r' (sm.trans e')) (fun σ' H' as' M' k' r' e' => c σ' H' as' M' k' r' (sm.trans e'))
end

/-! ### calls -/
def spP (pre : List PyData → Prop) (post : List PyData → PyData → Prop) (K : PySem.W.Frag) : Sp := fun vs H Q _ => ∃ (S : Sy) (ds : List PyData), S.I H ∧ pre ds ∧ DpAll K (Hide S.B H) vs ds ∧
  ∀ v H' d, (∀ a o, S.B a = false → H a = some o → H' a = some o) → S.I H' → Dp K (Hide S.B H') v d → post ds d → Q v H'
def syAt (S : Sy) (M : Mm) (H1 : Hp) (h : ∀ q ∈ M, H1 q.1 ≠ none) : Sy where
  B := Bm S M
  I := fun H => S.I H ∧ ∀ q ∈ M, H q.1 = H1 q.1
  mono := fun H H' e i => ⟨S.mono H H' (fun a o e1 e2 => e a o (by unfold Bm; rw [e1]; rfl) e2) i.1, fun q hq => by
    have e2 := i.2 q hq
    cases e3 : H1 q.1 with
    | none => exact absurd e3 (h q hq)
    | some o => rw [e3] at e2; exact e _ o (by unfold Bm; rw [Bool.or_eq_true]; exact .inr (List.any_eq_true.mpr ⟨q, hq, by simp⟩)) e2⟩
  trk := fun H a i e => by
    rcases (Bool.or_eq_true _ _).mp e with e | e
    · exact S.trk H a i.1 e
    · obtain ⟨q, hq, z⟩ := List.any_eq_true.mp e
      have z : q.1 = a := by simpa using z
      rw [← z, i.2 q hq]
      exact h q hq
def syP (S : Sy) (p : Addr) (fl : Bool) (pl : List PyData) : Sy where
  B := Bm S [(p, fl, pl)]
  I := fun H => S.I H ∧ ∃ l, H p = some (.lst l)
  mono := fun H H' e i => ⟨S.mono H H' (fun a o e1 e2 => e a o (by unfold Bm; rw [e1]; rfl) e2) i.1, (by
    obtain ⟨l, e2⟩ := i.2
    exact ⟨l, e p _ (own_bm (List.mem_singleton.mpr rfl)) e2⟩)⟩
  trk := fun H a i e => by
    rcases (Bool.or_eq_true _ _).mp e with e | e
    · exact S.trk H a i.1 e
    · have z : p = a := by simpa using e
      obtain ⟨l, e2⟩ := i.2
      rw [← z, e2]; simp
def poolD (l : List PyData) : Prop := ∃ b s c : Int, l = [.int b, .int s, .int c] ∧ 0 ≤ b ∧ 0 ≤ s ∧ s < 2147483647 ∧ 0 ≤ c
def spQ (pre : List PyData → Prop) (post : List PyData → PyData → Prop) (K : PySem.W.Frag) : Sp := fun vs H Q _ => ∃ (S : Sy) (p : Addr) (ws : List V) (ds : List PyData) (l : List V) (pl : List PyData), vs = .ref p :: ws ∧ S.I H ∧ S.B p = true ∧ Stb S p ∧
  H p = some (.lst l) ∧ DpAll K (Hide S.B H) l pl ∧ poolD pl ∧ pre ds ∧ DpAll K (Hide S.B H) ws ds ∧
  ∀ v H' d l' pl', (∀ a o, S.B a = false → H a = some o → H' a = some o) → S.I H' → H' p = some (.lst l') → DpAll K (Hide S.B H') l' pl' → poolD pl' → Dp K (Hide S.B H') v d → post ds d → Q v H'
section
variable {K : PySem.W.Frag} {as : List Sv} {M : Mm} {ta : TA} {pre : List PyData → Prop} {post : List PyData → PyData → Prop} {P : PyData → Mm → Prop} {E : XK}
theorem gh_any {S : Sy} {H H' : Hp} (x : ∀ a o, Bm S M a = false → H a = some o → H' a = some o) : Same (Gh S M H) (Gh S M H') := fun a o e => by
  obtain ⟨e1, e2⟩ := hide_some e
  unfold Gh
  rw [hide_f e1]
  exact x a o e1 e2
theorem w_call (h : WA K ta as M fun ss M1 => ∃ ds : List PyData, ss = ds.map .dat ∧ pre ds ∧ ∀ d, post ds d → P d M1) : W K (tCall (spP pre post K) [] E ta) as M P := fun S H0 σ H k r Q q =>
  h S H0 σ H k r _ fun vs H1 ss M1 k1 e1 b1 ⟨ds, es, hp, p⟩ => by
    subst es
    rw [List.append_nil]
    refine ⟨syAt S M1 H1 fun z hz => by obtain ⟨us, a, _⟩ := k1.mem z hz; rw [a]; simp, ds, ⟨k1.inv, fun _ _ => rfl⟩, hp, ra_dat b1, fun v H' d xt iv dp pd => ?_⟩
    have sm : Same (Gh S M1 H1) (Gh S M1 H') := gh_any xt
    refine q v H' d M1 ⟨fun a o e3 e4 => ?_, iv.1, k1.nd, k1.loc, fun z hz => ?_⟩ (e1.trans sm) dp (p d pd)
    · have e5 := k1.xt a o e3 e4
      by_cases e6 : Bm S M1 a = false
      · exact xt a o e6 e5
      · have e7 : Bm S M1 a = true := by simpa using e6
        rcases (Bool.or_eq_true _ _).mp e7 with e | e
        · rw [e3] at e; cases e
        · obtain ⟨z, hz, y⟩ := List.any_eq_true.mp e
          have y : z.1 = a := by simpa using y
          rw [← y, iv.2 z hz, y]
          exact e5
    · obtain ⟨us, a, b⟩ := k1.mem z hz
      exact ⟨us, by rw [iv.2 z hz]; exact a, dps_mono sm _ _ b⟩
theorem w_callQ (h : WA K ta as M fun ss M1 => ∃ (p : Addr) (fl : Bool) (pl ds : List PyData), ss = .own p :: ds.map .dat ∧ M1 = [(p, fl, pl)] ∧ poolD pl ∧ pre ds ∧ ∀ d pl', poolD pl' → post ds d → P d [(p, fl, pl')]) :
    W K (tCall (spQ pre post K) [] E ta) as M P := fun S H0 σ H k r Q q =>
  h S H0 σ H k r _ fun vs H1 ss M1 k1 e1 b1 ⟨p, fl, pl, ds, es, em, hpl, hp, cont⟩ => by
    subst es em
    rw [List.append_nil]
    match vs, b1 with
    | v0 :: ws, ⟨q1, q2⟩ =>
      cases (show some v0 = some (V.ref p) from q1)
      have hm : (p, fl, pl) ∈ [(p, fl, pl)] := List.mem_singleton.mpr rfl
      obtain ⟨us, hus, hud⟩ := k1.mem _ hm
      have hus : H1 p = some (.lst us) := hus
      have lc := k1.loc _ hm
      let S' : Sy := syP S p fl pl
      have stb : Stb S' p := fun H l l' i hl => ⟨by
        cases fl with
        | true => exact S.mono H _ (fun a o y1 y2 => by rw [upd_ne (fun z => by have w := (lc.1 rfl).1; rw [z] at y1; rw [show S.B p = true from y1] at w; cases w)]; exact y2) i.1
        | false => exact (lc.2 rfl).2 H l l' i.1 hl, ⟨l', upd_same⟩⟩
      refine ⟨S', p, ws, ds, us, pl, rfl, ⟨k1.inv, us, hus⟩, own_bm hm, stb, hus, hud, hpl, hp, ra_dat q2, fun v H' d l' pl' xt iv hl' hd' hpl' dp pd => ?_⟩
      have be : Bm S [(p, fl, pl')] = Bm S [(p, fl, pl)] := rfl
      have sm : Same (Gh S [(p, fl, pl)] H1) (Gh S [(p, fl, pl')] H') := fun a o e => by
        obtain ⟨e1, e2⟩ := hide_some e
        unfold Gh
        rw [be, hide_f e1]
        exact xt a o e1 e2
      refine q v H' d [(p, fl, pl')] ⟨fun a o e3 e4 => ?_, iv.1, by simp, fun z hz => ?_, fun z hz => ?_⟩ (e1.trans sm) dp (cont d pl' hpl' pd)
      · have e5 := k1.xt a o e3 e4
        refine xt a o ?_ e5
        refine bm_false.mpr ⟨e3, fun z hz => ?_⟩
        have z1 := List.mem_singleton.mp hz
        subst z1
        intro z2
        have z2 : p = a := z2
        subst z2
        cases fl with
        | true => rw [(lc.1 rfl).2] at e4; cases e4
        | false => have z := (lc.2 rfl).1; rw [e3] at z; cases z
      · have z1 := List.mem_singleton.mp hz
        subst z1
        exact lc
      · have z1 := List.mem_singleton.mp hz
        subst z1
        exact ⟨l', hl', hd'⟩
theorem bm_nil {S : Sy} : Bm S [] = S.B := by
  funext a
  unfold Bm
  simp
/-- a def of data keeps its word -/
theorem to_spP {t : TS} {N : List Str} {vs : List V} {H : Hp} {Q : VK} {n : Nat} (hn : ∀ ds, pre ds → ds.length = n) (hb : ∀ ds, pre ds → WS K t (ds.map .dat ++ List.replicate (N.length - n) .no) [] ⟨fun _ _ => post ds .none, fun d _ => post ds d, fun _ _ => False, fun _ _ => False⟩)
    (h : spP pre post K vs H Q E) : t { nx := fun _ H' => Q .non H', rt := Q } (L2.start N vs) H := by
  obtain ⟨S, ds, iv, hp, hd, q⟩ := h
  have ln : vs.length = n := by rw [dps_len hd]; exact hn ds hp
  have k0 : Ok0 K S H H [] := ⟨fun _ _ _ e => e, iv, List.nodup_nil, (fun z hz => by cases hz), (fun z hz => by cases hz)⟩
  have hg : Gh S [] H = Hide S.B H := by unfold Gh; rw [bm_nil]
  have r0 : Rs K (Gh S [] H) (L2.start N vs) (ds.map .dat ++ List.replicate (N.length - n) .no) := by
    unfold L2.start
    rw [ln, hg]
    exact ra_start _ (dat_ra hd)
  have fin : ∀ v H' d M', Ok0 K S H H' M' → Dp K (Gh S M' H') v d → post ds d → Q v H' := fun v H' d M' k' dp pd => by
    refine q v H' d k'.xt k'.inv (dp_mono (fun a o e => ?_) _ _ dp) pd
    obtain ⟨e1, e2⟩ := hide_some e
    rw [hide_f (bm_false.mp e1).1]
    exact e2
  exact hb ds hp S H (L2.start N vs) H _ k0 r0 (fun σ' H' as' M' k' _ _ p => fin .non H' .none M' k' .non p) (fun v H' d M' k' dp p => fin v H' d M' k' dp p) (fun _ _ _ _ _ _ _ p => p.elim) (fun _ _ _ _ _ _ _ p => p.elim)
theorem to_spQ {t : TS} {N : List Str} {vs : List V} {H : Hp} {Q : VK} {n : Nat} (hn : ∀ ds, pre ds → ds.length = n) (hb : ∀ p pl ds, poolD pl → pre ds → WS K t (.own p :: ds.map .dat ++ List.replicate (N.length - (n + 1)) .no) [(p, false, pl)]
      ⟨fun _ M => ∃ pl', M = [(p, false, pl')] ∧ poolD pl' ∧ post ds .none, fun d M => ∃ pl', M = [(p, false, pl')] ∧ poolD pl' ∧ post ds d, fun _ _ => False, fun _ _ => False⟩)
    (h : spQ pre post K vs H Q E) : t { nx := fun _ H' => Q .non H', rt := Q } (L2.start N vs) H := by
  obtain ⟨S, p, ws, ds, l, pl, ev, iv, hB, stb, hl, hld, hpl, hp, hd, q⟩ := h
  subst ev
  have ln : ws.length = n := by rw [dps_len hd]; exact hn ds hp
  have hm : (p, false, pl) ∈ [(p, false, pl)] := List.mem_singleton.mpr rfl
  have be : ∀ pl' : List PyData, Bm S [(p, false, pl')] = S.B := fun pl' => by
    funext a
    unfold Bm
    cases e : S.B a with
    | true => rfl
    | false =>
      have : (p == a) = false := by
        rw [beq_eq_false_iff_ne]
        intro z
        rw [← z, hB] at e
        cases e
      simp [this]
  have k0 : Ok0 K S H H [(p, false, pl)] := ⟨fun _ _ _ e => e, iv, by simp, fun z hz => by
    have z1 := List.mem_singleton.mp hz
    subst z1
    exact ⟨(fun z => by cases z), fun _ => ⟨hB, stb⟩⟩, fun z hz => by
    have z1 := List.mem_singleton.mp hz
    subst z1
    exact ⟨l, hl, by rw [be]; exact hld⟩⟩
  have r0 : Rs K (Gh S [(p, false, pl)] H) (L2.start N (.ref p :: ws)) (.own p :: ds.map .dat ++ List.replicate (N.length - (n + 1)) .no) := by
    unfold L2.start Gh
    rw [be, List.length_cons, ln]
    exact ra_start (vs := .ref p :: ws) (ss := .own p :: ds.map .dat) _ ⟨rfl, dat_ra hd⟩
  have fin : ∀ v H' d M', Ok0 K S H H' M' → Dp K (Gh S M' H') v d → (∃ pl', M' = [(p, false, pl')] ∧ poolD pl' ∧ post ds d) → Q v H' := fun v H' d M' k' dp ⟨pl', em, hpl', pd⟩ => by
    subst em
    obtain ⟨l', hl', hd'⟩ := k'.mem _ (List.mem_singleton.mpr rfl)
    unfold Gh at dp
    rw [be] at dp hd'
    exact q v H' d l' pl' k'.xt k'.inv hl' hd' hpl' dp pd
  exact hb p pl ds hpl hp S H _ H _ k0 r0 (fun σ' H' as' M' k' _ _ p => fin .non H' .none M' k' .non p) (fun v H' d M' k' dp p => fin v H' d M' k' dp p) (fun _ _ _ _ _ _ _ p => p.elim) (fun _ _ _ _ _ _ _ p => p.elim)
theorem spP_len {vs : List V} {H : Hp} {Q : VK} {n : Nat} (hn : ∀ ds, pre ds → ds.length = n) (h : spP pre post K vs H Q E) : vs.length = n := by
  obtain ⟨S, ds, _, hp, hd, _⟩ := h
  rw [dps_len hd]; exact hn ds hp
theorem spQ_len {vs : List V} {H : Hp} {Q : VK} {n : Nat} (hn : ∀ ds, pre ds → ds.length = n) (h : spQ pre post K vs H Q E) : vs.length = n + 1 := by
  obtain ⟨S, p, ws, ds, l, pl, ev, _, _, _, _, _, _, hp, hd, _⟩ := h
  rw [ev, List.length_cons, dps_len hd, hn ds hp]
end
end Ab

set_option Elab.async false
set_option linter.all false
set_option maxRecDepth 100000
set_option maxHeartbeats 4000000
namespace Ab
open PySem PySem.Spec PyProof.Rows L2

/-! ### what is walked -/
structure ItOk (K : PySem.W.Frag) (J : It) (G0 : Hp) (xs : List PyData) : Prop where
  go : ∀ G H i, Same G0 G → Same G H → i < xs.length → J.go i H
  yld : ∀ G H i v H', Same G0 G → Same G H → J.yld i H v H' → H' = H ∧ ∀ d, xs[i]? = some d → Dp K G v d
  stop : ∀ G H, Same G0 G → Same G H → J.stop xs.length H
def WI (K : PySem.W.Frag) (wi : TI) (as : List Sv) (M : Mm) (P : List PyData → Mm → Prop) : Prop := ∀ S H0 σ H, Ok0 K S H0 H M → Rs K (Gh S M H) σ as → ∀ R : It → Hp → Prop,
  (∀ J H' xs M', Ok0 K S H0 H' M' → Same (Gh S M H) (Gh S M' H') → ItOk K J (Gh S M' H') xs → P xs M' → R J H') → wi σ H R
/-- a list or a tuple, whichever comes -/
def iSeq (K : PySem.W.Frag) (tl : TE) : TI := fun σ H R => tl σ H fun x H1 => ∃ a, x = .ref a ∧ (((∃ xs, SqL K H1 a xs) ∧ R (Itl K a) H1) ∨ ((∃ xs, SqT K H1 a xs) ∧ R (Itt K a) H1))
theorem pi_seq {X : Cx} {tg l : Expr} {tl : TE} (hl : PE X l tl) : PI X tg l (iSeq X.K tl) := by
  refine ⟨fun pins s σ H R I h => ?_⟩
  refine thn (hl.run pins s σ H _ I h) fun v s1 ⟨x, H1, I1, r1, q1⟩ => ?_
  obtain ⟨a, e, q⟩ := q1
  subst e
  cases r1
  rcases q with ⟨⟨xs, hq⟩, q⟩ | ⟨⟨xs, hq⟩, q⟩
  · obtain ⟨its, rv, p, hz⟩ := I1.list hq
    refine wpAny_pyIter_list p.isList ?_
    refine ⟨s1.heap.objs.size, [s1.heap.objs.size], _, _, H1, rfl, I1.kept (t' := s1.toks) fun b o e => Heap.get?_push_of_some _ e, turn_list a _, ⟨_, Heap.get?_push_size _ rfl, rfl, rfl⟩, fun b hb => ?_, q⟩
    have e : b = s1.heap.objs.size := by simpa using hb
    subst e
    exact I1.fpOk (Nat.le_refl _) (I1.hok.fresh (Nat.le_refl _))
  · obtain ⟨its, rv, p, hz⟩ := I1.tuple hq
    refine wpAny_pyIter_tuple (show s1.heap.IsTuple a its.toArray from p) ?_
    refine ⟨s1.heap.objs.size, [s1.heap.objs.size], _, _, H1, rfl, I1.kept (t' := s1.toks) fun b o e => Heap.get?_push_of_some _ e, turn_tuple a _, ⟨_, Heap.get?_push_size _ rfl, rfl, rfl⟩, fun b hb => ?_, q⟩
    have e : b = s1.heap.objs.size := by simpa using hb
    subst e
    exact I1.fpOk (Nat.le_refl _) (I1.hok.fresh (Nat.le_refl _))
section
variable {K : PySem.W.Frag} {as : List Sv} {M : Mm} {tl : TE} {P : List PyData → Mm → Prop}
theorem itl_ok {a : Addr} {vs : List V} {xs : List PyData} {G0 : Hp} (h : SqL K G0 a vs) (hd : DpAll K G0 vs xs) : ItOk K (Itl K a) G0 xs := by
  have ln := dps_len hd
  refine ⟨fun G H i e1 e2 hi => ?_, fun G H i v H' e1 e2 y => ?_, fun G H e1 e2 => ?_⟩
  · exact ⟨vs, vs[i]'(by omega), e2.seq (e1.seq h), by simp [show i < vs.length by omega]⟩
  · refine ⟨y.1, fun d hx => ?_⟩
    obtain ⟨w, a1, b1⟩ := dps_at hd hx
    have z := y.2 vs (e2.seq (e1.seq h))
    rw [a1] at z
    cases z
    exact dp_mono e1 _ _ b1
  · exact ⟨vs, e2.seq (e1.seq h), by omega⟩
theorem itt_ok {a : Addr} {vs : List V} {xs : List PyData} {G0 : Hp} (h : SqT K G0 a vs) (hd : DpAll K G0 vs xs) : ItOk K (Itt K a) G0 xs := by
  have ln := dps_len hd
  refine ⟨fun G H i e1 e2 hi => ?_, fun G H i v H' e1 e2 y => ?_, fun G H e1 e2 => ?_⟩
  · exact ⟨vs, vs[i]'(by omega), seqT e2 (seqT e1 h), by simp [show i < vs.length by omega]⟩
  · refine ⟨y.1, fun d hx => ?_⟩
    obtain ⟨w, a1, b1⟩ := dps_at hd hx
    have z := y.2 vs (seqT e2 (seqT e1 h))
    rw [a1] at z
    cases z
    exact dp_mono e1 _ _ b1
  · exact ⟨vs, seqT e2 (seqT e1 h), by omega⟩
theorem itv_ok {a : Addr} {vs : List V} {xs : List PyData} {G0 : Hp} (h : SqL K G0 a vs) (hd : DpAll K G0 vs xs) : ItOk K (Itv K a vs.length) G0 xs.reverse := by
  have ln := dps_len hd
  have lr : xs.reverse.length = vs.length := by rw [List.length_reverse]; omega
  refine ⟨fun G H i e1 e2 hi => ?_, fun G H i v H' e1 e2 y => ?_, fun G H e1 e2 => ?_⟩
  · rw [lr] at hi
    exact ⟨hi, vs, vs[vs.length - 1 - i]'(by omega), e2.seq (e1.seq h), by simp [show vs.length - 1 - i < vs.length by omega]⟩
  · refine ⟨y.1, fun d hx => ?_⟩
    have hi : i < xs.length := by have := (List.getElem?_eq_some_iff.mp hx).1; rw [List.length_reverse] at this; exact this
    rw [List.getElem?_reverse hi] at hx
    obtain ⟨w, a1, b1⟩ := dps_at hd hx
    have z := y.2 vs (e2.seq (e1.seq h))
    rw [show vs.length - 1 - i = xs.length - 1 - i by omega, a1] at z
    cases z
    exact dp_mono e1 _ _ b1
  · rw [lr]; exact Nat.le_refl _
theorem itvt_ok {a : Addr} {vs : List V} {xs : List PyData} {G0 : Hp} (h : SqT K G0 a vs) (hd : DpAll K G0 vs xs) : ItOk K (RT.ItvT K a vs.length) G0 xs.reverse := by
  have ln := dps_len hd
  have lr : xs.reverse.length = vs.length := by rw [List.length_reverse]; omega
  refine ⟨fun G H i e1 e2 hi => ?_, fun G H i v H' e1 e2 y => ?_, fun G H e1 e2 => ?_⟩
  · rw [lr] at hi
    exact ⟨hi, vs, vs[vs.length - 1 - i]'(by omega), seqT e2 (seqT e1 h), by simp [show vs.length - 1 - i < vs.length by omega]⟩
  · refine ⟨y.1, fun d hx => ?_⟩
    have hi : i < xs.length := by have := (List.getElem?_eq_some_iff.mp hx).1; rw [List.length_reverse] at this; exact this
    rw [List.getElem?_reverse hi] at hx
    obtain ⟨w, a1, b1⟩ := dps_at hd hx
    have z := y.2 vs (seqT e2 (seqT e1 h))
    rw [show vs.length - 1 - i = xs.length - 1 - i by omega, a1] at z
    cases z
    exact dp_mono e1 _ _ b1
  · rw [lr]; exact Nat.le_refl _
theorem wi_seq (h : W K tl as M fun d M' => ∃ xs, (d = .list xs ∨ d = .tuple xs) ∧ P xs M') : WI K (iSeq K tl) as M P := fun S H0 σ H k r R q =>
  h S H0 σ H k r _ fun v H1 d M1 k1 e1 b1 ⟨xs, hd, p⟩ => by
    rcases hd with rfl | rfl
    · cases b1 with
      | lst hs ha => exact ⟨_, rfl, .inl ⟨⟨_, same_hide.seq hs⟩, q _ H1 xs M1 k1 e1 (itl_ok hs ha) p⟩⟩
    · cases b1 with
      | tup hs ha => exact ⟨_, rfl, .inr ⟨⟨_, seqT same_hide hs⟩, q _ H1 xs M1 k1 e1 (itt_ok hs ha) p⟩⟩
theorem wi_list (h : W K tl as M fun d M' => ∃ xs, d = .list xs ∧ P xs M') : WI K (iList K tl) as M P := fun S H0 σ H k r R q =>
  h S H0 σ H k r _ fun v H1 d M1 k1 e1 b1 ⟨xs, hd, p⟩ => by
    subst hd
    cases b1 with
    | lst hs ha => exact ⟨_, rfl, ⟨_, same_hide.seq hs⟩, q _ H1 xs M1 k1 e1 (itl_ok hs ha) p⟩
theorem wi_rev (h : W K tl as M fun d M' => ∃ xs, (d = .list xs ∨ d = .tuple xs) ∧ P xs.reverse M') : WI K (RT.iRevA K tl) as M P := fun S H0 σ H k r R q =>
  h S H0 σ H k r _ fun v H1 d M1 k1 e1 b1 ⟨xs, hd, p⟩ => by
    rcases hd with rfl | rfl
    · cases b1 with
      | lst hs ha => exact ⟨_, _, rfl, .inl ⟨same_hide.seq hs, q _ H1 _ M1 k1 e1 (itv_ok hs ha) p⟩⟩
    · cases b1 with
      | tup hs ha => exact ⟨_, _, rfl, .inr ⟨seqT same_hide hs, q _ H1 _ M1 k1 e1 (itvt_ok hs ha) p⟩⟩
theorem wi_rng {ta : TA} (h : WA K ta as M fun ss M' => ∃ n : Int, ss = [.dat (.int n)] ∧ n ≤ 1000000 ∧ -1000000 ≤ n ∧ P ((List.range n.toNat).map fun (i : Nat) => PyData.int (i : Int)) M') : WI K (iRng1 ta) as M P := fun S H0 σ H k r R q =>
  h S H0 σ H k r _ fun vs H1 ss M1 k1 e1 b1 ⟨n, es, h1, h2, p⟩ => by
    subst es
    match vs, b1 with
    | [v], ⟨⟨w, ew, dw⟩, _⟩ =>
      cases ew
      cases dw
      refine ⟨n, rfl, by omega, by omega, q _ H1 _ M1 k1 e1 ⟨fun G H i e1 e2 hi => ?_, fun G H i v H' e1 e2 y => ?_, fun G H e1 e2 => ?_⟩ p⟩
      · rw [List.length_map, List.length_range] at hi
        exact hi
      · refine ⟨y.1, fun d hx => ?_⟩
        have hi : i < n.toNat := by
          have := (List.getElem?_eq_some_iff.mp hx).1
          simpa using this
        rw [List.getElem?_map, List.getElem?_range hi] at hx
        cases hx
        rw [y.2, Int.zero_add]
        exact .int _
      · show n.toNat ≤ _
        simp
def signs (x : Str) : List PyData := x.cps.toList.map fun c => .str ⟨#[c]⟩
theorem wi_str (h : W K tl as M fun d M' => ∃ x, d = .str x ∧ P (signs x) M') : WI K (iStr tl) as M P := fun S H0 σ H k r R q =>
  h S H0 σ H k r _ fun v H1 d M1 k1 e1 b1 ⟨x, hd, p⟩ => by
    subst hd
    cases b1
    refine ⟨x, rfl, q _ H1 _ M1 k1 e1 ⟨fun G H i e1 e2 hi => ?_, fun G H i v H' e1 e2 y => ?_, fun G H e1 e2 => ?_⟩ p⟩
    · simpa [signs, Its] using hi
    · refine ⟨y.1, fun d hx => ?_⟩
      obtain ⟨c, hc, ev⟩ := y.2
      subst ev
      unfold signs at hx
      rw [List.getElem?_map, Array.getElem?_toList, hc] at hx
      cases hx
      exact .str _
    · simp [signs, Its]
end

/-! ### targets -/
/-- a, b = a tuple or a list of two -/
def gSeq (K : PySem.W.Frag) (n : Nat) (t : TGs) : TG := fun v σ H Q => gTup K n t v σ H Q ∨ gLst K n t v σ H Q
theorem pg_seq {X : Cx} {es : List Expr} {k : Nat} {t : TGs} {n : Nat} {pos : Pos} (hc : X.calm = true) (h : PGs X es t) (hn : (assignEach es X.env).length = n) (hst : (assignEach es X.env).findIdx? (·.1) = none) : PG X (.Tuple es k pos) (gSeq X.K n t) :=
  ⟨fun pins s σ H v u Q I r hw => hw.elim (fun q => (pg_tup hc h hn hst).run pins s σ H v u Q I r q) (fun q => (pg_lst hc h hn hst).run pins s σ H v u Q I r q)⟩
def awipe (as : List Sv) : List Nat → List Sv
  | [] => as
  | v :: vs => (awipe as vs).set v .no
def GA (K : PySem.W.Frag) (g : TG) (ts : List Nat) (f : PyData → List Sv → (List Sv → Prop) → Prop) : Prop := ∀ (G H : Hp) (v : V) (d : PyData) (σ : L2.St) (as : List Sv) (P : List Sv → Prop), Same G H → Dp K G v d → Rs K G σ as → f d as P →
  ∀ Q : L2.St → Hp → Prop, (∀ σ' as', Rs K G σ' as' → (∀ vs, (∀ t ∈ ts, t ∈ vs) → wipe σ' vs = wipe σ vs) → P as' → Q σ' H) → g v σ H Q
section
variable {K : PySem.W.Frag} {as : List Sv} {M : Mm}
theorem wipe_at (σ : L2.St) : ∀ (vs : List Nat) (i : Nat), (wipe σ vs)[i]? = if i ∈ vs ∧ i < σ.length then some none else σ[i]?
  | [], i => by simp [wipe]
  | v :: vs, i => by
    unfold wipe
    by_cases e : v = i
    · subst e
      by_cases hl : v < σ.length
      · rw [List.getElem?_set_self (by rw [wipe_length]; exact hl), if_pos ⟨List.mem_cons_self, hl⟩]
      · rw [if_neg (fun z => hl z.2), List.getElem?_eq_none (by rw [List.length_set, wipe_length]; omega), List.getElem?_eq_none (by omega)]
    · rw [List.getElem?_set_ne e, wipe_at σ vs i]
      have : (i ∈ v :: vs) ↔ i ∈ vs := by simp [Ne.symm e]
      simp only [this]
theorem wipe_set {σ : L2.St} {vs : List Nat} {i : Nat} {o : Option V} (h : i ∈ vs) : wipe (σ.set i o) vs = wipe σ vs := by
  apply List.ext_getElem?
  intro j
  rw [wipe_at, wipe_at, List.length_set]
  by_cases hj : j ∈ vs ∧ j < σ.length
  · rw [if_pos hj, if_pos hj]
  · rw [if_neg hj, if_neg hj]
    by_cases e : i = j
    · subst e
      have : ¬ i < σ.length := fun z => hj ⟨h, z⟩
      rw [List.getElem?_eq_none (by rw [List.length_set]; omega), List.getElem?_eq_none (by omega)]
    · rw [List.getElem?_set_ne e]
theorem wipe_wipe {σ : L2.St} {vs : List Nat} : wipe (wipe σ vs) vs = wipe σ vs := by
  apply List.ext_getElem?
  intro j
  rw [wipe_at, wipe_at, wipe_length]
  by_cases hj : j ∈ vs ∧ j < σ.length
  · rw [if_pos hj, if_pos hj]
  · rw [if_neg hj]
theorem awipe_len (as : List Sv) : ∀ vs, (awipe as vs).length = as.length
  | [] => rfl
  | v :: vs => by unfold awipe; rw [List.length_set, awipe_len as vs]
theorem rs_wipe {G : Hp} {σ : L2.St} (r : Rs K G σ as) : ∀ vs, Rs K G (wipe σ vs) (awipe as vs)
  | [] => r
  | v :: vs => by
    have ih := rs_wipe r vs
    unfold wipe awipe
    refine ⟨by rw [List.length_set, List.length_set, ih.len], fun i s q => ?_⟩
    by_cases e : v = i
    · subst e
      have hl : v < (awipe as vs).length := by
        have := (List.getElem?_eq_some_iff.mp q).1
        simpa using this
      rw [List.getElem?_set_self hl] at q
      cases q
      exact ⟨none, List.getElem?_set_self (by rw [ih.len]; exact hl), trivial⟩
    · rw [List.getElem?_set_ne e] at q
      obtain ⟨o, a, b⟩ := ih.at_ i s q
      exact ⟨o, by rw [List.getElem?_set_ne e]; exact a, b⟩
theorem ga_name {i : Nat} : GA K (gName i) [i] (fun d as P => P (as.set i (.dat d))) := fun G H v d σ as P e hd r p Q q =>
  q _ _ (r.set i (s := .dat d) ⟨v, rfl, hd⟩) (fun vs hv => wipe_set (hv i List.mem_cons_self)) p
theorem ga_pair {i j : Nat} : GA K (gSeq K 2 (gCons (gName i) (gCons (gName j) gNil))) [i, j] (fun d as P => ∃ a b, (d = .tuple [a, b] ∨ d = .list [a, b]) ∧ P ((as.set i (.dat a)).set j (.dat b))) := fun G H v d σ as P e hd r ⟨a, b, ed, p⟩ Q q => by
  have fin : ∀ {v1 v2 : V}, Dp K G v1 a → Dp K G v2 b → Q ((σ.set i (some v1)).set j (some v2)) H := fun h1 h2 =>
    q _ _ ((r.set i (s := .dat a) ⟨_, rfl, h1⟩).set j (s := .dat b) ⟨_, rfl, h2⟩) (fun vs hv => by rw [wipe_set (hv j (by simp)), wipe_set (hv i (by simp))]) p
  rcases ed with rfl | rfl
  · cases hd with
    | tup hs ha =>
      cases ha with
      | cons h1 h2 =>
        cases h2 with
        | cons h2 h3 =>
          cases h3
          exact .inl ⟨_, _, rfl, seqT e hs, rfl, _, _, rfl, _, _, rfl, rfl, fin h1 h2⟩
  · cases hd with
    | lst hs ha =>
      cases ha with
      | cons h1 h2 =>
        cases h2 with
        | cons h2 h3 =>
          cases h3
          exact .inr ⟨_, _, rfl, e.seq hs, rfl, _, _, rfl, _, _, rfl, rfl, fin h1 h2⟩

/-! ### for, while -/
variable {A : AE} {wi : TI} {g : TG} {tb : TS} {ts : List Nat} {f : PyData → List Sv → (List Sv → Prop) → Prop}
theorem ws_for (hg : GA K g ts f) (h : WI K wi as M fun xs M1 => ∃ IV : Nat → List Sv → Mm → Prop, IV 0 as M1 ∧
    (∀ i x as' M', xs[i]? = some x → IV i as' M' → f x as' fun as2 => WS K tb as2 M' { A with nx := IV (i + 1), ct := IV (i + 1), bk := A.nx }) ∧ (∀ as' M', IV xs.length as' M' → A.nx as' M')) : WS K (tFor wi g tb) as M A := fun S H0 σ H D k r n rt b c =>
  h S H0 σ H k r _ fun J H1 xs M1 k1 e1 hJ ⟨IV, i0, step, fin⟩ => by
    refine ⟨fun i m σ' H' => m = xs.length - i ∧ i ≤ xs.length ∧ ∃ as' M', IV i as' M' ∧ Ok0 K S H0 H' M' ∧ Rs K (Gh S M' H') σ' as' ∧ Same (Gh S M1 H1) (Gh S M' H'), ⟨xs.length, by simp, Nat.zero_le _, as, M1, i0, k1, r.mono e1, Same.refl _⟩, ?_⟩
    rintro i m σ' H' ⟨rfl, hi, as', M', hI, k', r', e'⟩
    by_cases hlt : i < xs.length
    · refine .inr ⟨hJ.go _ _ i e' same_hide hlt, fun σ'' H'' => ∃ as' M', IV (i + 1) as' M' ∧ Ok0 K S H0 H'' M' ∧ Rs K (Gh S M' H'') σ'' as' ∧ Same (Gh S M1 H1) (Gh S M' H''), fun σ'' H'' ⟨as'', M'', q⟩ => ⟨xs.length - (i + 1), by omega, rfl, hlt, as'', M'', q⟩, fun v H2 y => ?_⟩
      obtain ⟨eh, yd⟩ := hJ.yld _ _ i v H2 e' same_hide y
      subst eh
      have hx : xs[i]? = some xs[i] := List.getElem?_eq_getElem hlt
      refine hg (Gh S M' H2) H2 v xs[i] σ' as' _ same_hide (yd _ hx) r' (step i _ as' M' hx hI) _ fun σ2 as2 r2 _ p => ?_
      exact p S H0 σ2 H2 _ k' r2 (fun σ3 H3 as3 M3 k3 r3 e3 p3 => ⟨as3, M3, p3, k3, r3, e'.trans e3⟩) rt (fun σ3 H3 as3 M3 k3 r3 e3 p3 => n σ3 H3 as3 M3 k3 r3 ((e1.trans e').trans e3) p3) (fun σ3 H3 as3 M3 k3 r3 e3 p3 => ⟨as3, M3, p3, k3, r3, e'.trans e3⟩)
    · have e : i = xs.length := by omega
      subst e
      exact .inl ⟨hJ.stop _ _ e' same_hide, n σ' H' as' M' k' r' (e1.trans e') (fin as' M' hI)⟩
theorem ws_while {tc : TT} (IV : Nat → List Sv → Mm → Prop) (m0 : Nat) (h0 : IV m0 as M) (h : ∀ m as' M', IV m as' M' → WT K tc as' M' fun b M1 => if b = true then WS K tb as' M1 { A with nx := fun a' m' => ∃ j, j < m ∧ IV j a' m', ct := fun a' m' => ∃ j, j < m ∧ IV j a' m', bk := A.nx } else A.nx as' M1) :
    WS K (tWhile tc tb) as M A := fun S H0 σ H D k r n rt b c => by
  refine ⟨fun m σ' H' => ∃ as' M', IV m as' M' ∧ Ok0 K S H0 H' M' ∧ Rs K (Gh S M' H') σ' as' ∧ Same (Gh S M H) (Gh S M' H'), ⟨m0, as, M, h0, k, r, Same.refl _⟩, ?_⟩
  rintro m σ' H' ⟨as', M', hI, k', r', e'⟩
  refine h m as' M' hI S H0 σ' H' k' r' _ fun b1 H1 M1 k1 e1 p => ?_
  cases b1 with
  | false =>
    exact n σ' H1 as' M1 k1 (r'.mono e1) (e'.trans e1) p
  | true =>
    refine ⟨fun σ'' H'' => ∃ j, j < m ∧ ∃ as' M', IV j as' M' ∧ Ok0 K S H0 H'' M' ∧ Rs K (Gh S M' H'') σ'' as' ∧ Same (Gh S M H) (Gh S M' H''), fun σ'' H'' q => q, ?_⟩
    exact (show WS K tb as' M1 _ from p) S H0 σ' H1 _ k1 (r'.mono e1) (fun σ3 H3 as3 M3 k3 r3 e3 ⟨j, hj, p3⟩ => ⟨j, hj, as3, M3, p3, k3, r3, (e'.trans e1).trans e3⟩) rt (fun σ3 H3 as3 M3 k3 r3 e3 p3 => n σ3 H3 as3 M3 k3 r3 ((e'.trans e1).trans e3) p3)
      (fun σ3 H3 as3 M3 k3 r3 e3 ⟨j, hj, p3⟩ => ⟨j, hj, as3, M3, p3, k3, r3, (e'.trans e1).trans e3⟩)
end

/-! ### comprehensions -/
def syD (S : Sy) (D : Addr) (va : List V) : Sy where
  B := fun a => S.B a || a == D
  I := fun H => S.I H ∧ H D = some (.lst va)
  mono := fun H H' e i => ⟨S.mono H H' (fun a o e1 e2 => e a o (by rw [e1]; rfl) e2) i.1, e D _ (by simp) i.2⟩
  trk := fun H a i e => by
    rcases (Bool.or_eq_true _ _).mp e with e | e
    · exact S.trk H a i.1 e
    · have e : a = D := by simpa using e
      rw [e, i.2]; simp
section
variable {K : PySem.W.Frag} {S : Sy} {H0 H H1 : Hp} {M M1 : Mm} {D : Addr} {va vb : List V}
theorem syd_bm : Bm (syD S D va) M = Bm (syD S D vb) M := rfl
theorem bm_D : Bm (syD S D va) M D = true := by
  unfold Bm syD
  simp
theorem syd_f {a : Addr} (h : (syD S D va).B a = false) : S.B a = false ∧ a ≠ D := by
  have h : (S.B a || a == D) = false := h
  rw [Bool.or_eq_false_iff] at h
  exact ⟨h.1, by simpa using h.2⟩
theorem syd_mk {a : Addr} (h : S.B a = false) (n : a ≠ D) : (syD S D va).B a = false := by
  show (S.B a || a == D) = false
  rw [h]
  simpa using n
theorem gd_upd {o : HO} : Gh (syD S D va) M (upd H D o) = Gh (syD S D vb) M H := by
  unfold Gh
  rw [syd_bm (vb := vb)]
  funext a
  by_cases e : Bm (syD S D vb) M a = true
  · rw [hide_t e, hide_t e]
  · have e' : Bm (syD S D vb) M a = false := by simpa using e
    rw [hide_f e', hide_f e', upd_ne (fun z => by rw [z, bm_D] at e'; cases e')]
theorem same_D (k : Ok0 K S H0 H1 M1) (hD : H1 D = none) {o : HO} : Same (Gh S M1 H1) (Gh (syD S D va) M1 (upd H1 D o)) := fun a u e => by
  obtain ⟨e1, e2⟩ := hide_some e
  have ne : a ≠ D := ne_of_none e2 hD
  unfold Gh
  rw [bm_false] at e1
  rw [hide_f (bm_false.mpr ⟨syd_mk e1.1 ne, e1.2⟩), upd_ne ne]
  exact e2
theorem ok_D (k : Ok0 K S H0 H1 M1) (hD : H1 D = none) : Ok0 K (syD S D []) H0 (upd H1 D (.lst [])) M1 := by
  have k2 := ok_new (o := .lst []) k hD
  have sD : S.B D = false := (bm_false.mp (new_hid k hD)).1
  refine ⟨fun a o e1 e2 => k2.xt a o (syd_f e1).1 e2, ⟨k2.inv, upd_same⟩, k.nd, fun q hq => ?_, fun q hq => ?_⟩
  · obtain ⟨vs, hv, _⟩ := k.mem q hq
    have ne : q.1 ≠ D := ne_of_none hv hD
    have lc := k.loc q hq
    refine ⟨fun z => ⟨syd_mk (lc.1 z).1 ne, (lc.1 z).2⟩, fun z => ⟨?_, fun H l l' i hl => ⟨(lc.2 z).2 H l l' i.1 hl, by rw [upd_ne (Ne.symm ne)]; exact i.2⟩⟩⟩
    show (S.B q.1 || q.1 == D) = true
    rw [(lc.2 z).1]; rfl
  · obtain ⟨vs, hv, hd⟩ := k.mem q hq
    exact ⟨vs, by rw [upd_ne (ne_of_none hv hD)]; exact hv, dps_mono (same_D k hD) _ _ hd⟩
theorem ok_D_ne (k : Ok0 K (syD S D va) H0 H M) : ∀ q ∈ M, q.1 ≠ D := fun q hq z => by
  have lc := k.loc q hq
  cases e : q.2.1 with
  | true => exact (syd_f (lc.1 e).1).2 z
  | false =>
    have st := (lc.2 e).2
    rw [z] at st
    have i := st H va (va ++ [.non]) k.inv k.inv.2
    have w := i.2
    rw [upd_same] at w
    have w2 := HO.lst.inj (Option.some.inj w)
    have := congrArg List.length w2
    simp at this
theorem ok_Dset (k : Ok0 K (syD S D va) H0 H M) (sD : S.B D = false) : Ok0 K (syD S D vb) H0 (upd H D (.lst vb)) M := by
  have nes := ok_D_ne k
  refine ⟨fun a o e1 e2 => by rw [upd_ne (syd_f e1).2]; exact k.xt a o e1 e2, ⟨S.mono H _ (fun a o e1 e2 => by rw [upd_ne (fun z => by rw [z, sD] at e1; cases e1)]; exact e2) k.inv.1, upd_same⟩, k.nd, fun q hq => ?_, fun q hq => ?_⟩
  · have lc := k.loc q hq
    refine ⟨fun z => lc.1 z, fun z => ⟨(lc.2 z).1, fun H2 l l' i hl => ?_⟩⟩
    have ne := nes q hq
    have i2 : (syD S D va).I (upd H2 D (.lst va)) := ⟨S.mono H2 _ (fun a o e1 e2 => by rw [upd_ne (fun z => by rw [z, sD] at e1; cases e1)]; exact e2) i.1, upd_same⟩
    have i3 := (lc.2 z).2 _ l l' i2 (by rw [upd_ne ne]; exact hl)
    refine ⟨S.mono _ _ (fun a o e1 e2 => ?_) i3.1, by rw [upd_ne (Ne.symm ne)]; exact i.2⟩
    by_cases e : a = q.1
    · rw [e, upd_same] at e2 ⊢; exact e2
    · rw [upd_ne e, upd_ne (fun z => by rw [z, sD] at e1; cases e1)] at e2
      rw [upd_ne e]; exact e2
  · obtain ⟨vs, hv, hd⟩ := k.mem q hq
    refine ⟨vs, by rw [upd_ne (nes q hq)]; exact hv, ?_⟩
    have : Hide (Bm (syD S D vb) M) (upd H D (.lst vb)) = Hide (Bm (syD S D va) M) H := gd_upd
    rw [this]; exact hd
theorem same_Dout : Same (Gh (syD S D va) M H) (Gh S M H) := fun a o e => by
  obtain ⟨e1, e2⟩ := hide_some e
  rw [bm_false] at e1
  unfold Gh
  rw [hide_f (bm_false.mpr ⟨(syd_f e1.1).1, e1.2⟩)]
  exact e2
theorem ok_Dout (k : Ok0 K (syD S D va) H0 H M) (sD : S.B D = false) (h0 : H0 D = none) : Ok0 K S H0 H M := by
  have nes := ok_D_ne k
  refine ⟨fun a o e1 e2 => ?_, k.inv.1, k.nd, fun q hq => ?_, fun q hq => ?_⟩
  · have ne : a ≠ D := fun z => by rw [z, h0] at e2; cases e2
    exact k.xt a o (syd_mk e1 ne) e2
  · have lc := k.loc q hq
    have ne := nes q hq
    refine ⟨fun z => ⟨(syd_f (lc.1 z).1).1, (lc.1 z).2⟩, fun z => ⟨?_, fun H2 l l' i hl => ?_⟩⟩
    · have w : (S.B q.1 || q.1 == D) = true := (lc.2 z).1
      rcases (Bool.or_eq_true _ _).mp w with w | w
      · exact w
      · exact absurd (by simpa using w) ne
    · have i2 : (syD S D va).I (upd H2 D (.lst va)) := ⟨S.mono H2 _ (fun a o e1 e2 => by rw [upd_ne (fun z => by rw [z, sD] at e1; cases e1)]; exact e2) i, upd_same⟩
      have i3 := (lc.2 z).2 _ l l' i2 (by rw [upd_ne ne]; exact hl)
      refine S.mono _ _ (fun a o e1 e2 => ?_) i3.1
      by_cases e : a = q.1
      · rw [e, upd_same] at e2 ⊢; exact e2
      · rw [upd_ne e, upd_ne (fun z => by rw [z, sD] at e1; cases e1)] at e2
        rw [upd_ne e]; exact e2
  · obtain ⟨vs, hv, hd⟩ := k.mem q hq
    exact ⟨vs, hv, dps_mono same_Dout _ _ hd⟩
variable {as : List Sv} {wi : TI} {g : TG} {tt : TT} {te : TE} {vs ts : List Nat} {f : PyData → List Sv → (List Sv → Prop) → Prop} {P : PyData → Mm → Prop}
theorem w_lc (hg : GA K g ts f) (ht : ∀ t ∈ ts, t ∈ vs) (h : WI K wi as M fun xs M1 => ∃ IV : Nat → List PyData → Mm → Prop, IV 0 [] M1 ∧
    (∀ i x acc Mi, xs[i]? = some x → IV i acc Mi → f x (awipe as vs) fun as2 => WT K tt as2 Mi fun b M2 => if b = true then W K te as2 M2 fun y M3 => acc.length < 100000 ∧ IV (i + 1) (acc ++ [y]) M3 else IV (i + 1) acc M2) ∧
    (∀ acc M', IV xs.length acc M' → P (.list acc) M')) : W K (tLc wi g tt te vs) as M P := fun S H0 σ H k r Q q =>
  h S H0 σ H k r _ fun J H1 xs M1 k1 e1 hJ ⟨IV, i0, step, fin⟩ => fun D hD => by
    have sD : S.B D = false := (bm_false.mp (new_hid k1 hD)).1
    have h0 : H0 D = none := by
      cases e : H0 D with
      | none => rfl
      | some o => have z := k1.xt D o sD e; rw [hD] at z; cases z
    let Nw : Nat → Hp → Prop := fun i Hc => ∃ acc va Mi, IV i acc Mi ∧ Ok0 K (syD S D va) H0 Hc Mi ∧ DpAll K (Gh (syD S D va) Mi Hc) va acc ∧ Rs K (Gh (syD S D va) Mi Hc) σ as ∧ Same (Gh S M1 H1) (Gh (syD S D va) Mi Hc)
    have n0 : Nw 0 (upd H1 D (.lst [])) := ⟨[], [], M1, i0, ok_D k1 hD, .nil, (r.mono e1).mono (same_D k1 hD), same_D k1 hD⟩
    refine ⟨fun i m Hc => m = xs.length - i ∧ i ≤ xs.length ∧ Nw i Hc, ⟨xs.length, by simp, Nat.zero_le _, n0⟩, ?_⟩
    rintro i m Hc ⟨rfl, hi, acc, va, Mi, hI, kc, da, rc, ec⟩
    by_cases hlt : i < xs.length
    · refine .inr ⟨hJ.go _ _ i ec same_hide hlt, Nw (i + 1), fun H' p' => ⟨xs.length - (i + 1), by omega, rfl, hlt, p'⟩, fun v H2 y => ?_⟩
      obtain ⟨eh, yd⟩ := hJ.yld _ _ i v H2 ec same_hide y
      subst eh
      have hx : xs[i]? = some xs[i] := List.getElem?_eq_getElem hlt
      refine hg (Gh (syD S D va) Mi H2) H2 v xs[i] (wipe σ vs) (awipe as vs) _ same_hide (yd _ hx) (rs_wipe rc vs) (step i _ acc Mi hx hI) _ fun σ2 as2 r2 wp p => ?_
      refine ⟨by rw [wp vs ht, wipe_wipe], ?_⟩
      refine p (syD S D va) H0 σ2 H2 kc r2 _ fun b H3 M3 k3 e3 p3 => ?_
      cases b with
      | false => exact ⟨acc, va, M3, p3, k3, dps_mono e3 _ _ da, rc.mono e3, ec.trans e3⟩
      | true =>
        refine (show W K te as2 M3 _ from p3) (syD S D va) H0 σ2 H3 k3 (r2.mono e3) _ fun w H4 y M4 k4 e4 b4 ⟨hl, p4⟩ => ?_
        refine ⟨va, k4.inv.2, Nat.lt_of_lt_of_le (by rw [dps_len da]; exact hl) (by decide), acc ++ [y], va ++ [w], M4, p4, ok_Dset k4 sD, ?_, ?_, ?_⟩
        · rw [gd_upd (vb := va)]
          exact dps_app (dps_mono (e3.trans e4) _ _ da) (.cons b4 .nil)
        · rw [gd_upd (vb := va)]
          exact rc.mono (e3.trans e4)
        · rw [gd_upd (vb := va)]
          exact ec.trans (e3.trans e4)
    · have e : i = xs.length := by omega
      subst e
      refine .inl ⟨hJ.stop _ _ ec same_hide, q _ Hc (.list acc) Mi (ok_Dout kc sD h0) (e1.trans (ec.trans same_Dout)) ?_ (fin acc Mi hI)⟩
      have gD : Gh S Mi Hc D = some (.lst va) := by
        unfold Gh
        rw [hide_f (bm_false.mpr ⟨sD, ok_D_ne kc⟩)]
        exact kc.inv.2
      exact .lst (SqL.of gD) (dps_mono same_Dout _ _ da)
end
end Ab

set_option Elab.async false
set_option linter.all false
set_option maxRecDepth 100000
set_option maxHeartbeats 4000000
namespace Ab
open PySem PySem.Spec PyProof.Rows L2

section
variable {X : Cx}
/-- two lists, wherever they stand -/
def rCatL (K : PySem.W.Frag) : R2 := fun x y H Q => ∃ l b xs zs, x = .ref l ∧ y = .ref b ∧ SqL K H l xs ∧ SqL K H b zs ∧ xs.length + zs.length ≤ sizeLine ∧ ∀ p, H p = none → Q (.ref p) (upd H p (.lst (xs ++ zs)))
theorem op_catL : OpR X (binaryOp .Add) (rCatL X.K) := by
  intro pins s σ H x y v u Q I rx ry h
  obtain ⟨l, b, xs, zs, rfl, rfl, hH, hB, hz, q⟩ := h
  cases rx
  cases ry
  obtain ⟨its, r, ⟨o, n, e, hc, hd, hdt⟩, hl⟩ := I.list hH
  obtain ⟨its2, r2, ⟨o2, n2, e2, hc2, hd2, hdt2⟩, hl2⟩ := I.list hB
  obtain ⟨c1, d1, dt1, sl1⟩ := o
  obtain ⟨c2, d2, dt2, sl2⟩ := o2
  simp only at hc hd hdt hc2 hd2 hdt2
  subst hc hd hdt hc2 hd2 hdt2
  have z1 := r.length
  have z2 := r2.length
  have ea : its.toArray ++ its2.toArray = (its ++ its2).toArray := by simp
  refine concat_meets ⟨_, e, rfl⟩ ⟨_, e2, rfl⟩ noFill_list_add seq_list_add PySem.F.slot_list_add PySem.F.entry_list_add (PySem.F.args_list_add_2 _ _) (list_addW l b its.toArray its2.toArray n n2 none none sl1 sl2 (by simp; omega)) ⟨e, e2, ?_⟩
  rw [ea]
  exact ⟨.ref _, _, I.lnew (t' := s.toks) (r.append r2) (by rw [List.length_append]; omega), rfl, q _ I.fresh⟩
def rAddI : R2 := rI0 fun i j => .int (i + j)
def rAddStr : R2 := fun x y H Q => ∃ i j, x = .str i ∧ y = .str j ∧ i.length + j.length ≤ sizeLine ∧ Q (.str (i ++ j)) H
def rPlus (K : PySem.W.Frag) : R2 := fun x y H Q => rAddI x y H Q ∨ rAddStr x y H Q ∨ rCatA K x y H Q ∨ rCatL K x y H Q
theorem op_plus : OpR X (binaryOp .Add) (rPlus X.K) := OpR.or (r := rAddI) op_add (OpR.or (r := rAddStr) op_add_str (OpR.or op_catA op_catL))
def rLtI : R2 := rI0 fun i j => .bl (decide (i < j))
def rLtS : R2 := fun x y H Q => ∃ i j, x = .str i ∧ y = .str j ∧ Q (.bl (decide (i.cps.toList < j.cps.toList))) H
def rLess : R2 := fun x y H Q => rLtI x y H Q ∨ rLtS x y H Q
theorem op_less : OpR X (compareOp .Lt) rLess := OpR.or (r := rLtI) (r' := rLtS) op_lt op_lt_str
def rLeI : R2 := rI0 fun i j => .bl (decide (i ≤ j))
theorem op_leI : OpR X (compareOp .LtE) rLeI := op_le
def rGtI : R2 := rI0 fun i j => .bl (decide (j < i))
theorem op_gtI : OpR X (compareOp .Gt) rGtI := op_gt
def rGeI : R2 := rI0 fun i j => .bl (decide (j ≤ i))
theorem op_geI : OpR X (compareOp .GtE) rGeI := op_ge
def rSubI : R2 := rI0 fun i j => .int (i - j)
theorem op_subI : OpR X (binaryOp .Sub) rSubI := op_sub
def rMulI : R2 := rI CMul fun i j => .int (i * j)
theorem op_mulI : OpR X (binaryOp .Mult) rMulI := op_mul
def rModI : R2 := rI (fun _ j => 0 < j) fun i j => .int (i % j)
theorem op_modI : OpR X (binaryOp .Mod) rModI := op_mod
def rDivW : R2 := rI CDivW fun i j => .int (i / j)
theorem op_divW : OpR X (binaryOp .FloorDiv) rDivW := op_fdivW
def rIsNo : R2 := fun x y H Q => y = .non ∧ Q (.bl (decide (x = .non))) H
theorem op_isNo : OpR X (compareOp .Is) rIsNo := op_isN
def rPowI : R2 := rI CPow fun i j => .int (i ^ j.toNat)
theorem op_powI : OpR X (binaryOp .Pow) rPowI := op_pow
/-- one sign in a text -/
def rInSg : R2 := fun x y H Q => ∃ (c : Nat) (z : Str), x = .str ⟨#[c]⟩ ∧ y = .str z ∧ Q (.bl (decide (c ∈ z.cps.toList))) H
theorem op_inSg : OpR X (compareOp .In) rInSg := op_in_sign
/-- in, of any data, in a tuple or a list -/
def rInSeq (K : PySem.W.Frag) : R2 := fun x y H Q => ∃ d ds, Dp K H x d ∧ (Dp K H y (.list ds) ∨ Dp K H y (.tuple ds)) ∧ SeqAt.shaped d = true ∧ SeqAt.shaped (.list ds) = true ∧ Q (.bl (ds.any fun z => PyData.eqv z d)) H
theorem op_inSeq (hu : X.A.units + 65 < cLine) : OpR X (compareOp .In) (rInSeq X.K) := by
  intro pins s σ H x y v u Q I rx ry h
  obtain ⟨d, ds, hd, he, sd, se, q⟩ := h
  obtain ⟨as, r1⟩ := Dp.reads I d x v hd rx
  rcases he with he | he
  · obtain ⟨bs, r2⟩ := Dp.reads I (.list ds) y u he ry
    exact SeqAt.in_list_reads r2 r1 (SeqAt.canLay_of_shaped se) (SeqAt.canLay_of_shaped sd) (room_in_shaped sd hu) ⟨.bl _, H, I, rfl, q⟩
  · obtain ⟨bs, r2⟩ := Dp.reads I (.tuple ds) y u he ry
    exact SeqAt.in_tuple_reads r2 r1 (SeqAt.canLay_of_shaped se) (SeqAt.canLay_of_shaped sd) (room_in_shaped sd hu) ⟨.bl _, H, I, rfl, q⟩
def rNinSeq (K : PySem.W.Frag) : R2 := fun x y H Q => ∃ d ds, Dp K H x d ∧ (Dp K H y (.list ds) ∨ Dp K H y (.tuple ds)) ∧ SeqAt.shaped d = true ∧ SeqAt.shaped (.list ds) = true ∧ Q (.bl (!ds.any fun z => PyData.eqv z d)) H
theorem op_ninSeq (hu : X.A.units + 65 < cLine) : OpR X (compareOp .NotIn) (rNinSeq X.K) := by
  intro pins s σ H x y v u Q I rx ry h
  obtain ⟨d, ds, hd, he, sd, se, q⟩ := h
  obtain ⟨as, r1⟩ := Dp.reads I d x v hd rx
  rcases he with he | he
  · obtain ⟨bs, r2⟩ := Dp.reads I (.list ds) y u he ry
    exact SeqAt.notIn_list_reads r2 r1 (SeqAt.canLay_of_shaped se) (SeqAt.canLay_of_shaped sd) (room_in_shaped sd hu) ⟨.bl _, H, I, rfl, q⟩
  · obtain ⟨bs, r2⟩ := Dp.reads I (.tuple ds) y u he ry
    exact SeqAt.notIn_tuple_reads r2 r1 (SeqAt.canLay_of_shaped se) (SeqAt.canLay_of_shaped sd) (room_in_shaped sd hu) ⟨.bl _, H, I, rfl, q⟩
def rSl (K : PySem.W.Frag) : V → Option Int → Option Int → Hp → VK → Prop := fun x lo hi H Q => rSlL K x lo hi H Q ∨ rSlA K x lo hi H Q ∨ rSlS x lo hi H Q
theorem sl_any : SlR X (rSl X.K) := SlR.or sl_list (SlR.or sl_tupA sl_str)
def rTupleOf (K : PySem.W.Frag) : List V → Hp → VK → Prop := fun xs H Q => ∃ p ys, xs = [.ref p] ∧ ((SqL K H p ys ∧ ∀ l, H l = none → Q (.ref l) (upd H l (.tup ys))) ∨ (SqT K H p ys ∧ Q (.ref p) H))
theorem call_tupleOf : CallR X (.type "tuple") (rTupleOf X.K) := call_tuple_of
def rLenA (K : PySem.W.Frag) : List V → Hp → VK → Prop := fun xs H Q => ∃ x n, xs = [x] ∧ LenV K x H n ∧ Q (.int n) H
theorem call_lenA : CallR X (.builtin "len") (rLenA X.K) := call_len
def rIntOf : List V → Hp → VK → Prop := fun xs H Q => (∃ i, xs = [.int i] ∧ Q (.int i) H) ∨ ∃ k, xs = [.bl k] ∧ Q (.int (if k then 1 else 0)) H
theorem call_intOf : CallR X (.type "int") rIntOf := call_int1
theorem pt_tru {a : Expr} {ta : TE} (ha : PE X a ta) (he : ∀ whole, isTrue a X.env whole = (do let v ← whole; standAt a.pos; holding [v] (truthy v)) := by intro _; rfl) : PT X a (tTru X.K ta) := pt_truth ha he
end

/-! ### what these do to data -/
def fPlus : PyData → PyData → (PyData → Prop) → Prop
  | .int i, .int j, P => P (.int (i + j))
  | .str i, .str j, P => i.length + j.length ≤ 100000 ∧ P (.str (i ++ j))
  | .tuple xs, .tuple ys, P => xs.length + ys.length ≤ 100000 ∧ P (.tuple (xs ++ ys))
  | .list xs, .list ys, P => xs.length + ys.length ≤ 100000 ∧ P (.list (xs ++ ys))
  | _, _, _ => False
def fEq (a b : PyData) (P : PyData → Prop) : Prop := SeqAt.shaped a = true ∧ SeqAt.shaped b = true ∧ P (.bool (PyData.eqv a b))
def fNe (a b : PyData) (P : PyData → Prop) : Prop := SeqAt.shaped a = true ∧ SeqAt.shaped b = true ∧ P (.bool (!PyData.eqv a b))
def fLess : PyData → PyData → (PyData → Prop) → Prop
  | .int i, .int j, P => P (.bool (decide (i < j)))
  | .str i, .str j, P => P (.bool (decide (i.cps.toList < j.cps.toList)))
  | _, _, _ => False
def fI (C : Int → Int → Prop) (g : Int → Int → PyData) : PyData → PyData → (PyData → Prop) → Prop
  | .int i, .int j, P => C i j ∧ P (g i j)
  | _, _, _ => False
def fIsNo : PyData → PyData → (PyData → Prop) → Prop
  | .none, .none, P => P (.bool true)
  | _, .none, P => P (.bool false)
  | _, _, _ => False
def fInSg : PyData → PyData → (PyData → Prop) → Prop
  | .str x, .str z, P => ∃ c, x = ⟨#[c]⟩ ∧ P (.bool (decide (c ∈ z.cps.toList)))
  | _, _, _ => False
def fInSeq (a : PyData) : PyData → (PyData → Prop) → Prop
  | .list ds, P | .tuple ds, P => SeqAt.shaped a = true ∧ SeqAt.shaped (.list ds) = true ∧ P (.bool (ds.any fun z => PyData.eqv z a))
  | _, _ => False
def fNinSeq (a : PyData) : PyData → (PyData → Prop) → Prop
  | .list ds, P | .tuple ds, P => SeqAt.shaped a = true ∧ SeqAt.shaped (.list ds) = true ∧ P (.bool (!ds.any fun z => PyData.eqv z a))
  | _, _ => False
def fIx : PyData → PyData → (PyData → Prop) → Prop
  | .list ds, .int i, P | .tuple ds, .int i, P => ∃ d, atI ds i = some d ∧ P d
  | .str z, .int i, P => z.length ≤ 100000 ∧ ∃ c, atI z.cps.toList i = some c ∧ P (.str ⟨#[c]⟩)
  | _, _, _ => False
def cutD (xs : List PyData) (lo hi : Option Int) : List PyData := (xs.drop (HT.sIx xs.length 0 lo)).take (HT.sIx xs.length xs.length hi - HT.sIx xs.length 0 lo)
def fSl : PyData → Option Int → Option Int → (PyData → Prop) → Prop
  | .list ds, lo, hi, P => P (.list (cutD ds lo hi))
  | .tuple ds, lo, hi, P => P (.tuple (cutD ds lo hi))
  | .str z, lo, hi, P => z.length ≤ 100000 ∧ P (.str (cutS z lo hi))
  | _, _, _, _ => False
def fTupleOf : List PyData → (PyData → Prop) → Prop
  | [.list ds], P | [.tuple ds], P => P (.tuple ds)
  | _, _ => False
def fLenA : List PyData → (PyData → Prop) → Prop
  | [.list ds], P | [.tuple ds], P => P (.int ds.length)
  | [.str z], P => z.length ≤ 100000 ∧ P (.int z.length)
  | _, _ => False
def fIntOf : List PyData → (PyData → Prop) → Prop
  | [.int i], P => P (.int i)
  | _, _ => False
def fAll : List PyData → (PyData → Prop) → Prop
  | [.list ds], P => ∃ bs : List Bool, ds = bs.map .bool ∧ P (.bool (bs.all id))
  | _, _ => False
def fAny : List PyData → (PyData → Prop) → Prop
  | [.list ds], P => ∃ bs : List Bool, ds = bs.map .bool ∧ P (.bool (bs.any id))
  | _, _ => False
section
variable {K : PySem.W.Frag}
theorem szl {n : Nat} (h : n ≤ 100000) : n ≤ sizeLine := Nat.le_trans h (by decide)
theorem lstAt {B : Addr → Bool} {H : Hp} {p : Addr} {ds : List PyData} (h : Dp K (Hide B H) (.ref p) (.list ds)) : ∃ vs, SqL K H p vs ∧ SqL K (Hide B H) p vs ∧ DpAll K (Hide B H) vs ds := by
  cases h with
  | lst hs ha => exact ⟨_, same_hide.seq hs, hs, ha⟩
theorem tupAt {B : Addr → Bool} {H : Hp} {p : Addr} {ds : List PyData} (h : Dp K (Hide B H) (.ref p) (.tuple ds)) : ∃ vs, SqT K H p vs ∧ SqT K (Hide B H) p vs ∧ DpAll K (Hide B H) vs ds := by
  cases h with
  | tup hs ha => exact ⟨_, seqT same_hide hs, hs, ha⟩
theorem isl {G : Hp} {v : V} {ds : List PyData} (h : Dp K G v (.list ds)) : ∃ p, v = .ref p := by
  cases h with
  | lst hs ha => exact ⟨_, rfl⟩
theorem ist {G : Hp} {v : V} {ds : List PyData} (h : Dp K G v (.tuple ds)) : ∃ p, v = .ref p := by
  cases h with
  | tup hs ha => exact ⟨_, rfl⟩
theorem newL {B : Addr → Bool} {H : Hp} {p : Addr} {vs : List V} {ds : List PyData} (hp : H p = none) (hb : ∀ c, B c = true → H c ≠ none) (hd : DpAll K (Hide B H) vs ds) : Dp K (Hide B (upd H p (.lst vs))) (.ref p) (.list ds) := by
  have nb : B p = false := by
    cases e : B p with
    | false => rfl
    | true => exact absurd hp (hb p e)
  have hg : Hide B (upd H p (.lst vs)) p = some (.lst vs) := by rw [hide_f nb, upd_same]
  exact .lst (SqL.of hg) (dps_mono (new_same hp) _ _ hd)
theorem newT {B : Addr → Bool} {H : Hp} {p : Addr} {vs : List V} {ds : List PyData} (hp : H p = none) (hb : ∀ c, B c = true → H c ≠ none) (hd : DpAll K (Hide B H) vs ds) : Dp K (Hide B (upd H p (.tup vs))) (.ref p) (.tuple ds) := by
  have nb : B p = false := by
    cases e : B p with
    | false => rfl
    | true => exact absurd hp (hb p e)
  have hg : Hide B (upd H p (.tup vs)) p = some (.tup vs) := by rw [hide_f nb, upd_same]
  exact .tup (SqT.of hg) (dps_mono (new_same hp) _ _ hd)
theorem ao_plus : AO K (rPlus K) fPlus := fun B H x y a b P hb hx hy p Q q => by
  cases a <;> cases b <;> first | exact p.elim | skip
  case int.int i j => cases hx; cases hy; exact .inl ⟨i, j, rfl, rfl, q _ _ H (.inl rfl) (.int _) p⟩
  case str.str i j => cases hx; cases hy; exact .inr (.inl ⟨i, j, rfl, rfl, szl p.1, q _ _ H (.inl rfl) (.str _) p.2⟩)
  case list.list xs ys =>
    obtain ⟨c, rfl⟩ := isl hx
    obtain ⟨c', rfl⟩ := isl hy
    obtain ⟨vs, s1, _, d1⟩ := lstAt hx
    obtain ⟨ws, s2, _, d2⟩ := lstAt hy
    exact .inr (.inr (.inr ⟨c, c', vs, ws, rfl, rfl, s1, s2, szl (by rw [dps_len d1, dps_len d2]; exact p.1), fun l hl => q _ (.list (xs ++ ys)) _ (.inr ⟨l, _, hl, rfl⟩) (newL hl hb (dps_app d1 d2)) p.2⟩))
  case tuple.tuple xs ys =>
    obtain ⟨c, rfl⟩ := ist hx
    obtain ⟨c', rfl⟩ := ist hy
    obtain ⟨vs, s1, _, d1⟩ := tupAt hx
    obtain ⟨ws, s2, _, d2⟩ := tupAt hy
    refine .inr (.inr (.inl ⟨c, c', vs, ws, rfl, rfl, s1, s2, szl (by rw [dps_len d1, dps_len d2]; exact p.1), fun e => ?_, fun _ e => ?_, fun _ _ l hl => q _ (.tuple (xs ++ ys)) _ (.inr ⟨l, _, hl, rfl⟩) (newT hl hb (dps_app d1 d2)) p.2⟩))
    · have e1 : xs = [] := by have := dps_len d1; rw [e] at this; exact List.length_eq_zero_iff.mp this.symm
      subst e1
      exact q _ (.tuple ys) H (.inl rfl) hy p.2
    · have e1 : ys = [] := by have := dps_len d2; rw [e] at this; exact List.length_eq_zero_iff.mp this.symm
      subst e1
      exact q _ (.tuple xs) H (.inl rfl) hx (by simpa using p.2)
theorem ao_eq : AO K (rEqD K) fEq := fun B H x y a b P hb hx hy p Q q => ⟨a, b, dp_mono same_hide _ _ hx, dp_mono same_hide _ _ hy, p.1, p.2.1, q _ _ H (.inl rfl) (.bl _) p.2.2⟩
theorem ao_ne : AO K (rNeD K) fNe := fun B H x y a b P hb hx hy p Q q => ⟨a, b, dp_mono same_hide _ _ hx, dp_mono same_hide _ _ hy, p.1, p.2.1, q _ _ H (.inl rfl) (.bl _) p.2.2⟩
theorem ao_less : AO K rLess fLess := fun B H x y a b P hb hx hy p Q q => by
  cases a <;> cases b <;> first | exact p.elim | skip
  case int.int i j => cases hx; cases hy; exact .inl ⟨i, j, rfl, rfl, q _ _ H (.inl rfl) (.bl _) p⟩
  case str.str i j => cases hx; cases hy; exact .inr ⟨i, j, rfl, rfl, q _ _ H (.inl rfl) (.bl _) p⟩
theorem ao_I {C : Int → Int → Prop} {g : Int → Int → V} {g' : Int → Int → PyData} (hg : ∀ G i j, Dp K G (g i j) (g' i j)) : AO K (rI C g) (fI C g') := fun B H x y a b P hb hx hy p Q q => by
  cases a <;> cases b <;> first | exact p.elim | skip
  case int.int i j => cases hx; cases hy; exact ⟨i, j, rfl, rfl, p.1, q _ _ H (.inl rfl) (hg _ _ _) p.2⟩
theorem ao_I0 {g : Int → Int → V} {g' : Int → Int → PyData} (hg : ∀ G i j, Dp K G (g i j) (g' i j)) : AO K (rI0 g) (fI (fun _ _ => True) g') := fun B H x y a b P hb hx hy p Q q => by
  cases a <;> cases b <;> first | exact p.elim | skip
  case int.int i j => cases hx; cases hy; exact ⟨i, j, rfl, rfl, q _ _ H (.inl rfl) (hg _ _ _) p.2⟩
theorem ao_le : AO K rLeI (fI (fun _ _ => True) fun i j => .bool (decide (i ≤ j))) := ao_I0 fun _ _ _ => .bl _
theorem ao_gt : AO K rGtI (fI (fun _ _ => True) fun i j => .bool (decide (j < i))) := ao_I0 fun _ _ _ => .bl _
theorem ao_ge : AO K rGeI (fI (fun _ _ => True) fun i j => .bool (decide (j ≤ i))) := ao_I0 fun _ _ _ => .bl _
theorem ao_sub : AO K rSubI (fI (fun _ _ => True) fun i j => .int (i - j)) := ao_I0 fun _ _ _ => .int _
theorem ao_mul : AO K rMulI (fI CMul fun i j => .int (i * j)) := ao_I fun _ _ _ => .int _
theorem ao_mod : AO K rModI (fI (fun _ j => 0 < j) fun i j => .int (i % j)) := ao_I fun _ _ _ => .int _
theorem ao_div : AO K rDivW (fI CDivW fun i j => .int (i / j)) := ao_I fun _ _ _ => .int _
theorem ao_pow : AO K rPowI (fI CPow fun i j => .int (i ^ j.toNat)) := ao_I fun _ _ _ => .int _
theorem ao_isNo : AO K rIsNo fIsNo := fun B H x y a b P hb hx hy p Q q => by
  cases b <;> first | (exfalso; cases a <;> exact p) | skip
  cases hy
  refine ⟨rfl, ?_⟩
  cases a with
  | none => cases hx; exact q _ (.bool true) H (.inl rfl) (.bl _) p
  | bool b => cases hx; exact q _ (.bool false) H (.inl rfl) (.bl _) p
  | int b => cases hx; exact q _ (.bool false) H (.inl rfl) (.bl _) p
  | str b => cases hx; exact q _ (.bool false) H (.inl rfl) (.bl _) p
  | list b => cases hx; exact q _ (.bool false) H (.inl rfl) (.bl _) p
  | tuple b => cases hx; exact q _ (.bool false) H (.inl rfl) (.bl _) p
  | dict b => cases hx
theorem ao_inSg : AO K rInSg fInSg := fun B H x y a b P hb hx hy p Q q => by
  cases a <;> cases b <;> first | exact p.elim | skip
  case str.str i j => cases hx; cases hy; obtain ⟨c, e, p⟩ := p; subst e; exact ⟨c, j, rfl, rfl, q _ _ H (.inl rfl) (.bl _) p⟩
theorem ao_inSeq : AO K (rInSeq K) fInSeq := fun B H x y a b P hb hx hy p Q q => by
  cases b <;> first | exact p.elim | skip
  case list ds => exact ⟨a, ds, dp_mono same_hide _ _ hx, .inl (dp_mono same_hide _ _ hy), p.1, p.2.1, q _ _ H (.inl rfl) (.bl _) p.2.2⟩
  case tuple ds => exact ⟨a, ds, dp_mono same_hide _ _ hx, .inr (dp_mono same_hide _ _ hy), p.1, p.2.1, q _ _ H (.inl rfl) (.bl _) p.2.2⟩
theorem ao_ninSeq : AO K (rNinSeq K) fNinSeq := fun B H x y a b P hb hx hy p Q q => by
  cases b <;> first | exact p.elim | skip
  case list ds => exact ⟨a, ds, dp_mono same_hide _ _ hx, .inl (dp_mono same_hide _ _ hy), p.1, p.2.1, q _ _ H (.inl rfl) (.bl _) p.2.2⟩
  case tuple ds => exact ⟨a, ds, dp_mono same_hide _ _ hx, .inr (dp_mono same_hide _ _ hy), p.1, p.2.1, q _ _ H (.inl rfl) (.bl _) p.2.2⟩
theorem atI_dps {G : Hp} {vs : List V} {ds : List PyData} {i : Int} {d : PyData} (h : DpAll K G vs ds) (e : atI ds i = some d) : ∃ v, atI vs i = some v ∧ Dp K G v d := by
  unfold atI at e ⊢
  rw [dps_len h]
  cases x : ixN ds.length i with
  | none => rw [x] at e; cases e
  | some j => rw [x] at e; exact dps_at h e
theorem ao_ix : AO K (rIx K) fIx := fun B H x y a b P hb hx hy p Q q => by
  cases a <;> cases b <;> first | exact p.elim | skip
  case list.int ds i =>
    cases hy
    obtain ⟨c, rfl⟩ := isl hx
    obtain ⟨vs, s1, _, d1⟩ := lstAt hx
    obtain ⟨d, e, p⟩ := p
    obtain ⟨v, e2, hv⟩ := atI_dps d1 e
    exact .inl ⟨c, vs, i, v, rfl, rfl, s1, e2, q _ d H (.inl rfl) hv p⟩
  case tuple.int ds i =>
    cases hy
    obtain ⟨c, rfl⟩ := ist hx
    obtain ⟨vs, s1, _, d1⟩ := tupAt hx
    obtain ⟨d, e, p⟩ := p
    obtain ⟨v, e2, hv⟩ := atI_dps d1 e
    exact .inr (.inl ⟨c, vs, i, v, rfl, rfl, s1, e2, q _ d H (.inl rfl) hv p⟩)
  case str.int z i =>
    cases hy
    cases hx
    obtain ⟨hl, c, e, p⟩ := p
    exact .inr (.inr ⟨z, i, c, rfl, rfl, szl hl, e, q _ _ H (.inl rfl) (.str _) p⟩)
theorem dps_cut {G : Hp} {vs : List V} {ds : List PyData} (h : DpAll K G vs ds) (lo hi : Option Int) : DpAll K G (cutV vs lo hi) (cutD ds lo hi) := by
  unfold cutV cutD
  rw [dps_len h]
  exact dps_take _ (dps_drop _ h)
variable {as : List Sv} {M : Mm} {te : TE} {tl th : TO} {P : PyData → Mm → Prop}
theorem w_sl (h : W K te as M fun d M1 => WO K tl as M1 fun lo M2 => WO K th as M2 fun hi M3 => fSl d lo hi fun r => P r M3) : W K (tSl (rSl K) te tl th) as M P := fun S H0 σ H k r Q q =>
  h S H0 σ H k r _ fun v H1 d M1 k1 e1 b1 h2 => h2 S H0 σ H1 k1 (r.mono e1) _ fun lo H2 M2 k2 e2 h3 => h3 S H0 σ H2 k2 (r.mono (e1.trans e2)) _ fun hi H3 M3 k3 e3 p => by
    have b3 := dp_mono (e2.trans e3) _ _ b1
    have e4 := e1.trans (e2.trans e3)
    cases d <;> first | exact p.elim | skip
    case list ds =>
      obtain ⟨c, rfl⟩ := isl b3
      obtain ⟨vs, s1, _, d1⟩ := lstAt b3
      exact .inl ⟨c, vs, rfl, s1, fun l hl => q _ _ (.list (cutD ds lo hi)) M3 (ok_new k3 hl) (e4.trans (new_same hl)) (newL hl (bm_trk k3) (dps_cut d1 lo hi)) p⟩
    case tuple ds =>
      obtain ⟨c, rfl⟩ := ist b3
      obtain ⟨vs, s1, _, d1⟩ := tupAt b3
      refine .inr (.inl ⟨c, vs, rfl, s1, fun e => ?_, fun _ l hl => q _ _ (.tuple (cutD ds lo hi)) M3 (ok_new k3 hl) (e4.trans (new_same hl)) (newT hl (bm_trk k3) (dps_cut d1 lo hi)) p⟩)
      have ec : cutD ds lo hi = ds := by
        unfold cutD
        rw [dps_len d1] at e
        rw [e.1, e.2]
        simp
      have p : P (.tuple (cutD ds lo hi)) M3 := p
      rw [ec] at p
      exact q _ H3 (.tuple ds) M3 k3 e4 b3 p
    case str z =>
      cases b3
      exact .inr (.inr ⟨z, rfl, szl p.1, q _ H3 _ M3 k3 e4 (.str _) p.2⟩)
theorem ac_tupleOf : AC K (rTupleOf K) fTupleOf := fun B H xs ds P hb hd p Q q => by
  match ds, hd, p with
  | [.list es], .cons h1 .nil, p =>
    obtain ⟨c, rfl⟩ := isl h1
    obtain ⟨vs, s1, _, d1⟩ := lstAt h1
    exact ⟨c, vs, rfl, .inl ⟨s1, fun l hl => q _ (.tuple es) _ (.inr ⟨l, _, hl, rfl⟩) (newT hl hb d1) p⟩⟩
  | [.tuple es], .cons h1 .nil, p =>
    obtain ⟨c, rfl⟩ := ist h1
    obtain ⟨vs, s1, _, d1⟩ := tupAt h1
    exact ⟨c, vs, rfl, .inr ⟨s1, q _ (.tuple es) H (.inl rfl) h1 p⟩⟩
theorem ac_len : AC K (rLenA K) fLenA := fun B H xs ds P hb hd p Q q => by
  match ds, hd, p with
  | [.list es], .cons h1 .nil, p =>
    obtain ⟨c, rfl⟩ := isl h1
    obtain ⟨vs, s1, _, d1⟩ := lstAt h1
    exact ⟨.ref c, es.length, rfl, .inl ⟨vs, s1, (dps_len d1).symm⟩, q _ _ H (.inl rfl) (.int _) p⟩
  | [.tuple es], .cons h1 .nil, p =>
    obtain ⟨c, rfl⟩ := ist h1
    obtain ⟨vs, s1, _, d1⟩ := tupAt h1
    exact ⟨.ref c, es.length, rfl, .inr ⟨vs, s1, (dps_len d1).symm⟩, q _ _ H (.inl rfl) (.int _) p⟩
  | [.str z], .cons h1 .nil, p =>
    cases h1
    exact ⟨.str z, z.length, rfl, ⟨szl p.1, rfl⟩, q _ _ H (.inl rfl) (.int _) p.2⟩
theorem ac_intOf : AC K rIntOf fIntOf := fun B H xs ds P hb hd p Q q => by
  match ds, hd, p with
  | [.int i], .cons h1 .nil, p =>
    cases h1
    exact .inl ⟨i, rfl, q _ _ H (.inl rfl) (.int _) p⟩
theorem dps_bls {G : Hp} : ∀ {vs : List V} {bs : List Bool}, DpAll K G vs (bs.map .bool) → vs = bs.map .bl
  | [], [], _ => rfl
  | _ :: _, _ :: _, h => by
    cases h with
    | cons h1 h2 => cases h1; rw [dps_bls h2]; rfl
  | [], _ :: _, h => by cases h
  | _ :: _, [], h => by cases h
theorem ac_all : AC K (rAll K) fAll := fun B H xs ds P hb hd p Q q => by
  match ds, hd, p with
  | [.list es], .cons h1 .nil, p =>
    obtain ⟨c, rfl⟩ := isl h1
    obtain ⟨vs, s1, _, d1⟩ := lstAt h1
    obtain ⟨bs, e, p⟩ := p
    subst e
    rw [dps_bls d1] at s1
    exact ⟨c, bs, rfl, s1, q _ _ H (.inl rfl) (.bl _) p⟩
theorem ac_any : AC K (rAny K) fAny := fun B H xs ds P hb hd p Q q => by
  match ds, hd, p with
  | [.list es], .cons h1 .nil, p =>
    obtain ⟨c, rfl⟩ := isl h1
    obtain ⟨vs, s1, _, d1⟩ := lstAt h1
    obtain ⟨bs, e, p⟩ := p
    subst e
    rw [dps_bls d1] at s1
    exact ⟨c, bs, rfl, s1, q _ _ H (.inl rfl) (.bl _) p⟩
/-! isinstance -/
def tyD : PyData → String
  | .none => "NoneType"
  | .bool _ => "bool"
  | .int _ => "int"
  | .str _ => "str"
  | .list _ => "list"
  | .tuple _ => "tuple"
  | .dict _ => "dict"
def isD (d : PyData) (n : String) : Bool := tyD d == n || (n == "int" && tyD d == "bool")
theorem kit_tbl : (["NoneType", "bool", "int", "str", "list", "tuple", "dict"].all fun a => ["int", "bool", "str", "list", "tuple"].all fun b => kitB a b == some (a == b || (b == "int" && a == "bool"))) = true := by decide +kernel
theorem kit_isD (d : PyData) (n : String) (hn : n ∈ ["int", "bool", "str", "list", "tuple"]) : kitB (tyD d) n = some (isD d n) := by
  have h := List.all_eq_true.mp kit_tbl (tyD d) (by cases d <;> simp [tyD])
  have h2 := List.all_eq_true.mp h n hn
  exact eq_of_beq h2
theorem tyx {B : Addr → Bool} {H : Hp} {v : V} {d : PyData} (h : Dp K (Hide B H) v d) : TyX K H v (.type (tyD d)) := by
  cases h with
  | non => exact .base .non
  | bl b => exact .base (.bl b)
  | int i => exact .base (.int i)
  | str x => exact .base (.str x)
  | lst hs ha =>
    rcases same_hide.seq hs with (h | ⟨o, h⟩) | ⟨o, its, n, hk, hc, _⟩
    · exact .base (.lst h)
    · exact .base (.frz h)
    · exact .kList hk hc
  | tup hs ha =>
    rcases seqT same_hide hs with (h | ⟨o, h⟩) | ⟨o, its, n, hk, hc, _⟩
    · exact .base (.tup h)
    · exact .fTuple h
    · exact .kTuple hk hc
theorem w_isi {n : String} (hn : n ∈ ["int", "bool", "str", "list", "tuple"]) (h : W K te as M fun d M' => P (.bool (isD d n)) M') : W K (tCB (rIsi K) (tCons te (tCons (tC (.ty n)) tNil))) as M P := fun S H0 σ H k r Q q =>
  h S H0 σ H k r _ fun v H1 d M1 k1 e1 b1 p => ⟨v, .ty n, .type (tyD d), .type n, isD d n, rfl, .ty n, tyx b1, kit_ty (kit_isD d n hn), q _ H1 _ M1 k1 e1 (.bl _) p⟩
theorem w_isi2 {n m : String} (hn : n ∈ ["int", "bool", "str", "list", "tuple"]) (hm : m ∈ ["int", "bool", "str", "list", "tuple"]) (h : W K te as M fun d M' => P (.bool (isD d n || isD d m)) M') :
    W K (tCB (rIsiT K) (tCons te (tCons (tTup (tCons (tC (.ty n)) (tCons (tC (.ty m)) tNil))) tNil))) as M P := fun S H0 σ H k r Q q =>
  h S H0 σ H k r _ fun v H1 d M1 k1 e1 b1 p => by
    refine ⟨by show 2 ≤ sizeLine; decide, fun a ha => ?_⟩
    have b2 : Dp K (Hide (Bm S M1) (upd H1 a (.tup [.ty n, .ty m]))) v d := dp_mono (new_same ha) _ _ b1
    refine ⟨v, a, [.ty n, .ty m], .type (tyD d), [.type n, .type m], isD d n || isD d m, rfl, upd_same, .cons (.ty n) (.cons (.ty m) .nil), tyx b2, ?_, q _ _ _ M1 (ok_new k1 ha) (e1.trans (new_same ha)) (.bl _) p⟩
    refine kitAny_cons (kit_ty (kit_isD d n hn)) (fun e => ?_) (fun e => by rw [e]; rfl)
    rw [e, Bool.false_or]
    exact kitAny_cons (kit_ty (kit_isD d m hm)) (fun e => by rw [e]; exact kitAny_nil) (fun e => e)
/-! chains of comparisons -/
variable {ta tb tc : TE}
theorem w_chain {r r' : R2} {f f' : PyData → PyData → (PyData → Prop) → Prop} (ho : AO K r f) (ho' : AO K r' f') (h : W K ta as M fun a M1 => W K tb as M1 fun b M2 => f a b fun c => ∃ k, c = .bool k ∧ if k = true then W K tc as M2 fun e M3 => f' b e fun z => P z M3 else P (.bool false) M2) :
    W K (tChain r r' ta tb tc) as M P := fun S H0 σ H k rs Q q =>
  h S H0 σ H k rs _ fun x H1 a M1 k1 e1 b1 h2 => h2 S H0 σ H1 k1 (rs.mono e1) _ fun y H2 b M2 k2 e2 b2 p => ho _ H2 x y a b _ (bm_trk k2) (dp_mono e2 _ _ b1) b2 p _ fun v d H3 hc hd ⟨kk, ek, pk⟩ => by
    subst ek
    cases hd
    refine ⟨kk, rfl, ?_⟩
    have k3 : Ok0 K S H0 H3 M2 ∧ Same (Gh S M2 H2) (Gh S M2 H3) := by
      rcases hc with rfl | ⟨c, o, hn, rfl⟩
      · exact ⟨k2, Same.refl _⟩
      · exact ⟨ok_new k2 hn, new_same hn⟩
    cases kk with
    | false => exact q _ H3 _ M2 k3.1 ((e1.trans e2).trans k3.2) (.bl _) pk
    | true =>
      refine (show W K tc as M2 _ from pk) S H0 σ H3 k3.1 (rs.mono ((e1.trans e2).trans k3.2)) _ fun w H4 e M3 k4 e4 b4 p4 => ?_
      have e5 := ((e1.trans e2).trans k3.2).trans e4
      exact ho' _ H4 y w b e _ (bm_trk k4) (dp_mono (k3.2.trans e4) _ _ b2) b4 p4 _ fun v d H5 hc hd pd => by
        rcases hc with rfl | ⟨c, o, hn, rfl⟩
        · exact q v _ d M3 k4 e5 hd pd
        · exact q v _ d M3 (ok_new k4 hn) (e5.trans (new_same hn)) hd pd
end
end Ab

set_option Elab.async false
set_option linter.all false
set_option maxRecDepth 100000
set_option maxHeartbeats 4000000
namespace Ab
open PySem PySem.Spec PyProof.Rows L2
section
variable {K : PySem.W.Frag} {as : List Sv} {M : Mm} {te tb : TE} {ta : TA} {P : PyData → Mm → Prop} {A : AE} {p : Addr} {fl : Bool} {xs : List PyData}
/-- an item of an own list -/
theorem w_ixown {i : Nat} (hi : as[i]? = some (.own p)) (h : W K tb as M fun b M1 => ∃ fl ys, (p, fl, ys) ∈ M1 ∧ fIx (.list ys) b fun d => P d M1) : W K (tOp (rIx K) (tVar i) tb) as M P := fun S H0 σ H k r Q q => by
  obtain ⟨o, e1, e2⟩ := r.at_ i _ hi
  cases (show o = some (V.ref p) from e2)
  refine ⟨.ref p, e1, h S H0 σ H k r _ fun v H1 b M1 k1 e1 b1 ⟨fl, ys, hm, p1⟩ => ?_⟩
  obtain ⟨us, hp, hu⟩ := k1.mem _ hm
  cases b with
  | int j =>
    cases b1
    obtain ⟨d, e, p1⟩ := p1
    obtain ⟨w, e2, hw⟩ := atI_dps hu e
    exact .inl ⟨p, us, j, w, rfl, rfl, SqL.of hp, e2, q w H1 d M1 k1 e1 hw p1⟩
  | none => exact p1.elim
  | bool _ => exact p1.elim
  | str _ => exact p1.elim
  | list _ => exact p1.elim
  | tuple _ => exact p1.elim
  | dict _ => exact p1.elim
/-- own[k] = e -/
theorem ws_setown {i k : Nat} (hi : as[i]? = some (.own p)) (h : W K te as M fun d M' => ∃ fl ys, (p, fl, ys) ∈ M' ∧ k < ys.length ∧ A.nx as (mset M' p (ys.set k d))) : WS K (tAsg te (gSub (tVar i) (tC (.int (k : Int))) rSetL)) as M A := fun S H0 σ H D ok r n _ _ _ =>
  h S H0 σ H ok r _ fun v H1 d M1 k1 e1 b1 ⟨fl, ys, hm, hk, p1⟩ => by
    obtain ⟨o, e3, e2⟩ := r.at_ i _ hi
    cases (show o = some (V.ref p) from e2)
    obtain ⟨us, hp, hu⟩ := k1.mem _ hm
    have ln := dps_len hu
    refine ⟨.ref p, e3, p, us, (k : Int), k, rfl, rfl, hp, ?_, ?_⟩
    · unfold ixN
      rw [if_pos (by omega), if_pos (by show (k : Int) < (us.length : Nat); rw [ln]; exact Int.ofNat_lt.mpr hk)]
      simp
    · have ge : Gh S (mset M1 p (ys.set k d)) (upd H1 p (.lst (us.set k v))) = Gh S M1 H1 := gh_write hm
      have hset : DpAll K (Gh S M1 H1) (us.set k v) (ys.set k d) := by
        have h1 := dps_take k hu
        have h2 := dps_drop (k + 1) hu
        rw [List.set_eq_take_append_cons_drop, List.set_eq_take_append_cons_drop, if_pos (by rw [ln]; exact hk), if_pos hk]
        exact dps_app h1 (.cons b1 h2)
      exact n σ _ as _ (ok_write k1 hm hset) (by rw [ge]; exact r.mono e1) (by rw [ge]; exact e1) p1
/-- target = value -/
theorem ws_asg {g : TG} {ts : List Nat} {f : PyData → List Sv → (List Sv → Prop) → Prop} (hg : GA K g ts f) (h : W K te as M fun d M' => f d as fun as' => A.nx as' M') : WS K (tAsg te g) as M A := fun S H0 σ H D k r n _ _ _ =>
  h S H0 σ H k r _ fun v H1 d M1 k1 e1 b1 p => hg _ H1 v d σ as _ same_hide b1 (r.mono e1) p _ fun σ' as' r' _ p' => n σ' H1 as' M1 k1 r' e1 p'
theorem ws_popG {i : Nat} {d : PyData} {g : TG} {ts : List Nat} {f : PyData → List Sv → (List Sv → Prop) → Prop} (hg : GA K g ts f) (hi : as[i]? = some (.own p)) (hm : (p, fl, xs) ∈ M) (hl : xs[xs.length - 1]? = some d) (h : f d as fun as' => A.nx as' (mset M p xs.dropLast)) :
    WS K (tAsg (tBM0 K "list" rPop (tVar i)) g) as M A := fun S H0 σ H D k r n _ _ _ => by
  obtain ⟨o, e1, e2⟩ := r.at_ i _ hi
  cases (show o = some (V.ref p) from e2)
  obtain ⟨us, hp, hu⟩ := k.mem _ hm
  have hp : H p = some (.lst us) := hp
  obtain ⟨v, hv, hvd⟩ := dps_at hu hl
  have ge : Gh S (mset M p xs.dropLast) (upd H p (.lst us.dropLast)) = Gh S M H := gh_write hm
  have k2 := ok_write (ws := us.dropLast) (ys := xs.dropLast) k hm (dps_dropLast hu)
  refine ⟨.ref p, e1, tyl k hm, p, us, v, rfl, rfl, hp, by rw [dps_len hu]; exact hv, ?_⟩
  refine hg (Gh S (mset M p xs.dropLast) (upd H p (.lst us.dropLast))) _ v d σ as _ same_hide (by rw [ge]; exact hvd) (by rw [ge]; exact r) h _ fun σ' as' r' _ p' => ?_
  exact n σ' _ as' _ k2 r' (by rw [ge]; exact Same.refl _) p'
/-! a def that hands back a new list -/
def spN (pre : List PyData → Prop) (post : List PyData → List PyData → Prop) (K : PySem.W.Frag) : Sp := fun vs H Q _ => ∃ (S : Sy) (ds : List PyData), S.I H ∧ pre ds ∧ DpAll K (Hide S.B H) vs ds ∧
  ∀ (c : Addr) H' l pl, H c = none → (∀ a o, S.B a = false → H a = some o → H' a = some o) → S.I H' → H' c = some (.lst l) → DpAll K (Hide (fun a => S.B a || a == c) H') l pl → post ds pl → Q (.ref c) H'
def WN (K : PySem.W.Frag) (ts : TS) (as : List Sv) (M : Mm) (R : List PyData → Prop) : Prop := ∀ S H0 σ H (D : Ends), Ok0 K S H0 H M → Rs K (Gh S M H) σ as →
  (∀ c H' l pl M', H0 c = none → Ok0 K S H0 H' M' → H' c = some (.lst l) → DpAll K (Hide (fun a => Bm S M' a || a == c) H') l pl → R pl → D.rt (.ref c) H') → ts D σ H
theorem wn_seq {s1 s2 : TS} {R : List PyData → Prop} (h : WS K s1 as M { nx := fun as' M' => WN K s2 as' M' R, rt := fun _ _ => False, bk := fun _ _ => False, ct := fun _ _ => False }) : WN K (tSeq s1 s2) as M R := fun S H0 σ H D k r q =>
  h S H0 σ H { D with nx := s2 D } k r (fun σ' H' as' M' k' r' _ p => p S H0 σ' H' D k' r' q) (fun _ _ _ _ _ _ p => p.elim) (fun _ _ _ _ _ _ _ p => p.elim) (fun _ _ _ _ _ _ _ p => p.elim)
theorem wn_ret {R : List PyData → Prop} (h : WA K ta as M fun ss _ => ∃ ds : List PyData, ss = ds.map .dat ∧ ds.length ≤ 100000 ∧ R ds) : WN K (tRet (tLst ta)) as M R := fun S H0 σ H D k r q =>
  h S H0 σ H k r _ fun vs H1 ss M1 k1 e1 b1 ⟨ds, es, hl, p⟩ => by
    subst es
    have bd := ra_dat b1
    refine ⟨szl (by rw [dps_len bd]; exact hl), fun c hc => q c _ vs ds M1 ?_ (ok_new k1 hc) upd_same ?_ p⟩
    · cases e : H0 c with
      | none => rfl
      | some o => have z := k1.xt c o (bm_false.mp (new_hid k1 hc)).1 e; rw [hc] at z; cases z
    · refine dps_mono (fun a o e => ?_) _ _ bd
      obtain ⟨e1, e2⟩ := hide_some e
      have ne : a ≠ c := ne_of_none e2 hc
      rw [hide_f (by rw [e1, Bool.false_or]; simpa using ne), upd_ne ne]
      exact e2
variable {pre : List PyData → Prop} {postN : List PyData → List PyData → Prop} {E : XK}
theorem to_spN {t : TS} {N : List Str} {vs : List V} {H : Hp} {Q : VK} {nx : L2.St → Hp → Prop} {n : Nat} (hn : ∀ ds, pre ds → ds.length = n) (hb : ∀ ds, pre ds → WN K t (ds.map .dat ++ List.replicate (N.length - n) .no) [] (postN ds))
    (h : spN pre postN K vs H Q E) : t { nx := nx, rt := Q } (L2.start N vs) H := by
  obtain ⟨S, ds, iv, hp, hd, q⟩ := h
  have ln : vs.length = n := by rw [dps_len hd]; exact hn ds hp
  have k0 : Ok0 K S H H [] := ⟨fun _ _ _ e => e, iv, List.nodup_nil, (fun z hz => by cases hz), (fun z hz => by cases hz)⟩
  have hg : Gh S [] H = Hide S.B H := by unfold Gh; rw [bm_nil]
  have r0 : Rs K (Gh S [] H) (L2.start N vs) (ds.map .dat ++ List.replicate (N.length - n) .no) := by
    unfold L2.start
    rw [ln, hg]
    exact ra_start _ (dat_ra hd)
  refine hb ds hp S H (L2.start N vs) H _ k0 r0 fun c H' l pl M' hc k' hl hd' p => q c H' l pl hc k'.xt k'.inv hl (dps_mono (fun a o e => ?_) _ _ hd') p
  obtain ⟨e1, e2⟩ := hide_some e
  rw [Bool.or_eq_false_iff] at e1
  rw [hide_f (by rw [(bm_false.mp e1.1).1, e1.2]; rfl)]
  exact e2
theorem ws_setN {i : Nat} (h : WA K ta as M fun ss M1 => ∃ ds : List PyData, ss = ds.map .dat ∧ pre ds ∧ ∀ c pl, (∀ q ∈ M1, q.1 ≠ c) → postN ds pl → A.nx (as.set i (.own c)) ((c, true, pl) :: M1)) : WS K (tAsg (tCall (spN pre postN K) [] E ta) (gName i)) as M A := fun S H0 σ H D k r n _ _ _ =>
  h S H0 σ H k r _ fun vs H1 ss M1 k1 e1 b1 ⟨ds, es, hp, cont⟩ => by
    subst es
    rw [List.append_nil]
    refine ⟨syAt S M1 H1 fun z hz => by obtain ⟨us, a, _⟩ := k1.mem z hz; rw [a]; simp, ds, ⟨k1.inv, fun _ _ => rfl⟩, hp, ra_dat b1, fun c H' l pl hc xt iv hl hd pd => ?_⟩
    have nb := bm_false.mp (new_hid k1 hc)
    have hbm : Bm S ((c, true, pl) :: M1) = fun a => Bm S M1 a || a == c := by
      funext a
      unfold Bm
      rw [List.any_cons]
      have : ((c, true, pl).1 == a) = (a == c) := by
        show (c == a) = (a == c)
        rw [Bool.eq_iff_iff]; simp; exact ⟨fun e => e.symm, fun e => e.symm⟩
      rw [this]
      cases S.B a <;> cases (a == c) <;> simp
    have sm : Same (Gh S M1 H1) (Gh S ((c, true, pl) :: M1) H') := fun a o e => by
      obtain ⟨e1, e2⟩ := hide_some e
      have ne : a ≠ c := ne_of_none e2 hc
      unfold Gh
      rw [hbm, hide_f (by rw [e1, Bool.false_or]; simpa using ne)]
      exact xt a o e1 e2
    have k2 : Ok0 K S H0 H' ((c, true, pl) :: M1) := by
      refine ⟨fun a o e3 e4 => ?_, iv.1, ?_, fun z hz => ?_, fun z hz => ?_⟩
      · have e5 := k1.xt a o e3 e4
        by_cases e6 : Bm S M1 a = false
        · exact xt a o e6 e5
        · have e7 : Bm S M1 a = true := by simpa using e6
          rcases (Bool.or_eq_true _ _).mp e7 with e | e
          · rw [e3] at e; cases e
          · obtain ⟨z, hz, y⟩ := List.any_eq_true.mp e
            have y : z.1 = a := by simpa using y
            rw [← y, iv.2 z hz, y]
            exact e5
      · rw [List.map_cons, List.nodup_cons]
        refine ⟨fun z => ?_, k1.nd⟩
        obtain ⟨q, hq, e⟩ := List.mem_map.mp z
        exact nb.2 q hq e
      · rcases List.mem_cons.mp hz with rfl | hz
        · refine ⟨fun _ => ⟨nb.1, ?_⟩, fun z => by cases z⟩
          cases e : H0 c with
          | none => rfl
          | some o => have z := k1.xt c o nb.1 e; rw [hc] at z; cases z
        · exact k1.loc z hz
      · rcases List.mem_cons.mp hz with rfl | hz
        · exact ⟨l, hl, by rw [hbm]; exact hd⟩
        · obtain ⟨us, a, b⟩ := k1.mem z hz
          exact ⟨us, by rw [iv.2 z hz]; exact a, dps_mono sm _ _ b⟩
    exact n _ H' (as.set i (.own c)) _ k2 (((r.mono e1).mono sm).set i (s := .own c) rfl) (e1.trans sm) (cont c pl nb.2 pd)
theorem spN_len {vs : List V} {H : Hp} {Q : VK} {n : Nat} (hn : ∀ ds, pre ds → ds.length = n) (h : spN pre postN K vs H Q E) : vs.length = n := by
  obtain ⟨S, ds, _, hp, hd, _⟩ := h
  rw [dps_len hd]; exact hn ds hp
end

/-! ### a def that may be called -/
structure Cal (P : Program) (w : World) (K : PySem.W.Frag) (mg : Str → Option Value) (base : Heap) (k : Nat) (x : Str) (ps : List Str) (sp : Sp) : Prop where
  ex : ∃ f fd, FnOk P w K mg base CX0 k f fd ps sp ∧ mg x = some (.ref f) ∧ PySem.W.keepIn K (.ref f) = true ∧ Binds K fd ps []
/-- a def's text that stands behind the top -/
structure Dfn (K : PySem.W.Frag) (mg : Str → Option Value) (x : Str) (st : Stmt) (ps : List Str) : Prop where
  ex : ∃ f fd, Fun K x x st f fd ∧ mg x = some (.ref f) ∧ Binds K fd ps []
section
variable {P : Program} {w : World} {K : PySem.W.Frag} {mg : Str → Option Value} {base : Heap}
theorem Cal.mono {j k : Nat} {x : Str} {ps : List Str} {sp : Sp} (c : Cal P w K mg base j x ps sp) (h : j ≤ k) : Cal P w K mg base k x ps sp := by
  obtain ⟨f, fd, a, b, d, e⟩ := c.ex
  exact ⟨f, fd, a.mono h, b, d, e⟩
theorem pe_cal {X : Cx} {k : Nat} {x : Str} {ps : List Str} {sp : Sp} {p pos : Pos} {e : Expr} {es : List Expr} {t : TA} (c : Cal X.prog X.w X.K X.mg X.base k x ps sp) (hr : Room k X.A) (ha : PA X (e :: es) t) (hg : Gl X x := by rfl) (hdb : (x == ("__debug__" : Str)) = false := by decide)
    (he : starEach (e :: es) X.env = (false, eval e X.env) :: starEach es X.env := by rfl) (hpl : (backTo pos (starEach es X.env)).any (·.1) = false := by rfl) : PE X (.Call (.Name x p) (e :: es) [] pos) (tCall sp [] E0 t) := by
  obtain ⟨f, fd, F, hm, hk, hb⟩ := c.ex
  exact pe_call F hr hg hm hk hb .nil pass0 ha hdb he hpl
/-- the rule for a def -/
theorem Dfn.ok {x : Str} {st : Stmt} {N ps : List Str} {k : Nat} {sp : Sp} (F : Dfn K mg x st ps) (S : FnScope N ps (defScope st)) (len : ∀ vs H Q E, sp vs H Q E → vs.length = ps.length)
    (hbody : ∀ (f : Addr) (cdv : Value) (A : Around) (outer : List Env) (s : Shared) (H : Hp) (vs : List V) (Q : VK) (E : XK), Room k (A.deeper (envOfC x (defScope st) s.heap.objs.size f cdv)) → sp vs H Q E →
      ∃ t, PSs (cxOf CX0 P w K mg base N x (defScope st) f cdv A outer s H E).nox (defBody st) t ∧ t { nx := fun _ H' => Q .non H', rt := Q } (L2.start N vs) H) : Cal P w K mg base (k + 1) x ps sp := by
  obtain ⟨f, fd, a, b, c⟩ := F.ex
  exact ⟨f, fd, a.ok S len (fun cdv A outer s H vs Q E hr h => hbody f cdv A outer s H vs Q E hr h), b, a.kp, c⟩
end
end Ab

set_option Elab.async false
set_option linter.all false
set_option maxRecDepth 100000
set_option maxHeartbeats 4000000
namespace Ab
open PySem PySem.Spec PyProof.Rows L2
section
variable {α : Type} {Q : List PyData → Prop} {a b c : PyData}
theorem m0 (h : Q []) : ∃ ds : List PyData, ([] : List Sv) = ds.map .dat ∧ Q ds := ⟨[], rfl, h⟩
theorem m1 (h : Q [a]) : ∃ ds : List PyData, [Sv.dat a] = ds.map .dat ∧ Q ds := ⟨[a], rfl, h⟩
theorem m2 (h : Q [a, b]) : ∃ ds : List PyData, [Sv.dat a, .dat b] = ds.map .dat ∧ Q ds := ⟨[a, b], rfl, h⟩
theorem m3 (h : Q [a, b, c]) : ∃ ds : List PyData, [Sv.dat a, .dat b, .dat c] = ds.map .dat ∧ Q ds := ⟨[a, b, c], rfl, h⟩
theorem m5 {d e : PyData} (h : Q [a, b, c, d, e]) : ∃ ds : List PyData, [Sv.dat a, .dat b, .dat c, .dat d, .dat e] = ds.map .dat ∧ Q ds := ⟨[a, b, c, d, e], rfl, h⟩
theorem exb {x : Bool} {R : Bool → Prop} (h : R x) : ∃ b, PyData.bool x = .bool b ∧ R b := ⟨x, rfl, h⟩
theorem exi {x : Int} {R : Int → Prop} (h : R x) : ∃ b, PyData.int x = .int b ∧ R b := ⟨x, rfl, h⟩
theorem exs {x : Str} {R : Str → Prop} (h : R x) : ∃ b, PyData.str x = .str b ∧ R b := ⟨x, rfl, h⟩
theorem exl {xs : List PyData} {R : List PyData → Prop} (h : R xs) : ∃ ys, PyData.list xs = .list ys ∧ R ys := ⟨xs, rfl, h⟩
theorem exql {xs : List PyData} {R : List PyData → Prop} (h : R xs) : ∃ ys, (PyData.list xs = .list ys ∨ PyData.list xs = .tuple ys) ∧ R ys := ⟨xs, .inl rfl, h⟩
theorem exqt {xs : List PyData} {R : List PyData → Prop} (h : R xs) : ∃ ys, (PyData.tuple xs = .list ys ∨ PyData.tuple xs = .tuple ys) ∧ R ys := ⟨xs, .inr rfl, h⟩
theorem callF {f : List PyData → Option PyData} {ds : List PyData} {v : PyData} {R : PyData → Prop} (e : f ds = some v) (h : R v) : (∃ d, f ds = some d) ∧ ∀ d, f ds = some d → R d := ⟨⟨v, e⟩, fun d e2 => by rw [e] at e2; cases e2; exact h⟩
theorem iteK {c : Bool} {A B : Prop} (e : c = true) (h : A) : if c = true then A else B := by rw [if_pos e]; exact h
theorem iteN {c : Bool} {A B : Prop} (e : c = false) (h : B) : if c = true then A else B := by rw [e]; exact h
theorem iteB {c : Bool} {A B : Prop} (h1 : c = true → A) (h2 : c = false → B) : if c = true then A else B := by
  cases c with
  | true => exact h1 rfl
  | false => exact h2 rfl
theorem feq {P : PyData → Prop} (x : SeqAt.shaped a = true) (y : SeqAt.shaped b = true) (z : P (.bool (PyData.eqv a b))) : fEq a b P := ⟨x, y, z⟩
theorem fne {P : PyData → Prop} (x : SeqAt.shaped a = true) (y : SeqAt.shaped b = true) (z : P (.bool (!PyData.eqv a b))) : fNe a b P := ⟨x, y, z⟩
theorem fixt {ds : List PyData} {i : Int} {P : PyData → Prop} (e : atI ds i = some a) (h : P a) : fIx (.tuple ds) (.int i) P := ⟨a, e, h⟩
theorem fixl {ds : List PyData} {i : Int} {P : PyData → Prop} (e : atI ds i = some a) (h : P a) : fIx (.list ds) (.int i) P := ⟨a, e, h⟩
theorem fslt {ds es : List PyData} {lo hi : Option Int} {P : PyData → Prop} (e : cutD ds lo hi = es) (h : P (.tuple es)) : fSl (.tuple ds) lo hi P := by subst e; exact h
theorem fsll {ds es : List PyData} {lo hi : Option Int} {P : PyData → Prop} (e : cutD ds lo hi = es) (h : P (.list es)) : fSl (.list ds) lo hi P := by subst e; exact h
theorem flent {ds : List PyData} {P : PyData → Prop} (h : P (.int ds.length)) : fLenA [.tuple ds] P := h
theorem flenl {ds : List PyData} {P : PyData → Prop} (h : P (.int ds.length)) : fLenA [.list ds] P := h
theorem flens {z : Str} {P : PyData → Prop} (hz : z.length ≤ 100000) (h : P (.int z.length)) : fLenA [.str z] P := ⟨hz, h⟩
theorem fii {C : Int → Int → Prop} {g : Int → Int → PyData} {i j : Int} {P : PyData → Prop} (c : C i j) (h : P (g i j)) : fI C g (.int i) (.int j) P := ⟨c, h⟩
theorem fpi {i j : Int} {P : PyData → Prop} (h : P (.int (i + j))) : fPlus (.int i) (.int j) P := h
theorem fpt {xs ys : List PyData} {P : PyData → Prop} (l : xs.length + ys.length ≤ 100000) (h : P (.tuple (xs ++ ys))) : fPlus (.tuple xs) (.tuple ys) P := ⟨l, h⟩
theorem fpl {xs ys : List PyData} {P : PyData → Prop} (l : xs.length + ys.length ≤ 100000) (h : P (.list (xs ++ ys))) : fPlus (.list xs) (.list ys) P := ⟨l, h⟩
theorem flti {i j : Int} {P : PyData → Prop} (h : P (.bool (decide (i < j)))) : fLess (.int i) (.int j) P := h
theorem fint {i : Int} {P : PyData → Prop} (h : P (.int i)) : fIntOf [.int i] P := h
theorem ftupl {ds : List PyData} {P : PyData → Prop} (h : P (.tuple ds)) : fTupleOf [.list ds] P := h
theorem ftupt {ds : List PyData} {P : PyData → Prop} (h : P (.tuple ds)) : fTupleOf [.tuple ds] P := h
theorem fall {bs : List Bool} {ds : List PyData} {P : PyData → Prop} (e : ds = bs.map .bool) (h : P (.bool (bs.all id))) : fAll [.list ds] P := ⟨bs, e, h⟩
theorem fany {bs : List Bool} {ds : List PyData} {P : PyData → Prop} (e : ds = bs.map .bool) (h : P (.bool (bs.any id))) : fAny [.list ds] P := ⟨bs, e, h⟩
/-- a comprehension without tests over one name: each item's value by a function -/
theorem w_map {K : PySem.W.Frag} {wi : TI} {te : TE} {i : Nat} {vs : List Nat} {as : List Sv} {M : Mm} {P : PyData → Mm → Prop} (hi : i ∈ vs) (h : WI K wi as M fun xs M1 => ∃ g : PyData → PyData, xs.length ≤ 100000 ∧
    (∀ x ∈ xs, W K te ((awipe as vs).set i (.dat x)) M1 fun y M2 => y = g x ∧ M2 = M1) ∧ P (.list (xs.map g)) M1) : W K (tLc wi (gName i) tYes te vs) as M P := by
  refine w_lc ga_name (by simpa using hi) fun S H0 σ H k r R q => h S H0 σ H k r R fun J H' xs M' k' e' it ⟨g, hl, hx, hp⟩ => q J H' xs M' k' e' it ⟨fun n acc M2 => acc = (xs.take n).map g ∧ M2 = M', ⟨rfl, rfl⟩, fun n x acc Mi hn ⟨ea, em⟩ => ?_, fun acc M2 ⟨ea, em⟩ => by rw [ea, em, List.take_length]; exact hp⟩
  subst ea em
  intro S2 H02 σ2 H2 k2 r2 Q2 q2
  refine q2 true H2 Mi k2 (Same.refl _) ?_
  show W K te _ Mi _
  refine (hx x (List.mem_of_getElem? hn)).imp fun y M3 ⟨ey, em⟩ => ?_
  subst ey em
  have hlt := (List.getElem?_eq_some_iff.mp hn).1
  refine ⟨by rw [List.length_map, List.length_take]; omega, ?_, rfl⟩
  rw [List.take_add_one, hn, List.map_append]
  rfl
/-- .. over a couple of names -/
theorem w_map2 {K : PySem.W.Frag} {wi : TI} {te : TE} {i j : Nat} {vs : List Nat} {as : List Sv} {M : Mm} {P : PyData → Mm → Prop} (hi : i ∈ vs) (hj : j ∈ vs) (h : WI K wi as M fun xs M1 => ∃ g : PyData → PyData, xs.length ≤ 100000 ∧
    (∀ x ∈ xs, ∃ a b, (x = .tuple [a, b] ∨ x = .list [a, b]) ∧ W K te (((awipe as vs).set i (.dat a)).set j (.dat b)) M1 fun y M2 => y = g x ∧ M2 = M1) ∧ P (.list (xs.map g)) M1) : W K (tLc wi (gSeq K 2 (gCons (gName i) (gCons (gName j) gNil))) tYes te vs) as M P := by
  refine w_lc ga_pair (by intro t ht; simp at ht; rcases ht with rfl | rfl <;> assumption) fun S H0 σ H k r R q => h S H0 σ H k r R fun J H' xs M' k' e' it ⟨g, hl, hx, hp⟩ => q J H' xs M' k' e' it ⟨fun n acc M2 => acc = (xs.take n).map g ∧ M2 = M', ⟨rfl, rfl⟩, fun n x acc Mi hn ⟨ea, em⟩ => ?_, fun acc M2 ⟨ea, em⟩ => by rw [ea, em, List.take_length]; exact hp⟩
  subst ea em
  obtain ⟨a, b, ex, hw⟩ := hx x (List.mem_of_getElem? hn)
  refine ⟨a, b, ex, ?_⟩
  intro S2 H02 σ2 H2 k2 r2 Q2 q2
  refine q2 true H2 Mi k2 (Same.refl _) ?_
  show W K te _ Mi _
  refine hw.imp fun y M3 ⟨ey, em⟩ => ?_
  subst ey em
  have hlt := (List.getElem?_eq_some_iff.mp hn).1
  refine ⟨by rw [List.length_map, List.length_take]; omega, ?_, rfl⟩
  rw [List.take_add_one, hn, List.map_append]
  rfl
end
end Ab
namespace Ab
open PySem PySem.Spec PyProof.Rows L2
section
variable {X : Cx} {K : PySem.W.Frag} {k : Nat}
theorem k_plus (e : X.K = K) : OpR X (binaryOp .Add) (rPlus K) := e ▸ op_plus
theorem k_eq (e : X.K = K) (hr : Room k X.A) : OpR X (compareOp .Eq) (rEqD K) := e ▸ op_eqD hr.units
theorem k_ne (e : X.K = K) (hr : Room k X.A) : OpR X (compareOp .NotEq) (rNeD K) := e ▸ op_neD hr.units
theorem hu65 {A : Around} (hr : Room k A) : A.units + 65 < cLine := by have := hr.un; omega
theorem k_in (e : X.K = K) (hr : Room k X.A) : OpR X (compareOp .In) (rInSeq K) := e ▸ op_inSeq (hu65 hr)
theorem k_nin (e : X.K = K) (hr : Room k X.A) : OpR X (compareOp .NotIn) (rNinSeq K) := e ▸ op_ninSeq (hu65 hr)
theorem k_ix (e : X.K = K) : IxR X (rIx K) := e ▸ ix_seq
theorem k_sl (e : X.K = K) : SlR X (rSl K) := e ▸ sl_any
theorem k_tuple (e : X.K = K) : CallR X (.type "tuple") (rTupleOf K) := e ▸ call_tupleOf
theorem k_len (e : X.K = K) : CallR X (.builtin "len") (rLenA K) := e ▸ call_lenA
theorem k_all (e : X.K = K) (hc : X.calm = true) : CallR X (.builtin "all") (rAll K) := e ▸ cr_all hc
theorem k_any (e : X.K = K) (hc : X.calm = true) : CallR X (.builtin "any") (rAny K) := e ▸ cr_any hc
theorem k_isi (e : X.K = K) : CallR X (.builtin "isinstance") (rIsi K) := e ▸ call_isi
theorem k_isiT (e : X.K = K) : CallR X (.builtin "isinstance") (rIsiT K) := e ▸ call_isiT
theorem k_seq {tg l : Expr} {tl : TE} (e : X.K = K) (h : PE X l tl) : PI X tg l (iSeq K tl) := e ▸ pi_seq h
theorem k_rev {tg l : Expr} {te : TE} {p pos : Pos} (e : X.K = K) (hg : Gl X "reversed") (hm : X.mg "reversed" = none) (h : PE X l te) (hs : starEach [l] X.env = (false, eval l X.env) :: starEach [] X.env := by rfl) : PI X tg (.Call (.Name "reversed" p) [l] [] pos) (RT.iRevA K te) := e ▸ RT.pi_revA hg hm h hs
theorem k_tru {a : Expr} {ta : TE} (e : X.K = K) (ha : PE X a ta) (he : ∀ whole, isTrue a X.env whole = (do let v ← whole; standAt a.pos; holding [v] (truthy v)) := by intro _; rfl) : PT X a (tTru K ta) := e ▸ pt_tru ha he
theorem k_tup {es : List Expr} {kk : Nat} {t : TGs} {n : Nat} {pos : Pos} (e : X.K = K) (hc : X.calm = true) (h : PGs X es t) (hn : (assignEach es X.env).length = n := by rfl) (hst : (assignEach es X.env).findIdx? (·.1) = none := by rfl) : PG X (.Tuple es kk pos) (gSeq K n t) := e ▸ pg_seq hc h hn hst
theorem pe_gstr {x z : Str} {pos : Pos} (hg : Gl X x) (h : ∃ t, X.mg x = some (.str z t)) (hd : (x == ("__debug__" : Str)) = false := by decide) : PE X (.Name x pos) (tC (.str z)) := by
  obtain ⟨t, h⟩ := h
  exact pe_glob hg h ⟨t, rfl⟩ hd
theorem pe_gint {x : Str} {z : Int} {pos : Pos} (hg : Gl X x) (h : ∃ t, X.mg x = some (.int z t)) (hd : (x == ("__debug__" : Str)) = false := by decide) : PE X (.Name x pos) (tC (.int z)) := by
  obtain ⟨t, h⟩ := h
  exact pe_glob hg h ⟨t, rfl⟩ hd
theorem pe_gref {x : Str} {a : Addr} {pos : Pos} (hg : Gl X x) (h : X.mg x = some (.ref a)) (hd : (x == ("__debug__" : Str)) = false := by decide) : PE X (.Name x pos) (tC (.ref a)) := pe_glob (v := .ref a) hg h rfl hd
end
abbrev spF (f : List PyData → Option PyData) (K : PySem.W.Frag) : Sp := spP (fun ds => ∃ d, f ds = some d) (fun ds d => f ds = some d) K
end Ab
namespace Ab
open PySem PySem.Spec PyProof.Rows L2
section
variable {K : PySem.W.Frag} {wi : TI} {te : TE} {tt : TT} {i j : Nat} {vs : List Nat} {as : List Sv} {M : Mm} {P : PyData → Mm → Prop}
/-- a comprehension with a test, over one name -/
theorem w_filt (hi : i ∈ vs) (h : WI K wi as M fun xs M1 => ∃ (b : PyData → Bool) (g : PyData → PyData), xs.length ≤ 100000 ∧
    (∀ x ∈ xs, WT K tt ((awipe as vs).set i (.dat x)) M1 fun c M2 => c = b x ∧ M2 = M1 ∧ (b x = true → W K te ((awipe as vs).set i (.dat x)) M1 fun y M3 => y = g x ∧ M3 = M1)) ∧ P (.list ((xs.filter b).map g)) M1) : W K (tLc wi (gName i) tt te vs) as M P := by
  refine w_lc ga_name (by simpa using hi) fun S H0 σ H k r R q => h S H0 σ H k r R fun J H' xs M' k' e' it ⟨b, g, hl, hx, hp⟩ => q J H' xs M' k' e' it ⟨fun n acc M2 => acc = ((xs.take n).filter b).map g ∧ M2 = M', ⟨rfl, rfl⟩, fun n x acc Mi hn ⟨ea, em⟩ => ?_, fun acc M2 ⟨ea, em⟩ => by rw [ea, em, List.take_length]; exact hp⟩
  subst ea em
  intro S2 H02 σ2 H2 k2 r2 Q2 q2
  refine hx x (List.mem_of_getElem? hn) S2 H02 σ2 H2 k2 r2 Q2 fun c H3 M3 k3 e3 ⟨ec, em, hw⟩ => q2 c H3 M3 k3 e3 ?_
  subst ec em
  have hlt := (List.getElem?_eq_some_iff.mp hn).1
  have hfl : ((xs.take n).filter b).length ≤ n := Nat.le_trans (List.length_filter_le _ _) (by rw [List.length_take]; omega)
  have ht : xs.take (n + 1) = xs.take n ++ [x] := by rw [List.take_add_one, hn]; rfl
  cases hb : b x with
  | true =>
    refine iteT ?_
    refine (hw hb).imp fun y M4 ⟨ey, em⟩ => ?_
    subst ey em
    refine ⟨by rw [List.length_map]; omega, ?_, rfl⟩
    rw [ht, List.filter_append, List.map_append]
    simp [hb]
  | false =>
    refine iteF ?_
    refine ⟨?_, rfl⟩
    rw [ht, List.filter_append, List.map_append]
    simp [hb]
theorem w_filt2 (hi : i ∈ vs) (hj : j ∈ vs) (h : WI K wi as M fun xs M1 => ∃ (b : PyData → Bool) (g : PyData → PyData), xs.length ≤ 100000 ∧
    (∀ x ∈ xs, ∃ u v, (x = .tuple [u, v] ∨ x = .list [u, v]) ∧ WT K tt (((awipe as vs).set i (.dat u)).set j (.dat v)) M1 fun c M2 => c = b x ∧ M2 = M1 ∧ (b x = true → W K te (((awipe as vs).set i (.dat u)).set j (.dat v)) M1 fun y M3 => y = g x ∧ M3 = M1)) ∧
    P (.list ((xs.filter b).map g)) M1) : W K (tLc wi (gSeq K 2 (gCons (gName i) (gCons (gName j) gNil))) tt te vs) as M P := by
  refine w_lc ga_pair (by intro t ht; simp at ht; rcases ht with rfl | rfl <;> assumption) fun S H0 σ H k r R q => h S H0 σ H k r R fun J H' xs M' k' e' it ⟨b, g, hl, hx, hp⟩ => q J H' xs M' k' e' it ⟨fun n acc M2 => acc = ((xs.take n).filter b).map g ∧ M2 = M', ⟨rfl, rfl⟩, fun n x acc Mi hn ⟨ea, em⟩ => ?_, fun acc M2 ⟨ea, em⟩ => by rw [ea, em, List.take_length]; exact hp⟩
  subst ea em
  obtain ⟨u, v, ex, hxx⟩ := hx x (List.mem_of_getElem? hn)
  refine ⟨u, v, ex, ?_⟩
  intro S2 H02 σ2 H2 k2 r2 Q2 q2
  refine hxx S2 H02 σ2 H2 k2 r2 Q2 fun c H3 M3 k3 e3 ⟨ec, em, hw⟩ => q2 c H3 M3 k3 e3 ?_
  subst ec em
  have hlt := (List.getElem?_eq_some_iff.mp hn).1
  have hfl : ((xs.take n).filter b).length ≤ n := Nat.le_trans (List.length_filter_le _ _) (by rw [List.length_take]; omega)
  have ht : xs.take (n + 1) = xs.take n ++ [x] := by rw [List.take_add_one, hn]; rfl
  cases hb : b x with
  | true =>
    refine iteT ?_
    refine (hw hb).imp fun y M4 ⟨ey, em⟩ => ?_
    subst ey em
    refine ⟨by rw [List.length_map]; omega, ?_, rfl⟩
    rw [ht, List.filter_append, List.map_append]
    simp [hb]
  | false =>
    refine iteF ?_
    refine ⟨?_, rfl⟩
    rw [ht, List.filter_append, List.map_append]
    simp [hb]
end
end Ab

set_option Elab.async false
set_option linter.all false
set_option maxRecDepth 100000
set_option maxHeartbeats 4000000
/-! An exception that leaves from inside a list comprehension. -/
namespace Ab
open PySem PySem.Spec PyProof.Rows L2
/-- what is asked at a comprehension's end, its frame being known -/
def cPost (M : Model) (A : Around) (E : Value → Shared → Prop) (Q : Value → Shared → Prop) (acc : Value) (C : Addr) (fr : Option Addr) : Result → Shared → Prop
  | .ok _, s' => ∃ m, s'.heap.Ns C m ∧ ∀ h', Heap.SameBut C s'.heap h' → Q acc { s' with heap := h' }
  | .error x, s' => (∃ m, s'.heap.Ns C m) ∧ ∀ h', Heap.SameBut C s'.heap h' → ∀ ce : Env, ce.frame = fr → wpAny M A (passOn "comprehension.variables-let-go" x ce : Sem Value) (fun _ _ => False) E { s' with heap := h' }
section
variable {M : Model} {A : Around} {E : Value → Shared → Prop} {s : Shared} {env : Env}
theorem comp_freeX {e : Expr} {scope : Scope} {pos : Pos} {newAcc first : Sem Value} {g : Comprehension} {gs : List Comprehension} {cl : List (Str × Addr)} {Q : Value → Shared → Prop} (h1 : clausesOf e = g :: gs) (h2 : ∀ x, foldedSetIterable g.iter env x = pure x) (h3 : closureFor scope env = pure cl)
    (h4 : scope.kind = .function) (h5 : ∀ x ∈ scope.names, x.2 = .local → scope.names.lookup x.1 = some .local)
    (h : wpAny M A first (fun x sa => wpAny M A (pyIter x) (fun it sb => wpAny M A newAcc (fun acc sc => wpAny M A (newFunctionEnv scope env.globals cl [] env.qual none .none (some env)) (fun ce sd =>
      codeAny M A (.compStart e 0 it acc { ce with scope := relabel scope env }) (cPost M A E Q acc ce.locals ce.frame) sd) E sc) E sb) E sa) E s) : wpAny M A (comprehension e scope env pos newAcc false first none) Q E s := by
  unfold comprehension
  rw [h3, h1]
  refine wpAny_bind (wpAny_mono h (fun x sa ha => wpAny_bind (wpAny_standAt (wpAny_bind (wpAny_of_eq (h2 x) (wpAny_bind (wpAny_holding (wpAny_mono ha (fun it sb hb =>
    wpAny_standIf (wpAny_bind (wpAny_mono hb (fun acc sc hc => wpAny_bind (wpAny_pure (wpAny_bind (wpAny_mono hc (fun ce sd hd => ?_) fun _ _ z => z)))) fun _ _ z => z)))
      fun _ _ z => z))))))) fun _ _ z => z)
  dsimp only
  have hv : ∀ x ∈ (scope.names.filter fun x => (x.2 == .local || x.2 == .cell) && x.1 != (".0" : Str)).reverse, x.2 = .local → Env.kindOf { ce with scope := relabel scope env } x.1 = some .local := fun x hx hl => lookup_relabel_local (h5 x (List.mem_filter.mp (List.mem_reverse.mp hx)).1 hl)
  refine wpAny_holding (wpAny_bind (wpAny_attempt (wpAny_holding (wpAny_run (codeAny_mono hd fun r s' hr => ?_)))))
  cases r with
  | ok f =>
    obtain ⟨m, hn, hr⟩ := (show ∃ m, s'.heap.Ns ce.locals m ∧ ∀ h', Heap.SameBut ce.locals s'.heap h' → Q acc { s' with heap := h' } from hr)
    exact wpAny_bind (wpAny_holding (wpAny_comp_letGo (cenv := { ce with scope := relabel scope env }) h4 _ s' m hv hn fun h' m' _ hs' => wpAny_pure (hr h' hs')))
  | error x =>
    obtain ⟨⟨m, hn⟩, hr⟩ := (show (∃ m, s'.heap.Ns ce.locals m) ∧ ∀ h', Heap.SameBut ce.locals s'.heap h' → ∀ c : Env, c.frame = ce.frame → wpAny M A (passOn "comprehension.variables-let-go" x c : Sem Value) (fun _ _ => False) E { s' with heap := h' } from hr)
    exact wpAny_bind (wpAny_holding (wpAny_comp_letGo (cenv := { ce with scope := relabel scope env }) h4 _ s' m hv hn fun h' m' _ hs' => wpAny_mono (hr h' hs' _ rfl) (fun _ _ f => f.elim) fun _ _ y => y))
end
theorem noteFrame_fr {e : Value} {a b : Env} (h : a.frame = b.frame) : noteFrame e a = noteFrame e b := by
  unfold noteFrame PySem.frameOf
  rw [h]
theorem ff_but {base B h h' : Heap} {C : Addr} : ∀ {l : List Env}, h.FunFrames base l → (∀ L ∈ frs l, L ≠ C ∧ B.get? L = none) → (∀ b, b ≠ C → h'.get? b = h.get? b) → h'.FunFrames B l
  | [], _, _, _ => trivial
  | env :: l, x, hn, k => by
    obtain ⟨hk, ⟨L, o, hf, _, ho, hd⟩, hr⟩ := x
    have hL := hn L (List.mem_filterMap.mpr ⟨env, List.mem_cons_self, hf⟩)
    exact ⟨hk, ⟨L, o, hf, hL.2, (k L hL.1).trans ho, hd⟩, ff_but hr (fun b hb => by
      obtain ⟨e, he, q⟩ := List.mem_filterMap.mp hb
      exact hn b (List.mem_filterMap.mpr ⟨e, List.mem_cons_of_mem _ he, q⟩)) k⟩
theorem hide1 {h : Heap} {C b : Addr} {o : Obj} (e : (PySem.W.hideAll h [C]).get? b = some o) : b ≠ C ∧ h.get? b = some o := by
  refine ⟨fun z => ?_, PySem.W.of_hideAll _ e⟩
  rw [PySem.W.hideAll_none [C] (b := b) (by rw [z]; exact List.mem_singleton.mpr rfl)] at e
  cases e
theorem hide1_none {h : Heap} {C b : Addr} (e : h.get? b = none) : (PySem.W.hideAll h [C]).get? b = none := by
  cases q : (PySem.W.hideAll h [C]).get? b with
  | none => rfl
  | some o => rw [(hide1 q).2] at e; cases e
/-- an exception of a call within the block goes on to the def's own wish -/
theorem pass_comp {X : Cx} {pins : List (Addr × Obj)} {σ : L2.St} {H : Hp} {s s' : Shared} {C : Addr} {m : Str → Option Value} {Ex : XK} {u : Value} {E1 : Value → Shared → Prop} {ce : Env} (hst : X.stack = X.env :: X.outer) (hf : X.env.frame = some X.env.locals) (tk : Takes X (fun cls d _ H => Ex cls d H))
    (I : Inv X pins σ H s) (fc : FpOk X pins H C) (hn : s.heap.Ns C m) (cx : L2.CX X.prog X.w X.stack H s Ex u s') (hce : ce.frame = X.env.frame) :
    wpAny (model X.prog X.w) X.A (noteFrame u ce) (fun _ s2 => (∃ m, s2.heap.Ns C m) ∧ ∀ h', Heap.SameBut C s2.heap h' → ∀ c : Env, c.frame = ce.frame → wpAny (model X.prog X.w) X.A (passOn "comprehension.variables-let-go" u c : Sem Value) (fun _ _ => False) X.xe { s2 with heap := h' }) E1 s' := by
  obtain ⟨oC, es, ep, hC, hCd, hr⟩ := hn
  have nst : C ∉ frs X.stack := fun z => (List.mem_cons.mp (I.stkSub C z)).elim fc.2.1 fc.2.2.1
  obtain ⟨a, B0, H', cls0, d0, rfl, fl, hok, ub, na, os, ag, hE⟩ := cx
  have sC : s'.heap.get? C = some oC := fl.1 C oC (ub.keep C oC hC fc.1 nst)
  have x := XE.of_call (W := fun c d _ K => Ex c d K ∧ K C = none) I (fun _ _ _ h => h) ⟨a, B0, H', cls0, d0, rfl, fl, hok, ub, na, os, ag, hE, ub.free C oC hC fc.1⟩
  obtain ⟨a2, B, sI, pins2, σ2, H2, cls, d, e2, I2, nb, up, sky, na2, os2, ag2, w2, wC⟩ := x
  injection e2 with e2
  subst e2
  have sNs : s'.heap.Ns C m := ⟨oC, es, ep, sC, hCd, hr⟩
  have key : ∀ h1, HandSPX.HeldZ B X.stack a (Zc cls d) X.env.locals h1 → s'.heap.UpToSlots h1 → (∃ m, h1.Ns C m) ∧ ∀ h', Heap.SameBut C h1 h' → ∀ c : Env, c.frame = ce.frame → wpAny (model X.prog X.w) X.A (passOn "comprehension.variables-let-go" (.ref a) c : Sem Value) (fun _ _ => False) X.xe { s' with heap := h' } := fun h1 hh up1 => by
    refine ⟨⟨m, up1.ns sNs⟩, fun h2 sb c hc => ?_⟩
    obtain ⟨sl, h1C⟩ := up1 C oC sC fun vs q => by rw [hCd] at q; cases q
    obtain ⟨k1, k2, k3, oe, vs, T, oT, ts, he, hz, hd, hv1, hnT, hTe, hT, hdT, h3⟩ := hh
    have notC : ∀ {b : Addr} {o : Obj} {ws : Array Value}, h1.get? b = some o → o.data = .fields ws → b ≠ C := fun {b o ws} e1 e2 z => by
      rw [z, h1C] at e1
      cases e1
      have e2 : oC.data = .fields ws := e2
      rw [hCd] at e2; cases e2
    have aC := notC he hd
    have tC := notC hT hdT
    have he2 : h2.get? a = some oe := (sb.2 a aC).trans he
    have hT2 : h2.get? T = some oT := (sb.2 T tC).trans hT
    have held : HandSPX.HeldZ (PySem.W.hideAll B [C]) X.stack a (Zc cls d) X.env.locals h2 := by
      refine ⟨fun b o e => ?_, hide1_none k2, ff_but k3 (fun L hL => ⟨fun z => nst (by rw [← z]; exact hL), hide1_none (k3.mem hL).1⟩) fun b hb => sb.2 b hb, oe, vs, T, oT, ts, he2, hz, hd, hv1, hide1_none hnT, hTe, hT2, hdT, h3⟩
      obtain ⟨n, e⟩ := hide1 e
      exact (sb.2 b n).trans (k1 b o e)
    unfold PySem.passOn
    refine wpAny_bind (wpAny_field (s := { s' with heap := h2 }) he2 hd hv1 ?_)
    rw [if_neg (by simp)]
    rw [hc, hce, hf]
    refine wpAny_bind (HandSPX.setFlight_onZ (s := { s' with heap := h2 }) held fun h3 hh3 up3 => wpAny_throw (tk _ _ ?_))
    have J := Inv.turned (it := C) (h' := PySem.W.hideAll sI.heap [C]) (t' := sI.toks) (Inv.unpinned (pins := []) (pl := pins2) I2) (fun b o hb e => PySem.W.hideAll_get _ e (by simpa using hb)) wC fc.2.1 fc.2.2.2.1 fc.2.2.2.2.1 (fun p hp => fc.2.2.2.2.2 p (List.mem_append_left _ (by simpa using hp)))
    refine ⟨a, _, _, [], σ2, H2, cls, d, rfl, J, fun b o e hb => ?_, fun b o e hnf => ?_, .inr (.inr hh3), na2, os2, ag2, w2⟩
    · obtain ⟨n, e⟩ := hide1 e
      exact PySem.W.hideAll_get _ (nb b o e hb) (by simpa using n)
    · obtain ⟨n, e⟩ := hide1 e
      obtain ⟨sl1, q1⟩ := up b o e hnf
      obtain ⟨sl2, q2⟩ := up1 b _ q1 hnf
      have q3 : h2.get? b = some { o with slots := sl2 } := (sb.2 b n).trans q2
      obtain ⟨sl3, q4⟩ := up3 b _ q3 hnf
      exact ⟨sl3, q4⟩
  rw [noteFrame_fr hce]
  have hfr : X.A.frames = some (X.env :: X.outer) := by rw [I.ok.frames, hst]
  rw [hst] at sky key
  rcases sky with ⟨hB, hn, hl, oe, vs, he, hz, hd, h1⟩ | fl2 | hd
  · exact HandSPX.look_newZ Zc.steady hfr hl hf he hB hn hd h1 hz fun h' hh up => key h' hh up
  · exact HandSPX.looks_onZ Zc.steady hfr hf fl2 fun h' hh up => key h' hh up
  · exact HandSPX.againZ hf hd.2.2.2 (key s'.heap hd (Heap.UpToSlots.refl _))
/-- [elt for target in iter if ..], where a call within elt may let an exception out -/
theorem pe_lcX {X : Cx} {elt tg iter : Expr} {ifs : List Expr} {scope : Scope} {own : List (Str × Nat)} {pos : Pos} {wi : TI} {g : TG} {tt : TT} {te : TE} {Ex : XK} (hst : X.stack = X.env :: X.outer) (hf : X.env.frame = some X.env.locals) (tk : Takes X (fun cls d _ H => Ex cls d H))
    (hc : X.calm = true) (hN : X.N.Nodup) (hi : PI X tg iter wi) (ok : BlkOk X.N X.env.scope scope own) (hg : ∀ (s : Shared) (H : Hp) (C : Addr) (cl : List (Str × Addr)) (fp : List Addr), PG (X.blk s H scope (compEnvC scope cl C X.env) fp) tg g)
    (ht : ∀ (s : Shared) (H : Hp) (C : Addr) (cl : List (Str × Addr)) (fp : List Addr), PTs (X.blk s H scope (compEnvC scope cl C X.env) fp) ifs tt)
    (he : ∀ (s : Shared) (H : Hp) (C : Addr) (cl : List (Str × Addr)) (fp : List Addr) (xe : Value → Shared → Prop), Passes (L2.CX X.prog X.w) ((X.blk s H scope (compEnvC scope cl C X.env) fp).wish xe) Ex → PE ((X.blk s H scope (compEnvC scope cl C X.env) fp).wish xe) elt te)
    (hs : ∀ x, foldedSetIterable iter X.env x = pure x := by intro _; rfl) : PE X (.ListComp elt [⟨tg, iter, ifs, 0⟩] scope pos) (tLc wi g tt te (own.map (·.2))) := by
  refine ⟨fun pins s σ H Q I h => ?_⟩
  rw [eval_ListComp]
  have hfree : ∀ y ∈ scope.names, y.2 = .free → ∃ c, X.env.cells.lookup y.1 = some c := fun y hy e => I.ok.has _ (ok.free y hy e)
  refine comp_freeX rfl hs (closure_ok hfree) ok.kind (fun y hy e => by rw [ok.uniq y hy, e]) (thn (hi.run pins s σ H _ I h) fun xv s1 hx => thn hx fun itv s2 h2 => ?_)
  obtain ⟨it, fp, tn, J, H2, rfl, I2, T, st2, f2, q⟩ := h2
  refine wpAny_newObj_type (newEnv_comp ?_) (show 0 ≤ sizeLine by decide)
  generalize hD : s2.heap.objs.size = D
  have hDn : H2 D = none := I2.hok.fresh (Nat.le_of_eq hD)
  obtain ⟨W, ⟨m0, w0⟩, turn⟩ := q D hDn
  generalize hs3 : ({ s2 with heap := s2.heap.push { cls := .type "list", data := .seq ([] : List Value).toArray } } : Shared) = s3
  have h3 : s3.heap = s2.heap.push { cls := .type "list", data := .seq ([] : List Value).toArray } := by rw [← hs3]
  have I3 : Inv X pins σ (upd H2 D (.lst [])) s3 := by
    rw [← hs3]
    exact I2.laid (t' := s2.toks) (fun b o e => Heap.get?_push_of_some _ e) (Nat.le_of_eq hD) ⟨Nat.zero_le _, [], 0, .nil, by rw [← hD]; exact Heap.get?_push_size _ rfl⟩
  have f3 : ∀ b ∈ fp, FpOk X pins (upd H2 D (.lst [])) b ∧ b < s3.heap.objs.size := fun b hb => by
    obtain ⟨o, e, _⟩ := T.obj _ _ st2 b hb
    have hlt := Heap.lt_size e
    exact ⟨⟨by rw [upd_ne (by rw [← hD]; exact Nat.ne_of_lt hlt)]; exact (f2 b hb).1, (f2 b hb).2⟩, by rw [h3, Heap.size_push]; exact Nat.lt_succ_of_lt hlt⟩
  have st3 : tn 0 s3.heap := T.keep _ _ _ st2 fun b _ o e => by rw [h3]; exact Heap.get?_push_of_some _ e
  have I4 := block_start I3 ok hN f3
  have pg := hg s3 (upd H2 D (.lst [])) s3.heap.objs.size (cellsFrom (s3.heap.objs.size + 1) scope.names (cloFrom X.env.cells scope.names [])) fp
  have pt := ht s3 (upd H2 D (.lst [])) s3.heap.objs.size (cellsFrom (s3.heap.objs.size + 1) scope.names (cloFrom X.env.cells scope.names [])) fp
  have pe := he s3 (upd H2 D (.lst [])) s3.heap.objs.size (cellsFrom (s3.heap.objs.size + 1) scope.names (cloFrom X.env.cells scope.names [])) fp
  show codeAny _ _ (.compStart (.ListComp elt [⟨tg, iter, ifs, 0⟩] scope pos) 0 (.ref it) (.ref D) (compEnvC scope (cellsFrom (s3.heap.objs.size + 1) scope.names (cloFrom X.env.cells scope.names [])) s3.heap.objs.size X.env)) (cPost (model X.prog X.w) X.A X.xe _ (.ref D) s3.heap.objs.size X.env.frame) { s3 with heap := pushCells (s3.heap.push { cls := .type "dict", data := .dict #[] }) scope.names }
  have nfp : ∀ b ∈ fp, (upd H2 D (.lst [])) b = none := fun b hb => (f3 b hb).1.1
  generalize hce : compEnvC scope (cellsFrom (s3.heap.objs.size + 1) scope.names (cloFrom X.env.cells scope.names [])) s3.heap.objs.size X.env = ce at I4 pg pt pe ⊢
  have cL : ce.locals = s3.heap.objs.size := by subst hce; rfl
  have cF : ce.frame = X.env.frame := by subst hce; rfl
  generalize hH3 : upd H2 D (.lst []) = H3 at I3 I4 pg pt pe w0 nfp f3
  generalize hs4 : ({ s3 with heap := pushCells (s3.heap.push { cls := .type "dict", data := .dict #[] }) scope.names } : Shared) = s4 at I4 ⊢
  have st4 : tn 0 s4.heap := T.keep _ _ _ st3 fun b _ o e => by rw [← hs4]; exact pushCells_keeps _ _ _ _ (Heap.get?_push_of_some _ e)
  have stat : ∀ {σ' : L2.St} {H' : Hp} {s' : Shared}, Inv (X.blk s3 H3 scope ce fp) [] σ' H' s' → (∀ b ∈ fp, H' b = none) → ∀ b ∈ fp, FpOk (X.blk s3 H3 scope ce fp) [] H' b := fun {σ' H' s'} I' hn b hb =>
    ⟨hn b hb, (I'.ok.exf b hb).1, I'.ok.exfs b hb, .inl hb, fun x c e => (I'.ok.exf b hb).2 x c e, fun p hp => by simp at hp⟩
  -- what a block's state says of the def's
  have out : ∀ {xe : Value → Shared → Prop} {pinsB : List (Addr × Obj)} {σ' : L2.St} {H' : Hp} {s' : Shared}, Inv ((X.blk s3 H3 scope ce fp).wish xe) pinsB σ' H' s' → Inv X pins σ H' s' ∧ FpOk X pins H' s3.heap.objs.size ∧ ∃ m, s'.heap.Ns s3.heap.objs.size m := fun {xe pinsB σ' H' s'} I' => by
    have nC : H' s3.heap.objs.size = none := by rw [← cL]; exact I'.free
    obtain ⟨m, hn, _⟩ := I'.loc
    exact ⟨I3.call' (ch := fp) I'.os I'.base I'.hok I'.bare fun b hb => ⟨(f3 b hb).1.2.2.2.1, (f3 b hb).1.2.1, (f3 b hb).1.2.2.2.2.1, (f3 b hb).1.2.2.2.2.2⟩, I3.fpOk (Nat.le_refl _) nC, m, by rw [← cL]; exact hn⟩
  generalize hPO : cPost (model X.prog X.w) X.A X.xe (EP X pins σ Q) (.ref D) s3.heap.objs.size X.env.frame = PO
  have pxe := pe (notedBy (model X.prog X.w) X.A ce fun e s' => PO (.error e) s') fun pinsB σB HB sB e s' IB cx => by
    obtain ⟨IX, fc, m, hn⟩ := out IB
    rw [← hPO]
    have z := pass_comp (E1 := fun e s'' => cPost (model X.prog X.w) X.A X.xe (EP X pins σ Q) (.ref D) s3.heap.objs.size X.env.frame (.error e) s'') hst hf tk IX fc hn cx cF
    rw [cF] at z
    exact z
  have loop : codeAny (model X.prog X.w) X.A (.compLoop (.ListComp elt [⟨tg, iter, ifs, 0⟩] scope pos) 0 (.ref it) (.ref D) ce) PO s4 := by
    refine compLoop_any (fun n s' => ∃ i H', Inv (X.blk s3 H3 scope ce fp) [] (wipe σ (own.map (·.2))) H' s' ∧ tn i s'.heap ∧ (∀ b ∈ fp, H' b = none) ∧ W i n H') ?_ m0 ⟨0, H3, I4, st4, nfp, w0⟩
    rintro n s5 ⟨i, H5, I5, st5, n5, w5⟩
    rcases turn i n H5 w5 with ⟨stop, qq⟩ | ⟨go, Nx, hNx, step⟩
    · refine thnF (T.done (X.blk s3 H3 scope ce fp) rfl rfl rfl hc i [] s5 _ H5 (fun _ _ => False) I5 (stat I5 n5) st5 stop) fun r s6 ⟨hr, I6⟩ => ?_
      subst hr
      obtain ⟨I7, f, m, hn⟩ := out (I6.wish fun _ _ => False)
      rw [← hPO]
      obtain ⟨f0, f1, f2, f3, f4, f5⟩ := f
      exact ⟨m, hn, fun h'' sb => ⟨.ref D, H5, I7.turned (t' := s6.toks) (fun b o hb e => (sb.2 b hb).trans e) f0 f1 f3 f4 f5, rfl, qq⟩⟩
    · refine thnF (T.item (X.blk s3 H3 scope ce fp) rfl rfl rfl hc i [] s5 _ H5 (fun _ _ => False) I5 (stat I5 n5) st5 go) fun r s6 ⟨u, hr, h6⟩ => ?_
      subst hr
      refine thnF h6 fun _ s7 ⟨x, H7, I7, r7, y7, st7, n7⟩ => ?_
      have I7' := I7.pinned (stat I7 n7) (T.obj _ _ st7)
      refine thnF (pg.run _ s7 _ H7 x u _ I7' r7 (step x H7 y7)) fun _ s8 ⟨σ8, H8, I8, hw8, q8⟩ => ?_
      refine thnF (pt.run _ s8 σ8 H8 _ I8 q8) fun b s9 ⟨H9, I9, q9⟩ => ?_
      have fin : ∀ {s' : Shared} {H' : Hp}, Inv (X.blk s3 H3 scope ce fp) ([] ++ pinsAt fp s7.heap) σ8 H' s' → Nx H' → ∃ m, m < n ∧ ∃ i H', Inv (X.blk s3 H3 scope ce fp) [] (wipe σ (own.map (·.2))) H' s' ∧ tn i s'.heap ∧ (∀ b ∈ fp, H' b = none) ∧ W i m H' := fun {s' H'} I' nx => by
        obtain ⟨m', hm, w'⟩ := hNx H' nx
        have pin' : ∀ b ∈ fp, ∀ o, s7.heap.get? b = some o → s'.heap.get? b = some o ∧ H' b = none := fun b hb o e =>
          let z := I'.pin (b, o) (List.mem_append_right _ (List.mem_append_right _ (mem_pinsAt hb e)))
          ⟨z.1, z.2.1⟩
        have hl : (wipe σ (own.map (·.2))).length = σ8.length := by rw [← hw8, wipe_length]
        refine ⟨m', hm, i + 1, H', (I'.unpinned (pins := [])).weak hl (fun j v e => by rw [← hw8] at e; exact (wipe_some e).1), T.keep _ _ _ st7 fun b hb o e => (pin' b hb o e).1, fun b hb => ?_, w'⟩
        obtain ⟨o, e, _⟩ := T.obj _ _ st7 b hb
        exact (pin' b hb o e).2
      cases b with
      | false =>
        simp only [Bool.false_eq_true, if_false] at q9 ⊢
        exact fin I9 q9
      | true =>
        simp only [if_true] at q9 ⊢
        refine wpAny_mono (pxe.run _ s9 σ8 H9 _ (I9.wish _) q9) (fun z s10 ⟨yv, H10, I10, r10, acc, hD10, hz10, nx⟩ => ?_) fun _ _ z => z
        exact app_ok (X := X.blk s3 H3 scope ce fp) I10.unwish hD10 hz10 r10 fun s11 I11 => fin I11 nx
  exact codeAny_compStart_list loop (T.self X.A 0 _ _ _ st4 loop)
end Ab

set_option Elab.async false
set_option linter.all false
set_option maxRecDepth 100000
set_option maxHeartbeats 4000000
/-! The logic where something may be raised: a frame S, H0 and a wish E about the class C. -/
namespace Ab
open PySem PySem.Spec PyProof.Rows L2
/-! ### equality, in: only the shallower side's depth counts -/
def rEqW (K : PySem.W.Frag) : R2 := fun x y H Q => ∃ d e, Dp K H x d ∧ Dp K H y e ∧ d.canLay0 = true ∧ e.canLay0 = true ∧ min d.depth e.depth ≤ 64 ∧ Q (.bl (PyData.eqv d e)) H
def rNeW (K : PySem.W.Frag) : R2 := fun x y H Q => ∃ d e, Dp K H x d ∧ Dp K H y e ∧ d.canLay0 = true ∧ e.canLay0 = true ∧ min d.depth e.depth ≤ 64 ∧ Q (.bl (!PyData.eqv d e)) H
def rInW (K : PySem.W.Frag) : R2 := fun x y H Q => ∃ d ds, Dp K H x d ∧ (Dp K H y (.list ds) ∨ Dp K H y (.tuple ds)) ∧ d.canLay0 = true ∧ PyData.canLayAll0 ds = true ∧ min (PyData.depthAll ds) d.depth ≤ 64 ∧ Q (.bl (ds.any fun z => PyData.eqv z d)) H
def rNinW (K : PySem.W.Frag) : R2 := fun x y H Q => ∃ d ds, Dp K H x d ∧ (Dp K H y (.list ds) ∨ Dp K H y (.tuple ds)) ∧ d.canLay0 = true ∧ PyData.canLayAll0 ds = true ∧ min (PyData.depthAll ds) d.depth ≤ 64 ∧ Q (.bl (!ds.any fun z => PyData.eqv z d)) H
section
variable {X : Cx}
theorem op_inW (hu : X.A.units + 65 < cLine) : OpR X (compareOp .In) (rInW X.K) := by
  intro pins s σ H x y v u Q I rx ry h
  obtain ⟨d, ds, hd, he, sd, se, hm, q⟩ := h
  obtain ⟨as, r1⟩ := Dp.reads I d x v hd rx
  rcases he with he | he
  · obtain ⟨bs, r2⟩ := Dp.reads I (.list ds) y u he ry
    exact SeqAt.in_list_reads r2 r1 se sd (by omega) ⟨.bl _, H, I, rfl, q⟩
  · obtain ⟨bs, r2⟩ := Dp.reads I (.tuple ds) y u he ry
    exact SeqAt.in_tuple_reads r2 r1 se sd (by omega) ⟨.bl _, H, I, rfl, q⟩
theorem op_ninW (hu : X.A.units + 65 < cLine) : OpR X (compareOp .NotIn) (rNinW X.K) := by
  intro pins s σ H x y v u Q I rx ry h
  obtain ⟨d, ds, hd, he, sd, se, hm, q⟩ := h
  obtain ⟨as, r1⟩ := Dp.reads I d x v hd rx
  rcases he with he | he
  · obtain ⟨bs, r2⟩ := Dp.reads I (.list ds) y u he ry
    exact SeqAt.notIn_list_reads r2 r1 se sd (by omega) ⟨.bl _, H, I, rfl, q⟩
  · obtain ⟨bs, r2⟩ := Dp.reads I (.tuple ds) y u he ry
    exact SeqAt.notIn_tuple_reads r2 r1 se sd (by omega) ⟨.bl _, H, I, rfl, q⟩
theorem op_eqW (hu : X.A.units + 64 < cLine) : OpR X (compareOp .Eq) (rEqW X.K) := by
  intro pins s σ H x y v u Q I rx ry h
  obtain ⟨d, e, hd, he, sd, se, hm, q⟩ := h
  obtain ⟨as, r1⟩ := Dp.reads I d x v hd rx
  obtain ⟨bs, r2⟩ := Dp.reads I e y u he ry
  exact SeqAt.compareEq_reads r1 r2 sd se (by omega) ⟨.bl _, H, I, rfl, q⟩
theorem op_neW (hu : X.A.units + 64 < cLine) : OpR X (compareOp .NotEq) (rNeW X.K) := by
  intro pins s σ H x y v u Q I rx ry h
  obtain ⟨d, e, hd, he, sd, se, hm, q⟩ := h
  obtain ⟨as, r1⟩ := Dp.reads I d x v hd rx
  obtain ⟨bs, r2⟩ := Dp.reads I e y u he ry
  exact SeqAt.compareNe_reads r1 r2 sd se (by omega) ⟨.bl _, H, I, rfl, q⟩
def rLeS : R2 := fun x y H Q => ∃ i j, x = .str i ∧ y = .str j ∧ Q (.bl (!decide (j.cps.toList < i.cps.toList))) H
theorem op_leS : OpR X (compareOp .LtE) rLeS := op_le_str
def rAbs : List V → Hp → VK → Prop := fun xs H Q => ∃ i, xs = [.int i] ∧ Q (.int (if i < 0 then -i else i)) H
theorem call_absI : CallR X (.builtin "abs") rAbs := call_abs
def rOrd : List V → Hp → VK → Prop := fun xs H Q => ∃ x, xs = [.str x] ∧ x.length = 1 ∧ Q (.int (x.cps.getD 0 0 : Nat)) H
theorem call_ordS : CallR X (.builtin "ord") rOrd := call_ord
def rJoin (K : PySem.W.Frag) : V → List V → Hp → VK → Prop := fun x xs H Q => ∃ a p, ∃ ys : List Str, x = .str a ∧ xs = [.ref p] ∧ (SqL K H p (ys.map V.str) ∨ SqT K H p (ys.map V.str)) ∧ (ys.map (·.length)).sum + ys.length * a.length ≤ 16777216 ∧ Q (.str (Txt.join a ys)) H
theorem pe_joinW {o e : Expr} {to te : TE} {apos pos : Pos} (ho : PE X o to) (he : PE X e te) (hs : starEach [e] X.env = (false, eval e X.env) :: starEach [] X.env := by rfl) (hbase : attributeBase o "join" X.env (eval o X.env) = eval o X.env := by rfl) (hline : (apos.endLine == pos.line) = true := by rfl) :
    PE X (.Call (.Attribute o "join" apos) [e] [] pos) (tM1 (rJoin X.K) to te) := pe_join ho he hs hbase hline
/-- raise C(), C an own class without __init__ -/
theorem pmk_own0 {C : Addr} {bmB : List Value} {B newId initId : String} {x : Str} {p pos : Pos} (F : ExcBaseFacts B newId initId bmB) (q : PySem.W.excIn X.K C bmB newId = true) (gC : X.mg x = some (.ref C)) (kC : PySem.W.keepIn X.K (.ref C) = true) (r : Raises X (.ref C)) (hg : Gl X x)
    (hdb : (x == ("__debug__" : Str)) = false := by decide) : PMk X (.Call (.Name x p) [] [] pos) (fun _ H Q => Q (.ref C) none H) := by
  intro pins s σ H Q I h
  refine wpAny_Call_Name_kw (ld_glob I hg gC ?_ hdb)
  refine PySem.W.callWith_K0 I.kIn kC ?_
  obtain ⟨bm, N, nm, qn, bs, hdct, sn, sub, ab, col, dd, k0, k1, k2, k3, k5, mN, hC, hN, hni, T⟩ := exc_obj I.kIn q
  exact wpAny_call_exc_subT F T hC hN hni (fun h' e hm => mk_of I hm r h (I.hok.gone hm.new)) (by show 0 ≤ sizeLine; rw [sizeLine_eq]; omega)
end
section
variable {X : Cx} {K : PySem.W.Frag} {k : Nat}
theorem k_eqW (e : X.K = K) (hr : Room k X.A) : OpR X (compareOp .Eq) (rEqW K) := e ▸ op_eqW hr.units
theorem k_neW (e : X.K = K) (hr : Room k X.A) : OpR X (compareOp .NotEq) (rNeW K) := e ▸ op_neW hr.units
theorem k_inW (e : X.K = K) (hr : Room k X.A) : OpR X (compareOp .In) (rInW K) := e ▸ op_inW (hu65 hr)
theorem k_ninW (e : X.K = K) (hr : Room k X.A) : OpR X (compareOp .NotIn) (rNinW K) := e ▸ op_ninW (hu65 hr)
theorem k_join {o el : Expr} {to te : TE} {apos pos : Pos} (e : X.K = K) (ho : PE X o to) (he : PE X el te) (hs : starEach [el] X.env = (false, eval el X.env) :: starEach [] X.env := by rfl) (hbase : attributeBase o "join" X.env (eval o X.env) = eval o X.env := by rfl) (hline : (apos.endLine == pos.line) = true := by rfl) :
    PE X (.Call (.Attribute o "join" apos) [el] [] pos) (tM1 (rJoin K) to te) := e ▸ pe_joinW ho he hs hbase hline
end
/-! ### what these do to data -/
def fEqW (a b : PyData) (P : PyData → Prop) : Prop := a.canLay0 = true ∧ b.canLay0 = true ∧ min a.depth b.depth ≤ 64 ∧ P (.bool (PyData.eqv a b))
def fNeW (a b : PyData) (P : PyData → Prop) : Prop := a.canLay0 = true ∧ b.canLay0 = true ∧ min a.depth b.depth ≤ 64 ∧ P (.bool (!PyData.eqv a b))
def fInW (a : PyData) : PyData → (PyData → Prop) → Prop
  | .list ds, P | .tuple ds, P => a.canLay0 = true ∧ PyData.canLayAll0 ds = true ∧ min (PyData.depthAll ds) a.depth ≤ 64 ∧ P (.bool (ds.any fun z => PyData.eqv z a))
  | _, _ => False
def fNinW (a : PyData) : PyData → (PyData → Prop) → Prop
  | .list ds, P | .tuple ds, P => a.canLay0 = true ∧ PyData.canLayAll0 ds = true ∧ min (PyData.depthAll ds) a.depth ≤ 64 ∧ P (.bool (!ds.any fun z => PyData.eqv z a))
  | _, _ => False
def fLeS : PyData → PyData → (PyData → Prop) → Prop
  | .str i, .str j, P => P (.bool (!decide (j.cps.toList < i.cps.toList)))
  | _, _, _ => False
def fIsB (g : Bool → Bool → Bool) : PyData → PyData → (PyData → Prop) → Prop
  | .bool a, .bool b, P => P (.bool (g a b))
  | _, _, _ => False
def fAbs : List PyData → (PyData → Prop) → Prop
  | [.int i], P => P (.int (if i < 0 then -i else i))
  | _, _ => False
def fOrd : List PyData → (PyData → Prop) → Prop
  | [.str z], P => z.length = 1 ∧ P (.int (z.cps.getD 0 0 : Nat))
  | _, _ => False
section
variable {K : PySem.W.Frag}
theorem ao_eqW : AO K (rEqW K) fEqW := fun B H x y a b P hb hx hy p Q q => ⟨a, b, dp_mono same_hide _ _ hx, dp_mono same_hide _ _ hy, p.1, p.2.1, p.2.2.1, q _ _ H (.inl rfl) (.bl _) p.2.2.2⟩
theorem ao_neW : AO K (rNeW K) fNeW := fun B H x y a b P hb hx hy p Q q => ⟨a, b, dp_mono same_hide _ _ hx, dp_mono same_hide _ _ hy, p.1, p.2.1, p.2.2.1, q _ _ H (.inl rfl) (.bl _) p.2.2.2⟩
theorem ao_inW : AO K (rInW K) fInW := fun B H x y a b P hb hx hy p Q q => by
  cases b <;> first | exact p.elim | skip
  case list ds => exact ⟨a, ds, dp_mono same_hide _ _ hx, .inl (dp_mono same_hide _ _ hy), p.1, p.2.1, p.2.2.1, q _ _ H (.inl rfl) (.bl _) p.2.2.2⟩
  case tuple ds => exact ⟨a, ds, dp_mono same_hide _ _ hx, .inr (dp_mono same_hide _ _ hy), p.1, p.2.1, p.2.2.1, q _ _ H (.inl rfl) (.bl _) p.2.2.2⟩
theorem ao_ninW : AO K (rNinW K) fNinW := fun B H x y a b P hb hx hy p Q q => by
  cases b <;> first | exact p.elim | skip
  case list ds => exact ⟨a, ds, dp_mono same_hide _ _ hx, .inl (dp_mono same_hide _ _ hy), p.1, p.2.1, p.2.2.1, q _ _ H (.inl rfl) (.bl _) p.2.2.2⟩
  case tuple ds => exact ⟨a, ds, dp_mono same_hide _ _ hx, .inr (dp_mono same_hide _ _ hy), p.1, p.2.1, p.2.2.1, q _ _ H (.inl rfl) (.bl _) p.2.2.2⟩
theorem ao_leS : AO K rLeS fLeS := fun B H x y a b P hb hx hy p Q q => by
  cases a <;> cases b <;> first | exact p.elim | skip
  case str.str i j => cases hx; cases hy; exact ⟨i, j, rfl, rfl, q _ _ H (.inl rfl) (.bl _) p⟩
theorem ao_isB : AO K rIsB (fIsB fun a b => decide (a = b)) := fun B H x y a b P hb hx hy p Q q => by
  cases a <;> cases b <;> first | exact p.elim | skip
  case bool.bool i j => cases hx; cases hy; exact ⟨i, j, rfl, rfl, q _ _ H (.inl rfl) (.bl _) p⟩
theorem ao_notB : AO K rNotB (fIsB fun a b => !decide (a = b)) := fun B H x y a b P hb hx hy p Q q => by
  cases a <;> cases b <;> first | exact p.elim | skip
  case bool.bool i j => cases hx; cases hy; exact ⟨i, j, rfl, rfl, q _ _ H (.inl rfl) (.bl _) p⟩
theorem ac_abs : AC K rAbs fAbs := fun B H xs ds P hb hd p Q q => by
  match ds, hd, p with
  | [.int i], .cons h1 .nil, p =>
    cases h1
    exact ⟨i, rfl, q _ _ H (.inl rfl) (.int _) p⟩
theorem ac_ord : AC K rOrd fOrd := fun B H xs ds P hb hd p Q q => by
  match ds, hd, p with
  | [.str z], .cons h1 .nil, p =>
    cases h1
    exact ⟨z, rfl, p.1, q _ _ H (.inl rfl) (.int _) p.2⟩
theorem dps_strs {G : Hp} : ∀ {vs : List V} {bs : List Str}, DpAll K G vs (bs.map .str) → vs = bs.map .str
  | [], [], _ => rfl
  | _ :: _, _ :: _, h => by
    cases h with
    | cons h1 h2 => cases h1; rw [dps_strs h2]; rfl
  | [], _ :: _, h => by cases h
  | _ :: _, [], h => by cases h
variable {as : List Sv} {M : Mm} {ta te : TE} {P : PyData → Mm → Prop}
theorem w_join (h : W K ta as M fun a M1 => ∃ z, a = .str z ∧ W K te as M1 fun d M2 => ∃ ys : List Str, d = .list (ys.map .str) ∧ (ys.map (·.length)).sum + ys.length * z.length ≤ 16777216 ∧ P (.str (Txt.join z ys)) M2) : W K (tM1 (rJoin K) ta te) as M P := fun S H0 σ H k r Q q =>
  h S H0 σ H k r _ fun v H1 a M1 k1 e1 b1 ⟨z, ea, h2⟩ => by
    subst ea
    cases b1
    refine ⟨⟨z, rfl⟩, h2 S H0 σ H1 k1 (r.mono e1) _ fun y H2 d M2 k2 e2 b2 ⟨ys, ed, hl, p⟩ => ?_⟩
    subst ed
    obtain ⟨c, rfl⟩ := isl b2
    obtain ⟨vs, s1, _, d1⟩ := lstAt b2
    rw [dps_strs d1] at s1
    exact ⟨z, c, ys, rfl, rfl, .inl s1, hl, q _ H2 _ M2 k2 (e1.trans e2) (.str _) p⟩
end
section
variable {a b : PyData} {P : PyData → Prop}
theorem feqW (x : a.canLay0 = true) (y : b.canLay0 = true) (m : min a.depth b.depth ≤ 64) (z : P (.bool (PyData.eqv a b))) : fEqW a b P := ⟨x, y, m, z⟩
theorem fneW (x : a.canLay0 = true) (y : b.canLay0 = true) (m : min a.depth b.depth ≤ 64) (z : P (.bool (!PyData.eqv a b))) : fNeW a b P := ⟨x, y, m, z⟩
end
/-! ### a wider frame over a frame -/
structure Ext (S : Sy) (H0 : Hp) (S' : Sy) : Prop where
  b : ∀ a, S'.B a = true → S.B a = true ∨ H0 a = none
  i : ∀ H, S'.I H → S.I H
/-- the wish about raising C() holds wherever the frame's word does -/
def Bad (S : Sy) (H0 : Hp) (E : XK) (C : Addr) : Prop := ∀ H', (∀ a o, S.B a = false → H0 a = some o → H' a = some o) → S.I H' → E (.ref C) none H'
/-- a def of data that gives a value where it is good, and raises C() where it is not -/
def spR (C : Addr) (pre : List PyData → Prop) (good : List PyData → Bool) (val : List PyData → PyData) (K : PySem.W.Frag) : Sp := fun vs H Q E => ∃ (S : Sy) (ds : List PyData), S.I H ∧ pre ds ∧ DpAll K (Hide S.B H) vs ds ∧
  (good ds = true → ∀ v H', (∀ a o, S.B a = false → H a = some o → H' a = some o) → S.I H' → Dp K (Hide S.B H') v (val ds) → Q v H') ∧ (good ds = false → Bad S H E C)
section
variable {K : PySem.W.Frag} {S : Sy} {H0 : Hp} {E : XK} {C : Addr} {as : List Sv} {M : Mm} {te tb : TE} {ta tr : TA} {t : TT} {P : PyData → Mm → Prop} {PA : List Sv → Mm → Prop} {pre : List PyData → Prop} {good : List PyData → Bool} {val : List PyData → PyData}
theorem Ext.refl : Ext S H0 S := ⟨fun _ h => .inl h, fun _ h => h⟩
def WR (K : PySem.W.Frag) (S : Sy) (H0 : Hp) (te : TE) (as : List Sv) (M : Mm) (P : PyData → Mm → Prop) : Prop := ∀ S', Ext S H0 S' → ∀ σ H, Ok0 K S' H0 H M → Rs K (Gh S' M H) σ as → ∀ Q : VK,
  (∀ v H' d M', Ok0 K S' H0 H' M' → Same (Gh S' M H) (Gh S' M' H') → Dp K (Gh S' M' H') v d → P d M' → Q v H') → te σ H Q
def WAR (K : PySem.W.Frag) (S : Sy) (H0 : Hp) (ta : TA) (as : List Sv) (M : Mm) (P : List Sv → Mm → Prop) : Prop := ∀ S', Ext S H0 S' → ∀ σ H, Ok0 K S' H0 H M → Rs K (Gh S' M H) σ as → ∀ Q : List V → Hp → Prop,
  (∀ vs H' ss M', Ok0 K S' H0 H' M' → Same (Gh S' M H) (Gh S' M' H') → RA K (Gh S' M' H') vs ss → P ss M' → Q vs H') → ta σ H Q
theorem wr_of (h : W K te as M P) : WR K S H0 te as M P := fun S' _ σ H k r Q q => h S' H0 σ H k r Q q
theorem war_of (h : WA K ta as M PA) : WAR K S H0 ta as M PA := fun S' _ σ H k r Q q => h S' H0 σ H k r Q q
theorem war_nil (p : PA [] M) : WAR K S H0 tNil as M PA := war_of (wa_nil p)
theorem war_cons (h : WR K S H0 te as M fun d M1 => WAR K S H0 tr as M1 fun ss M2 => PA (.dat d :: ss) M2) : WAR K S H0 (tCons te tr) as M PA := fun S' x σ H k r Q q =>
  h S' x σ H k r _ fun v H1 d M1 k1 e1 b1 hr => hr S' x σ H1 k1 (r.mono e1) _ fun vs H2 ss M2 k2 e2 b2 p => q _ H2 (.dat d :: ss) M2 k2 (e1.trans e2) ⟨⟨v, rfl, dp_mono e2 _ _ b1⟩, b2⟩ p
theorem wr_tup (h : WAR K S H0 ta as M fun ss M' => ∃ ds : List PyData, ss = ds.map .dat ∧ ds.length ≤ 100000 ∧ P (.tuple ds) M') : WR K S H0 (tTup ta) as M P := fun S' x σ H k r Q q =>
  h S' x σ H k r _ fun vs H1 ss M1 k1 e1 b1 ⟨ds, es, hl, p⟩ => by
    subst es
    have bd := ra_dat b1
    refine ⟨sz_of (by rw [dps_len bd]; exact hl), fun a ha => q _ _ (.tuple ds) M1 (ok_new k1 ha) (e1.trans (new_same ha)) ?_ p⟩
    exact .tup (.of (show Gh S' M1 (upd H1 a (.tup vs)) a = some (.tup vs) by unfold Gh; rw [hide_f (new_hid k1 ha), upd_same])) (dps_mono (new_same ha) _ _ bd)
theorem wr_cb {r : List V → Hp → VK → Prop} {f : List PyData → (PyData → Prop) → Prop} (ho : AC K r f) (h : WAR K S H0 ta as M fun ss M1 => ∃ ds : List PyData, ss = ds.map .dat ∧ f ds fun d => P d M1) : WR K S H0 (tCB r ta) as M P := fun S' x σ H k rs Q q =>
  h S' x σ H k rs _ fun xs H1 ss M1 k1 e1 b1 ⟨ds, es, p⟩ => by
    subst es
    refine ho _ H1 xs ds _ (bm_trk k1) (ra_dat b1) p Q fun v d H3 hc hd pd => ?_
    rcases hc with rfl | ⟨c, o, hn, rfl⟩
    · exact q v _ d M1 k1 e1 hd pd
    · exact q v _ d M1 (ok_new k1 hn) (e1.trans (new_same hn)) hd pd
/-- a call of a def that may raise -/
theorem wr_call (h : WAR K S H0 ta as M fun ss M1 => ∃ ds : List PyData, ss = ds.map .dat ∧ pre ds ∧ (good ds = true → P (val ds) M1) ∧ (good ds = false → Bad S H0 E C)) : WR K S H0 (tCall (spR C pre good val K) [] E ta) as M P := fun S' x σ H k r Q q =>
  h S' x σ H k r _ fun vs H1 ss M1 k1 e1 b1 ⟨ds, es, hp, p, bad⟩ => by
    subst es
    rw [List.append_nil]
    have low : ∀ {H' : Hp}, (∀ a o, Bm S' M1 a = false → H1 a = some o → H' a = some o) → (∀ z ∈ M1, H' z.1 = H1 z.1) → ∀ a o, S'.B a = false → H0 a = some o → H' a = some o := fun {H'} xt iv a o e3 e4 => by
      have e5 := k1.xt a o e3 e4
      by_cases e6 : Bm S' M1 a = false
      · exact xt a o e6 e5
      · rcases (Bool.or_eq_true _ _).mp (show Bm S' M1 a = true by simpa using e6) with e | e
        · rw [e3] at e; cases e
        · obtain ⟨z, hz, y⟩ := List.any_eq_true.mp e
          have y : z.1 = a := by simpa using y
          rw [← y, iv z hz, y]
          exact e5
    refine ⟨syAt S' M1 H1 fun z hz => by obtain ⟨us, a, _⟩ := k1.mem z hz; rw [a]; simp, ds, ⟨k1.inv, fun _ _ => rfl⟩, hp, ra_dat b1, fun hg v H' xt iv dp => ?_, fun hg H' xt iv => bad hg H' (fun a o e3 e4 => low xt iv.2 a o ?_ e4) (x.i _ iv.1)⟩
    · have sm : Same (Gh S' M1 H1) (Gh S' M1 H') := gh_any xt
      refine q v H' _ M1 ⟨low xt iv.2, iv.1, k1.nd, k1.loc, fun z hz => ?_⟩ (e1.trans sm) dp (p hg)
      obtain ⟨us, a, b⟩ := k1.mem z hz
      exact ⟨us, by rw [iv.2 z hz]; exact a, dps_mono sm _ _ b⟩
    · cases e6 : S'.B a with
      | false => rfl
      | true =>
        rcases x.b a e6 with z | z
        · rw [e3] at z; cases z
        · rw [e4] at z; cases z
/-- a comprehension a turn of which may raise -/
theorem wr_lc {wi : TI} {g : TG} {vs ts : List Nat} {f : PyData → List Sv → (List Sv → Prop) → Prop} (hg : GA K g ts f) (ht : ∀ t ∈ ts, t ∈ vs) (h : WI K wi as M fun xs M1 => ∃ IV : Nat → List PyData → Mm → Prop, IV 0 [] M1 ∧
    (∀ i x acc Mi, xs[i]? = some x → IV i acc Mi → f x (awipe as vs) fun as2 => WT K t as2 Mi fun b M2 => if b = true then WR K S H0 te as2 M2 fun y M3 => acc.length < 100000 ∧ IV (i + 1) (acc ++ [y]) M3 else IV (i + 1) acc M2) ∧
    (∀ acc M', IV xs.length acc M' → P (.list acc) M')) : WR K S H0 (tLc wi g t te vs) as M P := fun S1 x σ H k r Q q =>
  h S1 H0 σ H k r _ fun J H1 xs M1 k1 e1 hJ ⟨IV, i0, step, fin⟩ => fun D hD => by
    have sD : S1.B D = false := (bm_false.mp (new_hid k1 hD)).1
    have h0 : H0 D = none := by
      cases e : H0 D with
      | none => rfl
      | some o => have z := k1.xt D o sD e; rw [hD] at z; cases z
    have xD : ∀ va, Ext S H0 (syD S1 D va) := fun va => by
      refine ⟨fun a ha => ?_, fun H' i => x.i _ i.1⟩
      by_cases e : a = D
      · exact .inr (by rw [e]; exact h0)
      · cases e1 : S1.B a with
        | true => exact x.b a e1
        | false => rw [syd_mk e1 e] at ha; cases ha
    let Nw : Nat → Hp → Prop := fun i Hc => ∃ acc va Mi, IV i acc Mi ∧ Ok0 K (syD S1 D va) H0 Hc Mi ∧ DpAll K (Gh (syD S1 D va) Mi Hc) va acc ∧ Rs K (Gh (syD S1 D va) Mi Hc) σ as ∧ Same (Gh S1 M1 H1) (Gh (syD S1 D va) Mi Hc)
    have n0 : Nw 0 (upd H1 D (.lst [])) := ⟨[], [], M1, i0, ok_D k1 hD, .nil, (r.mono e1).mono (same_D k1 hD), same_D k1 hD⟩
    refine ⟨fun i m Hc => m = xs.length - i ∧ i ≤ xs.length ∧ Nw i Hc, ⟨xs.length, by simp, Nat.zero_le _, n0⟩, ?_⟩
    rintro i m Hc ⟨rfl, hi, acc, va, Mi, hI, kc, da, rc, ec⟩
    by_cases hlt : i < xs.length
    · refine .inr ⟨hJ.go _ _ i ec same_hide hlt, Nw (i + 1), fun H' p' => ⟨xs.length - (i + 1), by omega, rfl, hlt, p'⟩, fun v H2 y => ?_⟩
      obtain ⟨eh, yd⟩ := hJ.yld _ _ i v H2 ec same_hide y
      subst eh
      have hx : xs[i]? = some xs[i] := List.getElem?_eq_getElem hlt
      refine hg (Gh (syD S1 D va) Mi H2) H2 v xs[i] (wipe σ vs) (awipe as vs) _ same_hide (yd _ hx) (rs_wipe rc vs) (step i _ acc Mi hx hI) _ fun σ2 as2 r2 wp p => ?_
      refine ⟨by rw [wp vs ht, wipe_wipe], ?_⟩
      refine p (syD S1 D va) H0 σ2 H2 kc r2 _ fun b H3 M3 k3 e3 p3 => ?_
      cases b with
      | false => exact ⟨acc, va, M3, p3, k3, dps_mono e3 _ _ da, rc.mono e3, ec.trans e3⟩
      | true =>
        refine (show WR K S H0 te as2 M3 _ from p3) (syD S1 D va) (xD va) σ2 H3 k3 (r2.mono e3) _ fun w H4 y M4 k4 e4 b4 ⟨hl, p4⟩ => ?_
        refine ⟨va, k4.inv.2, Nat.lt_of_lt_of_le (by rw [dps_len da]; exact hl) (by decide), acc ++ [y], va ++ [w], M4, p4, ok_Dset k4 sD, ?_, ?_, ?_⟩
        · rw [gd_upd (vb := va)]
          exact dps_app (dps_mono (e3.trans e4) _ _ da) (.cons b4 .nil)
        · rw [gd_upd (vb := va)]
          exact rc.mono (e3.trans e4)
        · rw [gd_upd (vb := va)]
          exact ec.trans (e3.trans e4)
    · have e : i = xs.length := by omega
      subst e
      refine .inl ⟨hJ.stop _ _ ec same_hide, q _ Hc (.list acc) Mi (ok_Dout kc sD h0) (e1.trans (ec.trans same_Dout)) ?_ (fin acc Mi hI)⟩
      exact .lst (SqL.of (show Gh S1 Mi Hc D = some (.lst va) by unfold Gh; rw [hide_f (bm_false.mpr ⟨sD, ok_D_ne kc⟩)]; exact kc.inv.2)) (dps_mono same_Dout _ _ da)
/-- .. over a couple of names, each item's value by a function -/
theorem wr_map2 {wi : TI} {i j : Nat} {vs : List Nat} (hi : i ∈ vs) (hj : j ∈ vs) (h : WI K wi as M fun xs M1 => ∃ g : PyData → PyData, xs.length ≤ 100000 ∧
    (∀ x ∈ xs, ∃ a b, (x = .tuple [a, b] ∨ x = .list [a, b]) ∧ WR K S H0 te (((awipe as vs).set i (.dat a)).set j (.dat b)) M1 fun y M2 => y = g x ∧ M2 = M1) ∧ P (.list (xs.map g)) M1) : WR K S H0 (tLc wi (gSeq K 2 (gCons (gName i) (gCons (gName j) gNil))) tYes te vs) as M P := by
  refine wr_lc ga_pair (by intro t ht; simp at ht; rcases ht with rfl | rfl <;> assumption) fun S H0 σ H k r R q => h S H0 σ H k r R fun J H' xs M' k' e' it ⟨g, hl, hx, hp⟩ => q J H' xs M' k' e' it ⟨fun n acc M2 => acc = (xs.take n).map g ∧ M2 = M', ⟨rfl, rfl⟩, fun n x acc Mi hn ⟨ea, em⟩ => ?_, fun acc M2 ⟨ea, em⟩ => by rw [ea, em, List.take_length]; exact hp⟩
  subst ea em
  obtain ⟨a, b, ex, hw⟩ := hx x (List.mem_of_getElem? hn)
  refine ⟨a, b, ex, ?_⟩
  intro S2 H02 σ2 H2 k2 r2 Q2 q2
  refine q2 true H2 Mi k2 (Same.refl _) ?_
  show WR K _ _ te _ Mi _
  intro S3 x3 σ3 H3 k3 r3 Q3 q3
  refine hw S3 x3 σ3 H3 k3 r3 Q3 fun v H4 y M4 k4 e4 b4 ⟨ey, em⟩ => q3 v H4 y M4 k4 e4 b4 ?_
  subst ey em
  have hlt := (List.getElem?_eq_some_iff.mp hn).1
  refine ⟨by rw [List.length_map, List.length_take]; omega, ?_, rfl⟩
  rw [List.take_add_one, hn, List.map_append]
  rfl
/-! ### statements at a frame of its own -/
def WX (K : PySem.W.Frag) (S : Sy) (H0 : Hp) (ts : TS) (as : List Sv) (M : Mm) (A : AE) : Prop := ∀ σ H (D : Ends), Ok0 K S H0 H M → Rs K (Gh S M H) σ as →
  (∀ σ' H' as' M', Ok0 K S H0 H' M' → Rs K (Gh S M' H') σ' as' → Same (Gh S M H) (Gh S M' H') → A.nx as' M' → D.nx σ' H') → (∀ v H' d M', Ok0 K S H0 H' M' → Dp K (Gh S M' H') v d → A.rt d M' → D.rt v H') → ts D σ H
variable {A : AE} {s1 s2 ts : TS}
theorem wx_ws (h : WS K ts as M ⟨A.nx, A.rt, fun _ _ => False, fun _ _ => False⟩) : WX K S H0 ts as M A := fun σ H D k r n rt => h S H0 σ H D k r n rt (fun _ _ _ _ _ _ _ z => z.elim) (fun _ _ _ _ _ _ _ z => z.elim)
theorem wx_seq (h : WX K S H0 s1 as M { A with nx := fun as' M' => WX K S H0 s2 as' M' A }) : WX K S H0 (tSeq s1 s2) as M A := fun σ H D k r n rt =>
  h σ H { D with nx := s2 D } k r (fun σ' H' as' M' k' r' e' p => p σ' H' D k' r' (fun σ'' H'' as'' M'' k'' r'' e'' => n σ'' H'' as'' M'' k'' r'' (e'.trans e'')) rt) rt
theorem wx_set {i : Nat} (h : WR K S H0 te as M fun d M' => A.nx (as.set i (.dat d)) M') : WX K S H0 (tAsg te (gName i)) as M A := fun σ H D k r n _ =>
  h S Ext.refl σ H k r _ fun v H1 d M1 k1 e1 b1 p => n _ H1 (as.set i (.dat d)) M1 k1 ((r.mono e1).set i (s := .dat d) ⟨v, rfl, b1⟩) e1 p
theorem wx_ret (h : WR K S H0 te as M A.rt) : WX K S H0 (tRet te) as M A := fun σ H D k r _ rt => h S Ext.refl σ H k r _ fun v H1 d M1 k1 e1 b1 p => rt v H1 d M1 k1 b1 p
theorem wx_drop (h : WR K S H0 te as M fun _ M' => A.nx as M') : WX K S H0 (tDrop te) as M A := fun σ H D k r n _ =>
  h S Ext.refl σ H k r _ fun v H1 d M1 k1 e1 b1 p => n σ H1 as M1 k1 (r.mono e1) e1 p
theorem wx_next (p : A.nx as M) : WX K S H0 tNext as M A := fun σ H D k r n _ => n σ H as M k r (Same.refl _) p
theorem wx_if (h : WT K t as M fun b M' => if b = true then WX K S H0 s1 as M' A else WX K S H0 s2 as M' A) : WX K S H0 (tIfS t s1 s2) as M A := fun σ H D k r n rt => h S H0 σ H k r _ fun b H1 M1 k1 e1 p => by
  have go : ∀ s, WX K S H0 s as M1 A → s D σ H1 := fun s hs => hs σ H1 D k1 (r.mono e1) (fun σ'' H'' as'' M'' k'' r'' e'' => n σ'' H'' as'' M'' k'' r'' (e1.trans e'')) rt
  cases b with
  | true => exact go s1 p
  | false => exact go s2 p
/-- raise C() -/
theorem wx_raise (h : Bad S H0 E C) : WX K S H0 (fun _ _ H => E (.ref C) none H) as M A := fun σ H D k r _ _ => h H k.xt k.inv
/-- a def that may raise keeps its word -/
theorem to_spR {N : List Str} {vs : List V} {H : Hp} {Q : VK} {n : Nat} (hn : ∀ ds, pre ds → ds.length = n) (hb : ∀ (S : Sy) ds, pre ds → (good ds = false → Bad S H E C) → WX K S H ts (ds.map .dat ++ List.replicate (N.length - n) .no) [] ⟨fun _ _ => good ds = true ∧ val ds = .none, fun d _ => good ds = true ∧ d = val ds, fun _ _ => False, fun _ _ => False⟩)
    (h : spR C pre good val K vs H Q E) : ts { nx := fun _ H' => Q .non H', rt := Q } (L2.start N vs) H := by
  obtain ⟨S, ds, iv, hp, hd, q, bad⟩ := h
  have ln : vs.length = n := by rw [dps_len hd]; exact hn ds hp
  have k0 : Ok0 K S H H [] := ⟨fun _ _ _ e => e, iv, List.nodup_nil, (fun z hz => by cases hz), (fun z hz => by cases hz)⟩
  have hg : Gh S [] H = Hide S.B H := by unfold Gh; rw [bm_nil]
  have r0 : Rs K (Gh S [] H) (L2.start N vs) (ds.map .dat ++ List.replicate (N.length - n) .no) := by
    unfold L2.start
    rw [ln, hg]
    exact ra_start _ (dat_ra hd)
  have fin : ∀ v H' d M', Ok0 K S H H' M' → Dp K (Gh S M' H') v d → good ds = true ∧ d = val ds → Q v H' := fun v H' d M' k' dp ⟨g1, g2⟩ => by
    subst g2
    refine q g1 v H' k'.xt k'.inv (dp_mono (fun a o e => ?_) _ _ dp)
    obtain ⟨e1, e2⟩ := hide_some e
    rw [hide_f (bm_false.mp e1).1]
    exact e2
  exact hb S ds hp bad (L2.start N vs) H _ k0 r0 (fun σ' H' as' M' k' _ _ p => fin .non H' .none M' k' .non ⟨p.1, p.2.symm⟩) (fun v H' d M' k' dp p => fin v H' d M' k' dp p)
theorem spR_len {vs : List V} {H : Hp} {Q : VK} {n : Nat} (hn : ∀ ds, pre ds → ds.length = n) (h : spR C pre good val K vs H Q E) : vs.length = n := by
  obtain ⟨S, ds, _, hp, hd, _⟩ := h
  rw [dps_len hd]; exact hn ds hp
end
/-! ### a def that may be called and may raise -/
structure CalX (P : Program) (w : World) (K : PySem.W.Frag) (mg : Str → Option Value) (base : Heap) (k : Nat) (x : Str) (ps : List Str) (sp : Sp) : Prop where
  ex : ∃ f fd, FnOk P w K mg base (L2.CX P w) k f fd ps sp ∧ mg x = some (.ref f) ∧ PySem.W.keepIn K (.ref f) = true ∧ Binds K fd ps []
section
variable {P : Program} {w : World} {K : PySem.W.Frag} {mg : Str → Option Value} {base : Heap}
theorem CalX.mono {j k : Nat} {x : Str} {ps : List Str} {sp : Sp} (c : CalX P w K mg base j x ps sp) (h : j ≤ k) : CalX P w K mg base k x ps sp := by
  obtain ⟨f, fd, a, b, d, e⟩ := c.ex
  exact ⟨f, fd, a.mono h, b, d, e⟩
theorem CalX.void {k : Nat} {x : Str} {st : Stmt} {ps : List Str} {sp : Sp} (F : Dfn K mg x st ps) (h : ∀ vs H Q E, ¬ sp vs H Q E) : CalX P w K mg base k x ps sp := by
  obtain ⟨f, fd, a, b, c⟩ := F.ex
  exact ⟨f, fd, ⟨fun vs H Q E q => absurd q (h _ _ _ _), fun A outer s H args us vs Q E hr he hb hv q => absurd q (h _ _ _ _)⟩, b, a.kp, c⟩
theorem pe_calP {X : Cx} {k : Nat} {x : Str} {ps : List Str} {sp : Sp} {p pos : Pos} {e : Expr} {es : List Expr} {t : TA} {E : XK} (c : CalX X.prog X.w X.K X.mg X.base k x ps sp) (hp : Passes (L2.CX X.prog X.w) X E) (hr : Room k X.A) (ha : PA X (e :: es) t) (hg : Gl X x := by rfl)
    (hdb : (x == ("__debug__" : Str)) = false := by decide) (he : starEach (e :: es) X.env = (false, eval e X.env) :: starEach es X.env := by rfl) (hpl : (backTo pos (starEach es X.env)).any (·.1) = false := by rfl) : PE X (.Call (.Name x p) (e :: es) [] pos) (tCall sp [] E t) := by
  obtain ⟨f, fd, F, hm, hk, hb⟩ := c.ex
  exact pe_call F hr hg hm hk hb .nil hp ha hdb he hpl
theorem Dfn.okX {x : Str} {st : Stmt} {N ps : List Str} {k : Nat} {sp : Sp} (F : Dfn K mg x st ps) (S : FnScope N ps (defScope st)) (len : ∀ vs H Q E, sp vs H Q E → vs.length = ps.length)
    (hbody : ∀ (f : Addr) (cdv : Value) (A : Around) (outer : List Env) (s : Shared) (H : Hp) (vs : List V) (Q : VK) (E : XK), Room k (A.deeper (envOfC x (defScope st) s.heap.objs.size f cdv)) → sp vs H Q E →
      ∃ t, PSs (cxOf (L2.CX P w) P w K mg base N x (defScope st) f cdv A outer s H E) (defBody st) t ∧ t { nx := fun _ H' => Q .non H', rt := Q } (L2.start N vs) H) : CalX P w K mg base (k + 1) x ps sp := by
  obtain ⟨f, fd, a, b, c⟩ := F.ex
  exact ⟨f, fd, a.okX S len (fun cdv A outer s H vs Q E hr h => hbody f cdv A outer s H vs Q E hr h), b, a.kp, c⟩
end
end Ab

set_option Elab.async false
set_option linter.all false
set_option maxRecDepth 100000
set_option maxHeartbeats 4000000
/-! Exception objects of own classes as values: made, stored, their fields read, asked by isinstance. -/
namespace Ab
open PySem PySem.Spec PyProof.Rows L2
/-- C(e, ..) as a value, C's own __init__ keeping sp -/
def tOexV (C : Addr) (sp : Sp) (ta : TA) : TE := fun σ H Q => ta σ H fun vs H1 => vs.length ≤ 1000 ∧ ∀ a, H1 a = none → sp (.ref a :: vs) (upd H1 a (exo a C none)) (fun v H2 => v = .non ∧ Q (.ref a) H2) (fun _ _ _ => False)
section
variable {X : Cx} {e : Expr} {es : List Expr} {ta : TA} {te : TE} {p pos : Pos}
theorem pe_oexV {CX : CXT} {x : Str} {C fI : Addr} {k : Nat} {fd : FuncData} {ps : List Str} {sp : Sp} (T : OexC X.K C) (iC : PySem.W.findIn X.K (.ref C) "__init__" = some (some (.ref fI))) (tI : PySem.W.typeIn X.K (.ref fI) = some (.type "function")) (F1 : FnOk X.prog X.w X.K X.mg X.base CX k fI fd ps sp)
    (hr : Room (k + 1) X.A) (hb : Binds X.K fd ps []) (hx : Passes CX X (fun _ _ _ => False)) (hg : Gl X x) (hm : X.mg x = some (.ref C)) (ha : PA X (e :: es) ta) (hdb : (x == ("__debug__" : Str)) = false := by decide)
    (he : starEach (e :: es) X.env = (false, eval e X.env) :: starEach es X.env := by rfl) (hpl : (backTo pos (starEach es X.env)).any (·.1) = false := by rfl) : PE X (.Call (.Name x p) (e :: es) [] pos) (tOexV C sp ta) := by
  refine ⟨fun pins s σ H Q I h => ?_⟩
  obtain ⟨nm, q, N, bs, bm, sn, sub, ab, col, dd, k0, k1, k2, k3, k5, hC, hbm⟩ := T.cls
  refine wpAny_Call_Name_kw (ld_glob I hg hm ?_ hdb)
  refine PySem.W.callWith_K (h₀ := X.base) I.ok.mod.kin T.kC (thn (ha.run pos pins s σ H _ I h) fun us s1 ⟨vs, H1, I1, r1, hz, q1⟩ => ⟨I1.kIn, ?_⟩) he hpl
  show wpAny _ _ (call (.ref C) us) _ _ _
  obtain ⟨hp, g, dr, tk, os⟩ := s1
  have hsz : hp.objs.size ≤ hp.objs.size + 1 := Nat.le_succ _
  have hq := q1 (hp.objs.size + 1) (I1.hok.fresh hsz)
  have kk : ∀ b o, hp.get? b = some o → ((hp.push (PySem.W.kdv_tup us)).push (PySem.HandSPX.excO C hp.objs.size)).get? b = some o := fun b o e => Heap.get?_push_of_some _ (Heap.get?_push_of_some _ e)
  have I2 : Inv X pins σ (upd H1 (hp.objs.size + 1) (exo (hp.objs.size + 1) C none)) ⟨(hp.push (PySem.W.kdv_tup us)).push (PySem.HandSPX.excO C hp.objs.size), g, dr, tk, os⟩ :=
    I1.laid (t' := tk) (a := hp.objs.size + 1) (o := exo (hp.objs.size + 1) C none) (h' := (hp.push (PySem.W.kdv_tup us)).push (PySem.HandSPX.excO C hp.objs.size)) kk hsz (exo_ok (by heap_get))
  have r2 : Vals (V.ref (hp.objs.size + 1) :: vs) (Value.ref (hp.objs.size + 1) :: us) := .cons rfl r1
  have hl : (Value.ref (hp.objs.size + 1) :: us).length = ps.length := by rw [← r2.length]; exact F1.len _ _ _ _ hq
  have hus : us.length ≤ sizeLine := by rw [← Paired.length r1, sizeLine_eq]; omega
  have hb2 := hb _ (Value.ref (hp.objs.size + 1) :: us) I2.kIn (by rw [List.append_nil]; exact hl)
  rw [List.append_nil] at hb2
  refine wpAny_call (PySem.HandSPX.call_own F.excBase_ValueError (fun Y => PySem.HandSPX.refsVE_contains Y bm hbm) (I1.kIn _ _ hC) (PySem.W.looks_findIn I1.kIn iC) (fun self => PySem.W.bind_fn I1.kIn self tI) hus
    (codeAny_mono (F1.run _ X.stack _ _ ⟨Value.ref (hp.objs.size + 1) :: us, []⟩ (Value.ref (hp.objs.size + 1) :: us) _ _ (fun _ _ _ => False) (hr.make C us []) (I2.env0.make C us []) hb2 r2 hq) fun r s' hq' => ?_))
  cases r with
  | error er => exact hx pins σ _ _ er s' I2 hq'
  | ok fl =>
    cases fl with
    | ret u =>
      obtain ⟨v, H2, os2, bare2, un2, hok2, rv, ev, q2⟩ := hq'
      subst ev
      exact ⟨rv, .ref (hp.objs.size + 1), H2, I2.call' (ch := []) os2 un2 hok2 bare2 (fun b z => absurd z (by simp)), rfl, q2⟩
    | next => exact False.elim hq'
    | brk => exact False.elim hq'
    | cont => exact False.elim hq'
/-- C() as a value, C without __init__ -/
theorem pe_oex0 {C : Addr} {bmB : List Value} {B newId initId : String} {x : Str} (F : ExcBaseFacts B newId initId bmB) (q : PySem.W.excIn X.K C bmB newId = true) (gC : X.mg x = some (.ref C)) (kC : PySem.W.keepIn X.K (.ref C) = true) (hg : Gl X x) (hdb : (x == ("__debug__" : Str)) = false := by decide) :
    PE X (.Call (.Name x p) [] [] pos) (fun _ H Q => ∀ a, H a = none → Q (.ref a) (upd H a (exo a C none))) := by
  refine ⟨fun pins s σ H Q I h => ?_⟩
  refine wpAny_Call_Name_kw (ld_glob I hg gC ?_ hdb)
  refine PySem.W.callWith_K0 I.kIn kC ?_
  obtain ⟨bm, N, nm, qn, bs, hdct, sn, sub, ab, col, dd, k0, k1, k2, k3, k5, mN, hC, hN, hni, T⟩ := exc_obj I.kIn q
  refine wpAny_call_exc_subT F T hC hN hni (fun h' a hm => ?_) (by show 0 ≤ sizeLine; rw [sizeLine_eq]; omega)
  have hn : H a = none := I.hok.gone hm.new
  obtain ⟨t, ht, _, _⟩ := hm.there
  exact ⟨.ref a, upd H a (exo a C none), I.laidN hm.keeps hm.new hn (exo_ok ht), rfl, h a hn⟩
/-- e.n, e an exception object -/
def tOx (K : PySem.W.Frag) (n : Str) (te : TE) : TE := fun σ H Q => te σ H fun x H1 => ∃ (a C dd : Addr) (fs : List (Str × V)) (v : V), x = .ref a ∧ XfC K C ∧ PySem.W.findIn K (.ref C) n = some none ∧ H1 a = some (exo a C (some dd)) ∧ H1 dd = some (exd dd fs) ∧ fs.lookup n = some v ∧ Q v H1
theorem pe_ox {n : Str} (he : PE X e te) (hb : attributeBase e n X.env (eval e X.env) = eval e X.env := by rfl) : PE X (.Attribute e n pos) (tOx X.K n te) := by
  refine ⟨fun pins s σ H Q I h => ?_⟩
  refine attr_of hb (thn (he.run pins s σ H _ I h) fun u s1 ⟨x, H1, I1, rx, a, C, dd, fs, v, ex, T, hno, ea, ed, l, q⟩ => ?_)
  subst ex
  obtain rfl : u = Value.ref a := rx
  obtain ⟨t1, ha⟩ := exo_at I1.hok ea
  obtain ⟨mA, hns, hr⟩ := exd_at I1.hok ed
  obtain ⟨od, ho, hl⟩ := lookIn_ns hns
  obtain ⟨u, hu, ru⟩ := RelO.some_of (v := v) (o := mA n) (by rw [← l]; exact hr n)
  have J : PySem.W.InstAt s1.heap a { cls := .ref C, dict := some dd, data := .fields #[.ref t1, .none, .none, .none, .bool false, .none] } C (some od) := ⟨ha, rfl, rfl, ho⟩
  exact PySem.HandSPX.exc_get I1.kIn J T.ga T.gg T.exC (PySem.W.findObj_own T.hdC hno rfl (by rw [hl, hu])) (handed_of ru) ⟨v, H1, I1.tok _, ru, q⟩
/-- isinstance(e, c), e an exception object -/
def rIsX (K : PySem.W.Frag) : List V → Hp → VK → Prop := fun xs H Q => ∃ (a C : Addr) (dx : Option Addr) (c : V) (cv : Value) (b : Bool), xs = [.ref a, c] ∧ ClsV c cv ∧ ExcC K C ∧ H a = some (exo a C dx) ∧ (∀ d, dx = some d → ∃ fs, H d = some (exd d fs)) ∧ PySem.W.kitOne K (.ref C) cv = some b ∧ Q (.bl b) H
theorem call_isX : CallR X (.builtin "isinstance") (rIsX X.K) := by
  intro pins s σ H xs us Q I r h
  obtain ⟨a, C, dx, c, cv, b, rfl, hcv, T, ea, ed, e, q⟩ := h
  cases r with
  | cons rx rr =>
    cases rr with
    | cons rt rr =>
      cases rr
      cases rx
      have ec := hcv.eq rt
      subst ec
      obtain ⟨t1, ha⟩ := exo_at I.hok ea
      have hcl : (PySem.W.clsIn X.K C).isSome = true := by obtain ⟨cd, hc, _⟩ := PySem.W.any_some T.hd; rw [hc]; rfl
      have J : ∃ od, PySem.W.InstAt s.heap a { cls := .ref C, dict := dx, data := .fields #[.ref t1, .none, .none, .none, .bool false, .none] } C od := by
        cases dx with
        | none => exact ⟨none, ha, rfl, rfl, trivial⟩
        | some d =>
          obtain ⟨fs, hf⟩ := ed d rfl
          obtain ⟨mA, hns, hr⟩ := exd_at I.hok hf
          obtain ⟨od, ho, hl⟩ := lookIn_ns hns
          exact ⟨some od, ha, rfl, rfl, ho⟩
      obtain ⟨od, J⟩ := J
      exact PySem.W.kia_one (PySem.W.kitx_exc hcl T.hg T.hk T.hs T.ha T.hn T.ht T.hm) I.kIn J e (fun z => nomatch z) fun tk => ⟨.bl b, H, I.kept (t' := tk) fun _ _ z => z, rfl, q⟩
end
end Ab

set_option Elab.async false
set_option linter.all false
set_option maxRecDepth 100000
set_option maxHeartbeats 4000000
namespace Ab
open PySem PySem.Spec PyProof.Rows L2
section
variable {X : Cx} {K : PySem.W.Frag}
theorem k_isX (e : X.K = K) : CallR X (.builtin "isinstance") (rIsX K) := e ▸ call_isX
theorem k_ox {n : Str} {o : Expr} {te : TE} {pos : Pos} (e : X.K = K) (he : PE X o te) (hb : attributeBase o n X.env (eval o X.env) = eval o X.env := by rfl) : PE X (.Attribute o n pos) (tOx K n te) := e ▸ pe_ox he hb
end
/-! ### an own class that may be made -/
def spIni (C : Addr) (ns : List Str) : Sp := fun vs H Q _ => ∃ (a : Addr) (us : List V), vs = .ref a :: us ∧ us.length = ns.length ∧ H a = some (exo a C none) ∧
  ∀ dx H', H dx = none → dx ≠ a → H' a = some (exo a C (some dx)) → H' dx = some (exd dx (ns.zip us).reverse) → (∀ b, b ≠ a → b ≠ dx → H' b = H b) → Q .non H'
structure Mk (P : Program) (w : World) (K : PySem.W.Frag) (mg : Str → Option Value) (base : Heap) (nm : Str) (C : Addr) (ns : List Str) : Prop where
  ex : ∃ fI fd, OexC K C ∧ PySem.W.findIn K (.ref C) "__init__" = some (some (.ref fI)) ∧ PySem.W.typeIn K (.ref fI) = some (.type "function") ∧ FnOk P w K mg base CX0 1 fI fd ("self" :: ns) (spIni C ns) ∧ Binds K fd ("self" :: ns) [] ∧ mg nm = some (.ref C)
theorem pe_mk {X : Cx} {k : Nat} {nm : Str} {C : Addr} {ns : List Str} {e : Expr} {es : List Expr} {ta : TA} {p pos : Pos} (m : Mk X.prog X.w X.K X.mg X.base nm C ns) (hr : Room k X.A) (hk : 2 ≤ k) (ha : PA X (e :: es) ta) (hg : Gl X nm := by rfl) (hdb : (nm == ("__debug__" : Str)) = false := by decide)
    (he : starEach (e :: es) X.env = (false, eval e X.env) :: starEach es X.env := by rfl) (hpl : (backTo pos (starEach es X.env)).any (·.1) = false := by rfl) : PE X (.Call (.Name nm p) (e :: es) [] pos) (tOexV C (spIni C ns) ta) := by
  obtain ⟨fI, fd, T, iC, tI, F1, b, hm⟩ := m.ex
  exact pe_oexV T iC tI F1 (hr.mono hk) b pass0 hg hm ha hdb he hpl
/-- what stands behind some stores of an __init__ -/
def Mid (a C dx : Addr) (fs : List (Str × V)) (H H' : Hp) : Prop := H' a = some (exo a C (some dx)) ∧ H' dx = some (exd dx fs) ∧ dx ≠ a ∧ ∀ b, b ≠ a → b ≠ dx → H' b = H b
theorem mid1 {a C dx : Addr} {f : Str} {y : V} {H : Hp} (h : dx ≠ a) : Mid a C dx [(f, y)] H (upd (upd H dx (exd dx [(f, y)])) a (exo a C (some dx))) :=
  ⟨upd_same, by rw [upd_ne h, upd_same], h, fun b h1 h2 => by rw [upd_ne h1, upd_ne h2]⟩
theorem mid_on {a C dx : Addr} {f : Str} {y : V} {fs : List (Str × V)} {H H' : Hp} (m : Mid a C dx fs H H') : Mid a C dx ((f, y) :: fs) H (upd H' dx (exd dx ((f, y) :: fs))) :=
  ⟨by rw [upd_ne (Ne.symm m.2.2.1)]; exact m.1, upd_same, m.2.2.1, fun b h1 h2 => by rw [upd_ne h2]; exact m.2.2.2 b h1 h2⟩
/-! ### values that may be objects -/
section
variable {K : PySem.W.Frag} {S : Sy} {H0 H H' : Hp} {M : Mm} {as : List Sv} {te : TE} {ta : TA} {R : Sv → Mm → Prop} {P : PyData → Mm → Prop} {A : AE} {C : Addr}
theorem ok_keep (k : Ok0 K S H0 H M) (e : ∀ b o, H b = some o → H' b = some o) : Ok0 K S H0 H' M := by
  have sm : Same (Gh S M H) (Gh S M H') := fun a o q => by
    obtain ⟨q1, q2⟩ := hide_some q
    unfold Gh
    rw [hide_f q1]
    exact e a o q2
  exact ⟨fun a o h1 h2 => e a o (k.xt a o h1 h2), S.mono H H' (fun a o _ h => e a o h) k.inv, k.nd, k.loc, fun p hp => by
    obtain ⟨vs, h1, h2⟩ := k.mem p hp
    exact ⟨vs, e _ _ h1, dps_mono sm _ _ h2⟩⟩
theorem dps_rev {G : Hp} : ∀ {vs : List V} {ds : List PyData}, DpAll K G vs ds → DpAll K G vs.reverse ds.reverse
  | [], _, h => by cases h; exact .nil
  | v :: vs, _, h => by
    cases h with
    | cons h1 h2 =>
      rw [List.reverse_cons, List.reverse_cons]
      exact dps_app (dps_rev h2) (.cons h1 .nil)
theorem look_rel {G : Hp} {n : Str} {d : PyData} : ∀ {fv : List (Str × V)} {fs : List (Str × PyData)}, fv.map (·.1) = fs.map (·.1) → DpAll K G (fv.map (·.2)) (fs.map (·.2)) → fs.lookup n = some d → ∃ v, fv.lookup n = some v ∧ Dp K G v d
  | [], [], _, _, h => by cases h
  | p :: fv, q :: fs, e, hd, h => by
    rw [List.map_cons, List.map_cons] at e hd
    injection e with e1 e2
    cases hd with
    | cons h1 h2 =>
      obtain ⟨a, v⟩ := p
      obtain ⟨b, c⟩ := q
      have e1 : a = b := e1
      subst e1
      rw [lookup_put]
      have h : (if n = a then some c else fs.lookup n) = some d := by
        rw [← h]
        by_cases z : n = a
        · subst z; simp [List.lookup]
        · have z2 : (n == a) = false := by simpa using z
          rw [if_neg z]; simp [List.lookup, z2]
      by_cases z : n = a
      · rw [if_pos z] at h ⊢
        cases h
        exact ⟨v, rfl, h1⟩
      · rw [if_neg z] at h ⊢
        exact look_rel e2 h2 h
  | [], _ :: _, e, _, _ => by simp at e
  | _ :: _, [], e, _, _ => by simp at e
def WV (K : PySem.W.Frag) (te : TE) (as : List Sv) (M : Mm) (R : Sv → Mm → Prop) : Prop := ∀ S H0 σ H, Ok0 K S H0 H M → Rs K (Gh S M H) σ as → ∀ Q : VK,
  (∀ v H' s M', Ok0 K S H0 H' M' → Same (Gh S M H) (Gh S M' H') → RSv K (Gh S M' H') (some v) s → R s M' → Q v H') → te σ H Q
theorem wv_mk {ns : List Str} (h : WA K ta as M fun ss M1 => ∃ ds : List PyData, ss = ds.map .dat ∧ ds.length = ns.length ∧ ds.length ≤ 1000 ∧ ∀ a, R (.obj a C (ns.zip ds).reverse) M1) : WV K (tOexV C (spIni C ns) ta) as M R := fun S H0 σ H k r Q q =>
  h S H0 σ H k r _ fun vs H1 ss M1 k1 e1 b1 ⟨ds, es, hl, hz, rr⟩ => by
    subst es
    have bd := ra_dat b1
    have lv : vs.length = ds.length := dps_len bd
    refine ⟨by omega, fun a ha => ⟨a, vs, rfl, by omega, upd_same, fun dx H' n1 n2 h1 h2 h3 => ⟨rfl, ?_⟩⟩⟩
    have hd : H1 dx = none := by rw [upd_ne n2] at n1; exact n1
    have kp : ∀ b o, H1 b = some o → H' b = some o := fun b o e => by
      rw [h3 b (ne_of_none e ha) (ne_of_none e hd), upd_ne (ne_of_none e ha)]; exact e
    have sm : Same (Gh S M1 H1) (Gh S M1 H') := fun b o q => by
      obtain ⟨q1, q2⟩ := hide_some q
      unfold Gh
      rw [hide_f q1]
      exact kp b o q2
    refine q (.ref a) H' (.obj a C (ns.zip ds).reverse) M1 (ok_keep k1 kp) (e1.trans sm) ⟨rfl, some dx, ?_, .inr ⟨dx, (ns.zip vs).reverse, rfl, ?_, ?_, ?_⟩⟩ (rr a)
    · unfold Gh; rw [hide_f (new_hid k1 ha)]; exact h1
    · unfold Gh; rw [hide_f (new_hid k1 hd)]; exact h2
    · rw [List.map_reverse, List.map_reverse, List.map_fst_zip (by omega), List.map_fst_zip (by omega)]
    · rw [List.map_reverse, List.map_reverse, List.map_snd_zip (by omega), List.map_snd_zip (by omega)]
      exact dps_rev (dps_mono sm _ _ bd)
theorem wv_mk0 (h : ∀ a, R (.obj a C []) M) : WV K (fun _ H Q => ∀ a, H a = none → Q (.ref a) (upd H a (exo a C none))) as M R := fun S H0 σ H k r Q q a ha =>
  q (.ref a) _ (.obj a C []) M (ok_new k ha) (new_same ha) ⟨rfl, none, by unfold Gh; rw [hide_f (new_hid k ha), upd_same], .inl ⟨rfl, rfl⟩⟩ (h a)
theorem w_ox {i : Nat} {a : Addr} {n : Str} {d : PyData} {fs : List (Str × PyData)} (hi : as[i]? = some (.obj a C fs)) (T : XfC K C) (no : PySem.W.findIn K (.ref C) n = some none) (l : fs.lookup n = some d) (p : P d M) : W K (tOx K n (tVar i)) as M P := fun S H0 σ H k r Q q => by
  obtain ⟨o, e1, e2, dx, e3, e4⟩ := r.at_ i _ hi
  subst e2
  rcases e4 with ⟨_, z⟩ | ⟨dd, fv, q1, q2, q3, q4⟩
  · rw [z] at l; cases l
  · subst q1
    obtain ⟨v, hv, hd⟩ := look_rel q3 q4 l
    exact ⟨.ref a, e1, a, C, dd, fv, v, rfl, T, no, (hide_some e3).2, (hide_some q2).2, hv, q v H d M k (Same.refl _) hd p⟩
theorem w_isX {i : Nat} {a : Addr} {c : V} {cv : Value} {b : Bool} {fs : List (Str × PyData)} (hi : as[i]? = some (.obj a C fs)) (hc : ClsV c cv) (T : ExcC K C) (e : PySem.W.kitOne K (.ref C) cv = some b) (p : P (.bool b) M) : W K (tCB (rIsX K) (tCons (tVar i) (tCons (tC c) tNil))) as M P := fun S H0 σ H k r Q q => by
  obtain ⟨o, e1, e2, dx, e3, e4⟩ := r.at_ i _ hi
  subst e2
  refine ⟨.ref a, e1, a, C, dx, c, cv, b, rfl, hc, T, (hide_some e3).2, fun d hd => ?_, e, q _ H _ M k (Same.refl _) (.bl _) p⟩
  rcases e4 with ⟨z, _⟩ | ⟨dd, fv, q1, q2, q3, q4⟩
  · rw [z] at hd; cases hd
  · rw [q1] at hd; cases hd; exact ⟨fv, (hide_some q2).2⟩
theorem wa_obj {i : Nat} {a : Addr} {fs : List (Str × PyData)} {tr : TA} {P : List Sv → Mm → Prop} (h : as[i]? = some (.obj a C fs)) (hr : WA K tr as M fun ss M2 => P (.obj a C fs :: ss) M2) : WA K (tCons (tVar i) tr) as M P := fun S H0 σ H k r Q q => by
  obtain ⟨o, e1, e2⟩ := r.at_ i _ h
  have e2' := e2
  obtain ⟨e3, _⟩ := e2'
  subst e3
  exact ⟨.ref a, e1, hr S H0 σ H k r _ fun vs H2 ss M2 k2 e4 b2 p => q _ H2 (.obj a C fs :: ss) M2 k2 e4 ⟨RSv.mono e4 (s := .obj a C fs) e2, b2⟩ p⟩
theorem ws_setV {i : Nat} (h : WV K te as M fun s M' => A.nx (as.set i s) M') : WS K (tAsg te (gName i)) as M A := fun S H0 σ H D k r n _ _ _ =>
  h S H0 σ H k r _ fun v H1 s M1 k1 e1 b1 p => n _ H1 (as.set i s) M1 k1 ((r.mono e1).set i (s := s) b1) e1 p
/-! defs that take objects, defs that hand them back -/
def spS (pre : List Sv → Prop) (post : List Sv → PyData → Prop) (K : PySem.W.Frag) : Sp := fun vs H Q _ => ∃ (S : Sy) (ss : List Sv), S.I H ∧ pre ss ∧ RA K (Hide S.B H) vs ss ∧
  ∀ v H' d, (∀ a o, S.B a = false → H a = some o → H' a = some o) → S.I H' → Dp K (Hide S.B H') v d → post ss d → Q v H'
def spSV (pre : List Sv → Prop) (post : List Sv → Sv → Prop) (K : PySem.W.Frag) : Sp := fun vs H Q _ => ∃ (S : Sy) (ss : List Sv), S.I H ∧ pre ss ∧ RA K (Hide S.B H) vs ss ∧
  ∀ v H' s, (∀ a o, S.B a = false → H a = some o → H' a = some o) → S.I H' → RSv K (Hide S.B H') (some v) s → post ss s → Q v H'
variable {pre : List Sv → Prop} {post : List Sv → PyData → Prop} {postV : List Sv → Sv → Prop} {E : XK}
theorem behind {M1 : Mm} {H1 H' : Hp} (k1 : Ok0 K S H0 H1 M1) (hnn : ∀ q ∈ M1, H1 q.1 ≠ none) (xt : ∀ a o, (syAt S M1 H1 hnn).B a = false → H1 a = some o → H' a = some o) (iv : (syAt S M1 H1 hnn).I H') : Ok0 K S H0 H' M1 ∧ Same (Gh S M1 H1) (Gh S M1 H') := by
  have sm : Same (Gh S M1 H1) (Gh S M1 H') := gh_any xt
  refine ⟨⟨fun a o e3 e4 => ?_, iv.1, k1.nd, k1.loc, fun z hz => ?_⟩, sm⟩
  · have e5 := k1.xt a o e3 e4
    by_cases e6 : Bm S M1 a = false
    · exact xt a o e6 e5
    · rcases (Bool.or_eq_true _ _).mp (show Bm S M1 a = true by simpa using e6) with e | e
      · rw [e3] at e; cases e
      · obtain ⟨z, hz, y⟩ := List.any_eq_true.mp e
        have y : z.1 = a := by simpa using y
        rw [← y, iv.2 z hz, y]
        exact e5
  · obtain ⟨us, a, b⟩ := k1.mem z hz
    exact ⟨us, by rw [iv.2 z hz]; exact a, dps_mono sm _ _ b⟩
theorem mem_nn {M1 : Mm} {H1 : Hp} (k1 : Ok0 K S H0 H1 M1) : ∀ q ∈ M1, H1 q.1 ≠ none := fun z hz => by
  obtain ⟨us, a, _⟩ := k1.mem z hz
  rw [a]; simp
theorem w_callS (h : WA K ta as M fun ss M1 => pre ss ∧ ∀ d, post ss d → P d M1) : W K (tCall (spS pre post K) [] E ta) as M P := fun S H0 σ H k r Q q =>
  h S H0 σ H k r _ fun vs H1 ss M1 k1 e1 b1 ⟨hp, p⟩ => by
    rw [List.append_nil]
    exact ⟨syAt S M1 H1 (mem_nn k1), ss, ⟨k1.inv, fun _ _ => rfl⟩, hp, b1, fun v H' d xt iv dp pd => by
      obtain ⟨k2, sm⟩ := behind k1 (mem_nn k1) xt iv
      exact q v H' d M1 k2 (e1.trans sm) dp (p d pd)⟩
theorem wv_call (h : WA K ta as M fun ss M1 => pre ss ∧ ∀ s, postV ss s → R s M1) : WV K (tCall (spSV pre postV K) [] E ta) as M R := fun S H0 σ H k r Q q =>
  h S H0 σ H k r _ fun vs H1 ss M1 k1 e1 b1 ⟨hp, p⟩ => by
    rw [List.append_nil]
    exact ⟨syAt S M1 H1 (mem_nn k1), ss, ⟨k1.inv, fun _ _ => rfl⟩, hp, b1, fun v H' s xt iv dp pd => by
      obtain ⟨k2, sm⟩ := behind k1 (mem_nn k1) xt iv
      exact q v H' s M1 k2 (e1.trans sm) dp (p s pd)⟩
theorem start_ss {vs : List V} {ss : List Sv} {N : List Str} {n : Nat} (iv : S.I H) (hl : ss.length = n) (hd : RA K (Hide S.B H) vs ss) : Ok0 K S H H [] ∧ Rs K (Gh S [] H) (L2.start N vs) (ss ++ List.replicate (N.length - n) .no) := by
  refine ⟨⟨fun _ _ _ e => e, iv, List.nodup_nil, (fun z hz => by cases hz), (fun z hz => by cases hz)⟩, ?_⟩
  have hg : Gh S [] H = Hide S.B H := by unfold Gh; rw [bm_nil]
  unfold L2.start
  rw [ra_len hd, hl, hg]
  exact ra_start _ hd
theorem to_spS {t : TS} {N : List Str} {vs : List V} {Q : VK} {n : Nat} (hn : ∀ ss, pre ss → ss.length = n) (hb : ∀ ss, pre ss → WS K t (ss ++ List.replicate (N.length - n) .no) [] ⟨fun _ _ => post ss .none, fun d _ => post ss d, fun _ _ => False, fun _ _ => False⟩)
    (h : spS pre post K vs H Q E) : t { nx := fun _ H' => Q .non H', rt := Q } (L2.start N vs) H := by
  obtain ⟨S, ss, iv, hp, hd, q⟩ := h
  obtain ⟨k0, r0⟩ := start_ss (N := N) iv (hn ss hp) hd
  have fin : ∀ v H' d M', Ok0 K S H H' M' → Dp K (Gh S M' H') v d → post ss d → Q v H' := fun v H' d M' k' dp pd => by
    refine q v H' d k'.xt k'.inv (dp_mono (fun a o e => ?_) _ _ dp) pd
    obtain ⟨e1, e2⟩ := hide_some e
    rw [hide_f (bm_false.mp e1).1]
    exact e2
  exact hb ss hp S H (L2.start N vs) H _ k0 r0 (fun σ' H' as' M' k' _ _ p => fin .non H' .none M' k' .non p) (fun v H' d M' k' dp p => fin v H' d M' k' dp p) (fun _ _ _ _ _ _ _ p => p.elim) (fun _ _ _ _ _ _ _ p => p.elim)
def WSV (K : PySem.W.Frag) (ts : TS) (as : List Sv) (R : Sv → Prop) : Prop := ∀ S H0 σ H (D : Ends), Ok0 K S H0 H [] → Rs K (Gh S [] H) σ as → (∀ v H' s, Ok0 K S H0 H' [] → RSv K (Gh S [] H') (some v) s → R s → D.rt v H') → ts D σ H
variable {t : TT} {s1 s2 : TS} {Rv : Sv → Prop}
theorem wsv_ret (h : WV K te as [] fun s M' => M' = [] ∧ Rv s) : WSV K (tRet te) as Rv := fun S H0 σ H D k r q =>
  h S H0 σ H k r _ fun v H1 s M1 k1 e1 b1 ⟨em, p⟩ => by subst em; exact q v H1 s k1 b1 p
theorem wsv_if (h : WT K t as [] fun b M' => M' = [] ∧ if b = true then WSV K (tRet te) as Rv else WSV K s2 as Rv) : WSV K (tSeq (tIfS t (tRet te) tNext) s2) as Rv := fun S H0 σ H D k r q =>
  h S H0 σ H k r _ fun b H1 M1 k1 e1 ⟨em, p⟩ => by
    subst em
    cases b with
    | true => exact (show WSV K (tRet te) as Rv from p) S H0 σ H1 _ k1 (r.mono e1) q
    | false => exact (show WSV K s2 as Rv from p) S H0 σ H1 _ k1 (r.mono e1) q
theorem to_spSV {ts : TS} {N : List Str} {vs : List V} {Q : VK} {n : Nat} (hn : ∀ ss, pre ss → ss.length = n) (hb : ∀ ss, pre ss → WSV K ts (ss ++ List.replicate (N.length - n) .no) (postV ss)) (h : spSV pre postV K vs H Q E) : ts { nx := fun _ H' => Q .non H', rt := Q } (L2.start N vs) H := by
  obtain ⟨S, ss, iv, hp, hd, q⟩ := h
  obtain ⟨k0, r0⟩ := start_ss (N := N) iv (hn ss hp) hd
  have hg : ∀ H', Gh S [] H' = Hide S.B H' := fun H' => by unfold Gh; rw [bm_nil]
  exact hb ss hp S H (L2.start N vs) H _ k0 r0 fun v H' s k' b p => q v H' s k'.xt k'.inv (by rw [← hg]; exact b) p
theorem spS_len {vs : List V} {Q : VK} {n : Nat} (hn : ∀ ss, pre ss → ss.length = n) (h : spS pre post K vs H Q E) : vs.length = n := by
  obtain ⟨S, ss, _, hp, hd, _⟩ := h
  rw [ra_len hd]; exact hn ss hp
theorem spSV_len {vs : List V} {Q : VK} {n : Nat} (hn : ∀ ss, pre ss → ss.length = n) (h : spSV pre postV K vs H Q E) : vs.length = n := by
  obtain ⟨S, ss, _, hp, hd, _⟩ := h
  rw [ra_len hd]; exact hn ss hp
/-- a call that draws, while other own lists stand by -/
theorem w_callQm {preQ : List PyData → Prop} {postQ : List PyData → PyData → Prop} (h : WA K ta as M fun ss M1 => ∃ (p : Addr) (fl : Bool) (pl ds : List PyData), ss = .own p :: ds.map .dat ∧ (p, fl, pl) ∈ M1 ∧ poolD pl ∧ preQ ds ∧ ∀ d pl', poolD pl' → postQ ds d → P d (mset M1 p pl')) :
    W K (tCall (spQ preQ postQ K) [] E ta) as M P := fun S H0 σ H k r Q q =>
  h S H0 σ H k r _ fun vs H1 ss M1 k1 e1 b1 ⟨p, fl, pl, ds, es, hm, hpl, hp, cont⟩ => by
    subst es
    rw [List.append_nil]
    match vs, b1 with
    | v0 :: ws, ⟨q1, q2⟩ =>
      cases (show some v0 = some (V.ref p) from q1)
      obtain ⟨us, hus, hud⟩ := k1.mem _ hm
      have hus : H1 p = some (.lst us) := hus
      have lc := k1.loc _ hm
      let S' : Sy := {
        B := Bm S M1
        I := fun H => S.I H ∧ (∃ l, H p = some (.lst l)) ∧ ∀ q ∈ M1, q.1 ≠ p → H q.1 = H1 q.1
        mono := fun H H' e i => by
          refine ⟨S.mono H H' (fun a o e1 e2 => e a o (by unfold Bm; rw [e1]; rfl) e2) i.1, ?_, fun q hq n => ?_⟩
          · obtain ⟨l, e2⟩ := i.2.1
            exact ⟨l, e p _ (own_bm hm) e2⟩
          · have e2 := i.2.2 q hq n
            obtain ⟨us2, a, _⟩ := k1.mem q hq
            rw [a] at e2 ⊢
            exact e _ _ (own_bm hq) e2
        trk := fun H a i e => by
          rcases (Bool.or_eq_true _ _).mp e with e | e
          · exact S.trk H a i.1 e
          · obtain ⟨q, hq, z⟩ := List.any_eq_true.mp e
            have z : q.1 = a := by simpa using z
            by_cases n : q.1 = p
            · obtain ⟨l, e2⟩ := i.2.1
              rw [← z, n, e2]; simp
            · rw [← z, i.2.2 q hq n]
              exact mem_nn k1 q hq }
      have stb : Stb S' p := fun H l l' i hl => by
        refine ⟨?_, ⟨l', upd_same⟩, fun q hq n => by rw [upd_ne n]; exact i.2.2 q hq n⟩
        cases fl with
        | true => exact S.mono H _ (fun a o y1 y2 => by rw [upd_ne (fun z => by have w := (lc.1 rfl).1; rw [z] at y1; rw [show S.B p = true from y1] at w; cases w)]; exact y2) i.1
        | false => exact (lc.2 rfl).2 H l l' i.1 hl
      refine ⟨S', p, ws, ds, us, pl, rfl, ⟨k1.inv, ⟨us, hus⟩, fun _ _ _ => rfl⟩, own_bm hm, stb, hus, hud, hpl, hp, ra_dat q2, fun v H' d l' pl' xt iv hl' hd' hpl' dp pd => ?_⟩
      have be : Bm S (mset M1 p pl') = Bm S M1 := bm_set
      have sm : Same (Gh S M1 H1) (Gh S (mset M1 p pl') H') := fun a o e => by
        obtain ⟨e1, e2⟩ := hide_some e
        unfold Gh
        rw [be, hide_f e1]
        exact xt a o e1 e2
      have mm : ∀ z ∈ mset M1 p pl', (z.1 = p ∧ z = (p, fl, pl')) ∨ (z.1 ≠ p ∧ z ∈ M1) := fun z hz => by
        obtain ⟨y, hy, e⟩ := List.mem_map.mp hz
        by_cases n : y.1 = p
        · rw [if_pos n] at e
          have ey : y = (p, fl, pl) := mem_uniq k1.nd hy hm n
          subst ey
          exact .inl ⟨by rw [← e], e.symm⟩
        · rw [if_neg n] at e
          subst e
          exact .inr ⟨n, hy⟩
      refine q v H' d (mset M1 p pl') ⟨fun a o e3 e4 => ?_, iv.1, by rw [mset_fst]; exact k1.nd, fun z hz => ?_, fun z hz => ?_⟩ (e1.trans sm) (by rw [show Gh S (mset M1 p pl') H' = Hide S'.B H' by unfold Gh; rw [be]]; exact dp) (cont d pl' hpl' pd)
      · have e5 := k1.xt a o e3 e4
        by_cases e6 : Bm S M1 a = false
        · exact xt a o e6 e5
        · rcases (Bool.or_eq_true _ _).mp (show Bm S M1 a = true by simpa using e6) with e | e
          · rw [e3] at e; cases e
          · obtain ⟨z, hz, y⟩ := List.any_eq_true.mp e
            have y : z.1 = a := by simpa using y
            by_cases n : z.1 = p
            · rw [n] at y
              subst y
              cases fl with
              | true => rw [(lc.1 rfl).2] at e4; cases e4
              | false => have w := (lc.2 rfl).1; rw [e3] at w; cases w
            · rw [← y, iv.2.2 z hz n, y]
              exact e5
      · rcases mm z hz with ⟨_, e⟩ | ⟨_, hz⟩
        · subst e; exact lc
        · exact k1.loc z hz
      · rcases mm z hz with ⟨_, e⟩ | ⟨n, hz⟩
        · subst e
          exact ⟨l', hl', by rw [be]; exact hd'⟩
        · obtain ⟨us2, a, b⟩ := k1.mem z hz
          exact ⟨us2, by rw [iv.2.2 z hz n]; exact a, dps_mono sm _ _ b⟩
end
end Ab

set_option Elab.async false
set_option linter.all false
set_option maxRecDepth 100000
set_option maxHeartbeats 4000000
/-! del xs[a:]; defs handed on as values. -/
namespace Ab
open PySem PySem.Spec PyProof.Rows L2
theorem filt_from {α : Type} {a : Nat} {g : α × Nat → Option α} : ∀ (l : List α) (i : Nat), (∀ x k, i ≤ k → k < i + l.length → g (x, k) = if k < a then some x else none) → (l.zipIdx i).filterMap g = l.take (a - i)
  | [], i, _ => by simp
  | x :: r, i, h => by
    have ih := filt_from r (i + 1) fun y k h1 h2 => h y k (by omega) (by rw [List.length_cons]; omega)
    have hx := h x i (Nat.le_refl _) (by rw [List.length_cons]; omega)
    rw [List.zipIdx_cons, List.filterMap_cons, hx, ih]
    by_cases z : i < a
    · rw [if_pos z, show a - i = (a - (i + 1)) + 1 by omega]; rfl
    · rw [if_neg z, show a - i = 0 by omega, show a - (i + 1) = 0 by omega]; rfl
theorem bounds_from {a n : Nat} (ha : a ≤ n) : sliceBounds (some (a : Int)) none none n = ((a : Int), (n : Int), 1) := by
  simp only [sliceBounds, Option.getD_none]
  have h1 : ¬ ((a : Int) < 0) := by omega
  simp only [h1, if_false, show (1 : Int) > 0 by decide, if_true]
  congr 1
  omega
section
variable {prog : Program} {w : World} {A : Around} {E : Value → Shared → Prop} {s : Shared}
theorem delItem_from {l sl : Addr} {items : Array Value} {n : Nat} {vl : Value} {a : Nat} {Q : Unit → Shared → Prop} (e : s.heap.get? l = some { cls := .type "list", data := .seq items n })
    (hs : s.heap.IsSliceOf sl vl .none .none) (pl : IsPart vl (some (a : Int))) (ha : a ≤ items.size) (hsz : items.size ≤ sizeLine)
    (h : ∀ f : Array Value → Array Value, f items = (items.toList.take a).toArray → Q () { s with heap := s.heap.update l (Obj.mapSeq f) }) : wpAny (model prog w) A (delItem (.ref l) (.ref sl)) Q E s := by
  have hl : s.heap.IsList l items := PySem.IsL.isList e
  obtain ⟨os, hos, hcs, hds⟩ := id hs
  have hTs : s.TypeIs (.ref sl) "slice" := ⟨os, hos, hcs⟩
  have hstep : ¬ ((rawPart none == rawInt 0) = true) := Bool.false_ne_true
  unfold delItem
  refine wpAny_holding ?_
  refine wpAny_bind (wpAny_sequenceKey hl.typeIs (by decide) ?_)
  refine wpAny_bind (wpAny_callSpecial?_slot (name := Str.ofString "__delitem__") hl.typeIs PySem.F.slot_list_delitem
    (wpAny_call_entry PySem.F.slot_list_delitem hl.typeIs PySem.F.entry_list_delitem ?_ (PySem.F.args_list_delitem_2 _ _)))
  unfold Builtin.«list.__delitem__»
  refine wpAny_bind (wpAny_of_eq (a := ((Value.ref l : Value), [Value.ref sl])) (by first | rfl | (simp only [slotArgs]; rfl)) ?_)
  show wpAny _ _ (Builtin.List.listSubscript? (.ref sl) >>= _) _ _ s
  refine wpAny_bind ?_
  unfold Builtin.List.listSubscript?
  refine wpAny_bind (wpAny_specialOf hTs slice_no_index ?_)
  simp only [Option.isNone_none, if_true]
  refine wpAny_pure ?_
  show wpAny _ _ (typeOf (.ref sl) >>= _) _ _ s
  refine wpAny_bind (wpAny_typeOf hTs ?_)
  first
    | rw [if_neg (by decide)]
    | refine PySem.W.KFB.if_not (by decide) ?_
  rw [listSliceParts_eq]
  refine wpAny_bind (wpAny_bind (wpAny_field hos hds (x := .none) rfl (wpAny_bind (wpAny_listPart .none ?_))))
  rw [if_neg hstep]
  refine wpAny_bind (wpAny_field hos hds (x := vl) rfl (wpAny_bind (wpAny_listPart pl ?_)))
  refine wpAny_bind (wpAny_field hos hds (x := .none) rfl (wpAny_bind (wpAny_listPart .none (wpAny_pure ?_))))
  unfold Builtin.List.listItems
  refine wpAny_bind (wpAny_bind (wpAny_seqItems e rfl (wpAny_pure ?_)))
  refine wpAny_bind (wpAny_of_eq ((sliceIndices_raw (some (a : Int)) none none items.size (by simp)).trans (congrArg (pure : Int × Int × Int → Sem (Int × Int × Int)) (bounds_from ha))) ?_)
  refine wpAny_bind (wpAny_rule ?_)
  unfold Builtin.List.listUpdate
  dsimp only
  refine wpAny_bind (wpAny_updateSeq (hz := hsz) (_hz' := ?_) e rfl ?_)
  · refine wpAny_bind (wpAny_letGo ?_)
    refine wpAny_pure ⟨.none, rfl, wpAny_pure (h _ ?_)⟩
    try dsimp only
    rw [filt_from (a := a) items.toList 0 ?_]
    · rfl
    · intro x k _ hk
      try dsimp only
      split
      · rename_i q
        have q' : (decide ((a : Int) ≤ (k : Int)) && decide ((k : Int) < (items.size : Int)) && (((k : Int) - (a : Int)) % 1 == 0)) = true := q
        rw [Bool.and_eq_true, Bool.and_eq_true] at q'
        have h1 := of_decide_eq_true q'.1.1
        rw [if_neg (by omega)]
      · rename_i q
        by_cases z : k < a
        · rw [if_pos z]
        · refine absurd ?_ q
          show (decide ((a : Int) ≤ (k : Int)) && decide ((k : Int) < (items.size : Int)) && (((k : Int) - (a : Int)) % 1 == 0)) = true
          rw [Nat.zero_add, Array.length_toList] at hk
          rw [Bool.and_eq_true, Bool.and_eq_true]
          exact ⟨⟨decide_eq_true (by omega), decide_eq_true (by omega)⟩, by simp [Int.emod_one]⟩
  · rw [List.size_toArray]
    refine Nat.le_trans (List.length_filterMap_le _ _) ?_
    rw [List.length_zipIdx, Array.length_toList]
    omega
end
/-- del xs[a:] -/
def tDelS (to : TE) (tl : TO) : TS := fun D σ H => to σ H fun x H1 => tl σ H1 fun l H2 => ∃ (p : Addr) (xs : List V) (a : Nat), x = .ref p ∧ l = some (a : Int) ∧ H2 p = some (.lst xs) ∧ a ≤ xs.length ∧ D.nx σ (upd H2 p (.lst (xs.take a)))
section
variable {X : Cx} {o : Expr} {lo : Option Expr} {to : TE} {tl : TO} {p2 tpos pos : Pos}
theorem ps_delS (ho : PE X o to) (hl : PO X lo tl) : PS X (.Delete [.Subscript o (.Slice lo none none p2) tpos] pos) (tDelS to tl) := by
  refine ⟨fun pins s σ H D I h => ?_⟩
  refine wpAny_Delete (wpAny_deleteEach_cons (wpAny_delete_Subscript (thn (ho.run pins s σ H _ I h) fun u s1 ⟨x, H1, I1, rx, q1⟩ => ?_)))
  refine wpAny_Slice (thn (hl.run pins s1 σ H1 _ I1 q1) fun vl s2 ⟨l, H2, I2, pl, q2⟩ => ?_)
  rw [evalPart_none]
  refine wpAny_pure ?_
  try rw [evalPart_none]
  try refine wpAny_pure ?_
  have I4 : Inv X pins σ H2 { s2 with heap := s2.heap.push { cls := .type "slice", data := .fields #[vl, .none, .none] } } := I2.kept (t' := s2.toks) fun b ob q => Heap.get?_push_of_some _ q
  obtain ⟨p, xs, a, ex, el, hH, ha, q⟩ := q2
  subst ex el
  cases (show u = Value.ref p from rx)
  obtain ⟨z, its, n, r, hlen, e⟩ := I4.lstM hH
  refine delItem_from (a := a) e (Heap.IsSliceOf.new ..) pl (by rw [List.size_toArray]; omega) (by rw [List.size_toArray]; omega) fun f hf => ?_
  exact wpAny_deleteEach_nil ⟨σ, _, I4.lset (its' := its.take a) (t' := s2.toks) hH e (by rw [hf]) (r.take a) (by rw [List.length_take]; omega), q⟩
end
/-! ### the same, over what is known -/
section
variable {K : PySem.W.Frag} {S : Sy} {H0 H : Hp} {M : Mm} {as : List Sv} {te : TE} {ta : TA} {tl th : TO} {P : PyData → Mm → Prop} {A : AE} {p : Addr} {fl : Bool} {E : XK}
theorem ws_delown {i : Nat} (hi : as[i]? = some (.own p)) (h : WO K tl as M fun lo M' => ∃ (fl : Bool) (ys : List PyData) (a : Nat), lo = some (a : Int) ∧ (p, fl, ys) ∈ M' ∧ a ≤ ys.length ∧ A.nx as (mset M' p (ys.take a))) : WS K (tDelS (tVar i) tl) as M A := fun S H0 σ H D k r n _ _ _ => by
  obtain ⟨o, e1, e2⟩ := r.at_ i _ hi
  cases (show o = some (V.ref p) from e2)
  refine ⟨.ref p, e1, h S H0 σ H k r _ fun lo H1 M1 k1 e1 ⟨fl', ys, a, el, hy, hl, q⟩ => ?_⟩
  obtain ⟨us, hp, hu⟩ := k1.mem _ hy
  refine ⟨p, us, a, rfl, el, hp, by rw [dps_len hu]; exact hl, ?_⟩
  have ge : Gh S (mset M1 p (ys.take a)) (upd H1 p (.lst (us.take a))) = Gh S M1 H1 := gh_write hy
  have k2 := ok_write (ws := us.take a) (ys := ys.take a) k1 hy (dps_take a hu)
  exact n σ _ as _ k2 (by rw [ge]; exact r.mono e1) (by rw [ge]; exact e1) q
/-- own[lo:hi]: a list of its own -/
theorem w_slown {i : Nat} (hi : as[i]? = some (.own p)) (h : WO K tl as M fun lo M2 => WO K th as M2 fun hi M3 => ∃ (fl : Bool) (ys : List PyData), (p, fl, ys) ∈ M3 ∧ P (.list (cutD ys lo hi)) M3) : W K (tSl (rSl K) (tVar i) tl th) as M P := fun S H0 σ H k r Q q => by
  obtain ⟨o, e1, e2⟩ := r.at_ i _ hi
  cases (show o = some (V.ref p) from e2)
  refine ⟨.ref p, e1, h S H0 σ H k r _ fun lo H2 M2 k2 e2 h3 => h3 S H0 σ H2 k2 (r.mono e2) _ fun hi H3 M3 k3 e3 ⟨fl, ys, hm, p1⟩ => ?_⟩
  obtain ⟨us, hp, hu⟩ := k3.mem _ hm
  exact .inl ⟨p, us, rfl, SqL.of hp, fun l hl => q _ _ (.list (cutD ys lo hi)) M3 (ok_new k3 hl) ((e2.trans e3).trans (new_same hl)) (newL hl (bm_trk k3) (dps_cut hu lo hi)) p1⟩
/-- len(own) -/
theorem w_lenown {i : Nat} {ys : List PyData} (hi : as[i]? = some (.own p)) (hm : (p, fl, ys) ∈ M) (q0 : P (.int ys.length) M) : W K (tCB (rLenA K) (tCons (tVar i) tNil)) as M P := fun S H0 σ H k r Q q => by
  obtain ⟨o, e1, e2⟩ := r.at_ i _ hi
  cases (show o = some (V.ref p) from e2)
  obtain ⟨us, hp, hu⟩ := k.mem _ hm
  exact ⟨.ref p, e1, .ref p, ys.length, rfl, .inl ⟨us, SqL.of hp, (dps_len hu).symm⟩, q _ H (.int ys.length) M k (Same.refl _) (.int _) q0⟩
/-- a def in a slot is called -/
theorem w_callL {i : Nat} {f : Addr} {sp : Sp} (hi : as[i]? = some (.own f)) (h : W K (tCall sp [] E ta) as M P) : W K (tCallL i f sp [] E ta) as M P := fun S H0 σ H k r Q q => by
  obtain ⟨o, e1, e2⟩ := r.at_ i _ hi
  cases (show o = some (V.ref f) from e2)
  exact ⟨e1, h S H0 σ H k r Q q⟩
/-- a def is handed on -/
theorem wa_ref {f : Addr} {tr : TA} {P : List Sv → Mm → Prop} (hr : WA K tr as M fun ss M2 => P (.own f :: ss) M2) : WA K (tCons (tC (.ref f)) tr) as M P := fun S H0 σ H k r Q q =>
  hr S H0 σ H k r _ fun vs H2 ss M2 k2 e2 b2 p => q _ H2 (.own f :: ss) M2 k2 e2 ⟨rfl, b2⟩ p
end
/-- a def as a value -/
structure FnV (P : Program) (w : World) (K : PySem.W.Frag) (mg : Str → Option Value) (base : Heap) (k : Nat) (f : Addr) (ps : List Str) (sp : Sp) : Prop where
  ex : ∃ fd, FnOk P w K mg base CX0 k f fd ps sp ∧ PySem.W.keepIn K (.ref f) = true ∧ Binds K fd ps []
section
variable {P : Program} {w : World} {K : PySem.W.Frag} {mg : Str → Option Value} {base : Heap}
theorem FnV.mono {j k : Nat} {f : Addr} {ps : List Str} {sp : Sp} (c : FnV P w K mg base j f ps sp) (h : j ≤ k) : FnV P w K mg base k f ps sp := by
  obtain ⟨fd, a, b, d⟩ := c.ex
  exact ⟨fd, a.mono h, b, d⟩
theorem _root_.Ab.Cal.fn {k : Nat} {x : Str} {ps : List Str} {sp : Sp} (c : Cal P w K mg base k x ps sp) : ∃ f, mg x = some (.ref f) ∧ FnV P w K mg base k f ps sp := by
  obtain ⟨f, fd, a, b, d, e⟩ := c.ex
  exact ⟨f, b, fd, a, d, e⟩
theorem pe_calL {X : Cx} {k i : Nat} {f : Addr} {x : Str} {ps : List Str} {sp : Sp} {p pos : Pos} {e : Expr} {es : List Expr} {t : TA} (c : FnV X.prog X.w X.K X.mg X.base k f ps sp) (hr : Room k X.A) (hN : X.N[i]? = some x) (hv : Vis X.env.scope x) (ha : PA X (e :: es) t)
    (hdb : (x == ("__debug__" : Str)) = false := by decide) (hcd : (x == ("__classdict__" : Str)) = false := by decide)
    (he : starEach (e :: es) X.env = (false, eval e X.env) :: starEach es X.env := by rfl) (hpl : (backTo pos (starEach es X.env)).any (·.1) = false := by rfl) : PE X (.Call (.Name x p) (e :: es) [] pos) (tCallL i f sp [] E0 t) := by
  obtain ⟨fd, F, hk, hb⟩ := c.ex
  exact pe_callL F hr hN hv hk hb .nil pass0 ha hdb hcd he hpl
end
end Ab

set_option Elab.async false
set_option linter.all false
set_option maxRecDepth 100000
set_option maxHeartbeats 4000000
/-! A tree that is walked with a stack of jobs: opened, its parts first, then closed. -/
namespace Ab
open PySem PySem.Spec PyProof.Rows L2
inductive FT where
  | mk (x : PyData) (ks : List FT) (y : PyData)
def FT.x : FT → PyData
  | .mk x _ _ => x
def FT.y : FT → PyData
  | .mk _ _ y => y
def FT.ks : FT → List FT
  | .mk _ ks _ => ks
mutual
def FT.sz : FT → Nat
  | .mk _ ks _ => FT.szs ks + 1
def FT.szs : List FT → Nat
  | [] => 0
  | k :: r => FT.sz k + FT.szs r
end
section
variable (O : PyData → List PyData → Prop) (B : PyData → List PyData → PyData → Prop)
mutual
def FT.ok : FT → Prop
  | .mk x ks y => O x (ks.map FT.x) ∧ B x (ks.map FT.y) y ∧ FT.oks ks
def FT.oks : List FT → Prop
  | [] => True
  | k :: r => FT.ok k ∧ FT.oks r
end
end
inductive Job where
  | op (t : FT)
  | cl (t : FT)
def Job.d : Job → PyData
  | .op t => .tuple [t.x, .none]
  | .cl t => .tuple [t.x, .int (t.ks.length : Int)]
def Job.m : Job → Nat
  | .op t => 2 * t.sz
  | .cl _ => 1
inductive Good (O : PyData → List PyData → Prop) (B : PyData → List PyData → PyData → Prop) : List Job → List PyData → PyData → Prop
  | nil {y : PyData} : Good O B [] [y] y
  | op {t : FT} {js : List Job} {ds : List PyData} {y : PyData} : t.ok O B → Good O B js (ds ++ [t.y]) y → Good O B (.op t :: js) ds y
  | cl {t : FT} {js : List Job} {ds : List PyData} {y : PyData} : t.ok O B → Good O B js (ds ++ [t.y]) y → Good O B (.cl t :: js) (ds ++ t.ks.map FT.y) y
section
variable {O : PyData → List PyData → Prop} {B : PyData → List PyData → PyData → Prop}
theorem FT.ok_at {t : FT} (h : t.ok O B) : O t.x (t.ks.map FT.x) ∧ B t.x (t.ks.map FT.y) t.y ∧ FT.oks O B t.ks := by
  cases t with
  | mk x ks y => exact h
theorem good_all : ∀ (l : List FT) {ds : List PyData} {js : List Job} {y : PyData}, FT.oks O B l → Good O B js (ds ++ l.map FT.y) y → Good O B (l.map Job.op ++ js) ds y
  | [], ds, js, y, _, h => by simpa using h
  | t :: r, ds, js, y, ho, h => by
    refine .op ho.1 (good_all r ho.2 ?_)
    rw [List.append_assoc]
    exact h
theorem good_open {t : FT} {js : List Job} {ds : List PyData} {y : PyData} (h : Good O B (.op t :: js) ds y) : t.ok O B ∧ Good O B (t.ks.map Job.op ++ .cl t :: js) ds y := by
  cases h with
  | op h1 h2 => exact ⟨h1, good_all _ (FT.ok_at h1).2.2 (.cl h1 h2)⟩
theorem good_close {t : FT} {js : List Job} {ds : List PyData} {y : PyData} (h : Good O B (.cl t :: js) ds y) : ∃ d0, ds = d0 ++ t.ks.map FT.y ∧ t.ok O B ∧ Good O B js (d0 ++ [t.y]) y := by
  cases h with
  | cl h1 h2 => exact ⟨_, rfl, h1, h2⟩
theorem good_end {ds : List PyData} {y : PyData} (h : Good O B [] ds y) : ds = [y] := by
  cases h; rfl
end
theorem szs_sum : ∀ l : List FT, ((l.map Job.op).map Job.m).sum = 2 * FT.szs l
  | [] => rfl
  | t :: r => by
    rw [List.map_cons, List.map_cons, List.sum_cons, szs_sum r]
    show 2 * t.sz + _ = 2 * (t.sz + FT.szs r)
    omega
theorem sz_ks (t : FT) : t.sz = FT.szs t.ks + 1 := by cases t; rfl
theorem sz_pos (t : FT) : 1 ≤ t.sz := by rw [sz_ks]; omega
theorem m_pos (j : Job) : 1 ≤ j.m := by
  cases j with
  | op t => show 1 ≤ 2 * t.sz; have := sz_pos t; omega
  | cl t => exact Nat.le_refl _
theorem len_m : ∀ js : List Job, js.length ≤ (js.map Job.m).sum
  | [] => Nat.le_refl _
  | j :: js => by
    rw [List.map_cons, List.sum_cons, List.length_cons]
    have := len_m js
    have := m_pos j
    omega
theorem ks_le : ∀ l : List FT, l.length ≤ FT.szs l
  | [] => Nat.le_refl _
  | t :: r => by
    show r.length + 1 ≤ t.sz + FT.szs r
    have := ks_le r
    have := sz_pos t
    omega
theorem op_d (l : List FT) : (l.map Job.op).map Job.d = (l.map FT.x).map fun x => PyData.tuple [x, .none] := by
  rw [List.map_map, List.map_map]
  rfl
theorem len_any {d : PyData} {ps : List PyData} {P : PyData → Prop} (h : d = .list ps ∨ d = .tuple ps) (p : P (.int ps.length)) : fLenA [d] P := by
  rcases h with rfl | rfl <;> exact p
theorem cut_tail (a b : List PyData) : cutD (a ++ b) (some (a.length : Int)) none = b := by
  unfold cutD
  have h1 : HT.sIx (a ++ b).length 0 (some (a.length : Int)) = a.length := by
    rw [HT.sIx_nat, List.length_append]; omega
  have h2 : HT.sIx (a ++ b).length (a ++ b).length none = (a ++ b).length := rfl
  rw [h1, h2, List.drop_left, List.take_of_length_le (by rw [List.length_append]; omega)]
theorem ms_a {p q : Addr} {xs ys xs' : List PyData} (h : p ≠ q) : mset [(p, true, xs), (q, true, ys)] p xs' = [(p, true, xs'), (q, true, ys)] := by simp [mset, Ne.symm h]
theorem ms_b {p q : Addr} {xs ys ys' : List PyData} (h : p ≠ q) : mset [(p, true, xs), (q, true, ys)] q ys' = [(p, true, xs), (q, true, ys')] := by simp [mset, h]
/-- a def as a value, called with these, hands back that -/
def preFold (O : PyData → List PyData → Prop) (B : PyData → List PyData → PyData → Prop) (fO fB : Addr) (ss : List Sv) : Prop := ∃ t : FT, ss = [.dat t.x, .own fO, .own fB] ∧ t.ok O B ∧ t.sz ≤ 40000
def postFold (O : PyData → List PyData → Prop) (B : PyData → List PyData → PyData → Prop) (fO fB : Addr) (ss : List Sv) (d : PyData) : Prop := ∃ t : FT, ss = [.dat t.x, .own fO, .own fB] ∧ t.ok O B ∧ d = t.y
abbrev spFold (O : PyData → List PyData → Prop) (B : PyData → List PyData → PyData → Prop) (fO fB : Addr) (K : PySem.W.Frag) : Sp := spS (preFold O B fO fB) (postFold O B fO fB) K
end Ab

set_option Elab.async false
set_option linter.all false
set_option maxRecDepth 100000
set_option maxHeartbeats 4000000
/-! A raise with one whole number; lists of own lists; int(text), str(number), name += number. -/
namespace Ab
open PySem PySem.Spec PyProof.Rows L2
/-! ### an own exception with one field -/
def XB (S : Sy) (H0 : Hp) (E : XK) (C : Addr) (fld : Str) (i : Int) : Prop := ∀ H' dx, (∀ a o, S.B a = false → H0 a = some o → H' a = some o) → S.I H' → H' dx = some (.xd [(fld, .int i)]) → E (.ref C) (some dx) H'
def spE (C : Addr) (fld : Str) (pre : List PyData → Prop) (res : List PyData → Int ⊕ PyData) (K : PySem.W.Frag) : Sp := fun vs H Q E => ∃ (S : Sy) (ds : List PyData), S.I H ∧ pre ds ∧ DpAll K (Hide S.B H) vs ds ∧
  (∀ d, res ds = .inr d → ∀ v H', (∀ a o, S.B a = false → H a = some o → H' a = some o) → S.I H' → Dp K (Hide S.B H') v d → Q v H') ∧ (∀ i, res ds = .inl i → XB S H E C fld i)
def spInE (K : PySem.W.Frag) (C : Addr) (fld : Str) : Sp := fun vs H Q _ => ∃ (a : Addr) (v : V), vs = [.ref a, v] ∧ H a = some (exo a C none) ∧ ∀ dx, H dx = none → dx ≠ a → Q .non (upd (upd H dx (exd dx [(fld, v)])) a (exo a C (some dx)))
section
variable {K : PySem.W.Frag} {S S' : Sy} {H0 : Hp} {E : XK} {C : Addr} {fld : Str} {as : List Sv} {M : Mm} {te tb : TE} {ta tr : TA} {t : TT} {P : PyData → Mm → Prop} {PA : List Sv → Mm → Prop} {pre : List PyData → Prop} {res : List PyData → Int ⊕ PyData} {A : AE} {s1 s2 ts : TS}
theorem XB.ext {i : Int} (x : Ext S H0 S') (h : XB S H0 E C fld i) : XB S' H0 E C fld i := fun H' dx xt iv hx => h H' dx (fun a o e1 e2 => xt a o (by
  cases e : S'.B a with
  | false => rfl
  | true =>
    rcases x.b a e with z | z
    · rw [e1] at z; cases z
    · rw [e2] at z; cases z) e2) (x.i _ iv) hx
theorem wr_callE (h : WAR K S H0 ta as M fun ss M1 => ∃ ds : List PyData, ss = ds.map .dat ∧ pre ds ∧ (∀ d, res ds = .inr d → P d M1) ∧ (∀ i, res ds = .inl i → XB S H0 E C fld i)) : WR K S H0 (tCall (spE C fld pre res K) [] E ta) as M P := fun S' x σ H k r Q q =>
  h S' x σ H k r _ fun vs H1 ss M1 k1 e1 b1 ⟨ds, es, hp, p, bad⟩ => by
    subst es
    rw [List.append_nil]
    have low : ∀ {H' : Hp}, (∀ a o, Bm S' M1 a = false → H1 a = some o → H' a = some o) → (∀ z ∈ M1, H' z.1 = H1 z.1) → ∀ a o, S'.B a = false → H0 a = some o → H' a = some o := fun {H'} xt iv a o e3 e4 => by
      have e5 := k1.xt a o e3 e4
      by_cases e6 : Bm S' M1 a = false
      · exact xt a o e6 e5
      · rcases (Bool.or_eq_true _ _).mp (show Bm S' M1 a = true by simpa using e6) with e | e
        · rw [e3] at e; cases e
        · obtain ⟨z, hz, y⟩ := List.any_eq_true.mp e
          have y : z.1 = a := by simpa using y
          rw [← y, iv z hz, y]
          exact e5
    refine ⟨syAt S' M1 H1 fun z hz => by obtain ⟨us, a, _⟩ := k1.mem z hz; rw [a]; simp, ds, ⟨k1.inv, fun _ _ => rfl⟩, hp, ra_dat b1, fun d hg v H' xt iv dp => ?_, fun i hg H' dx xt iv hx => bad i hg H' dx (fun a o e3 e4 => low xt iv.2 a o ?_ e4) (x.i _ iv.1) hx⟩
    · have sm : Same (Gh S' M1 H1) (Gh S' M1 H') := gh_any xt
      refine q v H' _ M1 ⟨low xt iv.2, iv.1, k1.nd, k1.loc, fun z hz => ?_⟩ (e1.trans sm) dp (p d hg)
      obtain ⟨us, a, b⟩ := k1.mem z hz
      exact ⟨us, by rw [iv.2 z hz]; exact a, dps_mono sm _ _ b⟩
    · cases e6 : S'.B a with
      | false => rfl
      | true =>
        rcases x.b a e6 with z | z
        · rw [e3] at z; cases z
        · rw [e4] at z; cases z
theorem wx_asg {g : TG} {ts : List Nat} {f : PyData → List Sv → (List Sv → Prop) → Prop} (hg : GA K g ts f) (h : WR K S H0 te as M fun d M' => f d as fun as' => A.nx as' M') : WX K S H0 (tAsg te g) as M A := fun σ H D k r n _ =>
  h S Ext.refl σ H k r _ fun v H1 d M1 k1 e1 b1 p => hg _ H1 v d σ as _ same_hide b1 (r.mono e1) p _ fun σ' as' r' _ p' => n σ' H1 as' M1 k1 r' e1 p'
/-- raise C(number) -/
theorem wx_raiseE (h : W K te as M fun d M' => ∃ i, d = .int i ∧ XB S H0 E C fld i) :
    WX K S H0 (fun _ σ H => tMkO C (spInE K C fld) [] (tCons te tNil) σ H fun cls d H' => E cls d H') as M A := fun σ H D k r _ _ =>
  h S H0 σ H k r _ fun v H1 d M1 k1 e1 b1 ⟨i, ed, p⟩ => by
    subst ed
    cases b1
    refine ⟨by simp, fun a ha => ⟨a, .int i, rfl, upd_same, fun dx h1 h2 => ⟨rfl, dx, [(fld, .int i)], upd_same, ?_, ?_, ?_⟩⟩⟩
    · rw [upd_ne h2, upd_same]
    · rw [upd_ne h2] at h1; exact h1
    · have hd : H1 dx = none := by rw [upd_ne h2] at h1; exact h1
      have kp : ∀ b o, H1 b = some o → (upd (del (upd (upd (upd H1 a (exo a C none)) dx (exd dx [(fld, .int i)])) a (exo a C (some dx))) a) dx (.xd [(fld, .int i)])) b = some o := fun b o e => by
        have n1 : b ≠ dx := ne_of_none e hd
        have n2 : b ≠ a := ne_of_none e ha
        rw [upd_ne n1, del_ne n2, upd_ne n2, upd_ne n1, upd_ne n2]
        exact e
      exact p _ dx (fun b o e2 e3 => kp b o (k1.xt b o e2 e3)) (S.mono H1 _ (fun b o _ e2 => kp b o e2) k1.inv) upd_same
/-- a def that may raise keeps its word -/
theorem to_spE {N : List Str} {vs : List V} {H : Hp} {Q : VK} {n : Nat} (hn : ∀ ds, pre ds → ds.length = n) (hb : ∀ (S : Sy) ds, pre ds → (∀ i, res ds = .inl i → XB S H E C fld i) → WX K S H ts (ds.map .dat ++ List.replicate (N.length - n) .no) [] ⟨fun _ _ => False, fun d _ => res ds = .inr d, fun _ _ => False, fun _ _ => False⟩)
    (h : spE C fld pre res K vs H Q E) : ts { nx := fun _ H' => Q .non H', rt := Q } (L2.start N vs) H := by
  obtain ⟨S, ds, iv, hp, hd, q, bad⟩ := h
  have ln : vs.length = n := by rw [dps_len hd]; exact hn ds hp
  have k0 : Ok0 K S H H [] := ⟨fun _ _ _ e => e, iv, List.nodup_nil, (fun z hz => by cases hz), (fun z hz => by cases hz)⟩
  have hg : Gh S [] H = Hide S.B H := by unfold Gh; rw [bm_nil]
  have r0 : Rs K (Gh S [] H) (L2.start N vs) (ds.map .dat ++ List.replicate (N.length - n) .no) := by
    unfold L2.start
    rw [ln, hg]
    exact ra_start _ (dat_ra hd)
  exact hb S ds hp bad (L2.start N vs) H _ k0 r0 (fun σ' H' as' M' k' _ _ p => p.elim) (fun v H' d M' k' dp p => by
    refine q d p v H' k'.xt k'.inv (dp_mono (fun a o e => ?_) _ _ dp)
    obtain ⟨e1, e2⟩ := hide_some e
    rw [hide_f (bm_false.mp e1).1]
    exact e2)
theorem spE_len {vs : List V} {H : Hp} {Q : VK} {n : Nat} (hn : ∀ ds, pre ds → ds.length = n) (h : spE C fld pre res K vs H Q E) : vs.length = n := by
  obtain ⟨S, ds, _, hp, hd, _⟩ := h
  rw [dps_len hd]; exact hn ds hp
end
/-! ### a stack of own lists -/
abbrev Sk := List (Addr × List PyData)
def vaS (k : Sk) : List V := (k.map fun p => V.ref p.1).reverse
structure BE where
  nx : List Sv → Sk → Mm → Prop
  rt : PyData → Prop
  ct : List Sv → Sk → Mm → Prop := fun _ _ _ => False
def WB (K : PySem.W.Frag) (S : Sy) (H0 : Hp) (b : Addr) (ts : TS) (as : List Sv) (k : Sk) (M : Mm) (A : BE) : Prop := ∀ σ H (D : Ends), Ok0 K (syD S b (vaS k)) H0 H M → Rs K (Gh (syD S b (vaS k)) M H) σ as →
  (∀ σ' H' as' k' M', Ok0 K (syD S b (vaS k')) H0 H' M' → Rs K (Gh (syD S b (vaS k')) M' H') σ' as' → A.nx as' k' M' → D.nx σ' H') →
  (∀ v H' d k' M', Ok0 K (syD S b (vaS k')) H0 H' M' → Dp K (Gh (syD S b (vaS k')) M' H') v d → A.rt d → D.rt v H') →
  (∀ σ' H' as' k' M', Ok0 K (syD S b (vaS k')) H0 H' M' → Rs K (Gh (syD S b (vaS k')) M' H') σ' as' → A.ct as' k' M' → D.ct σ' H') → ts D σ H
def WTB (K : PySem.W.Frag) (S : Sy) (H0 : Hp) (b : Addr) (t : TT) (as : List Sv) (k : Sk) (M : Mm) (P : Bool → Mm → Prop) : Prop := ∀ σ H, Ok0 K (syD S b (vaS k)) H0 H M → Rs K (Gh (syD S b (vaS k)) M H) σ as →
  ∀ Q : Bool → Hp → Prop, (∀ c H' M', Ok0 K (syD S b (vaS k)) H0 H' M' → Same (Gh (syD S b (vaS k)) M H) (Gh (syD S b (vaS k)) M' H') → P c M' → Q c H') → t σ H Q
theorem atI_last {α : Type} (xs : List α) (y : α) : atI (xs ++ [y]) (-1) = some y := by
  unfold atI ixN
  rw [if_neg (by decide), if_pos (by simp; omega), Option.bind_some]
  have : (-1 + ((xs ++ [y]).length : Int)).toNat = xs.length := by rw [List.length_append]; simp; omega
  rw [this]; simp
section
variable {K : PySem.W.Frag} {S : Sy} {H0 : Hp} {b : Addr} {E : XK} {C : Addr} {fld : Str} {as : List Sv} {k : Sk} {M : Mm} {te tb : TE} {ta : TA} {t u : TT} {P : Bool → Mm → Prop} {A : BE} {s1 s2 ts : TS} {i : Nat}
theorem xS (sb : S.B b = false) (h0 : H0 b = none) (va : List V) : Ext S H0 (syD S b va) := by
  refine ⟨fun a ha => ?_, fun _ i => i.1⟩
  by_cases e : a = b
  · exact .inr (by rw [e]; exact h0)
  · cases e1 : S.B a with
    | true => exact .inl rfl
    | false => rw [syd_mk e1 e] at ha; cases ha
theorem wb_ws (h : WS K ts as M ⟨fun as' M' => A.nx as' k M', fun d _ => A.rt d, fun _ _ => False, fun as' M' => A.ct as' k M'⟩) : WB K S H0 b ts as k M A := fun σ H D o r n rt c =>
  h _ H0 σ H D o r (fun σ' H' as' M' o' r' _ p => n σ' H' as' k M' o' r' p) (fun v H' d M' o' dp p => rt v H' d k M' o' dp p) (fun _ _ _ _ _ _ _ z => z.elim) (fun σ' H' as' M' o' r' _ p => c σ' H' as' k M' o' r' p)
theorem wb_wx (h : WX K (syD S b (vaS k)) H0 ts as M ⟨fun as' M' => A.nx as' k M', fun d _ => A.rt d, fun _ _ => False, fun _ _ => False⟩) : WB K S H0 b ts as k M A := fun σ H D o r n rt c =>
  h σ H D o r (fun σ' H' as' M' o' r' _ p => n σ' H' as' k M' o' r' p) (fun v H' d M' o' dp p => rt v H' d k M' o' dp p)
theorem wb_seq (h : WB K S H0 b s1 as k M ⟨fun as' k' M' => WB K S H0 b s2 as' k' M' A, A.rt, A.ct⟩) : WB K S H0 b (tSeq s1 s2) as k M A := fun σ H D o r n rt c =>
  h σ H { D with nx := s2 D } o r (fun σ' H' as' k' M' o' r' p => p σ' H' D o' r' n rt c) rt c
theorem wb_next (p : A.nx as k M) : WB K S H0 b tNext as k M A := fun σ H D o r n _ _ => n σ H as k M o r p
theorem wb_cont (p : A.ct as k M) : WB K S H0 b tCont as k M A := fun σ H D o r _ _ c => c σ H as k M o r p
theorem wtb_of (h : WT K t as M P) : WTB K S H0 b t as k M P := fun σ H o r Q q => h _ H0 σ H o r Q q
theorem wtb_not (h : WTB K S H0 b t as k M fun c M' => P (!c) M') : WTB K S H0 b (tNot t) as k M P := fun σ H o r Q q => h σ H o r _ fun c H' M' o' e p => q _ H' M' o' e p
theorem wtb_and (h : WTB K S H0 b t as k M fun c M1 => if c = true then WTB K S H0 b u as k M1 P else P false M1) : WTB K S H0 b (tAnd t u) as k M P := fun σ H o r Q q => h σ H o r _ fun c H1 M1 o1 e1 p => by
  cases c with
  | true => exact (show WTB K S H0 b u as k M1 P from p) σ H1 o1 (r.mono e1) _ fun c H2 M2 o2 e2 p2 => q c H2 M2 o2 (e1.trans e2) p2
  | false => exact q false H1 M1 o1 e1 p
theorem wb_if (h : WTB K S H0 b t as k M fun c M' => if c = true then WB K S H0 b s1 as k M' A else WB K S H0 b s2 as k M' A) : WB K S H0 b (tIfS t s1 s2) as k M A := fun σ H D o r n rt c => h σ H o r _ fun cc H1 M1 o1 e1 p => by
  cases cc with
  | true => exact (show WB K S H0 b s1 as k M1 A from p) σ H1 D o1 (r.mono e1) n rt c
  | false => exact (show WB K S H0 b s2 as k M1 A from p) σ H1 D o1 (r.mono e1) n rt c
theorem wb_while {tb : TS} (IV : Nat → List Sv → Sk → Mm → Prop) (m0 : Nat) (h0 : IV m0 as k M) (h : ∀ m as' k' M', IV m as' k' M' → WTB K S H0 b t as' k' M' fun c M1 => if c = true then WB K S H0 b tb as' k' M1 ⟨fun a' k' m' => ∃ j, j < m ∧ IV j a' k' m', A.rt, fun a' k' m' => ∃ j, j < m ∧ IV j a' k' m'⟩ else A.nx as' k' M1) :
    WB K S H0 b (tWhile t tb) as k M A := fun σ H D o r n rt c => by
  refine ⟨fun m σ' H' => ∃ as' k' M', IV m as' k' M' ∧ Ok0 K (syD S b (vaS k')) H0 H' M' ∧ Rs K (Gh (syD S b (vaS k')) M' H') σ' as', ⟨m0, as, k, M, h0, o, r⟩, ?_⟩
  rintro m σ' H' ⟨as', k', M', hI, o', r'⟩
  refine h m as' k' M' hI σ' H' o' r' _ fun c1 H1 M1 o1 e1 p => ?_
  cases c1 with
  | false => exact n σ' H1 as' k' M1 o1 (r'.mono e1) p
  | true =>
    refine ⟨fun σ'' H'' => ∃ j, j < m ∧ ∃ as' k' M', IV j as' k' M' ∧ Ok0 K (syD S b (vaS k')) H0 H'' M' ∧ Rs K (Gh (syD S b (vaS k')) M' H'') σ'' as', fun σ'' H'' q => q, ?_⟩
    exact (show WB K S H0 b tb as' k' M1 _ from p) σ' H1 _ o1 (r'.mono e1) (fun σ3 H3 as3 k3 M3 o3 r3 ⟨j, hj, p3⟩ => ⟨j, hj, as3, k3, M3, p3, o3, r3⟩) rt (fun σ3 H3 as3 k3 M3 o3 r3 ⟨j, hj, p3⟩ => ⟨j, hj, as3, k3, M3, p3, o3, r3⟩)
/-- begun = [] and what follows -/
theorem wx_newB {P : PyData → Prop} (h : ∀ b, S.B b = false → H0 b = none → WB K S H0 b s2 (as.set i (.own b)) [] M ⟨fun _ _ _ => False, P, fun _ _ _ => False⟩) : WX K S H0 (tSeq (tAsg (tLst tNil) (gName i)) s2) as M ⟨fun _ _ => False, fun d _ => P d, fun _ _ => False, fun _ _ => False⟩ := fun σ H D o r n rt => by
  refine ⟨by show 0 ≤ sizeLine; decide, fun b hb => ?_⟩
  have sb : S.B b = false := (bm_false.mp (new_hid o hb)).1
  have h0 : H0 b = none := by
    cases e : H0 b with
    | none => rfl
    | some u => have z := o.xt b u sb e; rw [hb] at z; cases z
  have o2 : Ok0 K (syD S b (vaS [])) H0 (upd H b (.lst [])) M := ok_D o hb
  have r2 : Rs K (Gh (syD S b (vaS [])) M (upd H b (.lst []))) (σ.set i (some (.ref b))) (as.set i (.own b)) := (r.mono (same_D o hb)).set i (s := .own b) rfl
  refine h b sb h0 _ _ D o2 r2 (fun _ _ _ _ _ _ _ z => z.elim) (fun v H' d k' M' o' dp p => ?_) (fun _ _ _ _ _ _ _ z => z.elim)
  exact rt v H' d M' (ok_Dout o' sb h0) (dp_mono same_Dout _ _ dp) p
/-- if begun -/
theorem wtb_sk (hi : as[i]? = some (.own b)) (p : P (!k.isEmpty) M) : WTB K S H0 b (tTru K (tVar i)) as k M P := fun σ H o r Q q => by
  obtain ⟨w, e1, e2⟩ := r.at_ i _ hi
  cases (show w = some (V.ref b) from e2)
  have el : (vaS k).isEmpty = k.isEmpty := by unfold vaS; cases k <;> simp
  exact ⟨.ref b, e1, !(vaS k).isEmpty, Or.inl ⟨_, SqL.of o.inv.2, rfl⟩, by rw [el]; exact q _ H M o (Same.refl _) p⟩
/-- len(begun) == n -/
theorem wtb_len {n : Int} (hi : as[i]? = some (.own b)) (p : P (decide ((k.length : Int) = n)) M) : WTB K S H0 b (tTest (tOp (rEqW K) (tCB (rLenA K) (tCons (tVar i) tNil)) (tC (.int n)))) as k M P := fun σ H o r Q q => by
  obtain ⟨w, e1, e2⟩ := r.at_ i _ hi
  cases (show w = some (V.ref b) from e2)
  refine ⟨.ref b, e1, .ref b, k.length, rfl, .inl ⟨_, SqL.of o.inv.2, by unfold vaS; simp⟩, .int k.length, .int n, .int _, .int _, rfl, rfl, by simp [PyData.depth], decide ((k.length : Int) = n), ?_, q _ H M o (Same.refl _) p⟩
  show V.bl ((k.length : Int) == n) = _
  rw [show ((k.length : Int) == n) = decide ((k.length : Int) = n) from rfl]
/-- if begun[-1] -/
theorem wtb_top {a : Addr} {l : List PyData} {r0 : Sk} (hi : as[i]? = some (.own b)) (hm : (a, true, l) ∈ M) (p : P (!l.isEmpty) M) : WTB K S H0 b (tTru K (tOp (rIx K) (tVar i) (tUn (rU fun i => .int (-i)) (tC (.int 1))))) as ((a, l) :: r0) M P := fun σ H o r Q q => by
  obtain ⟨w, e1, e2⟩ := r.at_ i _ hi
  cases (show w = some (V.ref b) from e2)
  obtain ⟨us, hp, hu⟩ := o.mem _ hm
  have el : us.isEmpty = l.isEmpty := by
    have := dps_len hu
    cases us <;> cases l <;> simp at this ⊢
  refine ⟨.ref b, e1, 1, rfl, .inl ⟨b, vaS ((a, l) :: r0), -1, .ref a, rfl, rfl, SqL.of o.inv.2, ?_, !us.isEmpty, Or.inl ⟨us, SqL.of hp, rfl⟩, by rw [el]; exact q _ H M o (Same.refl _) p⟩⟩
  unfold vaS
  rw [List.map_cons, List.reverse_cons]
  exact atI_last _ _
/-- begun.append([]) -/
theorem wb_push (hi : as[i]? = some (.own b)) (sb : S.B b = false) (hl : k.length < 1000) (h : ∀ a, (∀ q ∈ M, q.1 ≠ a) → A.nx as ((a, []) :: k) ((a, true, []) :: M)) : WB K S H0 b (tDrop (tBM K "list" rAppend (tVar i) (tCons (tLst tNil) tNil))) as k M A := fun σ H D o r n _ _ => by
  obtain ⟨w, e1, e2⟩ := r.at_ i _ hi
  cases (show w = some (V.ref b) from e2)
  refine ⟨.ref b, e1, Or.inl ⟨rfl, _, SqL.of o.inv.2⟩, by show 0 ≤ sizeLine; decide, fun a ha => ?_⟩
  have hab : b ≠ a := fun z => by rw [← z, o.inv.2] at ha; cases ha
  have o1 : Ok0 K (syD S b (vaS k)) H0 (upd H a (.lst [])) ((a, true, []) :: M) := ok_own o ha .nil
  have sm : Same (Gh (syD S b (vaS k)) M H) (Gh (syD S b (vaS k)) ((a, true, []) :: M) (upd H a (.lst []))) := same_own o ha
  refine ⟨b, vaS k, .ref a, rfl, rfl, by rw [upd_ne hab]; exact o.inv.2, ?_, ?_⟩
  · have : (vaS k).length = k.length := by unfold vaS; simp
    rw [this]
    exact Nat.lt_of_lt_of_le hl (by decide)
  · have ev : vaS k ++ [V.ref a] = vaS ((a, []) :: k) := by unfold vaS; rw [List.map_cons, List.reverse_cons]
    rw [ev]
    have o2 := ok_Dset (vb := vaS ((a, []) :: k)) o1 sb
    refine n σ _ as ((a, []) :: k) _ o2 ?_ (h a (bm_false.mp (new_hid o ha)).2)
    rw [gd_upd (vb := vaS k)]
    exact r.mono sm
/-- begun[-1].append(x) -/
theorem wb_app {j : Nat} {a : Addr} {l : List PyData} {d : PyData} {r0 : Sk} (hi : as[i]? = some (.own b)) (hj : as[j]? = some (.dat d)) (hm : (a, true, l) ∈ M) (hl : l.length < 100000) (h : A.nx as ((a, l ++ [d]) :: r0) (mset M a (l ++ [d]))) :
    WB K S H0 b (tDrop (tBM K "list" rAppend (tOp (rIx K) (tVar i) (tUn (rU fun i => .int (-i)) (tC (.int 1)))) (tCons (tVar j) tNil))) as ((a, l) :: r0) M A := fun σ H D o r n _ _ => by
  obtain ⟨w, e1, e2⟩ := r.at_ i _ hi
  cases (show w = some (V.ref b) from e2)
  obtain ⟨w, e3, v, e4, hv⟩ := r.at_ j _ hj
  subst e4
  obtain ⟨us, hp, hu⟩ := o.mem _ hm
  refine ⟨.ref b, e1, 1, rfl, .inl ⟨b, vaS ((a, l) :: r0), -1, .ref a, rfl, rfl, SqL.of o.inv.2, by unfold vaS; rw [List.map_cons, List.reverse_cons]; exact atI_last _ _, tyl o hm, v, e3, a, us, v, rfl, rfl, hp, Nat.lt_of_lt_of_le (by rw [dps_len hu]; exact hl) (by decide), ?_⟩⟩
  have ge : Gh (syD S b (vaS ((a, l) :: r0))) (mset M a (l ++ [d])) (upd H a (.lst (us ++ [v]))) = Gh (syD S b (vaS ((a, l) :: r0))) M H := gh_write hm
  have o2 := ok_write (ws := us ++ [v]) (ys := l ++ [d]) o hm (dps_app hu (.cons hv .nil))
  exact n σ _ as ((a, l ++ [d]) :: r0) _ o2 (by rw [show vaS ((a, l ++ [d]) :: r0) = vaS ((a, l) :: r0) from rfl, ge]; exact r) h
/-- x = tuple(begun.pop()) -/
theorem wb_pop {j : Nat} {a : Addr} {l : List PyData} {r0 : Sk} (hi : as[i]? = some (.own b)) (sb : S.B b = false) (hm : (a, true, l) ∈ M) (h : A.nx (as.set j (.dat (.tuple l))) r0 M) :
    WB K S H0 b (tAsg (tCB (rTupleOf K) (tCons (tBM0 K "list" rPop (tVar i)) tNil)) (gName j)) as ((a, l) :: r0) M A := fun σ H D o r n _ _ => by
  obtain ⟨w, e1, e2⟩ := r.at_ i _ hi
  cases (show w = some (V.ref b) from e2)
  obtain ⟨us, hp, hu⟩ := o.mem _ hm
  have hp : H a = some (.lst us) := hp
  have hab : a ≠ b := ok_D_ne o _ hm
  have ev : vaS ((a, l) :: r0) = vaS r0 ++ [V.ref a] := by unfold vaS; rw [List.map_cons, List.reverse_cons]
  have o2 := ok_Dset (vb := vaS r0) o sb
  have hb : H b = some (.lst (vaS r0 ++ [V.ref a])) := by rw [← ev]; exact o.inv.2
  refine ⟨.ref b, e1, Or.inl ⟨rfl, _, SqL.of hb⟩, b, _, .ref a, rfl, rfl, hb, by simp, ?_⟩
  rw [show (vaS r0 ++ [V.ref a]).dropLast = vaS r0 by simp]
  refine ⟨a, us, rfl, .inl ⟨SqL.of (by rw [upd_ne hab]; exact hp), fun c hc => ?_⟩⟩
  have o3 := ok_new (o := .tup us) o2 hc
  have hu2 : DpAll K (Gh (syD S b (vaS r0)) M (upd H b (.lst (vaS r0)))) us l := by
    rw [gd_upd (vb := vaS ((a, l) :: r0))]; exact hu
  have r2 : Rs K (Gh (syD S b (vaS r0)) M (upd H b (.lst (vaS r0)))) σ as := by
    rw [gd_upd (vb := vaS ((a, l) :: r0))]; exact r
  refine n _ _ (as.set j (.dat (.tuple l))) r0 M o3 ((r2.mono (new_same hc)).set j (s := .dat (.tuple l)) ⟨_, rfl, ?_⟩) h
  exact newT hc (bm_trk o2) hu2
end
/-! ### int(text), str(number), min, -number, range from a to b -/
def rIntS : List V → Hp → VK → Prop := fun xs H Q => ∃ a n, xs = [.str a] ∧ PySem.intText? a = some n ∧ a.length ≤ 640 ∧ Q (.int n) H
def fIntS : List PyData → (PyData → Prop) → Prop
  | [.str a], P => ∃ n, PySem.intText? a = some n ∧ a.length ≤ 640 ∧ P (.int n)
  | _, _ => False
def rStrI : List V → Hp → VK → Prop := fun xs H Q => ∃ i, xs = [.int i] ∧ i.natAbs.log2 < 1920 ∧ Q (.str (toString i)) H
def fStrI : List PyData → (PyData → Prop) → Prop
  | [.int i], P => i.natAbs.log2 < 1920 ∧ P (.str (toString i))
  | _, _ => False
def rMin2 : List V → Hp → VK → Prop := fun xs H Q => ∃ i j, xs = [.int i, .int j] ∧ Q (.int (if j < i then j else i)) H
def fMin2 : List PyData → (PyData → Prop) → Prop
  | [.int i, .int j], P => P (.int (if j < i then j else i))
  | _, _ => False
section
variable {X : Cx}
theorem call_intS : CallR X (.type "int") rIntS := call_int_str
theorem call_strI : CallR X (.type "str") rStrI := call_str_int
theorem call_minI (hc : X.calm = true) : CallR X (.builtin "min") rMin2 := call_min2 hc
variable {K : PySem.W.Frag} {as : List Sv} {M : Mm} {te : TE} {ta : TA} {P : PyData → Mm → Prop} {A : AE}
theorem ac_intS : AC K rIntS fIntS := fun B H xs ds P hb hd p Q q => by
  match ds, hd, p with
  | [.str i], .cons h1 .nil, ⟨n, e1, e2, p⟩ =>
    cases h1
    exact ⟨i, n, rfl, e1, e2, q _ _ H (.inl rfl) (.int _) p⟩
theorem ac_strI : AC K rStrI fStrI := fun B H xs ds P hb hd p Q q => by
  match ds, hd, p with
  | [.int i], .cons h1 .nil, p =>
    cases h1
    exact ⟨i, rfl, p.1, q _ _ H (.inl rfl) (.str _) p.2⟩
theorem ac_min : AC K rMin2 fMin2 := fun B H xs ds P hb hd p Q q => by
  match ds, hd, p with
  | [.int i, .int j], .cons h1 (.cons h2 .nil), p =>
    cases h1; cases h2
    exact ⟨i, j, rfl, q _ _ H (.inl rfl) (.int _) p⟩
theorem w_neg (h : W K te as M fun d M' => ∃ i, d = .int i ∧ P (.int (-i)) M') : W K (tUn (rU fun i => .int (-i)) te) as M P := fun S H0 σ H k r Q q =>
  h S H0 σ H k r _ fun v H1 d M1 k1 e1 b1 ⟨i, ed, p⟩ => by subst ed; cases b1; exact ⟨i, rfl, q _ H1 _ M1 k1 e1 (.int _) p⟩
theorem ws_aug {i : Nat} {x : Int} (hi : as[i]? = some (.dat (.int x))) (h : W K te as M fun d M' => ∃ y, d = .int y ∧ A.nx (as.set i (.dat (.int (x + y)))) M') : WS K (tAug i te (ipI fun i j => i + j)) as M A := fun S H0 σ H D k r n _ _ _ => by
  obtain ⟨o, e1, v, e2, e3⟩ := r.at_ i _ hi
  subst e2
  cases e3
  refine ⟨.int x, e1, h S H0 σ H k r _ fun v H1 d M1 k1 e1 b1 ⟨y, ed, p⟩ => ?_⟩
  subst ed; cases b1
  exact ⟨x, y, rfl, rfl, n _ H1 _ M1 k1 ((r.mono e1).set i (s := .dat (.int (x + y))) ⟨_, rfl, .int _⟩) e1 p⟩
theorem wi_rng2 {ta : TA} {P : List PyData → Mm → Prop} (h : WA K ta as M fun ss M' => ∃ a b : Int, ss = [.dat (.int a), .dat (.int b)] ∧ (-1000000 ≤ a ∧ a ≤ 1000000 ∧ -1000000 ≤ b ∧ b ≤ 1000000) ∧ P ((List.range (b - a).toNat).map fun (i : Nat) => PyData.int (a + (i : Int))) M') : WI K (iRng2 ta) as M P := fun S H0 σ H k r R q =>
  h S H0 σ H k r _ fun vs H1 ss M1 k1 e1 b1 ⟨a, b, es, hb, p⟩ => by
    subst es
    match vs, b1 with
    | [v, w], ⟨⟨v', ev, dv⟩, ⟨w', ew, dw⟩, _⟩ =>
      cases ev; cases ew
      cases dv; cases dw
      refine ⟨a, b, rfl, by omega, q _ H1 _ M1 k1 e1 ⟨fun G H i e1 e2 hi => ?_, fun G H i v H' e1 e2 y => ?_, fun G H e1 e2 => ?_⟩ p⟩
      · rw [List.length_map, List.length_range] at hi
        exact hi
      · refine ⟨y.1, fun d hx => ?_⟩
        have hi : i < (b - a).toNat := by
          have := (List.getElem?_eq_some_iff.mp hx).1
          simpa using this
        rw [List.getElem?_map, List.getElem?_range hi] at hx
        cases hx
        rw [y.2]
        exact .int _
      · show (b - a).toNat ≤ _
        simp
end
end Ab

set_option Elab.async false
set_option linter.all false
set_option maxRecDepth 100000
set_option maxHeartbeats 4000000
/-! Forms and their spellings: the reading of a text, as a matter of lists of numbers alone. -/
namespace K6
open PySem PySem.Spec TL NumText
abbrev Cs := List Nat
def isLow (c : Nat) : Bool := decide (97 ≤ c) && decide (c ≤ 122)
def isDig (c : Nat) : Bool := decide (48 ≤ c) && decide (c ≤ 57)
def isNm (c : Nat) : Bool := isLow c || isDig c
def isTx (c : Nat) : Bool := decide (32 ≤ c) && decide (c ≤ 126) && !(c == 34) && !(c == 37) && !(c == 92)
def sg (t : Cs) (p : Nat → Bool) (i : Nat) : Bool := match t[i]? with | some c => p c | none => false
def endOf (t : Cs) (p : Nat → Bool) : Nat → Nat → Nat
  | 0, i => i
  | n + 1, i => if sg t p i then endOf t p n (i + 1) else i
def sl (t : Cs) (a b : Nat) : Cs := (t.take b).drop a
def numS (i : Int) : Cs := tl (Str.ofString (toString i))
def textS : Cs := [116, 101, 120, 116]
inductive Fm where
  | num (i : Int)
  | name (s : Cs)
  | txt (s : Cs)
  | tup (l : List Fm)
mutual
def spell : Fm → Cs
  | .num i => numS i
  | .name s => s
  | .txt s => 34 :: (s ++ [34])
  | .tup l => 40 :: (spellL l ++ [41])
def spellL : List Fm → Cs
  | [] => []
  | f :: r => match r with
    | [] => spell f
    | _ :: _ => spell f ++ 32 :: spellL r
end
def itemsB : List Fm → Cs
  | [] => []
  | f :: r => spell f ++ 32 :: itemsB r
theorem itemsB_app : ∀ (l : List Fm) (f : Fm), itemsB (l ++ [f]) = itemsB l ++ (spell f ++ [32])
  | [], f => by simp [itemsB]
  | g :: l, f => by simp [itemsB, itemsB_app l f]
theorem spellL_app : ∀ (l : List Fm) (f : Fm), spellL (l ++ [f]) = itemsB l ++ spell f
  | [], f => by simp [itemsB, spellL]
  | [g], f => by simp [itemsB, spellL]
  | g :: h :: l, f => by
    have ih := spellL_app (h :: l) f
    show spell g ++ 32 :: spellL (h :: l ++ [f]) = _
    rw [ih]; simp [itemsB]
abbrev R := Nat ⊕ Fm
def isTextF : Fm → Bool
  | .name s => s == textS
  | _ => false
def whole (t : Cs) (f : Fm) (i : Nat) : R := if i < t.length then .inl i else .inr f
def atom (t : Cs) (i : Nat) : Nat ⊕ (Fm × Nat) :=
  if sg t isLow i then .inr (.name (sl t i (endOf t isNm 8 i)), endOf t isNm 8 i)
  else if sg t (· == 34) i then
    (if sg t (· == 34) (endOf t isTx 12 (i + 1)) then .inr (.txt (sl t (i + 1) (endOf t isTx 12 (i + 1))), endOf t isTx 12 (i + 1) + 1) else .inl (endOf t isTx 12 (i + 1)))
  else if sg t (· == 48) i then .inr (.num 0, i + 1)
  else if sg t (· == 45) i then
    (if sg t isDig (i + 1) && !sg t (· == 48) (i + 1) then .inr (.num (-(digitsVal (sl t (i + 1) (endOf t isDig 30 (i + 1))) : Int)), endOf t isDig 30 (i + 1)) else .inl (i + 1))
  else (if sg t isDig i then .inr (.num (digitsVal (sl t i (endOf t isDig 30 i)) : Int), endOf t isDig 30 i) else .inl i)
abbrev Stk := List (List Fm)
def item (t : Cs) (k : Stk → Nat → R) : Stk → Fm → Nat → R
  | [], f, i => whole t f i
  | l :: r, f, i => if sg t (· == 41) i then item t k r (.tup (l ++ [f])) (i + 1) else if sg t (· == 32) i then k ((l ++ [f]) :: r) (i + 1) else .inl i
def lead : Stk → Bool
  | [] :: _ => true
  | _ => false
def step (t : Cs) (k : Stk → Nat → R) (s : Stk) (i : Nat) : R :=
  if sg t (· == 40) i then (if s.length = 40 then .inl i else if sg t (· == 41) (i + 1) then item t k s (.tup []) (i + 2) else k ([] :: s) (i + 1))
  else match atom t i with
    | .inl p => .inl p
    | .inr (f, e) => if isTextF f && lead s then .inl e else item t k s f e
def runN (t : Cs) : Nat → Stk → Nat → R
  | 0, _, _ => .inl 0
  | n + 1, s, i => step t (runN t n) s i
def Run (t : Cs) (s : Stk) (i : Nat) : R := runN t (t.length + 1 - i) s i
/-! ### signs and ends -/
section
variable {t : Cs} {p q : Nat → Bool} {i n : Nat}
theorem sg_lt (h : sg t p i = true) : i < t.length := by
  unfold sg at h
  cases e : t[i]? with
  | none => rw [e] at h; cases h
  | some c => exact (List.getElem?_eq_some_iff.mp e).1
theorem sg_get (h : sg t p i = true) : ∃ c, t[i]? = some c ∧ p c = true := by
  unfold sg at h
  cases e : t[i]? with
  | none => rw [e] at h; cases h
  | some c => rw [e] at h; exact ⟨c, rfl, h⟩
theorem sg_of {c : Nat} (e : t[i]? = some c) : sg t p i = p c := by unfold sg; rw [e]
theorem sg_none (e : t[i]? = none) : sg t p i = false := by unfold sg; rw [e]
theorem sg_end (h : t.length ≤ i) : sg t p i = false := sg_none (List.getElem?_eq_none h)
theorem sg_excl (h : sg t p i = true) (hx : ∀ c, p c = true → q c = false) : sg t q i = false := by
  obtain ⟨c, e, hc⟩ := sg_get h
  rw [sg_of e]; exact hx c hc
theorem sg_eq {c : Nat} : sg t (· == c) i = true ↔ t[i]? = some c := by
  constructor
  · intro h
    obtain ⟨d, e, hd⟩ := sg_get h
    rw [e, eq_of_beq hd]
  · intro e
    rw [sg_of e]; exact beq_self_eq_true c
theorem endOf_ge : ∀ (n i : Nat), i ≤ endOf t p n i
  | 0, i => Nat.le_refl _
  | n + 1, i => by
    unfold endOf
    split
    · have := endOf_ge n (i + 1); omega
    · exact Nat.le_refl _
theorem endOf_le : ∀ (n i : Nat), endOf t p n i ≤ i + n
  | 0, i => Nat.le_refl _
  | n + 1, i => by
    unfold endOf
    split
    · have := endOf_le n (i + 1); omega
    · omega
theorem endOf_len : ∀ (n i : Nat), i ≤ t.length → endOf t p n i ≤ t.length
  | 0, i, h => h
  | n + 1, i, h => by
    unfold endOf
    split
    · rename_i z
      exact endOf_len n (i + 1) (sg_lt z)
    · exact h
theorem endOf_all : ∀ (n i j : Nat), i ≤ j → j < endOf t p n i → sg t p j = true
  | 0, i, j, h1, h2 => by
    have : endOf t p 0 i = i := rfl
    omega
  | n + 1, i, j, h1, h2 => by
    unfold endOf at h2
    split at h2
    · rename_i z
      by_cases e : i = j
      · subst e; exact z
      · exact endOf_all n (i + 1) j (by omega) h2
    · omega
theorem endOf_stop : ∀ (n i : Nat), endOf t p n i = i + n ∨ sg t p (endOf t p n i) = false
  | 0, i => .inl rfl
  | n + 1, i => by
    unfold endOf
    split
    · rcases endOf_stop n (i + 1) with h | h
      · exact .inl (by omega)
      · exact .inr h
    · rename_i z
      exact .inr (by simpa using z)
/-- where a run ends is known by its signs -/
theorem endOf_is {e : Nat} (h1 : i ≤ e) (h2 : e ≤ i + n) (ha : ∀ j, i ≤ j → j < e → sg t p j = true) (hs : e = i + n ∨ sg t p e = false) : endOf t p n i = e := by
  have a := endOf_ge (t := t) (p := p) n i
  have b := endOf_le (t := t) (p := p) n i
  rcases Nat.lt_trichotomy (endOf t p n i) e with z | z | z
  · have y := ha _ a z
    rcases endOf_stop (t := t) (p := p) n i with x | x
    · omega
    · rw [x] at y; cases y
  · exact z
  · have y := endOf_all (t := t) (p := p) n i e h1 z
    rcases hs with x | x
    · omega
    · rw [x] at y; cases y
theorem sl_len (t : Cs) {a b : Nat} (hb : b ≤ t.length) : (sl t a b).length = b - a := by
  unfold sl; simp; omega
theorem sl_at {a b j : Nat} (h1 : j < b - a) : (sl t a b)[j]? = t[a + j]? := by
  unfold sl
  rw [List.getElem?_drop, List.getElem?_take, if_pos (by omega)]
theorem take_sl {a b : Nat} (h : a ≤ b) : t.take b = t.take a ++ sl t a b := by
  unfold sl
  have e : t.take a = (t.take b).take a := by rw [List.take_take, Nat.min_eq_left h]
  rw [e, List.take_append_drop]
theorem take_one {c : Nat} (h : t[i]? = some c) : t.take (i + 1) = t.take i ++ [c] := by
  rw [List.take_add_one, h]; rfl
theorem sl_all {a b : Nat} (h : ∀ j, a ≤ j → j < b → sg t p j = true) : ∀ c ∈ sl t a b, p c = true := by
  intro c hc
  obtain ⟨j, hj⟩ := List.getElem?_of_mem hc
  have hlt := (List.getElem?_eq_some_iff.mp hj).1
  have hl : (sl t a b).length ≤ b - a := by unfold sl; simp; omega
  have e := sl_at (t := t) (show j < b - a by omega)
  rw [hj] at e
  have := h (a + j) (by omega) (by omega)
  rw [sg_of e.symm] at this
  exact this
end
/-! ### numbers -/
theorem digitsVal_snoc (l : Cs) (d : Nat) : digitsVal (l ++ [d]) = digitsVal l * 10 + (d - 48) := by
  unfold digitsVal
  rw [List.foldl_append]; rfl
theorem num_back : ∀ (n : Nat) (cs : Cs), cs.length = n → AllDigits cs → cs ≠ [] → (cs.head? ≠ some 48 ∨ cs.length = 1) → numL (digitsVal cs) = cs := by
  intro n
  induction n with
  | zero => intro cs hl _ hn; exact absurd (List.length_eq_zero_iff.mp hl) hn
  | succ n ih =>
    intro cs hl hd hn hh
    rcases List.eq_nil_or_concat cs with rfl | ⟨init, d, rfl⟩
    · exact absurd rfl hn
    rw [List.concat_eq_append] at *
    have hdd := hd d (by simp)
    rw [digitsVal_snoc]
    cases init with
    | nil =>
      show numL (digitsVal [] * 10 + (d - 48)) = [d]
      have : digitsVal [] = 0 := rfl
      rw [this, numL_lt (by omega)]
      congr 1; omega
    | cons c r =>
      have hc : c ≠ 48 := by
        rcases hh with h | h
        · intro e; exact h (by rw [e]; rfl)
        · simp at h
      have e := ih (c :: r) (by simpa using hl) (fun x hx => hd x (List.mem_append_left _ hx)) (by simp) (.inl (by simpa using hc))
      have pos : 0 < digitsVal (c :: r) := by
        rcases Nat.eq_zero_or_pos (digitsVal (c :: r)) with z | z
        · rw [z, numL_lt (by decide)] at e
          injection e with e1 e2
          omega
        · exact z
      rw [numL_step (by omega)]
      rw [show (digitsVal (c :: r) * 10 + (d - 48)) / 10 = digitsVal (c :: r) by omega, e]
      congr 2; omega
theorem digits_lt : ∀ (n : Nat) (cs : Cs), cs.length = n → AllDigits cs → digitsVal cs < 10 ^ n := by
  intro n
  induction n with
  | zero => intro cs hl _; rw [List.length_eq_zero_iff.mp hl]; decide
  | succ n ih =>
    intro cs hl hd
    rcases List.eq_nil_or_concat cs with rfl | ⟨init, d, rfl⟩
    · cases hl
    rw [List.concat_eq_append] at *
    have hdd := hd d (by simp)
    have h := ih init (by simpa using hl) fun x hx => hd x (List.mem_append_left _ hx)
    rw [digitsVal_snoc, Nat.pow_succ]
    omega
theorem numS_nat (n : Nat) : numS (n : Int) = numL n := tl_num n
end K6

set_option Elab.async false
set_option linter.all false
set_option maxRecDepth 100000
set_option maxHeartbeats 4000000
namespace K6
open PySem PySem.Spec TL NumText
theorem endOf_gt {t : Cs} {p : Nat → Bool} (n : Nat) {i : Nat} (h : sg t p i = true) : i < endOf t p (n + 1) i := by
  show i < (if sg t p i then endOf t p n (i + 1) else i)
  rw [if_pos h]
  exact Nat.lt_of_lt_of_le (Nat.lt_succ_self i) (endOf_ge n (i + 1))
/-! ### fuel -/
theorem item_congr {t : Cs} {k k' : Stk → Nat → R} : ∀ (s : Stk) (f : Fm) (i : Nat), (∀ s j, i < j → j ≤ t.length → k s j = k' s j) → item t k s f i = item t k' s f i
  | [], f, i, h => rfl
  | l :: r, f, i, h => by
    unfold item
    split
    · exact item_congr r _ _ fun s j a b => h s j (by omega) b
    · split
      · rename_i z
        exact h _ _ (by omega) (sg_lt z)
      · rfl
theorem atom_good {t : Cs} {i e : Nat} {f : Fm} (h : atom t i = .inr (f, e)) : i < e ∧ e ≤ t.length := by
  unfold atom at h
  split at h
  · rename_i z
    have hi := sg_lt z
    cases h
    refine ⟨?_, endOf_len _ _ (by omega)⟩
    have z2 : sg t isNm i = true := by
      obtain ⟨c, e, hc⟩ := sg_get z
      rw [sg_of e]; unfold isNm; rw [hc]; rfl
    exact endOf_gt 7 z2
  · split at h
    · rename_i z
      have hi := sg_lt z
      split at h
      · rename_i y
        cases h
        have := endOf_ge (t := t) (p := isTx) 12 (i + 1)
        exact ⟨by omega, sg_lt y⟩
      · cases h
    · split at h
      · rename_i z
        cases h
        exact ⟨by omega, sg_lt z⟩
      · split at h
        · split at h
          · rename_i y
            cases h
            rw [Bool.and_eq_true] at y
            have := endOf_ge (t := t) (p := isDig) 30 (i + 1)
            have hy := sg_lt y.1
            exact ⟨by omega, endOf_len _ _ (by omega)⟩
          · cases h
        · split at h
          · rename_i y
            cases h
            have hy := sg_lt y
            refine ⟨?_, endOf_len _ _ (by omega)⟩
            exact endOf_gt 29 y
          · cases h
theorem step_congr {t : Cs} {k k' : Stk → Nat → R} (s : Stk) (i : Nat) (h : ∀ s j, i < j → j ≤ t.length → k s j = k' s j) : step t k s i = step t k' s i := by
  unfold step
  split
  · rename_i z
    split
    · rfl
    · split
      · rename_i y
        exact item_congr _ _ _ fun s j a b => h s j (by omega) b
      · exact h _ _ (by omega) (sg_lt z)
  · cases e : atom t i with
    | inl p => rfl
    | inr q =>
      obtain ⟨f, e2⟩ := q
      dsimp only
      split
      · rfl
      · exact item_congr _ _ _ fun s j a b => h s j (by have := (atom_good e).1; omega) b
theorem run_fuel {t : Cs} : ∀ (n m : Nat) (s : Stk) (i : Nat), i ≤ t.length → t.length + 1 ≤ n + i → t.length + 1 ≤ m + i → runN t n s i = runN t m s i
  | 0, m, s, i, h, h1, h2 => by omega
  | n + 1, 0, s, i, h, h1, h2 => by omega
  | n + 1, m + 1, s, i, h, h1, h2 => by
    show step t (runN t n) s i = step t (runN t m) s i
    exact step_congr s i fun s j a b => run_fuel n m s j b (by omega) (by omega)
theorem Run_eq {t : Cs} {s : Stk} {i : Nat} (h : i ≤ t.length) : Run t s i = step t (Run t) s i := by
  unfold Run
  rw [show t.length + 1 - i = (t.length - i) + 1 by omega]
  show step t (runN t (t.length - i)) s i = _
  exact step_congr s i fun s j a b => run_fuel _ _ s j b (by omega) (by omega)
/-! ### what has been read is spelled -/
mutual
def V : Fm → Prop
  | .num i => i.natAbs < 10 ^ 30
  | .name s => 1 ≤ s.length ∧ s.length ≤ 8
  | .txt s => s.length ≤ 12
  | .tup l => (∀ f, l.head? = some f → isTextF f = false) ∧ VL l
def VL : List Fm → Prop
  | [] => True
  | f :: r => V f ∧ VL r
end
mutual
def dep : Fm → Nat
  | .num _ => 0
  | .name _ => 0
  | .txt _ => 0
  | .tup l => depL l + 1
def depL : List Fm → Nat
  | [] => 0
  | f :: r => max (dep f) (depL r)
end
theorem VL_app : ∀ {l : List Fm} {f : Fm}, VL l → V f → VL (l ++ [f])
  | [], f, _, h => ⟨h, trivial⟩
  | g :: l, f, h, h2 => ⟨h.1, VL_app h.2 h2⟩
theorem depL_app : ∀ (l : List Fm) (f : Fm), depL (l ++ [f]) = max (depL l) (dep f)
  | [], f => by simp [depL]
  | g :: l, f => by
    show max (dep g) (depL (l ++ [f])) = max (max (dep g) (depL l)) (dep f)
    rw [depL_app l f]; omega
def pre : Stk → Cs
  | [] => []
  | l :: r => pre r ++ 40 :: itemsB l
/-- a stack that the reading can have -/
def SV : Stk → Prop
  | [] => True
  | l :: r => VL l ∧ depL l + r.length + 1 ≤ 40 ∧ (∀ f, l.head? = some f → isTextF f = false) ∧ SV r
theorem SV_len : ∀ {s : Stk}, SV s → s.length ≤ 40
  | [], _ => by simp
  | l :: r, h => by simp; have := h.2.1; omega
theorem head_app {l : List Fm} {f : Fm} (h : ∀ g, l.head? = some g → isTextF g = false) (hf : l = [] → isTextF f = false) : ∀ g, (l ++ [f]).head? = some g → isTextF g = false := by
  intro g hg
  cases l with
  | nil => simp at hg; subst hg; exact hf rfl
  | cons a r => simp at hg; subst hg; exact h a rfl
theorem numS_neg {n : Nat} (h : 0 < n) : numS (-(n : Int)) = 45 :: numL n := by
  obtain ⟨m, rfl⟩ : ∃ m, n = m + 1 := ⟨n - 1, by omega⟩
  show tl (Str.ofString (toString (Int.negSucc m))) = _
  have e : toString (Int.negSucc m) = "-" ++ toString (((m + 1 : Nat) : Int)) := rfl
  have e2 : tl (Str.ofString ("-" ++ toString (((m + 1 : Nat) : Int)))) = 45 :: tl (Str.ofString (toString (((m + 1 : Nat) : Int)))) := by
    rw [Str.ofString_eq_toList, Str.ofString_eq_toList]
    unfold tl
    simp [String.toList_append]
  rw [e, e2, tl_num]
theorem atom_spell {t : Cs} {i e : Nat} {f : Fm} (h : atom t i = .inr (f, e)) : t.take e = t.take i ++ spell f ∧ V f ∧ dep f = 0 := by
  have hg := atom_good h
  unfold atom at h
  split at h
  · rename_i z
    cases h
    refine ⟨take_sl (Nat.le_of_lt hg.1), ?_, rfl⟩
    have h1 := sl_len t (a := i) hg.2
    have h2 := endOf_le (t := t) (p := isNm) 8 i
    exact ⟨by omega, by omega⟩
  · split at h
    · rename_i z
      split at h
      · rename_i y
        cases h
        have h1 := endOf_ge (t := t) (p := isTx) 12 (i + 1)
        have h2 := endOf_le (t := t) (p := isTx) 12 (i + 1)
        have hy := sg_lt y
        refine ⟨?_, ?_, rfl⟩
        · rw [take_one (sg_eq.mp y), take_sl h1, take_one (sg_eq.mp z)]
          simp [spell]
        · show (sl _ _ _).length ≤ 12
          rw [sl_len t (by omega)]; omega
      · cases h
    · split at h
      · rename_i z
        cases h
        refine ⟨?_, by show (0 : Int).natAbs < _; decide, rfl⟩
        rw [take_one (sg_eq.mp z)]
        have : numS 0 = [48] := by rw [show (0 : Int) = ((0 : Nat) : Int) from rfl, numS_nat, numL_lt (by decide)]
        show _ = _ ++ numS 0
        rw [this]
      · rename_i n48
        split at h
        · rename_i z
          split at h
          · rename_i y
            cases h
            rw [Bool.and_eq_true, Bool.not_eq_true'] at y
            have h1 := endOf_ge (t := t) (p := isDig) 30 (i + 1)
            have h2 := endOf_le (t := t) (p := isDig) 30 (i + 1)
            have hp : i + 1 < endOf t isDig 30 (i + 1) := endOf_gt 29 y.1
            have hl := sl_len t (a := i + 1) hg.2
            have hd : AllDigits (sl t (i + 1) (endOf t isDig 30 (i + 1))) := fun c hc => by
              have := sl_all (p := isDig) (endOf_all 30 (i + 1)) c hc
              unfold isDig at this
              simpa using this
            have hn : sl t (i + 1) (endOf t isDig 30 (i + 1)) ≠ [] := by
              intro e; rw [e] at hl; simp at hl; omega
            have h48 : (sl t (i + 1) (endOf t isDig 30 (i + 1))).head? ≠ some 48 := by
              rw [List.head?_eq_getElem?, sl_at (by omega), Nat.add_zero]
              intro e
              have := sg_eq.mpr e
              rw [this] at y; cases y.2
            have hb := num_back _ _ rfl hd hn (.inl h48)
            have pos : 0 < digitsVal (sl t (i + 1) (endOf t isDig 30 (i + 1))) := by
              rcases Nat.eq_zero_or_pos (digitsVal (sl t (i + 1) (endOf t isDig 30 (i + 1)))) with w | w
              · rw [w, numL_lt (by decide)] at hb
                rw [← hb] at h48; exact absurd rfl h48
              · exact w
            refine ⟨?_, ?_, rfl⟩
            · show _ = _ ++ numS _
              rw [numS_neg pos, hb, take_sl h1, take_one (sg_eq.mp z)]
              simp
            · show (-(_ : Int)).natAbs < _
              rw [Int.natAbs_neg, Int.natAbs_natCast]
              refine Nat.lt_of_lt_of_le (digits_lt _ _ rfl hd) (Nat.pow_le_pow_right (by decide) (by omega))
          · cases h
        · split at h
          · rename_i y
            cases h
            have h1 := endOf_ge (t := t) (p := isDig) 30 i
            have h2 := endOf_le (t := t) (p := isDig) 30 i
            have hl := sl_len t (a := i) hg.2
            have hd : AllDigits (sl t i (endOf t isDig 30 i)) := fun c hc => by
              have := sl_all (p := isDig) (endOf_all 30 i) c hc
              unfold isDig at this
              simpa using this
            have hn : sl t i (endOf t isDig 30 i) ≠ [] := by
              intro e; rw [e] at hl; simp at hl; omega
            have h48 : (sl t i (endOf t isDig 30 i)).head? ≠ some 48 := by
              rw [List.head?_eq_getElem?, sl_at (by omega), Nat.add_zero]
              intro e
              exact n48 (sg_eq.mpr e)
            have hb := num_back _ _ rfl hd hn (.inl h48)
            refine ⟨?_, ?_, rfl⟩
            · show _ = _ ++ numS _
              rw [numS_nat, hb, take_sl h1]
            · show ((_ : Nat) : Int).natAbs < _
              rw [Int.natAbs_natCast]
              refine Nat.lt_of_lt_of_le (digits_lt _ _ rfl hd) (Nat.pow_le_pow_right (by decide) (by omega))
          · cases h
/-- what a good ending says -/
def Fin (t : Cs) (f : Fm) : Prop := spell f = t ∧ V f ∧ dep f ≤ 40
theorem item_spell {t : Cs} {k : Stk → Nat → R} {g : Fm} : ∀ (s : Stk) (f : Fm) (i : Nat), i ≤ t.length → (∀ s j, i < j → j ≤ t.length → SV s → t.take j = pre s → k s j = .inr g → Fin t g) →
    SV s → V f → dep f + s.length ≤ 40 → (lead s = true → isTextF f = false) → t.take i = pre s ++ spell f → item t k s f i = .inr g → Fin t g
  | [], f, i, hi, hk, hs, hv, hd, hl, ht, h => by
    unfold item whole at h
    split at h
    · cases h
    · cases h
      refine ⟨?_, hv, by simpa using hd⟩
      rw [List.take_of_length_le (by omega)] at ht
      rw [ht]; rfl
  | l :: r, f, i, hi, hk, hs, hv, hd, hl, ht, h => by
    unfold item at h
    have hh : ∀ g, (l ++ [f]).head? = some g → isTextF g = false := head_app hs.2.2.1 (fun e => hl (by rw [e]; rfl))
    have hd : dep f + (r.length + 1) ≤ 40 := hd
    have hm := hs.2.1
    split at h
    · rename_i z
      refine item_spell r (.tup (l ++ [f])) (i + 1) (sg_lt z) (fun s j a b => hk s j (by omega) b) hs.2.2.2 ⟨hh, VL_app hs.1 hv⟩ ?_ (fun _ => rfl) ?_ h
      · show depL (l ++ [f]) + 1 + r.length ≤ 40
        rw [depL_app]; omega
      · rw [take_one (sg_eq.mp z), ht]
        show pre r ++ 40 :: itemsB l ++ spell f ++ [41] = pre r ++ 40 :: (spellL (l ++ [f]) ++ [41])
        rw [spellL_app]; simp
    · split at h
      · rename_i z
        refine hk ((l ++ [f]) :: r) (i + 1) (by omega) (sg_lt z) ⟨VL_app hs.1 hv, ?_, hh, hs.2.2.2⟩ ?_ h
        · rw [depL_app]; omega
        · rw [take_one (sg_eq.mp z), ht]
          show pre r ++ 40 :: itemsB l ++ spell f ++ [32] = pre r ++ 40 :: itemsB (l ++ [f])
          rw [itemsB_app]; simp
      · cases h
theorem run_spell {t : Cs} {g : Fm} : ∀ (n : Nat) (s : Stk) (i : Nat), i ≤ t.length → SV s → t.take i = pre s → runN t n s i = .inr g → Fin t g
  | 0, _, _, _, _, _, h => by cases h
  | n + 1, s, i, hi, hs, ht, h => by
    have h : step t (runN t n) s i = .inr g := h
    have hlen := SV_len hs
    unfold step at h
    split at h
    · rename_i z
      split at h
      · cases h
      · rename_i n40
        split at h
        · rename_i y
          refine item_spell s (.tup []) (i + 2) (sg_lt y) (fun s j a b sv e q => run_spell n s j b sv e q) hs ⟨by simp, trivial⟩ ?_ (fun _ => rfl) ?_ h
          · show 0 + 1 + s.length ≤ 40; omega
          · rw [take_one (sg_eq.mp y), take_one (sg_eq.mp z), ht]; simp [spell, spellL]
        · refine run_spell n ([] :: s) (i + 1) (sg_lt z) ⟨trivial, ?_, by simp, hs⟩ ?_ h
          · show 0 + s.length + 1 ≤ 40; omega
          · rw [take_one (sg_eq.mp z), ht]; rfl
    · cases e : atom t i with
      | inl p => rw [e] at h; cases h
      | inr q =>
        obtain ⟨f, j⟩ := q
        rw [e] at h
        dsimp only at h
        obtain ⟨h1, h2, h3⟩ := atom_spell e
        split at h
        · cases h
        · rename_i nl
          refine item_spell s f j (atom_good e).2 (fun s j a b sv e q => run_spell n s j b sv e q) hs h2 (by omega) (fun hl => ?_) (by rw [h1, ht]) h
          rw [hl, Bool.and_true] at nl
          simpa using nl
theorem read_spell {t : Cs} {g : Fm} (h : Run t [] 0 = .inr g) : Fin t g := run_spell _ [] 0 (Nat.zero_le _) trivial rfl h
end K6

set_option Elab.async false
set_option linter.all false
set_option maxRecDepth 100000
set_option maxHeartbeats 4000000
namespace K6
open PySem PySem.Spec TL NumText
/-! ### a spelling is read as what it spells -/
mutual
def G : Fm → Prop
  | .num i => i.natAbs < 10 ^ 30
  | .name s => (∃ c r, s = c :: r ∧ isLow c = true ∧ ∀ d ∈ r, isNm d = true) ∧ s.length ≤ 8
  | .txt s => s.length ≤ 12 ∧ ∀ c ∈ s, isTx c = true
  | .tup l => (∀ f, l.head? = some f → isTextF f = false) ∧ GL l
def GL : List Fm → Prop
  | [] => True
  | f :: r => G f ∧ GL r
end
def okR (r : Cs) : Prop := ∀ c, r[0]? = some c → c = 32 ∨ c = 41
section
variable {t : Cs} {p : Nat → Bool} {i n : Nat} {x y rest : Cs}
theorem sg_drop (h : t.drop i = y) (j : Nat) : sg t p (i + j) = sg y p j := by
  unfold sg
  rw [← h, List.getElem?_drop]
theorem sg_drop0 (h : t.drop i = y) : sg t p i = sg y p 0 := sg_drop h 0
theorem sg_left {j : Nat} (h : j < x.length) : sg (x ++ rest) p j = p (x[j]'h) := by
  unfold sg
  rw [List.getElem?_append_left h, List.getElem?_eq_getElem h]
theorem sg_right {j : Nat} : sg (x ++ rest) p (x.length + j) = sg rest p j := by
  unfold sg
  rw [List.getElem?_append_right (by omega)]
  congr 2; omega
theorem okR_sg (h : okR rest) (h1 : p 32 = false) (h2 : p 41 = false) : sg rest p 0 = false := by
  unfold sg
  cases e : rest[0]? with
  | none => rfl
  | some c => rcases h c e with rfl | rfl <;> assumption
theorem endOf_drop (h : t.drop i = x ++ rest) (ha : ∀ c ∈ x, p c = true) (hl : x.length ≤ n) (hs : x.length = n ∨ sg rest p 0 = false) : endOf t p n i = i + x.length := by
  refine endOf_is (Nat.le_add_right _ _) (by omega) (fun j h1 h2 => ?_) ?_
  · have e := sg_drop (p := p) h (j - i)
    rw [show i + (j - i) = j by omega] at e
    rw [e, sg_left (show j - i < x.length by omega)]
    exact ha _ (List.getElem_mem _)
  · rcases hs with z | z
    · exact .inl (by omega)
    · refine .inr ?_
      rw [sg_drop h]
      have := sg_right (x := x) (rest := rest) (p := p) (j := 0)
      rw [Nat.add_zero] at this
      rw [this]; exact z
theorem sl_drop (h : t.drop i = x ++ rest) : sl t i (i + x.length) = x := by
  unfold sl
  rw [List.drop_take, h, Nat.add_sub_cancel_left, List.take_left']
  rfl
theorem drop_len (h : t.drop i = x ++ rest) (hx : x ≠ []) : i + x.length ≤ t.length := by
  have := congrArg List.length h
  rw [List.length_drop, List.length_append] at this
  have : 0 < x.length := List.length_pos_iff.mpr hx
  omega
theorem drop_on (h : t.drop i = x ++ rest) : t.drop (i + x.length) = rest := by
  rw [← List.drop_drop, h, List.drop_left']
  rfl
end
theorem numL_head : ∀ (n : Nat), 0 < n → (numL n).head? ≠ some 48 := by
  intro n
  induction n using Nat.strongRecOn with
  | _ n ih =>
    intro h
    by_cases z : n < 10
    · rw [numL_lt z]; simp; omega
    · rw [numL_step (by omega)]
      have := ih (n / 10) (by omega) (by omega)
      cases e : numL (n / 10) with
      | nil => exact absurd e (numL_ne _)
      | cons a b => rw [e] at this; simpa using this
theorem dig_all (n : Nat) : ∀ c ∈ numL n, isDig c = true := fun c hc => by
  have := numL_digits n c hc
  unfold isDig
  simp [this]
theorem atom_num {t : Cs} {n i : Nat} {rest : Cs} (hn : 0 < n) (hl : n < 10 ^ 30) (h : t.drop i = numL n ++ rest) (ok : okR rest) : sg t isDig i = true ∧ sg t (· == 48) i = false ∧ sg t isLow i = false ∧ sg t (· == 34) i = false ∧ sg t (· == 45) i = false ∧ endOf t isDig 30 i = i + (numL n).length := by
  have hne := numL_ne n
  have hh := numL_head n hn
  have hd := dig_all n
  have h30 := numL_len (k := 30) (by decide) hl
  cases e : numL n with
  | nil => exact absurd e hne
  | cons c r =>
    have hc : isDig c = true := hd c (by rw [e]; simp)
    have h48 : c ≠ 48 := fun z => hh (by rw [e, z]; rfl)
    have hr : 48 ≤ c ∧ c ≤ 57 := by unfold isDig at hc; simpa using hc
    have h' : t.drop i = c :: (r ++ rest) := by rw [h, e]; rfl
    have at0 : ∀ p, sg t p i = p c := fun p => by rw [sg_drop0 h']; rfl
    refine ⟨by rw [at0]; exact hc, by rw [at0]; simpa using h48, ?_, ?_, ?_, ?_⟩
    · rw [at0]; unfold isLow; simp; omega
    · rw [at0]; simp; omega
    · rw [at0]; simp; omega
    · rw [← e]
      exact endOf_drop h hd h30 (.inr (okR_sg ok rfl rfl))
theorem atom_read {t : Cs} : ∀ (f : Fm) {i : Nat} {rest : Cs}, G f → (∀ l, f ≠ .tup l) → t.drop i = spell f ++ rest → okR rest → atom t i = .inr (f, i + (spell f).length) ∧ sg t (· == 40) i = false := by
  intro f i rest hg nt h ok
  cases f with
  | tup l => exact absurd rfl (nt l)
  | name s =>
    obtain ⟨⟨c, r, rfl, hc, hr⟩, hl⟩ := hg
    have h' : t.drop i = c :: (r ++ rest) := h
    have at0 : ∀ p, sg t p i = p c := fun p => by rw [sg_drop0 h']; rfl
    have e : endOf t isNm 8 i = i + (c :: r).length := endOf_drop h (fun d hd => by
      rcases List.mem_cons.mp hd with rfl | hd
      · unfold isNm; rw [hc]; rfl
      · exact hr d hd) hl (.inr (okR_sg ok rfl rfl))
    refine ⟨?_, ?_⟩
    · unfold atom
      rw [at0, if_pos hc, e, show sl t i (i + (c :: r).length) = c :: r from sl_drop h]; rfl
    · rw [at0]; unfold isLow at hc; simp at hc ⊢; omega
  | txt s =>
    obtain ⟨hl, ha⟩ := hg
    have h' : t.drop i = 34 :: (s ++ (34 :: rest)) := by rw [h]; simp [spell]
    have at0 : ∀ p, sg t p i = p 34 := fun p => by rw [sg_drop0 h']; rfl
    have h1 : t.drop (i + 1) = s ++ (34 :: rest) := by rw [← List.drop_drop, h']; rfl
    have e : endOf t isTx 12 (i + 1) = i + 1 + s.length := endOf_drop h1 ha hl (.inr rfl)
    have h2 := drop_on h1
    refine ⟨?_, by rw [at0]; rfl⟩
    unfold atom
    rw [at0, if_neg (by decide), at0, if_pos (by decide), e, if_pos (by rw [sg_drop0 h2]; rfl), sl_drop h1]
    simp [spell]; omega
  | num z =>
    have hg : z.natAbs < 10 ^ 30 := hg
    have h : t.drop i = numS z ++ rest := h
    rcases Nat.eq_zero_or_pos z.natAbs with w | w
    · have : z = 0 := by omega
      subst this
      have e0 : numS 0 = [48] := by rw [show (0 : Int) = ((0 : Nat) : Int) from rfl, numS_nat, numL_lt (by decide)]
      rw [e0] at h
      have at0 : ∀ p, sg t p i = p 48 := fun p => by rw [sg_drop0 h]; rfl
      refine ⟨?_, by rw [at0]; rfl⟩
      unfold atom
      rw [at0, if_neg (by decide), at0, if_neg (by decide), at0, if_pos (by decide)]
      show _ = Sum.inr (Fm.num 0, i + (numS 0).length)
      rw [e0]; rfl
    · rcases Int.natAbs_eq z with y | y
      · rw [y, numS_nat] at h
        obtain ⟨a1, a2, a3, a4, a5, a6⟩ := atom_num w hg h ok
        refine ⟨?_, sg_excl a1 fun c hc => by unfold isDig at hc; simp at hc ⊢; omega⟩
        unfold atom
        rw [a3, a4, a2, a5, a1, a6, sl_drop h, numL_val, ← y]
        show _ = Sum.inr (Fm.num z, i + (numS z).length)
        conv => rhs; rw [y, numS_nat]
        rw [← y]; rfl
      · rw [y, numS_neg w] at h
        have h' : t.drop i = 45 :: (numL z.natAbs ++ rest) := h
        have at0 : ∀ p, sg t p i = p 45 := fun p => by rw [sg_drop0 h']; rfl
        have h1 : t.drop (i + 1) = numL z.natAbs ++ rest := by rw [← List.drop_drop, h']; rfl
        obtain ⟨a1, a2, a3, a4, a5, a6⟩ := atom_num w hg h1 ok
        refine ⟨?_, by rw [at0]; rfl⟩
        unfold atom
        rw [at0, at0, at0, at0, a1, a2, a6, sl_drop h1, numL_val, ← y]
        show _ = Sum.inr (Fm.num z, i + (numS z).length)
        conv => rhs; rw [y, numS_neg w]
        rw [← y]
        show Sum.inr (Fm.num z, i + 1 + (numL z.natAbs).length) = _
        congr 2
        rw [List.length_cons]; omega
theorem spell_ne : ∀ f, G f → spell f ≠ []
  | .num i, _ => fun e => by
    have e : numS i = [] := e
    rcases Int.natAbs_eq i with y | y
    · rw [y, numS_nat] at e; exact numL_ne _ e
    · rcases Nat.eq_zero_or_pos i.natAbs with w | w
      · rw [show i = ((0 : Nat) : Int) by omega, numS_nat] at e; exact numL_ne _ e
      · rw [y, numS_neg w] at e; cases e
  | .name s, h => fun e => by
    obtain ⟨⟨c, r, rfl, _⟩, _⟩ := h
    cases e
  | .txt s, _ => fun e => by cases e
  | .tup l, _ => fun e => by cases e
theorem spellL_first {f : Fm} {r : List Fm} : ∃ x, spellL (f :: r) = spell f ++ x := by
  cases r with
  | nil => exact ⟨[], by simp [spellL]⟩
  | cons g r => exact ⟨32 :: spellL (g :: r), rfl⟩
theorem spell_fst : ∀ (f : Fm) (c : Nat), G f → (spell f)[0]? = some c → c ≠ 41
  | .num i, c, _, e => by
    have e : (numS i)[0]? = some c := e
    have dg : ∀ n, (numL n)[0]? = some c → c ≠ 41 := fun n e => by
      have := numL_digits n c (List.mem_of_getElem? e)
      omega
    rcases Int.natAbs_eq i with y | y
    · rw [y, numS_nat] at e; exact dg _ e
    · rcases Nat.eq_zero_or_pos i.natAbs with w | w
      · rw [show i = ((0 : Nat) : Int) by omega, numS_nat] at e; exact dg _ e
      · rw [y, numS_neg w] at e; cases e; decide
  | .name s, c, h, e => by
    obtain ⟨⟨d, r, rfl, hd, _⟩, _⟩ := h
    cases e
    unfold isLow at hd; simp at hd; omega
  | .txt s, c, _, e => by cases e; decide
  | .tup l, c, _, e => by cases e; decide
mutual
theorem rb (t : Cs) : ∀ (f : Fm) (s : Stk) (i : Nat) (rest : Cs), G f → t.drop i = spell f ++ rest → okR rest → dep f + s.length ≤ 40 → (lead s = true → isTextF f = false) → Run t s i = item t (Run t) s f (i + (spell f).length)
  | .num z, s, i, rest, hg, h, ok, hd, hl => by
    obtain ⟨a, b⟩ := atom_read (.num z) hg (fun l => by simp) h ok
    have hle := drop_len h (spell_ne _ hg)
    rw [Run_eq (by omega)]
    unfold step
    rw [b, if_neg (by simp), a]
    dsimp only
    rw [if_neg (by simp [isTextF])]
  | .name z, s, i, rest, hg, h, ok, hd, hl => by
    obtain ⟨a, b⟩ := atom_read (.name z) hg (fun l => by simp) h ok
    have hle := drop_len h (spell_ne _ hg)
    rw [Run_eq (by omega)]
    unfold step
    rw [b, if_neg (by simp), a]
    dsimp only
    rw [if_neg (by
      intro e
      rw [Bool.and_eq_true] at e
      rw [hl e.2] at e
      cases e.1)]
  | .txt z, s, i, rest, hg, h, ok, hd, hl => by
    obtain ⟨a, b⟩ := atom_read (.txt z) hg (fun l => by simp) h ok
    have hle := drop_len h (spell_ne _ hg)
    rw [Run_eq (by omega)]
    unfold step
    rw [b, if_neg (by simp), a]
    dsimp only
    rw [if_neg (by simp [isTextF])]
  | .tup l, s, i, rest, hg, h, ok, hd, hl => by
    have hle := drop_len h (spell_ne _ hg)
    have h' : t.drop i = 40 :: (spellL l ++ 41 :: rest) := by rw [h]; simp [spell]
    have h1 : t.drop (i + 1) = spellL l ++ 41 :: rest := by rw [← List.drop_drop, h']; rfl
    have hd : depL l + 1 + s.length ≤ 40 := hd
    rw [Run_eq (by omega)]
    unfold step
    rw [if_pos (show sg t (· == 40) i = true by rw [sg_drop0 h']; rfl), if_neg (by omega)]
    cases l with
    | nil =>
      have h1 : t.drop (i + 1) = 41 :: rest := h1
      rw [if_pos (by rw [sg_drop0 h1]; rfl)]
      rfl
    | cons g r =>
      have hg' : G (.tup (g :: r)) := hg
      have n41 : sg t (· == 41) (i + 1) = false := by
        obtain ⟨x, hx⟩ := spellL_first (f := g) (r := r)
        have hne := spell_ne g hg'.2.1
        rw [sg_drop0 h1, hx, List.append_assoc]
        cases e : spell g with
        | nil => exact absurd e hne
        | cons c y =>
          have := spell_fst g c hg'.2.1 (by rw [e]; rfl)
          show (c == 41) = false
          simpa using this
      rw [n41, if_neg (by simp)]
      rw [rbL t (g :: r) [] s (i + 1) rest hg'.2 (by simp) h1 (by omega) (fun _ f hf => hg'.1 f hf)]
      show item t (Run t) s (.tup (g :: r)) _ = item t (Run t) s (.tup (g :: r)) _
      congr 1
      show _ = i + (40 :: (spellL (g :: r) ++ [41])).length
      rw [List.length_cons, List.length_append]
      simp; omega
theorem rbL (t : Cs) : ∀ (l : List Fm) (acc : List Fm) (s : Stk) (i : Nat) (rest : Cs), GL l → l ≠ [] → t.drop i = spellL l ++ 41 :: rest → depL l + s.length + 1 ≤ 40 → (acc = [] → ∀ f, l.head? = some f → isTextF f = false) →
    Run t (acc :: s) i = item t (Run t) s (.tup (acc ++ l)) (i + (spellL l).length + 1)
  | [], _, _, _, _, _, hn, _, _, _ => absurd rfl hn
  | g :: r, acc, s, i, rest, hg, _, h, hd, hl => by
    have hd : max (dep g) (depL r) + s.length + 1 ≤ 40 := hd
    have hlead : lead (acc :: s) = true → isTextF g = false := fun e => by
      cases acc with
      | nil => exact hl rfl g rfl
      | cons a b => cases e
    cases r with
    | nil =>
      have h : t.drop i = spell g ++ 41 :: rest := h
      rw [rb t g (acc :: s) i (41 :: rest) hg.1 h (fun c e => by cases e; exact .inr rfl) (by simp; omega) hlead]
      show (if sg t (· == 41) (i + (spell g).length) then _ else _) = _
      rw [if_pos (by rw [sg_drop0 (drop_on h)]; rfl)]
      rfl
    | cons g2 r2 =>
      have h : t.drop i = spell g ++ (32 :: (spellL (g2 :: r2) ++ 41 :: rest)) := by
        rw [h]
        show (spell g ++ 32 :: spellL (g2 :: r2)) ++ 41 :: rest = _
        simp
      rw [rb t g (acc :: s) i _ hg.1 h (fun c e => by cases e; exact .inl rfl) (by simp; omega) hlead]
      have h2 := drop_on h
      show (if sg t (· == 41) (i + (spell g).length) then _ else if sg t (· == 32) (i + (spell g).length) then _ else _) = _
      rw [if_neg (by rw [sg_drop0 h2]; exact Bool.false_ne_true), if_pos (by rw [sg_drop0 h2]; rfl)]
      have h3 : t.drop (i + (spell g).length + 1) = spellL (g2 :: r2) ++ 41 :: rest := by rw [← List.drop_drop, h2]; rfl
      rw [rbL t (g2 :: r2) (acc ++ [g]) s _ rest hg.2 (by simp) h3 (by omega) (fun e => by simp at e)]
      rw [List.append_assoc]
      show item t (Run t) s (.tup (acc ++ g :: g2 :: r2)) _ = item t (Run t) s (.tup (acc ++ g :: g2 :: r2)) _
      congr 1
      show _ = i + (spell g ++ 32 :: spellL (g2 :: r2)).length + 1
      rw [List.length_append, List.length_cons]
      omega
end
theorem read_back {f : Fm} (hg : G f) (hd : dep f ≤ 40) : Run (spell f) [] 0 = .inr f := by
  rw [rb (spell f) f [] 0 [] hg (by simp) (fun c e => by simp at e) (by simpa using hd) (by intro e; cases e)]
  show whole _ _ _ = _
  unfold whole
  rw [if_neg (by omega)]
end K6

set_option Elab.async false
set_option linter.all false
set_option maxRecDepth 100000
set_option maxHeartbeats 4000000
namespace K6
open PySem PySem.Spec PyProof.Rows L2 Ab TL NumText
/-! ### texts as lists of signs -/
def strT (cs : Cs) : Str := ⟨cs.toArray⟩
theorem strT_l (cs : Cs) : (strT cs).cps.toList = cs := by show cs.toArray.toList = _; simp
theorem strT_len (cs : Cs) : (strT cs).length = cs.length := by show cs.toArray.size = _; simp
theorem strT_self (x : Str) : strT x.cps.toList = x := TL.ext_tl (strT_l _)
theorem len_l (x : Str) : x.length = x.cps.toList.length := TL.len_tl x
/-- signs that all are of the plain ones -/
def AX (x : Str) : Prop := x.cps.toList.length ≤ 20000 ∧ ∀ c ∈ x.cps.toList, c < 128
theorem AX.l {x : Str} (h : AX x) : x.length ≤ 100000 := by rw [len_l]; have := h.1; omega
theorem ok_str {x : Str} (h : ∀ c ∈ x.cps.toList, c < 128) : (PyData.str x).canLay0 = true := by
  show PyData.strOk x = true
  unfold PyData.strOk
  rw [← Array.all_toList, List.all_eq_true]
  intro c hc
  have := h c hc
  exact decide_eq_true (by omega)
theorem AX.ok {x : Str} (h : AX x) : (PyData.str x).canLay0 = true := ok_str h.2
theorem ok_sg {c : Nat} (h : c < 128) : (PyData.str ⟨#[c]⟩).canLay0 = true := ok_str fun d hd => by
  have : d = c := by simpa using hd
  omega
theorem str_eqv {a b : Str} : PyData.eqv (.str a) (.str b) = decide (a = b) := by
  show (a == b) = _
  rw [Bool.eq_iff_iff]; simp
theorem sg_eqv {c d : Nat} : PyData.eqv (.str ⟨#[c]⟩) (.str ⟨#[d]⟩) = (c == d) := by
  rw [str_eqv, Bool.eq_iff_iff, decide_eq_true_eq, beq_iff_eq]
  constructor
  · intro h
    have h : (#[c] : Array Nat) = #[d] := by injection h
    have h : ([c] : List Nat) = [d] := by injection h
    injection h
  · intro h; rw [h]
theorem sl_lt {t : Cs} {a b : Nat} (h : ∀ c ∈ t, c < 128) : ∀ c ∈ sl t a b, c < 128 := fun c hc => h c (List.mem_of_mem_take (List.mem_of_mem_drop hc))
theorem cutS_nn (z : Str) {a b : Nat} (h : a ≤ z.cps.toList.length) (h2 : b ≤ z.cps.toList.length) : cutS z (some (a : Int)) (some (b : Int)) = strT (sl z.cps.toList a b) := by
  unfold cutS strT sl
  rw [HT.sIx_nat, HT.sIx_nat, len_l, Nat.min_eq_left h, Nat.min_eq_left h2, ← List.drop_take]
theorem cutS_n0 (z : Str) {a : Nat} : cutS z (some (a : Int)) none = strT (z.cps.toList.drop a) := by
  unfold cutS strT
  rw [HT.sIx_nat, HT.sIx_none, len_l]
  congr 2
  rw [List.take_of_length_le (by simp)]
  by_cases h : a ≤ z.cps.toList.length
  · rw [Nat.min_eq_left h]
  · rw [Nat.min_eq_right (by omega), List.drop_length, List.drop_eq_nil_of_le (by omega)]
theorem cutS_0n (z : Str) {a : Nat} : cutS z none (some (a : Int)) = strT (z.cps.toList.take a) := by
  unfold cutS strT
  rw [HT.sIx_nat, HT.sIx_none, len_l]
  congr 2
  rw [List.drop_zero, Nat.sub_zero]
  by_cases h : a ≤ z.cps.toList.length
  · rw [Nat.min_eq_left h]
  · rw [Nat.min_eq_right (by omega), List.take_length, List.take_of_length_le (by omega)]
/-! ### what data do -/
section
variable {P : PyData → Prop} {z : Str} {i : Nat} {c : Nat}
theorem fixs (hl : z.length ≤ 100000) (e : z.cps.toList[i]? = some c) (h : P (.str ⟨#[c]⟩)) : fIx (.str z) (.int (i : Int)) P := ⟨hl, c, atI_nat e, h⟩
theorem finsg (h : P (.bool (decide (c ∈ z.cps.toList)))) : fInSg (.str ⟨#[c]⟩) (.str z) P := ⟨c, rfl, h⟩
theorem flens (hl : z.length ≤ 100000) (h : P (.int (z.cps.toList.length : Int))) : fLenA [.str z] P := ⟨hl, by rw [len_l]; exact h⟩
theorem feqs {d : Nat} (h1 : c < 128) (h2 : d < 128) (h : P (.bool (c == d))) : fEqW (.str ⟨#[c]⟩) (.str ⟨#[d]⟩) P := feqW (ok_sg h1) (ok_sg h2) (by simp [PyData.depth]) (by rw [sg_eqv]; exact h)
theorem fnes {d : Nat} (h1 : c < 128) (h2 : d < 128) (h : P (.bool (!(c == d)))) : fNeW (.str ⟨#[c]⟩) (.str ⟨#[d]⟩) P := ⟨ok_sg h1, ok_sg h2, by simp [PyData.depth], by rw [sg_eqv]; exact h⟩
theorem feqi {a b : Int} (h : P (.bool (decide (a = b)))) : fEqW (.int a) (.int b) P := feqW rfl rfl (by simp [PyData.depth]) (by
  have : PyData.eqv (.int a) (.int b) = decide (a = b) := rfl
  rw [this]; exact h)
theorem feqn {a b : Nat} (h : P (.bool (decide (a = b)))) : fEqW (.int (a : Int)) (.int (b : Int)) P := feqi (by
  rw [show decide ((a : Int) = (b : Int)) = decide (a = b) by rw [Bool.eq_iff_iff]; simp; omega]; exact h)
theorem fslb {b : Nat} (hl : z.length ≤ 100000) (h1 : i ≤ z.cps.toList.length) (h2 : b ≤ z.cps.toList.length) (h : P (.str (strT (sl z.cps.toList i b)))) : fSl (.str z) (some (i : Int)) (some (b : Int)) P := ⟨hl, by rw [cutS_nn z h1 h2]; exact h⟩
theorem fsl0 (hl : z.length ≤ 100000) (h : P (.str (strT (z.cps.toList.drop i)))) : fSl (.str z) (some (i : Int)) none P := ⟨hl, by rw [cutS_n0]; exact h⟩
theorem fslt0 (hl : z.length ≤ 100000) (h : P (.str (strT (z.cps.toList.take i)))) : fSl (.str z) none (some (i : Int)) P := ⟨hl, by rw [cutS_0n]; exact h⟩
theorem fps {a b : Str} (hl : a.length + b.length ≤ 100000) (h : P (.str (a ++ b))) : fPlus (.str a) (.str b) P := ⟨hl, h⟩
end
section
variable {K : PySem.W.Frag} {as : List Sv} {M : Mm} {ta : TA} {pre : List PyData → Prop} {f : List PyData → PyData} {P : PyData → Mm → Prop} {E : XK}
abbrev spW (pre : List PyData → Prop) (f : List PyData → PyData) (K : PySem.W.Frag) : Sp := spP pre (fun ds d => d = f ds) K
theorem w_callW (h : WA K ta as M fun ss M1 => ∃ ds : List PyData, ss = ds.map .dat ∧ pre ds ∧ P (f ds) M1) : W K (tCall (spW pre f K) [] E ta) as M P :=
  w_call fun S H0 σ H k r Q q => h S H0 σ H k r Q fun vs H' ss M' a b c ⟨ds, e, p, z⟩ => q vs H' ss M' a b c ⟨ds, e, p, fun d hd => by rw [hd]; exact z⟩
theorem m4 {Q : List PyData → Prop} {a b c d : PyData} (h : Q [a, b, c, d]) : ∃ ds : List PyData, [Sv.dat a, .dat b, .dat c, .dat d] = ds.map .dat ∧ Q ds := ⟨[a, b, c, d], rfl, h⟩
end
def rStrS : List L2.V → Hp → VK → Prop := fun xs H Q => ∃ a, xs = [.str a] ∧ Q (.str a) H
def rStrA : List L2.V → Hp → VK → Prop := fun xs H Q => rStrI xs H Q ∨ rStrS xs H Q
theorem call_strA {X : Cx} : CallR X (.type "str") rStrA := CallR.or (r := rStrI) (r' := rStrS) call_str_int SkE.call_str_str
def fStrA : List PyData → (PyData → Prop) → Prop
  | [.int i], P => i.natAbs.log2 < 1920 ∧ P (.str (toString i))
  | [.str z], P => P (.str z)
  | _, _ => False
theorem ac_strA {K : PySem.W.Frag} : AC K rStrA fStrA := fun B H xs ds P hb hd p Q q => by
  match ds, hd, p with
  | [.int i], .cons h1 .nil, p =>
    cases h1
    exact .inl ⟨i, rfl, p.1, q _ _ H (.inl rfl) (.str _) p.2⟩
  | [.str i], .cons h1 .nil, p =>
    cases h1
    exact .inr ⟨i, rfl, q _ _ H (.inl rfl) (.str _) p⟩
/-! ### the signs of the constants -/
theorem sg_congr {t : Cs} {p q : Nat → Bool} {i : Nat} (h : ∀ c, p c = q c) : sg t p i = sg t q i := by
  rw [show p = q from funext h]
theorem endOf_congr {t : Cs} {p q : Nat → Bool} {n i : Nat} (h : ∀ c, p c = q c) : endOf t p n i = endOf t q n i := by
  rw [show p = q from funext h]
theorem mem_rng (a n c : Nat) : decide (c ∈ (List.range n).map (a + ·)) = (decide (a ≤ c) && decide (c < a + n)) := by
  rw [Bool.eq_iff_iff, decide_eq_true_eq, Bool.and_eq_true, decide_eq_true_eq, decide_eq_true_eq]
  constructor
  · intro h
    obtain ⟨j, hj, e⟩ := List.mem_map.mp h
    have := List.mem_range.mp hj
    omega
  · intro h
    exact List.mem_map.mpr ⟨c - a, List.mem_range.mpr (by omega), by omega⟩
def lettersS : Str := "abcdefghijklmnopqrstuvwxyz"
def digitsS : Str := "0123456789"
def nameS : Str := "abcdefghijklmnopqrstuvwxyz0123456789"
theorem letters_l : lettersS.cps.toList = (List.range 26).map (97 + ·) := by decide +kernel
theorem digits_l : digitsS.cps.toList = (List.range 10).map (48 + ·) := by decide +kernel
theorem name_l : nameS.cps.toList = (List.range 26).map (97 + ·) ++ (List.range 10).map (48 + ·) := by decide +kernel
theorem in_letters (c : Nat) : decide (c ∈ lettersS.cps.toList) = isLow c := by
  rw [letters_l, mem_rng]; unfold isLow
  congr 1
  rw [Bool.eq_iff_iff, decide_eq_true_eq, decide_eq_true_eq]; omega
theorem in_digits (c : Nat) : decide (c ∈ digitsS.cps.toList) = isDig c := by
  rw [digits_l, mem_rng]; unfold isDig
  congr 1
  rw [Bool.eq_iff_iff, decide_eq_true_eq, decide_eq_true_eq]; omega
theorem in_name (c : Nat) : decide (c ∈ nameS.cps.toList) = isNm c := by
  unfold isNm
  rw [← in_letters, ← in_digits, name_l, letters_l, digits_l, Bool.eq_iff_iff, decide_eq_true_eq, List.mem_append, Bool.or_eq_true, decide_eq_true_eq, decide_eq_true_eq]
theorem in_one (c d : Nat) : decide (c ∈ ((⟨#[d]⟩ : Str)).cps.toList) = (c == d) := by
  rw [Bool.eq_iff_iff, decide_eq_true_eq, beq_iff_eq]; simp
/-! ### forms as data -/
mutual
def fD : Fm → PyData
  | .num i => .int i
  | .name s => .str (strT s)
  | .txt s => .tuple [.str "text", .str (strT s)]
  | .tup l => .tuple (fDs l)
def fDs : List Fm → List PyData
  | [] => []
  | f :: r => fD f :: fDs r
end
theorem fDs_map : ∀ l, fDs l = l.map fD
  | [] => rfl
  | f :: r => by rw [fDs, fDs_map r]; rfl
mutual
def A8 : Fm → Prop
  | .num _ => True
  | .name s => ∀ c ∈ s, c < 128
  | .txt s => ∀ c ∈ s, c < 128
  | .tup l => A8s l
def A8s : List Fm → Prop
  | [] => True
  | f :: r => A8 f ∧ A8s r
end
mutual
theorem a8_of : ∀ f, (∀ c ∈ spell f, c < 128) → A8 f
  | .num _, _ => trivial
  | .name s, h => h
  | .txt s, h => fun c hc => h c (by simp [spell, hc])
  | .tup l, h => a8s_of l fun c hc => h c (by simp [spell, hc])
theorem a8s_of : ∀ l, (∀ c ∈ spellL l, c < 128) → A8s l
  | [], _ => trivial
  | f :: r, h => by
    cases r with
    | nil => exact ⟨a8_of f h, trivial⟩
    | cons g r => exact ⟨a8_of f fun c hc => h c (List.mem_append_left _ hc), a8s_of (g :: r) fun c hc => h c (List.mem_append_right _ (List.mem_cons_of_mem _ hc))⟩
end
theorem text_ok : ∀ c ∈ ("text" : Str).cps.toList, c < 128 := by decide +kernel
mutual
theorem fD_ok : ∀ f, A8 f → (fD f).canLay0 = true
  | .num _, _ => rfl
  | .name s, h => ok_str (by rw [strT_l]; exact h)
  | .txt s, h => by
    have h1 : (PyData.str "text").canLay0 = true := ok_str text_ok
    have h2 : (PyData.str (strT s)).canLay0 = true := ok_str (by rw [strT_l]; exact h)
    show (PyData.canLay0 (.str "text") && (PyData.canLay0 (.str (strT s)) && true)) = true
    rw [h1, h2]; rfl
  | .tup l, h => fDs_ok l h
theorem fDs_ok : ∀ l, A8s l → PyData.canLayAll0 (fDs l) = true
  | [], _ => rfl
  | f :: r, h => by
    show (PyData.canLay0 (fD f) && PyData.canLayAll0 (fDs r)) = true
    rw [fD_ok f h.1, fDs_ok r h.2]; rfl
end
def textP : Str := "text"
theorem textP_l : textP.cps.toList = textS := by decide +kernel
/-- the comparison with the word text -/
theorem text_eqv (f : Fm) : PyData.eqv (fD f) (.str "text") = isTextF f := by
  cases f with
  | num i => rfl
  | txt s => rfl
  | tup l => rfl
  | name s =>
    show PyData.eqv (.str (strT s)) (.str "text") = (s == textS)
    rw [str_eqv, Bool.eq_iff_iff, decide_eq_true_eq, beq_iff_eq, ← textP_l]
    constructor
    · intro h; rw [← strT_l s, h]; rfl
    · intro h; rw [h]; exact strT_self _
theorem feq_text {f : Fm} {P : PyData → Prop} (h : A8 f) (q : P (.bool (isTextF f))) : fEqW (fD f) (.str "text") P :=
  feqW (fD_ok f h) (ok_str text_ok) (by simp [PyData.depth]) (by rw [text_eqv]; exact q)
theorem str_num (i : Int) : (toString i : Str) = strT (numS i) := (TL.ext_tl (strT_l _)).symm
theorem log_num {i : Int} (h : i.natAbs < 10 ^ 30) : i.natAbs.log2 < 1920 := by
  by_cases z : i.natAbs = 0
  · rw [z]; decide
  · rw [Nat.log2_lt z]
    exact Nat.lt_of_lt_of_le h (Nat.le_trans (show 10 ^ 30 ≤ 2 ^ 100 by decide) (Nat.pow_le_pow_right (by decide) (by decide)))
/-- the trees of forms, walked by jobs -/
def kid : Fm → List Fm
  | .tup l => l
  | _ => []
mutual
def ft : Fm → FT
  | .num i => .mk (.int i) [] (.str (strT (numS i)))
  | .name s => .mk (.str (strT s)) [] (.str (strT s))
  | .txt s => .mk (.tuple [.str "text", .str (strT s)]) [] (.str (strT (34 :: (s ++ [34]))))
  | .tup l => .mk (.tuple (fDs l)) (fts l) (.str (strT (40 :: (spellL l ++ [41]))))
def fts : List Fm → List FT
  | [] => []
  | f :: r => ft f :: fts r
end
theorem ft_x (f : Fm) : (ft f).x = fD f := by cases f <;> rfl
theorem ft_y (f : Fm) : (ft f).y = .str (strT (spell f)) := by cases f <;> rfl
theorem fts_map : ∀ l, fts l = l.map ft
  | [] => rfl
  | f :: r => by rw [fts, fts_map r]; rfl
theorem ft_ks (f : Fm) : (ft f).ks = (kid f).map ft := by
  cases f with
  | tup l => exact fts_map l
  | num i => rfl
  | name s => rfl
  | txt s => rfl
def GF (f : Fm) : Prop := V f ∧ A8 f ∧ dep f ≤ 40 ∧ (spell f).length ≤ 20000
def OF (x : PyData) (ps : List PyData) : Prop := ∃ f, V f ∧ A8 f ∧ x = fD f ∧ ps = (kid f).map fD
def BF (x : PyData) (vs : List PyData) (y : PyData) : Prop := ∃ f, V f ∧ A8 f ∧ (spell f).length ≤ 20000 ∧ x = fD f ∧ vs = (kid f).map (fun g => .str (strT (spell g))) ∧ y = .str (strT (spell f))
theorem spellL_len : ∀ (l : List Fm) (f : Fm), f ∈ l → (spell f).length ≤ (spellL l).length
  | [], _, h => by cases h
  | [g], f, h => by rw [List.mem_singleton.mp h]; exact Nat.le_refl _
  | g :: g2 :: r, f, h => by
    show _ ≤ (spell g ++ 32 :: spellL (g2 :: r)).length
    rw [List.length_append, List.length_cons]
    rcases List.mem_cons.mp h with rfl | h
    · omega
    · have := spellL_len (g2 :: r) f h
      omega
theorem VL_mem : ∀ {l : List Fm}, VL l → ∀ f ∈ l, V f
  | [], _, f, h => by cases h
  | g :: l, h, f, hf => by
    rcases List.mem_cons.mp hf with rfl | hf
    · exact h.1
    · exact VL_mem h.2 f hf
theorem A8_mem : ∀ {l : List Fm}, A8s l → ∀ f ∈ l, A8 f
  | [], _, f, h => by cases h
  | g :: l, h, f, hf => by
    rcases List.mem_cons.mp hf with rfl | hf
    · exact h.1
    · exact A8_mem h.2 f hf
mutual
theorem ft_ok : ∀ f, V f → A8 f → (spell f).length ≤ 20000 → (ft f).ok OF BF
  | .num i, hv, ha, hl => ⟨⟨.num i, hv, ha, rfl, rfl⟩, ⟨.num i, hv, ha, hl, rfl, rfl, rfl⟩, trivial⟩
  | .name i, hv, ha, hl => ⟨⟨.name i, hv, ha, rfl, rfl⟩, ⟨.name i, hv, ha, hl, rfl, rfl, rfl⟩, trivial⟩
  | .txt i, hv, ha, hl => ⟨⟨.txt i, hv, ha, rfl, rfl⟩, ⟨.txt i, hv, ha, hl, rfl, rfl, rfl⟩, trivial⟩
  | .tup l, hv, ha, hl => by
    refine ⟨⟨.tup l, hv, ha, rfl, ?_⟩, ⟨.tup l, hv, ha, hl, rfl, ?_, rfl⟩, fts_ok l hv.2 ha ?_⟩
    · rw [fts_map, List.map_map]
      exact List.map_congr_left fun f _ => ft_x f
    · rw [fts_map, List.map_map]
      exact List.map_congr_left fun f _ => ft_y f
    · have : (spell (.tup l)).length = (spellL l).length + 2 := by simp [spell]
      omega
theorem fts_ok : ∀ l, VL l → A8s l → (spellL l).length ≤ 20000 → FT.oks OF BF (fts l)
  | [], _, _, _ => trivial
  | f :: r, hv, ha, hl => by
    refine ⟨ft_ok f hv.1 ha.1 (Nat.le_trans (spellL_len (f :: r) f List.mem_cons_self) hl), fts_ok r hv.2 ha.2 ?_⟩
    cases r with
    | nil => simp [spellL]
    | cons g r =>
      have : (spellL (f :: g :: r)).length = (spell f).length + ((spellL (g :: r)).length + 1) := by
        show (spell f ++ 32 :: spellL (g :: r)).length = _
        simp
      omega
end
theorem numS_pos (i : Int) : 1 ≤ (numS i).length := by
  have dg : ∀ n, 1 ≤ (numL n).length := fun n => List.length_pos_iff.mpr (numL_ne n)
  rcases Int.natAbs_eq i with y | y
  · rw [y, numS_nat]; exact dg _
  · rcases Nat.eq_zero_or_pos i.natAbs with w | w
    · rw [show i = ((0 : Nat) : Int) by omega, numS_nat]; exact dg _
    · rw [y, numS_neg w]; simp
mutual
theorem ft_sz : ∀ f, V f → (ft f).sz ≤ (spell f).length
  | .num i, _ => numS_pos i
  | .name s, h => h.1
  | .txt s, _ => by show 1 ≤ (34 :: (s ++ [34])).length; simp
  | .tup l, h => by
    show FT.szs (fts l) + 1 ≤ (40 :: (spellL l ++ [41])).length
    have := fts_sz l h.2
    simp; omega
theorem fts_sz : ∀ l, VL l → FT.szs (fts l) ≤ (spellL l).length
  | [], _ => Nat.le_refl _
  | [f], h => by
    have := ft_sz f h.1
    show (ft f).sz + 0 ≤ (spell f).length
    omega
  | f :: g :: r, h => by
    have h1 := ft_sz f h.1
    have h2 := fts_sz (g :: r) h.2
    show (ft f).sz + FT.szs (fts (g :: r)) ≤ (spell f ++ 32 :: spellL (g :: r)).length
    rw [List.length_append, List.length_cons]
    omega
end
end K6

set_option Elab.async false
set_option linter.all false
set_option maxRecDepth 100000
set_option maxHeartbeats 4000000
namespace K6
open PySem PySem.Spec PyProof.Rows L2 Ab TL NumText
/-- one step of the reading -/
local macro_rules | `(tactic| walk_at "w") => `(tactic| first
  | (with_reducible refine ws_seq ?_) | (with_reducible refine ws_next ?_) | (with_reducible refine ws_set ?_) | (with_reducible refine ws_par ?_) | (with_reducible refine ws_ret ?_) | (with_reducible refine ws_if ?_) | (with_reducible refine ws_drop ?_)
  | (refine w_var rfl ?_) | (with_reducible refine w_int ?_) | (with_reducible refine w_str ?_) | (with_reducible refine w_bl ?_) | (with_reducible refine w_non ?_)
  | (with_reducible refine wa_nil ?_) | (with_reducible refine wa_cons ?_) | (with_reducible refine w_tup ?_) | (with_reducible refine w_lst ?_)
  | (with_reducible refine wt_test ?_) | (with_reducible refine wt_B ?_) | (with_reducible refine wt_not ?_) | (with_reducible refine wt_and ?_) | (with_reducible refine wt_or ?_)
  | (with_reducible refine w_andV ?_) | (with_reducible refine w_orV ?_) | (with_reducible refine w_notV ?_) | (with_reducible refine w_ite ?_)
  | (with_reducible refine w_op ao_eqW ?_) | (with_reducible refine w_op ao_neW ?_) | (with_reducible refine w_op ao_eq ?_) | (with_reducible refine w_op ao_ne ?_) | (with_reducible refine w_op ao_isB ?_) | (with_reducible refine w_op ao_notB ?_) | (with_reducible refine w_op ao_ix ?_) | (with_reducible refine w_op ao_plus ?_) | (with_reducible refine w_op ao_less ?_) | (with_reducible refine w_op ao_le ?_) | (with_reducible refine w_op ao_gt ?_) | (with_reducible refine w_op ao_ge ?_)
  | (with_reducible refine w_op ao_sub ?_) | (with_reducible refine w_op ao_mul ?_) | (with_reducible refine w_op ao_mod ?_) | (with_reducible refine w_op ao_div ?_) | (with_reducible refine w_op ao_pow ?_) | (with_reducible refine w_op ao_isNo ?_) | (with_reducible refine w_op ao_inSg ?_) | (with_reducible refine w_op ao_inW ?_) | (with_reducible refine w_op ao_ninW ?_) | (with_reducible refine w_op ao_inSeq ?_) | (with_reducible refine w_op ao_ninSeq ?_)
  | (with_reducible refine w_cb ac_len ?_) | (with_reducible refine w_cb ac_tupleOf ?_) | (with_reducible refine w_cb ac_intOf ?_) | (with_reducible refine w_cb ac_abs ?_) | (with_reducible refine w_cb ac_ord ?_) | (with_reducible refine w_cb ac_all ?_) | (with_reducible refine w_cb ac_any ?_)
  | (with_reducible refine w_isi (by decide) ?_) | (with_reducible refine w_isi2 (by decide) (by decide) ?_) | (with_reducible refine w_sl ?_) | (with_reducible refine wo_none ?_) | (with_reducible refine wo_some ?_)
  | (with_reducible refine w_chain ao_le ao_le ?_) | (with_reducible refine w_chain ao_leS ao_leS ?_) | (with_reducible refine w_call ?_))
local macro_rules | `(tactic| walk_at "v") => `(tactic| first
  | (with_reducible refine m0 ?_) | (with_reducible refine m1 ?_) | (with_reducible refine m2 ?_) | (with_reducible refine m3 ?_) | (with_reducible refine m5 ?_)
  | (with_reducible refine exb ?_) | (with_reducible refine exi ?_) | (with_reducible refine exl ?_) | (with_reducible refine exql ?_) | (with_reducible refine exqt ?_)
  | (refine fixt rfl ?_) | (refine fixl rfl ?_) | (refine fslt rfl ?_) | (refine fsll rfl ?_)
  | (with_reducible refine flent ?_; dsimp only [List.length_cons, List.length_nil]) | (with_reducible refine flenl ?_; dsimp only [List.length_cons, List.length_nil])
  | (with_reducible refine fii (by first | trivial | decide) ?_) | (with_reducible refine fpi ?_) | (with_reducible refine flti ?_) | (with_reducible refine fint ?_) | (with_reducible refine ftupl ?_) | (with_reducible refine ftupt ?_)
  | (with_reducible refine feqW (by decide +kernel) (by decide +kernel) (by decide +kernel) ?_) | (with_reducible refine fneW (by decide +kernel) (by decide +kernel) (by decide +kernel) ?_)
  | (with_reducible refine feq (by decide +kernel) (by decide +kernel) ?_) | (with_reducible refine fne (by decide +kernel) (by decide +kernel) ?_)
  | (with_reducible refine iteK rfl ?_) | (with_reducible refine iteN rfl ?_) | (with_reducible refine iteK (by decide +kernel) ?_) | (with_reducible refine iteN (by decide +kernel) ?_))
local macro_rules | `(tactic| walk_at "x") => `(tactic| first | (with_reducible refine wx_seq ?_) | (with_reducible refine wx_if ?_) | (with_reducible refine wx_next ?_) | (with_reducible refine wx_ret ?_) | (with_reducible refine wr_tup ?_) | (with_reducible refine war_cons ?_) | (with_reducible refine war_nil ?_))
local macro_rules | `(tactic| walk_at "ww") => `(tactic| repeat (first | walk_at "w" | walk_at "v" | walk_at "x"))

/-! ### the text -/
def topS (i : Nat) : Stmt := PySem.Challenge.pw_listasks_k06_texts_read_to_the_first_wro.main.body.getD i (.Pass ⟨0, 0, 0, 0⟩)
abbrev s_fold : Stmt := topS 4
theorem sc_fold : FnScope ["root", "opened", "made", "todo", "done", "node", "count", "parts", "part", "start", "values"] ["root", "opened", "made"] (defScope s_fold) := ⟨rfl, rfl, rfl, by decide +kernel, rfl, by decide +kernel, by decide +kernel⟩
abbrev s_is_text_sign : Stmt := topS 12
theorem sc_is_text_sign : FnScope ["sign"] ["sign"] (defScope s_is_text_sign) := ⟨rfl, rfl, rfl, by decide +kernel, rfl, by decide +kernel, by decide +kernel⟩
abbrev s_begins_with : Stmt := topS 15
theorem sc_begins_with : FnScope ["form", "word"] ["form", "word"] (defScope s_begins_with) := ⟨rfl, rfl, rfl, by decide +kernel, rfl, by decide +kernel, by decide +kernel⟩
abbrev s_print_form : Stmt := topS 16
theorem sc_print_form : FnScope ["form"] ["form"] (defScope s_print_form) := ⟨rfl, rfl, rfl, by decide +kernel, rfl, by decide +kernel, by decide +kernel⟩
abbrev s_forms_in : Stmt := topS 17
theorem sc_forms_in : FnScope ["form"] ["form"] (defScope s_forms_in) := ⟨rfl, rfl, rfl, by decide +kernel, rfl, by decide +kernel, by decide +kernel⟩
abbrev s_spelling : Stmt := topS 18
theorem sc_spelling : FnScope ["form", "parts"] ["form", "parts"] (defScope s_spelling) := ⟨rfl, rfl, rfl, by decide +kernel, rfl, by decide +kernel, by decide +kernel⟩
abbrev s_read_form : Stmt := topS 19
theorem sc_read_form : FnScope ["text", "begun", "at", "form"] ["text"] (defScope s_read_form) := ⟨rfl, rfl, rfl, by decide +kernel, rfl, by decide +kernel, by decide +kernel⟩
abbrev s_whole : Stmt := topS 20
theorem sc_whole : FnScope ["form", "text", "at"] ["form", "text", "at"] (defScope s_whole) := ⟨rfl, rfl, rfl, by decide +kernel, rfl, by decide +kernel, by decide +kernel⟩
abbrev s_has_sign : Stmt := topS 21
theorem sc_has_sign : FnScope ["text", "at", "signs"] ["text", "at", "signs"] (defScope s_has_sign) := ⟨rfl, rfl, rfl, by decide +kernel, rfl, by decide +kernel, by decide +kernel⟩
abbrev s_end_of : Stmt := topS 22
theorem sc_end_of : FnScope ["text", "at", "signs", "most", "end"] ["text", "at", "signs", "most"] (defScope s_end_of) := ⟨rfl, rfl, rfl, by decide +kernel, rfl, by decide +kernel, by decide +kernel⟩
abbrev s_read_plain : Stmt := topS 23
theorem sc_read_plain : FnScope ["text", "at", "end"] ["text", "at"] (defScope s_read_plain) := ⟨rfl, rfl, rfl, by decide +kernel, rfl, by decide +kernel, by decide +kernel⟩
abbrev s_read_number : Stmt := topS 24
theorem sc_read_number : FnScope ["text", "at", "first", "end"] ["text", "at"] (defScope s_read_number) := ⟨rfl, rfl, rfl, by decide +kernel, rfl, by decide +kernel, by decide +kernel⟩
abbrev s_read_quoted : Stmt := topS 25
theorem sc_read_quoted : FnScope ["text", "at", "end"] ["text", "at"] (defScope s_read_quoted) := ⟨rfl, rfl, rfl, by decide +kernel, rfl, by decide +kernel, by decide +kernel⟩
abbrev s_law_pool : Stmt := topS 27
theorem sc_law_pool : FnScope ["_law_script", "_law_at", "_law_cell", "_law_size", "_law_start"] ["_law_script", "_law_at"] (defScope s_law_pool) := ⟨rfl, rfl, rfl, by decide +kernel, rfl, by decide +kernel, by decide +kernel⟩
abbrev s_law_draw : Stmt := topS 28
theorem sc_law_draw : FnScope ["_law_pool_here", "_law_many", "_law_drawn"] ["_law_pool_here", "_law_many"] (defScope s_law_draw) := ⟨rfl, rfl, rfl, by decide +kernel, rfl, by decide +kernel, by decide +kernel⟩
abbrev s_law_exact : Stmt := topS 29
theorem sc_law_exact : FnScope ["_law_told", "_law_due", "_law_k"] ["_law_told", "_law_due"] (defScope s_law_exact) := ⟨rfl, rfl, rfl, by decide +kernel, rfl, by decide +kernel, by decide +kernel⟩
abbrev s_law_base_value : Stmt := topS 30
theorem sc_law_base_value : FnScope ["_law_pool_here", "_law_kind", "_law_drawn", "_law_size", "_law_signs", "_law_k"] ["_law_pool_here", "_law_kind"] (defScope s_law_base_value) := ⟨rfl, rfl, rfl, by decide +kernel, rfl, by decide +kernel, by decide +kernel⟩
abbrev s_law_try_form : Stmt := topS 31
theorem sc_law_try_form : FnScope ["_law_text", "e"] ["_law_text"] (defScope s_law_try_form) := ⟨rfl, rfl, rfl, by decide +kernel, rfl, by decide +kernel, by decide +kernel⟩
abbrev s_law_spelt : Stmt := topS 32
theorem sc_law_spelt : FnScope ["_law_form_here", "_law_part"] ["_law_form_here"] (defScope s_law_spelt) := ⟨rfl, rfl, rfl, by decide +kernel, rfl, by decide +kernel, by decide +kernel⟩
abbrev s_law_form : Stmt := topS 33
theorem sc_law_form : FnScope ["_law_pool_here", "_law_left", "_law_leading", "_law_way", "_law_name", "_law_many", "_law_k"] ["_law_pool_here", "_law_left", "_law_leading"] (defScope s_law_form) := ⟨rfl, rfl, rfl, by decide +kernel, rfl, by decide +kernel, by decide +kernel⟩
abbrev s_law_atom_end : Stmt := topS 34
theorem sc_law_atom_end : FnScope ["_law_text", "_law_at", "_law_size", "_law_end", "_law_k", "_law_start"] ["_law_text", "_law_at"] (defScope s_law_atom_end) := ⟨rfl, rfl, rfl, by decide +kernel, rfl, by decide +kernel, by decide +kernel⟩
abbrev s_law_place_of : Stmt := topS 35
theorem sc_law_place_of : FnScope ["_law_text", "_law_counts", "_law_at", "_law_turn", "_law_end", "_law_wrong", "_law_level"] ["_law_text"] (defScope s_law_place_of) := ⟨rfl, rfl, rfl, by decide +kernel, rfl, by decide +kernel, by decide +kernel⟩
abbrev s_law_agrees : Stmt := topS 36
theorem sc_law_agrees : FnScope ["_law_text", "_law_due", "_law_told"] ["_law_text"] (defScope s_law_agrees) := ⟨rfl, rfl, rfl, by decide +kernel, rfl, by decide +kernel, by decide +kernel⟩
abbrev s_law : Stmt := topS 37
theorem sc_law : FnScope ["_law_script", "_law_pool_here", "_law_form_here", "_law_text", "_law_signs", "_law_k", "_law_at", "_law_sign", "_law_way", "_law_tail", "_law_middle", "_law_short", "_law_turns", "_law_deep", "_law_shut", "_law_digits"] ["_law_script"] (defScope s_law) := ⟨rfl, rfl, rfl, by decide +kernel, rfl, by decide +kernel, by decide +kernel⟩
/-- what the top has written -/
structure Txt (K : PySem.W.Frag) (mg : Str → Option Value) : Prop where
  g_LETTERS : ∃ t, mg "LETTERS" = some (.str "abcdefghijklmnopqrstuvwxyz" t)
  g_DIGITS : ∃ t, mg "DIGITS" = some (.str "0123456789" t)
  g_NAME_SIGNS : ∃ t, mg "NAME_SIGNS" = some (.str "abcdefghijklmnopqrstuvwxyz0123456789" t)
  g_MOST_NAME_SIGNS : ∃ t, mg "MOST_NAME_SIGNS" = some (.int 8 t)
  g_MOST_TEXT_SIGNS : ∃ t, mg "MOST_TEXT_SIGNS" = some (.int 12 t)
  g_MOST_DIGITS : ∃ t, mg "MOST_DIGITS" = some (.int 30 t)
  g_MOST_TUPLES : ∃ t, mg "MOST_TUPLES" = some (.int 40 t)
  n_bool : mg "bool" = none
  n_int : mg "int" = none
  n_isinstance : mg "isinstance" = none
  n_len : mg "len" = none
  n_list : mg "list" = none
  n_min : mg "min" = none
  n_ord : mg "ord" = none
  n_range : mg "range" = none
  n_reversed : mg "reversed" = none
  n_str : mg "str" = none
  n_tuple : mg "tuple" = none
theorem isn0 {P : PyData → Prop} (h : P (.bool true)) : fIsNo .none .none P := h
theorem isni {b : Int} {P : PyData → Prop} (h : P (.bool false)) : fIsNo (.int b) .none P := h
/-! ### what the small defs say -/
def preSign (ds : List PyData) : Prop := ∃ c : Nat, ds = [PyData.str ⟨#[c]⟩]
def postSign (ds : List PyData) (d : PyData) : Prop := ∀ c : Nat, ds = [PyData.str ⟨#[c]⟩] → d = .bool (isTx c)
def preHas (ds : List PyData) : Prop := ∃ (x : Str) (i : Nat) (y : Str), ds = [.str x, .int (i : Int), .str y] ∧ AX x
def fHas : List PyData → PyData
  | [.str x, .int i, .str y] => .bool (sg x.cps.toList (fun c => decide (c ∈ y.cps.toList)) i.toNat)
  | _ => .none
def preEnd (ds : List PyData) : Prop := ∃ (x : Str) (i : Nat) (y : Str) (n : Nat), ds = [.str x, .int (i : Int), .str y, .int (n : Int)] ∧ AX x ∧ i ≤ x.cps.toList.length ∧ n ≤ 100
def fEnd : List PyData → PyData
  | [.str x, .int i, .str y, .int n] => .int (endOf x.cps.toList (fun c => decide (c ∈ y.cps.toList)) n.toNat i.toNat)
  | _ => .none
def preF (ds : List PyData) : Prop := ∃ f, V f ∧ A8 f ∧ ds = [fD f]
def preBW (ds : List PyData) : Prop := ∃ f, V f ∧ A8 f ∧ ds = [fD f, .str "text"]
def isTxtF : Fm → Bool
  | .txt _ => true
  | _ => false
section
variable {P : Program} {w : World} {K : PySem.W.Frag} {mg : Str → Option Value} {base : Heap} (T : Txt K mg)
include T in
theorem ok_is_text_sign (F : Dfn K mg "is_text_sign" s_is_text_sign ["sign"]) : Cal P w K mg base 1 "is_text_sign" ["sign"] (spP preSign postSign K) := by
  have hn : ∀ ds, preSign ds → ds.length = 1 := by rintro ds ⟨ss, rfl⟩; rfl
  refine F.ok sc_is_text_sign (fun vs H Q E h => spP_len hn h) (fun f cdv A outer s H vs Q E hr h => ⟨_, (pss_one (ps_ret (pe_and (pe_chain op_leS op_leS pe_str (pv 0) pe_str) (pe_one (pe_cmpR (k_ninW (K := K) rfl hr) (pe_callB call_ordS (by rfl) T.n_ord (by decide +kernel) (pa_cons (pv 0) pa_nil)) (pe_tup (pa_cons pe_int (pa_cons pe_int (pa_cons pe_int pa_nil)))) (by rfl)))))), to_spP hn (fun ds hp => ?_) h⟩)
  obtain ⟨c, rfl⟩ := hp
  have fin : ∀ b, b = isTx c → postSign [PyData.str ⟨#[c]⟩] (.bool b) := fun b e z' h => by
    injection h with h; injection h with h; injection h with h
    have h : ([c] : List Nat) = [z'] := by injection h
    injection h with h
    rw [e, h]
  have lt1 : ∀ a b : Nat, ([a] < [b]) ↔ a < b := fun a b => by simp [List.cons_lt_cons_iff]
  have e1 : (!decide ([c] < [32])) = decide (32 ≤ c) := by
    rw [show decide ([c] < [32]) = decide (c < 32) from decide_eq_decide.mpr (lt1 _ _), Bool.eq_iff_iff]; simp
  have e2 : (!decide ([126] < [c])) = decide (c ≤ 126) := by
    rw [show decide ([126] < [c]) = decide (126 < c) from decide_eq_decide.mpr (lt1 _ _), Bool.eq_iff_iff]; simp
  have e3 : (!([PyData.int 34, .int 37, .int 92].any fun z => PyData.eqv z (.int (c : Int)))) = (!(c == 34) && !(c == 37) && !(c == 92)) := by
    have q : ∀ n : Nat, PyData.eqv (.int (n : Int)) (.int (c : Int)) = (c == n) := fun n => by
      show ((n : Int) == (c : Int)) = _
      rw [Bool.eq_iff_iff, beq_iff_eq, beq_iff_eq]; omega
    have h1 := q 34
    have h2 := q 37
    have h3 := q 92
    rw [List.any_cons, List.any_cons, List.any_cons, List.any_nil, show (PyData.int 34) = .int ((34 : Nat) : Int) from rfl, show (PyData.int 37) = .int ((37 : Nat) : Int) from rfl, show (PyData.int 92) = .int ((92 : Nat) : Int) from rfl, h1, h2, h3]
    cases (c == 34) <;> cases (c == 37) <;> cases (c == 92) <;> rfl
  change WS K _ [.dat (.str ⟨#[c]⟩)] [] _
  walk_at "ww"
  refine ⟨_, rfl, ?_⟩
  show if (!decide ([c] < [32])) = true then _ else _
  refine iteB (fun h1 => ?_) (fun h1 => ?_)
  · refine w_str ?_
    refine ⟨_, rfl, ?_⟩
    show if (!decide ([126] < [c])) = true then _ else _
    refine iteB (fun h2 => ?_) (fun h2 => ?_)
    · refine w_op ao_ninW (w_cb ac_ord (wa_cons (w_var rfl (wa_nil (m1 ⟨rfl, ?_⟩)))))
      refine w_tup (wa_cons (w_int (wa_cons (w_int (wa_cons (w_int (wa_nil (m3 ⟨by simp, rfl, rfl, by simp [PyData.depth], ?_⟩))))))))
      refine fin _ ?_
      rw [e1] at h1
      rw [e2] at h2
      unfold isTx
      rw [h1, h2]
      show (!([PyData.int 34, .int 37, .int 92].any fun z => PyData.eqv z (.int (c : Int)))) = _
      rw [e3]; simp
    · refine fin _ ?_
      rw [e2] at h2
      unfold isTx
      rw [h2]; simp
  · refine exb (iteN rfl (fin _ ?_))
    rw [e1] at h1
    unfold isTx
    rw [h1]; rfl
include T in
theorem ok_has_sign (F : Dfn K mg "_has_sign" s_has_sign ["text", "at", "signs"]) : Cal P w K mg base 1 "_has_sign" ["text", "at", "signs"] (spW preHas fHas K) := by
  have hn : ∀ ds, preHas ds → ds.length = 3 := by rintro ds ⟨x, i, y, rfl, _⟩; rfl
  refine F.ok sc_has_sign (fun vs H Q E h => spP_len hn h) (fun f cdv A outer s H vs Q E hr h => ⟨_, (pss_one (ps_ret (pe_and (pe_cmpR op_less (pv 1) (pe_callB (k_len (K := K) rfl) (by rfl) T.n_len (by decide +kernel) (pa_cons (pv 0) pa_nil)) (nomark _)) (pe_one (pe_cmpR op_inSg (pe_ix (k_ix (K := K) rfl) (pv 0) (pv 1) (fun _ _ => rfl)) (pv 2) (by rfl)))))), to_spP hn (fun ds hp => ?_) h⟩)
  obtain ⟨x, i, y, rfl, hx⟩ := hp
  change WS K _ [.dat (.str x), .dat (.int (i : Int)), .dat (.str y)] [] _
  refine ws_ret (w_andV (w_op ao_less (w_var rfl (w_cb ac_len (wa_cons (w_var rfl (wa_nil (m1 (flens hx.l (flti (exb ?_)))))))))))
  refine iteB (fun h => ?_) (fun h => ?_)
  · have hi : i < x.cps.toList.length := by have := of_decide_eq_true h; omega
    refine w_op ao_inSg (w_op ao_ix (w_var rfl (w_var rfl (fixs hx.l (List.getElem?_eq_getElem hi) (w_var rfl (finsg ?_))))))
    show PyData.bool _ = .bool (sg _ _ i)
    rw [sg_of (List.getElem?_eq_getElem hi)]
  · have hi : ¬ i < x.cps.toList.length := by have := of_decide_eq_false h; omega
    show PyData.bool _ = .bool (sg _ _ i)
    rw [sg_end (by omega)]
/-- a test for signs -/
theorem w_has {as : List Sv} {M : Mm} {R : PyData → Mm → Prop} {E : XK} {te1 te2 te3 : TE} {x y : Str} {i : Nat} {p : Nat → Bool} (h1 : ∀ {R : PyData → Mm → Prop}, R (.str x) M → W K te1 as M R) (h2 : ∀ {R : PyData → Mm → Prop}, R (.int (i : Int)) M → W K te2 as M R) (h3 : ∀ {R : PyData → Mm → Prop}, R (.str y) M → W K te3 as M R)
    (hx : AX x) (hy : ∀ c, decide (c ∈ y.cps.toList) = p c) (q : R (.bool (sg x.cps.toList p i)) M) : W K (tCall (spW preHas fHas K) [] E (tCons te1 (tCons te2 (tCons te3 tNil)))) as M R :=
  w_callW (wa_cons (h1 (wa_cons (h2 (wa_cons (h3 (wa_nil (m3 ⟨⟨x, i, y, rfl, hx⟩, by
    show R (.bool (sg x.cps.toList (fun c => decide (c ∈ y.cps.toList)) i)) M
    rw [sg_congr hy]; exact q⟩))))))))
include T in
theorem ok_end_of (F : Dfn K mg "_end_of" s_end_of ["text", "at", "signs", "most"]) (q_has_sign : Cal P w K mg base 1 "_has_sign" ["text", "at", "signs"] (spW preHas fHas K)) : Cal P w K mg base 2 "_end_of" ["text", "at", "signs", "most"] (spW preEnd fEnd K) := by
  have c_has_sign := q_has_sign
  have hn : ∀ ds, preEnd ds → ds.length = 4 := by rintro ds ⟨x, i, y, n, rfl, _⟩; rfl
  refine F.ok sc_end_of (fun vs H Q E h => spP_len hn h) (fun f cdv A outer s H vs Q E hr h => ⟨_, (pss_cons (ps_set (i := 4) sc_end_of.nd rfl (by first | exact .inl rfl | exact .inr rfl) (pv 1))
      (pss_cons (ps_while PassesOwn.never (PW.pt (pw_and (pt_cmpR op_less (pe_op op_subI (pv 4) (pv 1)) (pv 3) (nomark _)) (pw_and1 (pt_val (pe_cal c_has_sign hr (pa_cons (pv 0) (pa_cons (pv 4) (pa_cons (pv 2) pa_nil)))))))) (pss_one (ps_aug (i := 4) sc_end_of.nd rfl (by first | exact .inl rfl | exact .inr rfl) pe_int ip_add)))
      (pss_one (ps_ret (pv 4))))), to_spP hn (fun ds hp => ?_) h⟩)
  obtain ⟨x, i, y, n, rfl, hx, hi, hn2⟩ := hp
  change WS K _ [.dat (.str x), .dat (.int (i : Int)), .dat (.str y), .dat (.int (n : Int)), .no] [] _
  refine ws_seq (ws_set (w_var rfl ?_))
  refine ws_seq (ws_while (fun m as' M' => M' = [] ∧ ∃ j : Nat, as' = [.dat (.str x), .dat (.int (i : Int)), .dat (.str y), .dat (.int (n : Int)), .dat (.int ((i + j : Nat) : Int))] ∧ j + m = n ∧ endOf x.cps.toList (fun c => decide (c ∈ y.cps.toList)) m (i + j) = endOf x.cps.toList (fun c => decide (c ∈ y.cps.toList)) n i) n ⟨rfl, 0, rfl, by omega, rfl⟩ ?_)
  rintro m as' M' ⟨rfl, j, rfl, hj, he⟩
  have fin : endOf x.cps.toList (fun c => decide (c ∈ y.cps.toList)) n i = i + j → WS K (tRet (tVar 4)) [.dat (.str x), .dat (.int (i : Int)), .dat (.str y), .dat (.int (n : Int)), .dat (.int ((i + j : Nat) : Int))] [] ⟨fun _ _ => PyData.none = fEnd [.str x, .int (i : Int), .str y, .int (n : Int)], fun d _ => d = fEnd [.str x, .int (i : Int), .str y, .int (n : Int)], fun _ _ => False, fun _ _ => False⟩ := fun e => by
    refine ws_ret (w_var rfl ?_)
    show PyData.int _ = .int ((endOf x.cps.toList (fun c => decide (c ∈ y.cps.toList)) n i : Nat) : Int)
    rw [e]
  refine wt_and (wt_test (w_op ao_less (w_op ao_sub (w_var rfl (w_var rfl (fii trivial (w_var rfl (flti (exb ?_)))))))))
  refine iteB (fun h => ?_) (fun h => ?_)
  · have h := of_decide_eq_true h
    refine wt_B (w_has (w_var rfl) (w_var rfl) (w_var rfl) hx (fun _ => rfl) (exb ?_))
    cases m with
    | zero => omega
    | succ m =>
      have he : (if sg x.cps.toList (fun c => decide (c ∈ y.cps.toList)) (i + j) then endOf x.cps.toList (fun c => decide (c ∈ y.cps.toList)) m (i + j + 1) else i + j) = endOf x.cps.toList (fun c => decide (c ∈ y.cps.toList)) n i := he
      refine iteB (fun h2 => ?_) (fun h2 => ?_)
      · rw [if_pos h2] at he
        refine ws_aug rfl (w_int ⟨1, rfl, m, by omega, rfl, j + 1, ?_, by omega, he⟩)
        show [Sv.dat (.str x), .dat (.int (i : Int)), .dat (.str y), .dat (.int (n : Int)), .dat (.int (((i + j : Nat) : Int) + 1))] = _
        rw [show (((i + j : Nat) : Int) + 1) = ((i + (j + 1) : Nat) : Int) by omega]
      · rw [h2] at he
        exact fin he.symm
  · have h := of_decide_eq_false h
    have e0 : m = 0 := by omega
    subst e0
    exact iteN rfl (fin he.symm)
include T in
theorem ok_begins_with (F : Dfn K mg "begins_with" s_begins_with ["form", "word"]) : Cal P w K mg base 1 "begins_with" ["form", "word"] (spP preBW (fun ds d => ∀ f, V f → ds = [fD f, .str "text"] → d = .bool (isTxtF f)) K) := by
  have hn : ∀ ds, preBW ds → ds.length = 2 := by rintro ds ⟨f, _, _, rfl⟩; rfl
  refine F.ok sc_begins_with (fun vs H Q E h => spP_len hn h) (fun f cdv A outer s H vs Q E hr h => ⟨_, (pss_one (ps_ret (pe_and (pe_callB (k_isi (K := K) rfl) (by rfl) T.n_isinstance (by decide +kernel) (pa_cons (pv 0) (pa_cons (pe_bltn (v := .ty "tuple") (u := .type "tuple") (by rfl) T.n_tuple (by decide +kernel) rfl) pa_nil))) (pe_and (pe_cmpR op_gtI (pe_callB (k_len (K := K) rfl) (by rfl) T.n_len (by decide +kernel) (pa_cons (pv 0) pa_nil)) pe_int (nomark _)) (pe_one (pe_cmpR (k_eqW (K := K) rfl hr) (pe_ix (k_ix (K := K) rfl) (pv 0) pe_int (fun _ _ => rfl)) (pv 1) (nomark _))))))), to_spP hn (fun ds hp => ?_) h⟩)
  obtain ⟨f0, hv, ha, rfl⟩ := hp
  have fin : ∀ b, (∀ f, V f → fD f0 = fD f → b = isTxtF f) → ∀ f, V f → [fD f0, PyData.str "text"] = [fD f, .str "text"] → PyData.bool b = .bool (isTxtF f) := fun b e f hf h => by
    injection h with h
    rw [e f hf h]
  have same : ∀ f, V f → ∀ g, V g → fD f = fD g → isTxtF f = isTxtF g := by
    intro f hf g hg e
    cases f <;> cases g <;> first | rfl | (exfalso; cases e; done) | skip
    · rename_i s l
      exfalso
      cases l with
      | nil => cases e
      | cons a r =>
        have e : PyData.tuple [.str "text", .str (strT s)] = .tuple (fD a :: fDs r) := e
        injection e with e
        injection e with e1 e2
        have h1 := hg.1 a rfl
        rw [← text_eqv a, ← e1, str_eqv] at h1
        simp at h1
    · rename_i l s
      exfalso
      cases l with
      | nil => cases e
      | cons a r =>
        have e : PyData.tuple (fD a :: fDs r) = PyData.tuple [.str "text", .str (strT s)] := e
        injection e with e
        injection e with e1 e2
        have h1 := hf.1 a rfl
        rw [← text_eqv a, e1, str_eqv] at h1
        simp at h1
  have fin : ∀ b, b = isTxtF f0 → ∀ f, V f → [fD f0, PyData.str "text"] = [fD f, .str "text"] → PyData.bool b = .bool (isTxtF f) := fun b e f hf h => by
    injection h with h
    rw [e, same f0 hv f hf h]
  change WS K _ [.dat (fD f0), .dat (.str "text")] [] _
  refine ws_ret (w_andV (w_isi (by decide) (w_var rfl (exb ?_))))
  cases f0 with
  | num i => exact iteN rfl (fin _ rfl)
  | name s => exact iteN rfl (fin _ rfl)
  | txt s =>
    refine iteK rfl (w_andV (w_op ao_gt (w_cb ac_len (wa_cons (w_var rfl (wa_nil (m1 (flent (w_int (fii trivial (exb (iteK rfl ?_))))))))))))
    refine w_op ao_eqW (w_op ao_ix (w_var rfl (w_int (fixt rfl (w_var rfl ?_)))))
    refine feqW (ok_str text_ok) (ok_str text_ok) (by simp [PyData.depth]) ?_
    rw [str_eqv, decide_eq_true rfl]
    exact fin _ rfl
  | tup l =>
    refine iteK rfl (w_andV (w_op ao_gt (w_cb ac_len (wa_cons (w_var rfl (wa_nil (m1 (flent (w_int (fii trivial (exb ?_)))))))))))
    cases l with
    | nil => exact iteN rfl (fin _ rfl)
    | cons a r =>
      refine iteK (decide_eq_true (by show (0 : Int) < ((fD a :: fDs r).length : Int); simp)) ?_
      refine w_op ao_eqW (w_op ao_ix (w_var rfl (w_int (fixt (a := fD a) (show atI (fD a :: fDs r) ((0 : Nat) : Int) = some (fD a) from atI_nat rfl) (w_var rfl (feq_text ha.1 ?_))))))
      rw [hv.1 a rfl]
      exact fin _ rfl
end
end K6

set_option Elab.async false
set_option linter.all false
set_option maxRecDepth 100000
set_option maxHeartbeats 4000000
namespace K6
open PySem PySem.Spec PyProof.Rows L2 Ab TL NumText
/-- one step of the reading -/
local macro_rules | `(tactic| walk_at "w") => `(tactic| first
  | (with_reducible refine ws_seq ?_) | (with_reducible refine ws_next ?_) | (with_reducible refine ws_set ?_) | (with_reducible refine ws_par ?_) | (with_reducible refine ws_ret ?_) | (with_reducible refine ws_if ?_) | (with_reducible refine ws_drop ?_)
  | (refine w_var rfl ?_) | (with_reducible refine w_int ?_) | (with_reducible refine w_str ?_) | (with_reducible refine w_bl ?_) | (with_reducible refine w_non ?_)
  | (with_reducible refine wa_nil ?_) | (with_reducible refine wa_cons ?_) | (with_reducible refine w_tup ?_) | (with_reducible refine w_lst ?_)
  | (with_reducible refine wt_test ?_) | (with_reducible refine wt_B ?_) | (with_reducible refine wt_not ?_) | (with_reducible refine wt_and ?_) | (with_reducible refine wt_or ?_)
  | (with_reducible refine w_andV ?_) | (with_reducible refine w_orV ?_) | (with_reducible refine w_notV ?_) | (with_reducible refine w_ite ?_)
  | (with_reducible refine w_op ao_eqW ?_) | (with_reducible refine w_op ao_neW ?_) | (with_reducible refine w_op ao_eq ?_) | (with_reducible refine w_op ao_ne ?_) | (with_reducible refine w_op ao_isB ?_) | (with_reducible refine w_op ao_notB ?_) | (with_reducible refine w_op ao_ix ?_) | (with_reducible refine w_op ao_plus ?_) | (with_reducible refine w_op ao_less ?_) | (with_reducible refine w_op ao_le ?_) | (with_reducible refine w_op ao_gt ?_) | (with_reducible refine w_op ao_ge ?_)
  | (with_reducible refine w_op ao_sub ?_) | (with_reducible refine w_op ao_mul ?_) | (with_reducible refine w_op ao_mod ?_) | (with_reducible refine w_op ao_div ?_) | (with_reducible refine w_op ao_pow ?_) | (with_reducible refine w_op ao_isNo ?_) | (with_reducible refine w_op ao_inSg ?_) | (with_reducible refine w_op ao_inW ?_) | (with_reducible refine w_op ao_ninW ?_) | (with_reducible refine w_op ao_inSeq ?_) | (with_reducible refine w_op ao_ninSeq ?_)
  | (with_reducible refine w_cb ac_len ?_) | (with_reducible refine w_cb ac_tupleOf ?_) | (with_reducible refine w_cb ac_intOf ?_) | (with_reducible refine w_cb ac_abs ?_) | (with_reducible refine w_cb ac_ord ?_) | (with_reducible refine w_cb ac_all ?_) | (with_reducible refine w_cb ac_any ?_)
  | (with_reducible refine w_isi (by decide) ?_) | (with_reducible refine w_isi2 (by decide) (by decide) ?_) | (with_reducible refine w_sl ?_) | (with_reducible refine wo_none ?_) | (with_reducible refine wo_some ?_)
  | (with_reducible refine w_chain ao_le ao_le ?_) | (with_reducible refine w_chain ao_leS ao_leS ?_) | (with_reducible refine w_call ?_))
local macro_rules | `(tactic| walk_at "v") => `(tactic| first
  | (with_reducible refine m0 ?_) | (with_reducible refine m1 ?_) | (with_reducible refine m2 ?_) | (with_reducible refine m3 ?_) | (with_reducible refine m5 ?_)
  | (with_reducible refine exb ?_) | (with_reducible refine exi ?_) | (with_reducible refine exl ?_) | (with_reducible refine exql ?_) | (with_reducible refine exqt ?_)
  | (refine fixt rfl ?_) | (refine fixl rfl ?_) | (refine fslt rfl ?_) | (refine fsll rfl ?_)
  | (with_reducible refine flent ?_; dsimp only [List.length_cons, List.length_nil]) | (with_reducible refine flenl ?_; dsimp only [List.length_cons, List.length_nil])
  | (with_reducible refine fii (by first | trivial | decide) ?_) | (with_reducible refine fpi ?_) | (with_reducible refine flti ?_) | (with_reducible refine fint ?_) | (with_reducible refine ftupl ?_) | (with_reducible refine ftupt ?_)
  | (with_reducible refine feqW (by decide +kernel) (by decide +kernel) (by decide +kernel) ?_) | (with_reducible refine fneW (by decide +kernel) (by decide +kernel) (by decide +kernel) ?_)
  | (with_reducible refine feq (by decide +kernel) (by decide +kernel) ?_) | (with_reducible refine fne (by decide +kernel) (by decide +kernel) ?_)
  | (with_reducible refine iteK rfl ?_) | (with_reducible refine iteN rfl ?_) | (with_reducible refine iteK (by decide +kernel) ?_) | (with_reducible refine iteN (by decide +kernel) ?_))
local macro_rules | `(tactic| walk_at "x") => `(tactic| first | (with_reducible refine wx_seq ?_) | (with_reducible refine wx_if ?_) | (with_reducible refine wx_next ?_) | (with_reducible refine wx_ret ?_) | (with_reducible refine wr_tup ?_) | (with_reducible refine war_cons ?_) | (with_reducible refine war_nil ?_))
local macro_rules | `(tactic| walk_at "ww") => `(tactic| repeat (first | walk_at "w" | walk_at "v" | walk_at "x"))

theorem strT_inj {a b : Cs} (h : strT a = strT b) : a = b := by rw [← strT_l a, h, strT_l]
mutual
theorem fD_inj : ∀ f g, V f → V g → fD f = fD g → f = g
  | .num i, g, _, hg, e => by
    cases g <;> first | (exfalso; cases e; done) | skip
    have e : PyData.int i = .int _ := e
    injection e with e; rw [e]
  | .name s, g, _, hg, e => by
    cases g <;> first | (exfalso; cases e; done) | skip
    have e : PyData.str (strT s) = .str (strT _) := e
    injection e with e; rw [strT_inj e]
  | .txt s, g, _, hg, e => by
    cases g with
    | num i => cases e
    | name s => cases e
    | txt s2 =>
      have e : PyData.tuple [.str "text", .str (strT s)] = .tuple [.str "text", .str (strT s2)] := e
      injection e with e; injection e with _ e; injection e with e _; injection e with e; rw [strT_inj e]
    | tup l =>
      cases l with
      | nil => cases e
      | cons a r =>
        have e : PyData.tuple [.str "text", .str (strT s)] = .tuple (fD a :: fDs r) := e
        injection e with e
        injection e with e1 e2
        have h1 := hg.1 a rfl
        rw [← text_eqv a, ← e1, str_eqv] at h1
        simp at h1
  | .tup l, g, hf, hg, e => by
    cases g with
    | num i => cases e
    | name s => cases e
    | txt s =>
      cases l with
      | nil => cases e
      | cons a r =>
        have e : PyData.tuple (fD a :: fDs r) = PyData.tuple [.str "text", .str (strT s)] := e
        injection e with e
        injection e with e1 e2
        have h1 := hf.1 a rfl
        rw [← text_eqv a, e1, str_eqv] at h1
        simp at h1
    | tup m =>
      have e : PyData.tuple (fDs l) = .tuple (fDs m) := e
      injection e with e
      rw [fDs_inj l m hf.2 hg.2 e]
theorem fDs_inj : ∀ l m, VL l → VL m → fDs l = fDs m → l = m
  | [], m, _, _, e => by
    cases m with
    | nil => rfl
    | cons b s => cases e
  | a :: r, m, hl, hm, e => by
    cases m with
    | nil => cases e
    | cons b s =>
      have e : fD a :: fDs r = fD b :: fDs s := e
      injection e with e1 e2
      rw [fD_inj a b hl.1 hm.1 e1, fDs_inj r s hl.2 hm.2 e2]
end
theorem joinL_spell : ∀ l : List Fm, joinL [32] (l.map spell) = spellL l
  | [] => rfl
  | [f] => rfl
  | f :: g :: r => by
    show spell f ++ ([32] ++ joinL [32] ((g :: r).map spell)) = spell f ++ 32 :: spellL (g :: r)
    rw [joinL_spell (g :: r)]; rfl
theorem join_spell (l : List Fm) : Txt.join " " (l.map fun g => strT (spell g)) = strT (spellL l) := by
  apply TL.ext_tl
  rw [TL.join_eq, TL.tl_join, show tl (" " : Str) = [32] by decide +kernel, List.map_map]
  show joinL [32] (l.map fun g => (strT (spell g)).cps.toList) = (strT (spellL l)).cps.toList
  rw [strT_l, ← joinL_spell]
  rw [List.map_congr_left fun g _ => strT_l _]
theorem sum_spell : ∀ l : List Fm, ((l.map fun g => strT (spell g)).map (·.length)).sum ≤ (spellL l).length
  | [] => Nat.le_refl _
  | [f] => by
    show (strT (spell f)).length + 0 ≤ (spell f).length
    rw [strT_len]; omega
  | f :: g :: r => by
    have ih := sum_spell (g :: r)
    show (strT (spell f)).length + (((g :: r).map fun g => strT (spell g)).map (·.length)).sum ≤ (spell f ++ 32 :: spellL (g :: r)).length
    rw [strT_len, List.length_append, List.length_cons]
    omega
theorem cnt_spell : ∀ l : List Fm, VL l → l.length ≤ (spellL l).length
  | l, h => Nat.le_trans (Nat.le_trans (by rw [← List.length_map (f := ft), ← fts_map]; exact ks_le (fts l)) (fts_sz l h)) (Nat.le_refl _)
def preSp (ds : List PyData) : Prop := ∃ f, V f ∧ A8 f ∧ (spell f).length ≤ 20000 ∧ ds = [fD f, .list ((kid f).map fun g => .str (strT (spell g)))]
def postSp (ds : List PyData) (d : PyData) : Prop := ∀ f y, V f → ds = [fD f, y] → d = .str (strT (spell f))
def postFI (ds : List PyData) (d : PyData) : Prop := ∀ f, V f → ds = [fD f] → d = .tuple ((kid f).map fD)
def prePF (ds : List PyData) : Prop := ∃ f, GF f ∧ ds = [fD f]
def postPF (ds : List PyData) (d : PyData) : Prop := ∀ f, V f → ds = [fD f] → d = .str (strT (spell f))
abbrev postQ (ds : List PyData) (d : PyData) : Prop := ∀ f, V f → ds = [fD f, .str "text"] → d = .bool (isTxtF f)
theorem cat3 {a b : Str} {x y z : Cs} {P : PyData → Prop} (ha : a.cps.toList = x) (hb : b.cps.toList = z) (hl : x.length + y.length + z.length ≤ 100000) (h : P (.str (strT (x ++ y ++ z)))) : fPlus (.str a) (.str (strT y)) fun d => fPlus d (.str b) P := by
  refine fps (by rw [len_l, ha, strT_len]; omega) (fps ?_ ?_)
  · have e1 : (a ++ strT y).length = x.length + y.length := by rw [TL.len_tl, TL.tl_append, List.length_append]; show a.cps.toList.length + (strT y).cps.toList.length = _; rw [ha, strT_l]
    have e2 : b.length = z.length := by rw [len_l, hb]
    omega
  · have : a ++ strT y ++ b = strT (x ++ y ++ z) := by
      apply TL.ext_tl
      rw [TL.tl_append, TL.tl_append]
      show a.cps.toList ++ (strT y).cps.toList ++ b.cps.toList = (strT (x ++ y ++ z)).cps.toList
      rw [ha, hb, strT_l, strT_l]
    rw [this]; exact h
theorem q34 : ("\"" : Str).cps.toList = [34] := by decide +kernel
theorem q40 : ("(" : Str).cps.toList = [40] := by decide +kernel
theorem q41 : (")" : Str).cps.toList = [41] := by decide +kernel
section
variable {P : Program} {w : World} {K : PySem.W.Frag} {mg : Str → Option Value} {base : Heap} (T : Txt K mg)
include T in
theorem ok_fold {O : PyData → List PyData → Prop} {B : PyData → List PyData → PyData → Prop} {fO fB : Addr} {pO pB : List Str} {k : Nat} {preO preB : List PyData → Prop} {postO postB : List PyData → PyData → Prop} (F : Dfn K mg "fold" s_fold ["root", "opened", "made"])
    (v_opened : FnV P w K mg base k fO pO (spP preO postO K)) (v_made : FnV P w K mg base k fB pB (spP preB postB K)) (hO : ∀ x ps, O x ps → preO [x] ∧ ∀ d, postO [x] d → d = .list ps ∨ d = .tuple ps) (hB : ∀ x vs y, B x vs y → preB [x, .list vs] ∧ ∀ d, postB [x, .list vs] d → d = y) :
    Cal P w K mg base (k + 1) "fold" ["root", "opened", "made"] (spFold O B fO fB K) := by
  have hn : ∀ ss, preFold O B fO fB ss → ss.length = 3 := by rintro ss ⟨t, rfl, _⟩; rfl
  refine F.ok sc_fold (fun vs H Q E h => spS_len hn h) (fun f cdv A outer s H vs Q E hr h => ⟨_, (pss_cons (ps_set (i := 3) sc_fold.nd rfl (by first | exact .inl rfl | exact .inr rfl) (pe_lst (pa_cons (pe_tup (pa_cons (pv 0) (pa_cons pe_non pa_nil))) pa_nil)))
      (pss_cons (ps_set (i := 4) sc_fold.nd rfl (by first | exact .inl rfl | exact .inr rfl) (pe_lst pa_nil))
      (pss_cons (ps_while PassesOwn.never (k_tru (K := K) rfl (pv 3)) (pss_cons (ps_asg (pe_bm0 PySem.F.plainAttrs_list PySem.F.slot_list_pop PySem.F.type_list_pop mt_pop (pv 3)) (k_tup (K := K) (n := 2) rfl rfl (pgs_cons (pg_name (i := 5) sc_fold.nd rfl (by first | exact .inl rfl | exact .inr rfl)) (pgs_cons (pg_name (i := 6) sc_fold.nd rfl (by first | exact .inl rfl | exact .inr rfl)) pgs_nil))))
      (pss_one (ps_if (pt_cmpR op_isNo (pv 6) pe_non (nomark _)) (pss_cons (ps_set (i := 7) sc_fold.nd rfl (by first | exact .inl rfl | exact .inr rfl) (pe_calL (i := 1) v_opened hr rfl (by first | exact .inl rfl | exact .inr (.inl rfl) | exact .inr (.inr rfl)) (pa_cons (pv 5) pa_nil)))
      (pss_cons (ps_expr (pe_bm PySem.F.plainAttrs_list PySem.F.slot_list_append PySem.F.type_list_append mt_append (pv 3) (pa_cons (pe_tup (pa_cons (pv 5) (pa_cons (pe_callB (k_len (K := K) rfl) (by rfl) T.n_len (by decide +kernel) (pa_cons (pv 7) pa_nil)) pa_nil))) pa_nil)))
      (pss_one (ps_for PassesOwn.never rfl (k_rev (K := K) rfl (by rfl) T.n_reversed (pv 7)) (pg_name (i := 8) sc_fold.nd rfl (by first | exact .inl rfl | exact .inr rfl)) (pss_one (ps_expr (pe_bm PySem.F.plainAttrs_list PySem.F.slot_list_append PySem.F.type_list_append mt_append (pv 3) (pa_cons (pe_tup (pa_cons (pv 8) (pa_cons pe_non pa_nil))) pa_nil)))))))) (pss_cons (ps_set (i := 9) sc_fold.nd rfl (by first | exact .inl rfl | exact .inr rfl) (pe_op op_subI (pe_callB (k_len (K := K) rfl) (by rfl) T.n_len (by decide +kernel) (pa_cons (pv 4) pa_nil)) (pv 6)))
      (pss_cons (ps_set (i := 10) sc_fold.nd rfl (by first | exact .inl rfl | exact .inr rfl) (pe_slice (k_sl (K := K) rfl) (pv 4) (po_some (pv 9)) po_none))
      (pss_cons (ps_delS (pv 4) (po_some (pv 9)))
      (pss_one (ps_expr (pe_bm PySem.F.plainAttrs_list PySem.F.slot_list_append PySem.F.type_list_append mt_append (pv 4) (pa_cons (pe_calL (i := 2) v_made hr rfl (by first | exact .inl rfl | exact .inr (.inl rfl) | exact .inr (.inr rfl)) (pa_cons (pv 5) (pa_cons (pv 10) pa_nil))) pa_nil)))))))))))
      (pss_one (ps_ret (pe_ix (k_ix (K := K) rfl) (pv 4) pe_int (fun _ _ => rfl))))))), to_spS hn (fun ss hp => ?_) h⟩)
  obtain ⟨t0, rfl, ht0, hz0⟩ := hp
  have fin : ∀ d, d = t0.y → postFold O B fO fB [.dat t0.x, .own fO, .own fB] d := fun d e => ⟨t0, rfl, ht0, e⟩
  change WS K _ [.dat t0.x, .own fO, .own fB, .no, .no, .no, .no, .no, .no, .no, .no] [] _
  refine ws_seq (ws_new (wa_cons (w_tup (wa_cons (w_var rfl (wa_cons (w_non (wa_nil (m2 ⟨by simp, wa_nil (m1 ⟨by simp, fun p _ => ?_⟩)⟩)))))))))
  refine ws_seq (ws_new (wa_nil (m0 ⟨by simp, fun q hq => ?_⟩)))
  have hqp : q ≠ p := fun e => hq (p, true, [PyData.tuple [t0.x, .none]]) (by simp) e.symm
  change WS K _ [.dat t0.x, .own fO, .own fB, .own p, .own q, .no, .no, .no, .no, .no, .no] [(q, true, []), (p, true, [.tuple [t0.x, .none]])] _
  refine ws_seq (ws_while (fun m as' M' => ∃ (js : List Job) (ds : List PyData) (x5 x6 x7 x8 x9 x10 : Sv), as' = [.dat t0.x, .own fO, .own fB, .own p, .own q, x5, x6, x7, x8, x9, x10] ∧ M' = [(q, true, ds), (p, true, (js.map Job.d).reverse)] ∧ Good O B js ds t0.y ∧ m = (js.map Job.m).sum ∧ ds.length + m ≤ 2 * t0.sz)
    (2 * t0.sz) ⟨[.op t0], [], .no, .no, .no, .no, .no, .no, rfl, rfl, .op ht0 .nil, by simp [Job.m], by simp⟩ ?_)
  rintro m as' M' ⟨js, ds, x5, x6, x7, x8, x9, x10, rfl, rfl, hg, rfl, hb⟩
  refine wt_own (p := p) rfl (List.mem_cons_of_mem _ List.mem_cons_self) ?_
  cases js with
  | nil =>
    refine iteN rfl ?_
    have e := good_end hg
    subst e
    exact ws_ret (w_ixown rfl (w_int ⟨true, [t0.y], by simp, fixl rfl (fin _ rfl)⟩))
  | cons j js =>
    have er : ((j :: js).map Job.d).reverse = (js.map Job.d).reverse ++ [j.d] := by simp
    have hne : (((j :: js).map Job.d).reverse).isEmpty = false := by rw [er]; simp
    rw [hne]
    refine iteK rfl ?_
    have hjs := len_m js
    have hjl := len_m (j :: js)
    rw [List.map_cons, List.sum_cons, List.length_cons] at hjl
    rw [List.map_cons, List.sum_cons] at hb
    have hl : (((j :: js).map Job.d).reverse)[(((j :: js).map Job.d).reverse).length - 1]? = some j.d := by rw [er]; simp
    have hd : (((j :: js).map Job.d).reverse).dropLast = (js.map Job.d).reverse := by rw [er, List.dropLast_concat]
    cases j with
    | op t =>
      refine ws_seq (ws_popG ga_pair rfl (p := p) (fl := true) (by simp) hl ⟨t.x, .none, .inl rfl, ?_⟩)
      rw [ms_b hqp, hd]
      change WS K _ [.dat t0.x, .own fO, .own fB, .own p, .own q, .dat t.x, .dat .none, x7, x8, x9, x10] [(q, true, ds), (p, true, (js.map Job.d).reverse)] _
      obtain ⟨hok, hg2⟩ := good_open hg
      obtain ⟨o1, o2, o3⟩ := FT.ok_at hok
      obtain ⟨hpre, hpost⟩ := hO _ _ o1
      have hjm : Job.m (.op t) = 2 * t.sz := rfl
      have hsz := sz_ks t
      have hkl := ks_le t.ks
      refine ws_if (wt_test (w_op ao_isNo (w_var rfl (w_non (isn0 (exb (iteK rfl ?_)))))))
      refine ws_seq (ws_set (w_callL rfl (w_call (wa_cons (w_var rfl (wa_nil (m1 ⟨hpre, fun d hd2 => ?_⟩)))))))
      have hps := hpost d hd2
      change WS K _ [.dat t0.x, .own fO, .own fB, .own p, .own q, .dat t.x, .dat .none, .dat d, x8, x9, x10] [(q, true, ds), (p, true, (js.map Job.d).reverse)] _
      refine ws_seq (ws_app (p := p) (fl := true) rfl (List.mem_cons_of_mem _ List.mem_cons_self) (w_tup (wa_cons (w_var rfl (wa_cons (w_cb ac_len (wa_cons (w_var rfl (wa_nil (m1 (len_any hps (wa_nil (m2 ⟨by simp, true, _, List.mem_cons_of_mem _ List.mem_cons_self, by rw [List.length_reverse, List.length_map]; omega, ?_⟩)))))))))))))
      rw [ms_b hqp]
      refine ws_for ga_name (wi_rev (w_var rfl ⟨t.ks.map FT.x, hps, fun i as' M' => ∃ x8 : Sv, as' = [.dat t0.x, .own fO, .own fB, .own p, .own q, .dat t.x, .dat .none, .dat d, x8, x9, x10] ∧ M' = [(q, true, ds), (p, true, (js.map Job.d).reverse ++ [Job.d (.cl t)] ++ ((t.ks.map FT.x).reverse.take i).map fun x => PyData.tuple [x, .none])], ⟨x8, rfl, ?_⟩, ?_, ?_⟩))
      · simp [Job.d]
      · rintro i x as' M' hx ⟨x8, rfl, rfl⟩
        have hi := (List.getElem?_eq_some_iff.mp hx).1
        rw [List.length_reverse, List.length_map] at hi
        change WS K _ [.dat t0.x, .own fO, .own fB, .own p, .own q, .dat t.x, .dat .none, .dat d, .dat x, x9, x10] _ _
        refine ws_app (p := p) (fl := true) rfl (List.mem_cons_of_mem _ List.mem_cons_self) (w_tup (wa_cons (w_var rfl (wa_cons (w_non (wa_nil (m2 ⟨by simp, true, _, List.mem_cons_of_mem _ List.mem_cons_self, ?_, ?_⟩)))))))
        · rw [List.length_append, List.length_append, List.length_map, List.length_take, List.length_reverse, List.length_map]
          simp
          omega
        · rw [ms_b hqp]
          refine ⟨_, rfl, ?_⟩
          rw [List.take_add_one, hx, List.map_append, List.append_assoc]
          rfl
      · rintro as' M' ⟨x8, rfl, rfl⟩
        refine ⟨((t.ks.map Job.op ++ .cl t :: js).map Job.m).sum, ?_, t.ks.map Job.op ++ .cl t :: js, ds, _, _, _, _, _, _, rfl, ?_, hg2, rfl, ?_⟩
        · rw [List.map_append, List.sum_append, szs_sum, List.map_cons, List.sum_cons, List.map_cons, List.sum_cons]
          show 2 * FT.szs t.ks + (1 + _) < 2 * t.sz + _
          omega
        · rw [List.take_length, List.map_append, List.reverse_append, op_d, List.map_cons, List.reverse_cons, List.map_reverse]
        · rw [List.map_append, List.sum_append, szs_sum, List.map_cons, List.sum_cons]
          show ds.length + (2 * FT.szs t.ks + (1 + _)) ≤ _
          omega
    | cl t =>
      refine ws_seq (ws_popG ga_pair rfl (p := p) (fl := true) (by simp) hl ⟨t.x, .int (t.ks.length : Int), .inl rfl, ?_⟩)
      rw [ms_b hqp, hd]
      change WS K _ [.dat t0.x, .own fO, .own fB, .own p, .own q, .dat t.x, .dat (.int (t.ks.length : Int)), x7, x8, x9, x10] [(q, true, ds), (p, true, (js.map Job.d).reverse)] _
      obtain ⟨d0, rfl, hok, hg2⟩ := good_close hg
      obtain ⟨o1, o2, o3⟩ := FT.ok_at hok
      obtain ⟨hpre, hpost⟩ := hB _ _ _ o2
      have hjm : Job.m (.cl t) = 1 := rfl
      rw [List.length_append] at hb
      refine ws_if (wt_test (w_op ao_isNo (w_var rfl (w_non (isni (exb (iteN rfl ?_)))))))
      refine ws_seq (ws_set (w_op ao_sub (w_lenown (p := q) (fl := true) rfl List.mem_cons_self (w_var rfl (fii trivial ?_)))))
      have es : (((d0 ++ t.ks.map FT.y).length : Nat) : Int) - (t.ks.length : Int) = (d0.length : Int) := by
        rw [List.length_append, List.length_map]; omega
      rw [es]
      change WS K _ [.dat t0.x, .own fO, .own fB, .own p, .own q, .dat t.x, .dat (.int (t.ks.length : Int)), x7, x8, .dat (.int (d0.length : Int)), x10] _ _
      refine ws_seq (ws_set (w_slown (p := q) rfl (wo_some (w_var rfl (exi (wo_none ⟨true, _, List.mem_cons_self, ?_⟩))))))
      rw [cut_tail]
      change WS K _ [.dat t0.x, .own fO, .own fB, .own p, .own q, .dat t.x, .dat (.int (t.ks.length : Int)), x7, x8, .dat (.int (d0.length : Int)), .dat (.list (t.ks.map FT.y))] _ _
      refine ws_seq (ws_delown (p := q) rfl (wo_some (w_var rfl (exi ⟨true, _, d0.length, rfl, List.mem_cons_self, by simp, ?_⟩))))
      rw [ms_a hqp, List.take_left]
      refine ws_app (p := q) (fl := true) rfl List.mem_cons_self (w_callL rfl (w_call (wa_cons (w_var rfl (wa_cons (w_var rfl (wa_nil (m2 ⟨hpre, fun d hd2 => ⟨true, d0, List.mem_cons_self, by omega, ?_⟩⟩))))))))
      have e := hpost d hd2
      subst e
      rw [ms_a hqp]
      refine ⟨(js.map Job.m).sum, ?_, js, d0 ++ [t.y], _, _, _, _, _, _, rfl, rfl, hg2, rfl, ?_⟩
      · rw [List.map_cons, List.sum_cons]; omega
      · rw [List.length_append, List.length_singleton]; omega

include T in
theorem ok_forms_in (F : Dfn K mg "_forms_in" s_forms_in ["form"]) (q_begins_with : Cal P w K mg base 1 "begins_with" ["form", "word"] (spP preBW postQ K)) : Cal P w K mg base 2 "_forms_in" ["form"] (spP preF postFI K) := by
  have c_begins_with := q_begins_with
  have hn : ∀ ds, preF ds → ds.length = 1 := by rintro ds ⟨f, _, _, rfl⟩; rfl
  refine F.ok sc_forms_in (fun vs H Q E h => spP_len hn h) (fun f cdv A outer s H vs Q E hr h => ⟨_, (pss_cons (ps_if (PW.pt (pw_or (pt_not (pt_val (pe_callB (k_isi (K := K) rfl) (by rfl) T.n_isinstance (by decide +kernel) (pa_cons (pv 0) (pa_cons (pe_bltn (v := .ty "tuple") (u := .type "tuple") (by rfl) T.n_tuple (by decide +kernel) rfl) pa_nil))))) (pw_or1 (pt_val (pe_cal c_begins_with hr (pa_cons (pv 0) (pa_cons pe_str pa_nil))))))) (pss_one (ps_ret (pe_tup pa_nil))) pss_nil)
      (pss_one (ps_ret (pv 0)))), to_spP hn (fun ds hp => ?_) h⟩)
  obtain ⟨f0, hv, ha, rfl⟩ := hp
  have fin : ∀ d, d = .tuple ((kid f0).map fD) → postFI [fD f0] d := fun d e f hf h => by
    injection h with h
    rw [e, fD_inj f0 f hv hf h]
  change WS K _ [.dat (fD f0)] [] _
  have quo : WT K (tB (tCall (spP preBW postQ K) [] E0 (tCons (tVar 0) (tCons (tC (.str "text")) tNil)))) [.dat (fD f0)] [] fun b M' => b = isTxtF f0 ∧ M' = [] := by
    refine wt_B (w_call (wa_cons (w_var rfl (wa_cons (w_str (wa_nil (m2 ⟨⟨f0, hv, ha, rfl⟩, fun d hd => ?_⟩)))))))
    rw [hd f0 hv rfl]
    exact exb ⟨rfl, rfl⟩
  have empt : ∀ {B : AE}, (∀ d M, d = .tuple [] → B.rt d M) → WS K (tRet (tTup tNil)) [.dat (fD f0)] [] B := fun h => ws_ret (w_tup (wa_nil (m0 ⟨by simp, h _ _ rfl⟩)))
  refine ws_seq (ws_if (wt_or (wt_not (wt_B (w_isi (by decide) (w_var rfl (exb ?_)))))))
  cases f0 with
  | num i => exact iteK rfl (iteK rfl (empt fun d M e => fin d e))
  | name s => exact iteK rfl (iteK rfl (empt fun d M e => fin d e))
  | txt s =>
    refine iteN rfl ?_
    intro S H0 σ H k r Q q
    exact quo S H0 σ H k r Q fun b H' M' k' e' ⟨eb, em⟩ => q b H' M' k' e' (by subst eb em; exact iteK rfl (empt fun d M e => fin d e))
  | tup l =>
    refine iteN rfl ?_
    intro S H0 σ H k r Q q
    refine quo S H0 σ H k r Q fun b H' M' k' e' ⟨eb, em⟩ => q b H' M' k' e' ?_
    subst eb em
    refine iteN rfl (ws_next (ws_ret (w_var rfl (fin _ ?_))))
    show PyData.tuple (fDs l) = .tuple (l.map fD)
    rw [fDs_map]
include T in
theorem ok_spelling (F : Dfn K mg "_spelling" s_spelling ["form", "parts"]) (q_begins_with : Cal P w K mg base 1 "begins_with" ["form", "word"] (spP preBW postQ K)) : Cal P w K mg base 2 "_spelling" ["form", "parts"] (spP preSp postSp K) := by
  have c_begins_with := q_begins_with
  have hn : ∀ ds, preSp ds → ds.length = 2 := by rintro ds ⟨f, _, _, _, rfl⟩; rfl
  refine F.ok sc_spelling (fun vs H Q E h => spP_len hn h) (fun f cdv A outer s H vs Q E hr h => ⟨_, (pss_cons (ps_if (pt_val (pe_cal c_begins_with hr (pa_cons (pv 0) (pa_cons pe_str pa_nil)))) (pss_one (ps_ret (pe_op (k_plus (K := K) rfl) (pe_op (k_plus (K := K) rfl) pe_str (pe_ix (k_ix (K := K) rfl) (pv 0) pe_int (fun _ _ => rfl))) pe_str))) pss_nil)
      (pss_cons (ps_if (pt_val (pe_callB (k_isi (K := K) rfl) (by rfl) T.n_isinstance (by decide +kernel) (pa_cons (pv 0) (pa_cons (pe_bltn (v := .ty "tuple") (u := .type "tuple") (by rfl) T.n_tuple (by decide +kernel) rfl) pa_nil)))) (pss_one (ps_ret (pe_op (k_plus (K := K) rfl) (pe_op (k_plus (K := K) rfl) pe_str (k_join (K := K) rfl pe_str (pv 1))) pe_str))) pss_nil)
      (pss_one (ps_ret (pe_callTy call_strA (by rfl) T.n_str (by decide +kernel) (pa_cons (pv 0) pa_nil)))))), to_spP hn (fun ds hp => ?_) h⟩)
  obtain ⟨f0, hv, ha, hl, rfl⟩ := hp
  have fin : ∀ d, d = .str (strT (spell f0)) → postSp [fD f0, .list ((kid f0).map fun g => .str (strT (spell g)))] d := fun d e f y hf h => by
    injection h with h
    rw [e, fD_inj f0 f hv hf h]
  change WS K _ [.dat (fD f0), .dat (.list ((kid f0).map fun g => .str (strT (spell g))))] [] _
  refine ws_seq (ws_if (wt_B (w_call (wa_cons (w_var rfl (wa_cons (w_str (wa_nil (m2 ⟨⟨f0, hv, ha, rfl⟩, fun d hd => ?_⟩)))))))))
  rw [hd f0 hv rfl]
  refine exb ?_
  cases f0 with
  | num i =>
    refine iteN rfl (ws_next (ws_seq (ws_if (wt_B (w_isi (by decide) (w_var rfl (exb (iteN rfl (ws_next ?_)))))))))
    refine ws_ret (w_cb ac_strA (wa_cons (w_var rfl (wa_nil (m1 ⟨log_num hv, fin _ ?_⟩)))))
    rw [str_num]; rfl
  | name s =>
    refine iteN rfl (ws_next (ws_seq (ws_if (wt_B (w_isi (by decide) (w_var rfl (exb (iteN rfl (ws_next ?_)))))))))
    exact ws_ret (w_cb ac_strA (wa_cons (w_var rfl (wa_nil (m1 (fin _ rfl))))))
  | txt s =>
    refine iteK rfl (ws_ret (w_op ao_plus (w_op ao_plus (w_str (w_op ao_ix (w_var rfl (w_int (fixt (a := .str (strT s)) rfl ?_))))))))
    have hs : s.length ≤ 12 := hv
    refine fps (by rw [len_l, q34, strT_len]; simp; omega) (w_str ?_)
    have := cat3 (a := "\"") (b := "\"") (y := s) (P := fun d => postSp [fD (.txt s), .list ((kid (.txt s)).map fun g => .str (strT (spell g)))] d) q34 q34 (by simp; omega) (fin _ (by simp [spell]))
    exact this.2
  | tup l =>
    refine iteN rfl (ws_next (ws_seq (ws_if (wt_B (w_isi (by decide) (w_var rfl (exb (iteK rfl ?_))))))))
    have hl : (40 :: (spellL l ++ [41])).length ≤ 20000 := hl
    have hl : (spellL l).length + 2 ≤ 20000 := by simp at hl; omega
    have h1 := sum_spell l
    have h2 := cnt_spell l hv.2
    refine ws_ret (w_op ao_plus (w_op ao_plus (w_str (w_join (w_str ⟨_, rfl, w_var rfl ⟨l.map fun g => strT (spell g), by show PyData.list _ = .list _; rw [List.map_map]; rfl, ?_, ?_⟩⟩)))))
    · rw [List.length_map, len_l, show (" " : Str).cps.toList = [32] by decide +kernel]
      simp at h1 ⊢; omega
    · rw [join_spell]
      refine fps (by rw [len_l, q40, strT_len]; simp; omega) (w_str ?_)
      have := cat3 (a := "(") (b := ")") (y := spellL l) (P := fun d => postSp [fD (.tup l), .list ((kid (.tup l)).map fun g => .str (strT (spell g)))] d) q40 q41 (by simp; omega) (fin _ (by simp [spell]))
      exact this.2
include T in
theorem ok_print_form (F : Dfn K mg "print_form" s_print_form ["form"]) (FF : Dfn K mg "fold" s_fold ["root", "opened", "made"]) (q_forms_in : Cal P w K mg base 2 "_forms_in" ["form"] (spP preF postFI K)) (q_spelling : Cal P w K mg base 2 "_spelling" ["form", "parts"] (spP preSp postSp K)) :
    Cal P w K mg base 4 "print_form" ["form"] (spP prePF postPF K) := by
  obtain ⟨fO, r_forms_in, vO⟩ := q_forms_in.fn
  obtain ⟨fB, r_spelling, vB⟩ := q_spelling.fn
  have c_fold := ok_fold T (O := OF) (B := BF) FF vO vB (fun x ps ⟨f, hv, ha, ex, ep⟩ => ⟨⟨f, hv, ha, by rw [ex]⟩, fun d hd => .inr (by rw [hd f hv (by rw [ex]), ep])⟩)
    (fun x vs y ⟨f, hv, ha, hl, ex, ev, ey⟩ => ⟨⟨f, hv, ha, hl, by rw [ex, ev]⟩, fun d hd => by rw [hd f _ hv (by rw [ex]), ey]⟩)
  have hn : ∀ ds, prePF ds → ds.length = 1 := by rintro ds ⟨f, _, rfl⟩; rfl
  refine F.ok sc_print_form (fun vs H Q E h => spP_len hn h) (fun f cdv A outer s H vs Q E hr h => ⟨_, (pss_one (ps_ret (pe_cal c_fold hr (pa_cons (pv 0) (pa_cons (pe_gref (by rfl) r_forms_in) (pa_cons (pe_gref (by rfl) r_spelling) pa_nil)))))), to_spP hn (fun ds hp => ?_) h⟩)
  obtain ⟨f0, ⟨hv, ha, hd, hl⟩, rfl⟩ := hp
  change WS K _ [.dat (fD f0)] [] _
  refine ws_ret (w_callS (wa_cons (w_var rfl (wa_ref (wa_ref (wa_nil ⟨⟨ft f0, by rw [ft_x], ft_ok f0 hv ha hl, Nat.le_trans (ft_sz f0 hv) (by omega)⟩, fun d hd => ?_⟩))))))
  obtain ⟨t, e1, e2, e3⟩ := hd
  have ex : fD f0 = t.x := by injection e1 with e1; injection e1
  obtain ⟨_, ⟨g, gv, ga, gl, gx, _, gy⟩, _⟩ := FT.ok_at e2
  have eg : f0 = g := fD_inj f0 g hv gv (by rw [ex, gx])
  intro f hf h
  injection h with h
  have ef := fD_inj f0 f hv hf h
  subst ef eg
  rw [e3, gy]
end
end K6

set_option Elab.async false
set_option linter.all false
set_option maxRecDepth 100000
set_option maxHeartbeats 4000000
namespace K6
open PySem PySem.Spec PyProof.Rows L2 Ab TL NumText
/-- one step of the reading -/
local macro_rules | `(tactic| walk_at "w") => `(tactic| first
  | (with_reducible refine ws_seq ?_) | (with_reducible refine ws_next ?_) | (with_reducible refine ws_set ?_) | (with_reducible refine ws_par ?_) | (with_reducible refine ws_ret ?_) | (with_reducible refine ws_if ?_) | (with_reducible refine ws_drop ?_)
  | (refine w_var rfl ?_) | (with_reducible refine w_int ?_) | (with_reducible refine w_str ?_) | (with_reducible refine w_bl ?_) | (with_reducible refine w_non ?_)
  | (with_reducible refine wa_nil ?_) | (with_reducible refine wa_cons ?_) | (with_reducible refine w_tup ?_) | (with_reducible refine w_lst ?_)
  | (with_reducible refine wt_test ?_) | (with_reducible refine wt_B ?_) | (with_reducible refine wt_not ?_) | (with_reducible refine wt_and ?_) | (with_reducible refine wt_or ?_)
  | (with_reducible refine w_andV ?_) | (with_reducible refine w_orV ?_) | (with_reducible refine w_notV ?_) | (with_reducible refine w_ite ?_)
  | (with_reducible refine w_op ao_eqW ?_) | (with_reducible refine w_op ao_neW ?_) | (with_reducible refine w_op ao_eq ?_) | (with_reducible refine w_op ao_ne ?_) | (with_reducible refine w_op ao_isB ?_) | (with_reducible refine w_op ao_notB ?_) | (with_reducible refine w_op ao_ix ?_) | (with_reducible refine w_op ao_plus ?_) | (with_reducible refine w_op ao_less ?_) | (with_reducible refine w_op ao_le ?_) | (with_reducible refine w_op ao_gt ?_) | (with_reducible refine w_op ao_ge ?_)
  | (with_reducible refine w_op ao_sub ?_) | (with_reducible refine w_op ao_mul ?_) | (with_reducible refine w_op ao_mod ?_) | (with_reducible refine w_op ao_div ?_) | (with_reducible refine w_op ao_pow ?_) | (with_reducible refine w_op ao_isNo ?_) | (with_reducible refine w_op ao_inSg ?_) | (with_reducible refine w_op ao_inW ?_) | (with_reducible refine w_op ao_ninW ?_) | (with_reducible refine w_op ao_inSeq ?_) | (with_reducible refine w_op ao_ninSeq ?_)
  | (with_reducible refine w_cb ac_len ?_) | (with_reducible refine w_cb ac_tupleOf ?_) | (with_reducible refine w_cb ac_intOf ?_) | (with_reducible refine w_cb ac_abs ?_) | (with_reducible refine w_cb ac_ord ?_) | (with_reducible refine w_cb ac_all ?_) | (with_reducible refine w_cb ac_any ?_)
  | (with_reducible refine w_isi (by decide) ?_) | (with_reducible refine w_isi2 (by decide) (by decide) ?_) | (with_reducible refine w_sl ?_) | (with_reducible refine wo_none ?_) | (with_reducible refine wo_some ?_)
  | (with_reducible refine w_chain ao_le ao_le ?_) | (with_reducible refine w_chain ao_leS ao_leS ?_) | (with_reducible refine w_call ?_))
local macro_rules | `(tactic| walk_at "v") => `(tactic| first
  | (with_reducible refine m0 ?_) | (with_reducible refine m1 ?_) | (with_reducible refine m2 ?_) | (with_reducible refine m3 ?_) | (with_reducible refine m5 ?_)
  | (with_reducible refine exb ?_) | (with_reducible refine exi ?_) | (with_reducible refine exl ?_) | (with_reducible refine exql ?_) | (with_reducible refine exqt ?_)
  | (refine fixt rfl ?_) | (refine fixl rfl ?_) | (refine fslt rfl ?_) | (refine fsll rfl ?_)
  | (with_reducible refine flent ?_; dsimp only [List.length_cons, List.length_nil]) | (with_reducible refine flenl ?_; dsimp only [List.length_cons, List.length_nil])
  | (with_reducible refine fii (by first | trivial | decide) ?_) | (with_reducible refine fpi ?_) | (with_reducible refine flti ?_) | (with_reducible refine fint ?_) | (with_reducible refine ftupl ?_) | (with_reducible refine ftupt ?_)
  | (with_reducible refine feqW (by decide +kernel) (by decide +kernel) (by decide +kernel) ?_) | (with_reducible refine fneW (by decide +kernel) (by decide +kernel) (by decide +kernel) ?_)
  | (with_reducible refine feq (by decide +kernel) (by decide +kernel) ?_) | (with_reducible refine fne (by decide +kernel) (by decide +kernel) ?_)
  | (with_reducible refine iteK rfl ?_) | (with_reducible refine iteN rfl ?_) | (with_reducible refine iteK (by decide +kernel) ?_) | (with_reducible refine iteN (by decide +kernel) ?_))
local macro_rules | `(tactic| walk_at "x") => `(tactic| first | (with_reducible refine wx_seq ?_) | (with_reducible refine wx_if ?_) | (with_reducible refine wx_next ?_) | (with_reducible refine wx_ret ?_) | (with_reducible refine wr_tup ?_) | (with_reducible refine war_cons ?_) | (with_reducible refine war_nil ?_))
local macro_rules | `(tactic| walk_at "ww") => `(tactic| repeat (first | walk_at "w" | walk_at "v" | walk_at "x"))

/-! ### BadText -/
abbrev sInit : Stmt := inClass (topS 2) 0
theorem scInit : FnScope ["self", "place"] ["self", "place"] (defScope sInit) := ⟨rfl, rfl, rfl, by decide +kernel, rfl, by decide +kernel, by decide +kernel⟩
/-- what the top has written of BadText -/
structure BtT (K : PySem.W.Frag) (mg : Str → Option Value) (C fI : Addr) : Prop where
  gC : mg "BadText" = some (.ref C)
  oex : OexC K C
  xf : XfC K C
  no : PySem.W.findIn K (.ref C) "place" = some none
  iC : PySem.W.findIn K (.ref C) "__init__" = some (some (.ref fI))
  tI : PySem.W.typeIn K (.ref fI) = some (.type "function")
  te : PySem.W.exmOne K (.ref C) (.ref C) = some true
  fn : ∃ fd, Fun K "__init__" "BadText.__init__" sInit fI fd ∧ Binds K fd ["self", "place"] []
theorem ok_init {P : Program} {w : World} {K : PySem.W.Frag} {mg : Str → Option Value} {base : Heap} {C fI : Addr} (T : BtT K mg C fI) : ∃ fd, FnOk P w K mg base CX0 1 fI fd ["self", "place"] (spInE K C "place") ∧ Binds K fd ["self", "place"] [] := by
  obtain ⟨fd, F, b⟩ := T.fn
  refine ⟨fd, F.ok scInit (fun vs H Q E h => ?_) (fun cdv A outer s H vs Q E hr h => ?_), b⟩
  · obtain ⟨a, v, rfl, _⟩ := h; rfl
  · obtain ⟨a, v, rfl, ha, q⟩ := h
    refine ⟨_, pss_one (ps_ost (pv 0) (pv 1)), ?_⟩
    exact ⟨v, rfl, .ref a, rfl, a, C, rfl, T.oex, T.no, .inl ⟨ha, fun dx h1 h2 => q dx h1 h2⟩⟩
/-! ### small rules -/
theorem in1 {y : Str} {d : Nat} (h : y.cps.toList = [d]) (c : Nat) : decide (c ∈ y.cps.toList) = (c == d) := by
  rw [h, Bool.eq_iff_iff, decide_eq_true_eq, beq_iff_eq]; simp
theorem q48 : ("0" : Str).cps.toList = [48] := by decide +kernel
theorem q45 : ("-" : Str).cps.toList = [45] := by decide +kernel
theorem q32 : (" " : Str).cps.toList = [32] := by decide +kernel
theorem str1 {y : Str} {d : Nat} (h : y.cps.toList = [d]) : y = ⟨#[d]⟩ := TL.ext_tl (by show y.cps.toList = [d]; exact h)
theorem feql {y : Str} {c d : Nat} {P : PyData → Prop} (hy : y.cps.toList = [d]) (h1 : c < 128) (h2 : d < 128) (h : P (.bool (c == d))) : fEqW (.str ⟨#[c]⟩) (.str y) P := by
  rw [str1 hy]; exact feqs h1 h2 h
theorem fnel {y : Str} {c d : Nat} {P : PyData → Prop} (hy : y.cps.toList = [d]) (h1 : c < 128) (h2 : d < 128) (h : P (.bool (!(c == d)))) : fNeW (.str ⟨#[c]⟩) (.str y) P := by
  rw [str1 hy]; exact fnes h1 h2 h
section
variable {K : PySem.W.Frag} {as : List Sv} {M : Mm} {ta tb : TE} {P : PyData → Mm → Prop} {S : Sy} {H0 : Hp} {s1 s2 : TS} {A : AE}
theorem w_two {b : Bool} (C : PyData → Prop) (key : ∀ v, C v → P v M) (h1 : b = true → W K ta as M fun d M' => C d ∧ M' = M) (h2 : b = false → W K tb as M fun d M' => C d ∧ M' = M) : if b = true then W K ta as M P else W K tb as M P := by
  cases b with
  | true => exact (h1 rfl).imp fun d M' ⟨c, e⟩ => by subst e; exact key d c
  | false => exact (h2 rfl).imp fun d M' ⟨c, e⟩ => by subst e; exact key d c
theorem wx_loop (N : List Sv → Mm → Prop) (h : WS K s1 as M ⟨N, fun _ _ => False, fun _ _ => False, fun _ _ => False⟩) (k : ∀ as' M', N as' M' → WX K S H0 s2 as' M' A) : WX K S H0 (tSeq s1 s2) as M A := fun σ H D o r n rt =>
  h S H0 σ H { D with nx := s2 D } o r (fun σ' H' as' M' o' r' e' p => k as' M' p σ' H' D o' r' (fun σ'' H'' as'' M'' k'' r'' e'' => n σ'' H'' as'' M'' k'' r'' (e'.trans e'')) rt) (fun _ _ _ _ _ _ z => z.elim) (fun _ _ _ _ _ _ _ z => z.elim) (fun _ _ _ _ _ _ _ z => z.elim)
theorem wb_seqK {b : Addr} {k : Sk} {B : BE} (N : List Sv → Sk → Mm → Prop) (key : ∀ as' k' M', N as' k' M' → WB K S H0 b s2 as' k' M' B) (h : WB K S H0 b s1 as k M ⟨N, B.rt, B.ct⟩) : WB K S H0 b (tSeq s1 s2) as k M B := fun σ H D o r n rt c =>
  h σ H { D with nx := s2 D } o r (fun σ' H' as' k' M' o' r' p => key as' k' M' p σ' H' D o' r' n rt c) rt c
end
/-! ### what the readers say -/
def numAt (t : Cs) (i : Nat) : Nat ⊕ (Fm × Nat) :=
  if sg t (· == 48) i then .inr (.num 0, i + 1)
  else if sg t (· == 45) i then
    (if sg t isDig (i + 1) && !sg t (· == 48) (i + 1) then .inr (.num (-(digitsVal (sl t (i + 1) (endOf t isDig 30 (i + 1))) : Int)), endOf t isDig 30 (i + 1)) else .inl (i + 1))
  else (if sg t isDig i then .inr (.num (digitsVal (sl t i (endOf t isDig 30 i)) : Int), endOf t isDig 30 i) else .inl i)
def quoAt (t : Cs) (i : Nat) : Nat ⊕ (Fm × Nat) :=
  if sg t (· == 34) (endOf t isTx 12 (i + 1)) then .inr (.txt (sl t (i + 1) (endOf t isTx 12 (i + 1))), endOf t isTx 12 (i + 1) + 1) else .inl (endOf t isTx 12 (i + 1))
def toRes : Nat ⊕ (Fm × Nat) → Int ⊕ PyData
  | .inl p => .inl (p : Int)
  | .inr (f, e) => .inr (.tuple [fD f, .int (e : Int)])
def preWh (ds : List PyData) : Prop := ∃ (d : PyData) (x : Str) (i : Nat), ds = [d, .str x, .int (i : Int)] ∧ AX x
def resWh : List PyData → Int ⊕ PyData
  | [d, .str x, .int i] => if i.toNat < x.cps.toList.length then .inl i else .inr d
  | _ => .inl 0
def preAt (ds : List PyData) : Prop := ∃ (x : Str) (i : Nat), ds = [.str x, .int (i : Int)] ∧ AX x ∧ i ≤ x.cps.toList.length
def preQu (ds : List PyData) : Prop := ∃ (x : Str) (i : Nat), ds = [.str x, .int (i : Int)] ∧ AX x ∧ sg x.cps.toList (· == 34) i = true
def resNum : List PyData → Int ⊕ PyData
  | [.str x, .int i] => toRes (numAt x.cps.toList i.toNat)
  | _ => .inl 0
def resQu : List PyData → Int ⊕ PyData
  | [.str x, .int i] => toRes (quoAt x.cps.toList i.toNat)
  | _ => .inl 0
def resPl : List PyData → Int ⊕ PyData
  | [.str x, .int i] => toRes (atom x.cps.toList i.toNat)
  | _ => .inl 0
theorem sl_cons {t : Cs} {i e c : Nat} (h : t[i]? = some c) (he : i < e) : sl t i e = c :: sl t (i + 1) e := by
  unfold sl
  have hi := (List.getElem?_eq_some_iff.mp h).1
  have e2 : (t.take e)[i]? = some c := by rw [List.getElem?_take, if_pos he]; exact h
  obtain ⟨h1, h2⟩ := List.getElem?_eq_some_iff.mp e2
  rw [List.drop_eq_getElem_cons h1, h2]
theorem dig_of {t : Cs} {i e : Nat} (h : ∀ j, i ≤ j → j < e → sg t isDig j = true) : AllDigits (sl t i e) := fun c hc => by
  have := sl_all (p := isDig) h c hc
  unfold isDig at this
  simpa using this
section
variable {P : Program} {w : World} {K : PySem.W.Frag} {mg : Str → Option Value} {base : Heap} {C fI : Addr} (T : Txt K mg) (N : BtT K mg C fI)
include T N
theorem ok_whole (F : Dfn K mg "_whole" s_whole ["form", "text", "at"]) : CalX P w K mg base 3 "_whole" ["form", "text", "at"] (spE C "place" preWh resWh K) := by
  obtain ⟨fdI, G1, b1⟩ := ok_init (P := P) (w := w) (base := base) N
  have hn : ∀ ds, preWh ds → ds.length = 3 := by rintro ds ⟨d, x, i, rfl, _⟩; rfl
  refine F.okX sc_whole (fun vs H Q E h => spE_len hn h) (fun f cdv A outer s H vs Q E hr h => ⟨_, (pss_cons (ps_if (pt_cmpR op_less (pv 2) (pe_callB (k_len (K := K) rfl) (by rfl) T.n_len (by decide +kernel) (pa_cons (pv 1) pa_nil)) (nomark _)) (pss_one (ps_raise rfl (takes_of rfl rfl rfl rfl) (pmk_oex N.oex N.iC N.tI G1 (hr.mono (by decide)) b1 .nil pass0 (by rfl) N.gC (pa_cons (pv 2) pa_nil)))) pss_nil)
      (pss_one (ps_ret (pv 0)))), to_spE hn (fun S ds hp hx => ?_) h⟩)
  obtain ⟨d, x, i, rfl, ha⟩ := hp
  change WX K S H _ [.dat d, .dat (.str x), .dat (.int (i : Int))] [] _
  refine wx_seq (wx_if (wt_test (w_op ao_less (w_var rfl (w_cb ac_len (wa_cons (w_var rfl (wa_nil (m1 (flens ha.l (flti (exb ?_))))))))))))
  refine iteB (fun h => ?_) (fun h => ?_)
  · have h := of_decide_eq_true h
    refine wx_raiseE (w_var rfl ⟨_, rfl, hx _ ?_⟩)
    show (if i < x.cps.toList.length then Sum.inl (i : Int) else .inr d) = _
    rw [if_pos (by omega)]
  · have h := of_decide_eq_false h
    refine wx_next (wx_ret (wr_of (w_var rfl ?_)))
    show (if i < x.cps.toList.length then Sum.inl (i : Int) else .inr d) = _
    rw [if_neg (by omega)]
theorem ok_read_number (F : Dfn K mg "_read_number" s_read_number ["text", "at"]) (q_has_sign : Cal P w K mg base 1 "_has_sign" ["text", "at", "signs"] (spW preHas fHas K)) (q_end_of : Cal P w K mg base 2 "_end_of" ["text", "at", "signs", "most"] (spW preEnd fEnd K)) :
    CalX P w K mg base 3 "_read_number" ["text", "at"] (spE C "place" preAt resNum K) := by
  have c_has_sign := q_has_sign.mono (show 1 ≤ 2 by decide)
  have c_end_of := q_end_of
  obtain ⟨fdI, G1, b1⟩ := ok_init (P := P) (w := w) (base := base) N
  have hn : ∀ ds, preAt ds → ds.length = 2 := by rintro ds ⟨x, i, rfl, _⟩; rfl
  refine F.okX sc_read_number (fun vs H Q E h => spE_len hn h) (fun f cdv A outer s H vs Q E hr h => ⟨_, (pss_cons (ps_if (pt_val (pe_cal c_has_sign hr (pa_cons (pv 0) (pa_cons (pv 1) (pa_cons pe_str pa_nil))))) (pss_one (ps_ret (pe_tup (pa_cons pe_int (pa_cons (pe_op (k_plus (K := K) rfl) (pv 1) pe_int) pa_nil))))) pss_nil)
      (pss_cons (ps_set (i := 2) sc_read_number.nd rfl (by first | exact .inl rfl | exact .inr rfl) (pe_ifExp (pt_val (pe_cal c_has_sign hr (pa_cons (pv 0) (pa_cons (pv 1) (pa_cons pe_str pa_nil))))) (pe_op (k_plus (K := K) rfl) (pv 1) pe_int) (pv 1)))
      (pss_cons (ps_if (PW.pt (pw_or (pt_not (pt_val (pe_cal c_has_sign hr (pa_cons (pv 0) (pa_cons (pv 2) (pa_cons (pe_gstr (by rfl) T.g_DIGITS) pa_nil)))))) (pw_or1 (pt_cmpR (k_eqW (K := K) rfl hr) (pe_ix (k_ix (K := K) rfl) (pv 0) (pv 2) (fun _ _ => rfl)) pe_str (nomark _))))) (pss_one (ps_raise rfl (takes_of rfl rfl rfl rfl) (pmk_oex N.oex N.iC N.tI G1 (hr.mono (by decide)) b1 .nil pass0 (by rfl) N.gC (pa_cons (pv 2) pa_nil)))) pss_nil)
      (pss_cons (ps_set (i := 3) sc_read_number.nd rfl (by first | exact .inl rfl | exact .inr rfl) (pe_cal c_end_of hr (pa_cons (pv 0) (pa_cons (pv 2) (pa_cons (pe_gstr (by rfl) T.g_DIGITS) (pa_cons (pe_gint (by rfl) T.g_MOST_DIGITS) pa_nil))))))
      (pss_one (ps_ret (pe_tup (pa_cons (pe_callTy call_intS (by rfl) T.n_int (by decide +kernel) (pa_cons (pe_slice (k_sl (K := K) rfl) (pv 0) (po_some (pv 1)) (po_some (pv 3))) pa_nil)) (pa_cons (pv 3) pa_nil))))))))), to_spE hn (fun S ds hp hx => ?_) h⟩)
  obtain ⟨x, i, rfl, ha, hi⟩ := hp
  have eR : resNum [.str x, .int (i : Int)] = toRes (numAt x.cps.toList i) := rfl
  rw [eR] at hx
  rw [eR]
  generalize ht : x.cps.toList = t at hx hi ⊢
  have h128 : ∀ c ∈ t, c < 128 := by rw [← ht]; exact ha.2
  have hl2 : t.length ≤ 20000 := by rw [← ht]; exact ha.1
  change WX K S H _ [.dat (.str x), .dat (.int (i : Int)), .no, .no] [] _
  refine wx_seq (wx_if (wt_B (w_has (w_var rfl) (w_var rfl) w_str ha (in1 q48) (exb ?_))))
  rw [ht]
  refine iteB (fun h => ?_) (fun h => ?_)
  · refine wx_ret (wr_of (w_tup (wa_cons (w_int (wa_cons (w_op ao_plus (w_var rfl (w_int (fpi (wa_nil (m2 ⟨by simp, ?_⟩)))))))))))
    show toRes (numAt t i) = _
    unfold numAt
    rw [if_pos h]
    rfl
  refine wx_next (wx_seq (wx_set (wr_of (w_ite (wt_B (w_has (w_var rfl) (w_var rfl) w_str ha (in1 q45) (exb ?_)))))))
  rw [ht]
  have n48 : ¬ sg t (· == 48) i = true := by simp [h]
  refine w_two (fun v => ∃ j : Nat, v = .int (j : Int) ∧ j ≤ t.length ∧ ((sg t isDig j && !sg t (· == 48) j) = false → toRes (numAt t i) = .inl (j : Int)) ∧
    ((sg t isDig j && !sg t (· == 48) j) = true → ∃ z, intText? (strT (sl t i (endOf t isDig 30 j))) = some z ∧ i ≤ endOf t isDig 30 j ∧ endOf t isDig 30 j ≤ i + 31 ∧ toRes (numAt t i) = .inr (.tuple [.int z, .int ((endOf t isDig 30 j : Nat) : Int)]))) ?_ (fun h45 => ?_) (fun h45 => ?_)
  · rintro v ⟨j, rfl, hj, hbad, hgood⟩
    change WX K S H _ [.dat (.str x), .dat (.int (i : Int)), .dat (.int (j : Int)), .no] [] _
    have he1 := endOf_ge (t := t) (p := isDig) 30 j
    have he2 := endOf_len (t := t) (p := isDig) 30 j hj
    refine wx_seq (wx_if (wt_or (wt_not (wt_B (w_has (w_var rfl) (w_var rfl) w_str ha in_digits (exb ?_))))))
    rw [ht]
    refine iteB (fun hd => ?_) (fun hd => ?_)
    · refine iteK rfl (wx_raiseE (w_var rfl ⟨_, rfl, hx _ (hbad ?_)⟩))
      rw [Bool.not_eq_true'] at hd
      rw [hd]; rfl
    · have hd : sg t isDig j = true := by simpa using hd
      obtain ⟨c, ec, hc⟩ := sg_get hd
      have ec' : x.cps.toList[j]? = some c := by rw [ht]; exact ec
      refine wt_test (w_op ao_eqW (w_op ao_ix (w_var rfl (w_var rfl (fixs ha.l ec' (w_str (feql q48 (h128 c (List.mem_of_getElem? ec)) (by decide) (exb ?_))))))))
      refine iteB (fun h0 => ?_) (fun h0 => ?_)
      · refine wx_raiseE (w_var rfl ⟨_, rfl, hx _ (hbad ?_)⟩)
        rw [sg_of (p := (· == 48)) ec, h0]; simp
      · obtain ⟨z, hz, hz1, hz2, hz3⟩ := hgood (by rw [hd, sg_of (p := (· == 48)) ec, h0]; rfl)
        refine wx_next (wx_seq (wx_set (wr_of (w_callW (wa_cons (w_var rfl (wa_cons (w_var rfl (wa_cons (w_str (wa_cons (w_int (wa_nil (m4 ⟨⟨x, j, _, 30, rfl, ha, by rw [ht]; exact hj, by decide⟩, ?_⟩))))))))))))))
        have ee : fEnd [.str x, .int (j : Int), .str "0123456789", .int 30] = .int ((endOf t isDig 30 j : Nat) : Int) := by
          show PyData.int ((endOf x.cps.toList (fun c => decide (c ∈ digitsS.cps.toList)) 30 j : Nat) : Int) = _
          rw [ht, endOf_congr in_digits]
        rw [ee]
        generalize endOf t isDig 30 j = e at hz hz1 hz2 hz3 he1 he2 ⊢
        change WX K S H _ [.dat (.str x), .dat (.int (i : Int)), .dat (.int (j : Int)), .dat (.int (e : Int))] [] _
        refine wx_ret (wr_of (w_tup (wa_cons (w_cb ac_intS (wa_cons (w_sl (w_var rfl (wo_some (w_var rfl (exi (wo_some (w_var rfl (exi (fslb ha.l (by rw [ht]; exact hi) (by rw [ht]; exact he2) (wa_nil (m1 ?_))))))))))))))))
        rw [ht]
        refine ⟨z, hz, ?_, wa_cons (w_var rfl (wa_nil (m2 ⟨by simp, hz3⟩)))⟩
        rw [strT_len, sl_len t he2]; omega
  · -- a sign -
    have hi2 := sg_lt h45
    refine w_op ao_plus (w_var rfl (w_int (fpi ⟨⟨i + 1, rfl, hi2, fun hb => ?_, fun hg => ?_⟩, rfl⟩)))
    · unfold numAt
      rw [if_neg n48, if_pos h45, hb]; rfl
    · have hd : sg t isDig (i + 1) = true := (Bool.and_eq_true _ _ ▸ hg).1
      have g1 : i + 1 < endOf t isDig 30 (i + 1) := endOf_gt 29 hd
      have g2 := endOf_le (t := t) (p := isDig) 30 (i + 1)
      have g3 := endOf_len (t := t) (p := isDig) 30 (i + 1) hi2
      have gl := sl_len t (a := i + 1) g3
      have gd := dig_of (endOf_all (t := t) (p := isDig) 30 (i + 1))
      refine ⟨_, intText_neg (cs := sl t (i + 1) (endOf t isDig 30 (i + 1))) ?_ gd ?_ ?_, by omega, by omega, ?_⟩
      · rw [strT_l]; exact sl_cons (sg_eq.mp h45) (by omega)
      · intro e; rw [e] at gl; simp at gl; omega
      · rw [strT_len, sl_cons (sg_eq.mp h45) (by omega), List.length_cons]; omega
      · unfold numAt
        rw [if_neg n48, if_pos h45, if_pos hg]; rfl
  · refine w_var rfl ⟨⟨i, rfl, hi, fun hb => ?_, fun hg => ?_⟩, rfl⟩
    · unfold numAt
      rw [if_neg n48, h45, if_neg (by simp)]
      rw [h, Bool.not_false, Bool.and_true] at hb
      rw [hb]; rfl
    · have hd : sg t isDig i = true := (Bool.and_eq_true _ _ ▸ hg).1
      have g1 : i < endOf t isDig 30 i := endOf_gt 29 hd
      have g2 := endOf_le (t := t) (p := isDig) 30 i
      have g3 := endOf_len (t := t) (p := isDig) 30 i hi
      have gl := sl_len t (a := i) g3
      have gd := dig_of (endOf_all (t := t) (p := isDig) 30 i)
      refine ⟨_, intText_digits (x := strT (sl t i (endOf t isDig 30 i))) (by rw [strT_l]; exact gd) ?_ ?_, by omega, by omega, ?_⟩
      · rw [strT_l]; intro e; rw [e] at gl; simp at gl; omega
      · rw [strT_len]; omega
      · unfold numAt
        rw [if_neg n48, h45, if_neg (by simp), if_pos hd, strT_l]; rfl
theorem ok_read_quoted (F : Dfn K mg "_read_quoted" s_read_quoted ["text", "at"]) (q_has_sign : Cal P w K mg base 1 "_has_sign" ["text", "at", "signs"] (spW preHas fHas K)) (q_is_text_sign : Cal P w K mg base 1 "is_text_sign" ["sign"] (spP preSign postSign K)) :
    CalX P w K mg base 3 "_read_quoted" ["text", "at"] (spE C "place" preQu resQu K) := by
  have c_has_sign := q_has_sign.mono (show 1 ≤ 2 by decide)
  have c_is_text_sign := q_is_text_sign.mono (show 1 ≤ 2 by decide)
  obtain ⟨fdI, G1, b1⟩ := ok_init (P := P) (w := w) (base := base) N
  have hn : ∀ ds, preQu ds → ds.length = 2 := by rintro ds ⟨x, i, rfl, _⟩; rfl
  refine F.okX sc_read_quoted (fun vs H Q E h => spE_len hn h) (fun f cdv A outer s H vs Q E hr h => ⟨_, (pss_cons (ps_set (i := 2) sc_read_quoted.nd rfl (by first | exact .inl rfl | exact .inr rfl) (pe_op (k_plus (K := K) rfl) (pv 1) pe_int))
      (pss_cons (ps_while (passes_of rfl) (PW.pt (pw_and (pt_cmpR op_leI (pv 2) (pe_op (k_plus (K := K) rfl) (pv 1) (pe_gint (by rfl) T.g_MOST_TEXT_SIGNS)) (nomark _)) (pw_and (pt_cmpR op_less (pv 2) (pe_callB (k_len (K := K) rfl) (by rfl) T.n_len (by decide +kernel) (pa_cons (pv 0) pa_nil)) (nomark _)) (pw_and1 (pt_val (pe_cal c_is_text_sign hr (pa_cons (pe_ix (k_ix (K := K) rfl) (pv 0) (pv 2) (fun _ _ => rfl)) pa_nil))))))) (pss_one (ps_aug (i := 2) sc_read_quoted.nd rfl (by first | exact .inl rfl | exact .inr rfl) pe_int ip_add)))
      (pss_cons (ps_if (pt_not (pt_val (pe_cal c_has_sign hr (pa_cons (pv 0) (pa_cons (pv 2) (pa_cons pe_str pa_nil)))))) (pss_one (ps_raise rfl (takes_of rfl rfl rfl rfl) (pmk_oex N.oex N.iC N.tI G1 (hr.mono (by decide)) b1 .nil pass0 (by rfl) N.gC (pa_cons (pv 2) pa_nil)))) pss_nil)
      (pss_one (ps_ret (pe_tup (pa_cons (pe_tup (pa_cons pe_str (pa_cons (pe_slice (k_sl (K := K) rfl) (pv 0) (po_some (pe_op (k_plus (K := K) rfl) (pv 1) pe_int)) (po_some (pv 2))) pa_nil))) (pa_cons (pe_op (k_plus (K := K) rfl) (pv 2) pe_int) pa_nil)))))))), to_spE hn (fun S ds hp hx => ?_) h⟩)
  obtain ⟨x, i, rfl, ha, h34⟩ := hp
  have eR : resQu [.str x, .int (i : Int)] = toRes (quoAt x.cps.toList i) := rfl
  rw [eR] at hx
  rw [eR]
  generalize ht : x.cps.toList = t at hx h34 ⊢
  have h128 : ∀ c ∈ t, c < 128 := by rw [← ht]; exact ha.2
  have hl2 : t.length ≤ 20000 := by rw [← ht]; exact ha.1
  have hi := sg_lt h34
  change WX K S H _ [.dat (.str x), .dat (.int (i : Int)), .no] [] _
  refine wx_seq (wx_set (wr_of (w_op ao_plus (w_var rfl (w_int (fpi ?_))))))
  have e1 := endOf_ge (t := t) (p := isTx) 12 (i + 1)
  have e2 := endOf_len (t := t) (p := isTx) 12 (i + 1) hi
  refine wx_loop (fun as' M' => M' = [] ∧ as' = [.dat (.str x), .dat (.int (i : Int)), .dat (.int ((endOf t isTx 12 (i + 1) : Nat) : Int))]) ?_ ?_
  · refine ws_while (fun m as' M' => M' = [] ∧ ∃ j : Nat, as' = [.dat (.str x), .dat (.int (i : Int)), .dat (.int ((i + 1 + j : Nat) : Int))] ∧ j + m = 12 ∧ endOf t isTx m (i + 1 + j) = endOf t isTx 12 (i + 1)) 12 ⟨rfl, 0, rfl, by omega, rfl⟩ ?_
    rintro m as' M' ⟨rfl, j, rfl, hj, he⟩
    have fin : endOf t isTx m (i + 1 + j) = i + 1 + j → ([] : Mm) = [] ∧ [Sv.dat (.str x), .dat (.int (i : Int)), .dat (.int ((i + 1 + j : Nat) : Int))] = [.dat (.str x), .dat (.int (i : Int)), .dat (.int ((endOf t isTx 12 (i + 1) : Nat) : Int))] := fun e => ⟨rfl, by rw [← he, e]⟩
    refine wt_and (wt_test (w_op ao_le (w_var rfl (w_op ao_plus (w_var rfl (w_int (fpi (fii trivial (exb ?_)))))))))
    refine iteB (fun h => ?_) (fun h => ?_)
    · have h := of_decide_eq_true h
      obtain ⟨m, rfl⟩ : ∃ m', m = m' + 1 := ⟨m - 1, by omega⟩
      have he' : (if sg t isTx (i + 1 + j) then endOf t isTx m (i + 1 + j + 1) else i + 1 + j) = endOf t isTx 12 (i + 1) := he
      have fin' : sg t isTx (i + 1 + j) = false → endOf t isTx (m + 1) (i + 1 + j) = i + 1 + j := fun e => by
        show (if sg t isTx (i + 1 + j) then endOf t isTx m (i + 1 + j + 1) else i + 1 + j) = _
        rw [e]; rfl
      refine wt_and (wt_test (w_op ao_less (w_var rfl (w_cb ac_len (wa_cons (w_var rfl (wa_nil (m1 (flens ha.l (flti (exb ?_)))))))))))
      rw [ht]
      refine iteB (fun h2 => ?_) (fun h2 => ?_)
      · have h2 := of_decide_eq_true h2
        have hlt : i + 1 + j < t.length := by omega
        have ec : t[i + 1 + j]? = some t[i + 1 + j] := List.getElem?_eq_getElem hlt
        refine wt_B (w_call (wa_cons (w_op ao_ix (w_var rfl (w_var rfl (fixs ha.l (by rw [ht]; exact ec) (wa_nil (m1 ⟨⟨_, rfl⟩, fun d hd => ?_⟩))))))))
        rw [hd _ rfl]
        refine exb (iteB (fun h3 => ?_) (fun h3 => ?_))
        · rw [← sg_of (p := isTx) ec] at h3
          rw [if_pos h3] at he'
          refine ws_aug rfl (w_int ⟨1, rfl, m, by omega, rfl, j + 1, ?_, by omega, he'⟩)
          show [Sv.dat (.str x), .dat (.int (i : Int)), .dat (.int (((i + 1 + j : Nat) : Int) + 1))] = _
          rw [show (((i + 1 + j : Nat) : Int) + 1) = ((i + 1 + (j + 1) : Nat) : Int) by omega]
        · rw [← sg_of (p := isTx) ec] at h3
          exact fin (fin' h3)
      · have h2 := of_decide_eq_false h2
        exact iteN rfl (fin (fin' (sg_end (by omega))))
    · have h := of_decide_eq_false h
      have e0 : m = 0 := by omega
      subst e0
      exact iteN rfl (fin rfl)
  · rintro as' M' ⟨rfl, rfl⟩
    refine wx_seq (wx_if (wt_not (wt_B (w_has (w_var rfl) (w_var rfl) w_str ha (in1 q34) (exb ?_)))))
    rw [ht]
    have eq : quoAt t i = if sg t (· == 34) (endOf t isTx 12 (i + 1)) then .inr (.txt (sl t (i + 1) (endOf t isTx 12 (i + 1))), endOf t isTx 12 (i + 1) + 1) else .inl (endOf t isTx 12 (i + 1)) := rfl
    generalize endOf t isTx 12 (i + 1) = e at e1 e2 eq ⊢
    refine iteB (fun h => ?_) (fun h => ?_)
    · refine wx_raiseE (w_var rfl ⟨_, rfl, hx _ ?_⟩)
      rw [eq, if_neg (by simpa using h)]; rfl
    · have h : sg t (· == 34) e = true := by simpa using h
      refine wx_next (wx_ret (wr_of (w_tup (wa_cons (w_tup (wa_cons (w_str (wa_cons (w_sl (w_var rfl (wo_some (w_op ao_plus (w_var rfl (w_int (fpi (exi ?_))))))))))))))))
      refine wo_some (w_var rfl (exi (fslb (i := i + 1) ha.l (by rw [ht]; exact hi) (by rw [ht]; exact e2) ?_)))
      rw [ht]
      refine wa_nil (m2 ⟨by simp, wa_cons (w_op ao_plus (w_var rfl (w_int (fpi (wa_nil (m2 ⟨by simp, ?_⟩))))))⟩)
      rw [eq, if_pos h]; rfl
theorem ok_read_plain (F : Dfn K mg "_read_plain" s_read_plain ["text", "at"]) (q_has_sign : Cal P w K mg base 1 "_has_sign" ["text", "at", "signs"] (spW preHas fHas K)) (q_end_of : Cal P w K mg base 2 "_end_of" ["text", "at", "signs", "most"] (spW preEnd fEnd K))
    (c_read_quoted : CalX P w K mg base 3 "_read_quoted" ["text", "at"] (spE C "place" preQu resQu K)) (c_read_number : CalX P w K mg base 3 "_read_number" ["text", "at"] (spE C "place" preAt resNum K)) :
    CalX P w K mg base 4 "_read_plain" ["text", "at"] (spE C "place" preAt resPl K) := by
  have c_has_sign := q_has_sign.mono (show 1 ≤ 3 by decide)
  have c_end_of := q_end_of.mono (show 2 ≤ 3 by decide)
  have hn : ∀ ds, preAt ds → ds.length = 2 := by rintro ds ⟨x, i, rfl, _⟩; rfl
  refine F.okX sc_read_plain (fun vs H Q E h => spE_len hn h) (fun f cdv A outer s H vs Q E hr h => ⟨_, (pss_cons (ps_if (pt_val (pe_cal c_has_sign hr (pa_cons (pv 0) (pa_cons (pv 1) (pa_cons (pe_gstr (by rfl) T.g_LETTERS) pa_nil))))) (pss_cons (ps_set (i := 2) sc_read_plain.nd rfl (by first | exact .inl rfl | exact .inr rfl) (pe_cal c_end_of hr (pa_cons (pv 0) (pa_cons (pv 1) (pa_cons (pe_gstr (by rfl) T.g_NAME_SIGNS) (pa_cons (pe_gint (by rfl) T.g_MOST_NAME_SIGNS) pa_nil))))))
      (pss_one (ps_ret (pe_tup (pa_cons (pe_slice (k_sl (K := K) rfl) (pv 0) (po_some (pv 1)) (po_some (pv 2))) (pa_cons (pv 2) pa_nil)))))) pss_nil)
      (pss_cons (ps_if (pt_val (pe_cal c_has_sign hr (pa_cons (pv 0) (pa_cons (pv 1) (pa_cons pe_str pa_nil))))) (pss_one (ps_ret (pe_calP c_read_quoted (passes_call (takes_of rfl rfl rfl rfl) fun _ _ _ _ h => h) hr (pa_cons (pv 0) (pa_cons (pv 1) pa_nil))))) pss_nil)
      (pss_one (ps_ret (pe_calP c_read_number (passes_call (takes_of rfl rfl rfl rfl) fun _ _ _ _ h => h) hr (pa_cons (pv 0) (pa_cons (pv 1) pa_nil))))))), to_spE hn (fun S ds hp hx => ?_) h⟩)
  obtain ⟨x, i, rfl, ha, hi⟩ := hp
  have eR : resPl [.str x, .int (i : Int)] = toRes (atom x.cps.toList i) := rfl
  rw [eR] at hx
  rw [eR]
  generalize ht : x.cps.toList = t at hx hi ⊢
  change WX K S H _ [.dat (.str x), .dat (.int (i : Int)), .no] [] _
  refine wx_seq (wx_if (wt_B (w_has (w_var rfl) (w_var rfl) w_str ha in_letters (exb ?_))))
  rw [ht]
  refine iteB (fun h => ?_) (fun h => ?_)
  · refine wx_seq (wx_set (wr_of (w_callW (wa_cons (w_var rfl (wa_cons (w_var rfl (wa_cons (w_str (wa_cons (w_int (wa_nil (m4 ⟨⟨x, i, _, 8, rfl, ha, by rw [ht]; exact hi, by decide⟩, ?_⟩)))))))))))))
    have ee : fEnd [.str x, .int (i : Int), .str "abcdefghijklmnopqrstuvwxyz0123456789", .int 8] = .int ((endOf t isNm 8 i : Nat) : Int) := by
      show PyData.int ((endOf x.cps.toList (fun c => decide (c ∈ nameS.cps.toList)) 8 i : Nat) : Int) = _
      rw [ht, endOf_congr in_name]
    rw [ee]
    have e2 := endOf_len (t := t) (p := isNm) 8 i hi
    change WX K S H _ [.dat (.str x), .dat (.int (i : Int)), .dat (.int ((endOf t isNm 8 i : Nat) : Int))] [] _
    refine wx_ret (wr_of (w_tup (wa_cons (w_sl (w_var rfl (wo_some (w_var rfl (exi (wo_some (w_var rfl (exi (fslb ha.l (by rw [ht]; exact hi) (by rw [ht]; exact e2) ?_))))))))))))
    rw [ht]
    refine wa_cons (w_var rfl (wa_nil (m2 ⟨by simp, ?_⟩)))
    unfold atom
    rw [if_pos h]; rfl
  refine wx_next (wx_seq (wx_if (wt_B (w_has (w_var rfl) (w_var rfl) w_str ha (in1 q34) (exb ?_)))))
  rw [ht]
  refine iteB (fun h2 => ?_) (fun h2 => ?_)
  · have ea : atom t i = quoAt t i := by
      unfold atom quoAt
      rw [h, if_neg (by simp), if_pos h2]
    refine wx_ret (wr_callE (war_cons (wr_of (w_var rfl (war_cons (wr_of (w_var rfl (war_nil (m2 ⟨⟨x, i, rfl, ha, by rw [ht]; exact h2⟩, fun d hd => ?_, fun p hp => hx p ?_⟩)))))))))
    · rw [ea, ← ht]; exact hd
    · rw [ea, ← ht]; exact hp
  · have ea : atom t i = numAt t i := by
      unfold atom numAt
      rw [h, if_neg (by simp), h2, if_neg (by simp)]
    refine wx_next (wx_ret (wr_callE (war_cons (wr_of (w_var rfl (war_cons (wr_of (w_var rfl (war_nil (m2 ⟨⟨x, i, rfl, ha, by rw [ht]; exact hi⟩, fun d hd => ?_, fun p hp => hx p ?_⟩))))))))))
    · rw [ea, ← ht]; exact hd
    · rw [ea, ← ht]; exact hp
end
end K6

set_option Elab.async false
set_option linter.all false
set_option maxRecDepth 100000
set_option maxHeartbeats 4000000
namespace K6
open PySem PySem.Spec PyProof.Rows L2 Ab TL NumText
/-- one step of the reading -/
local macro_rules | `(tactic| walk_at "w") => `(tactic| first
  | (with_reducible refine ws_seq ?_) | (with_reducible refine ws_next ?_) | (with_reducible refine ws_set ?_) | (with_reducible refine ws_par ?_) | (with_reducible refine ws_ret ?_) | (with_reducible refine ws_if ?_) | (with_reducible refine ws_drop ?_)
  | (refine w_var rfl ?_) | (with_reducible refine w_int ?_) | (with_reducible refine w_str ?_) | (with_reducible refine w_bl ?_) | (with_reducible refine w_non ?_)
  | (with_reducible refine wa_nil ?_) | (with_reducible refine wa_cons ?_) | (with_reducible refine w_tup ?_) | (with_reducible refine w_lst ?_)
  | (with_reducible refine wt_test ?_) | (with_reducible refine wt_B ?_) | (with_reducible refine wt_not ?_) | (with_reducible refine wt_and ?_) | (with_reducible refine wt_or ?_)
  | (with_reducible refine w_andV ?_) | (with_reducible refine w_orV ?_) | (with_reducible refine w_notV ?_) | (with_reducible refine w_ite ?_)
  | (with_reducible refine w_op ao_eqW ?_) | (with_reducible refine w_op ao_neW ?_) | (with_reducible refine w_op ao_eq ?_) | (with_reducible refine w_op ao_ne ?_) | (with_reducible refine w_op ao_isB ?_) | (with_reducible refine w_op ao_notB ?_) | (with_reducible refine w_op ao_ix ?_) | (with_reducible refine w_op ao_plus ?_) | (with_reducible refine w_op ao_less ?_) | (with_reducible refine w_op ao_le ?_) | (with_reducible refine w_op ao_gt ?_) | (with_reducible refine w_op ao_ge ?_)
  | (with_reducible refine w_op ao_sub ?_) | (with_reducible refine w_op ao_mul ?_) | (with_reducible refine w_op ao_mod ?_) | (with_reducible refine w_op ao_div ?_) | (with_reducible refine w_op ao_pow ?_) | (with_reducible refine w_op ao_isNo ?_) | (with_reducible refine w_op ao_inSg ?_) | (with_reducible refine w_op ao_inW ?_) | (with_reducible refine w_op ao_ninW ?_) | (with_reducible refine w_op ao_inSeq ?_) | (with_reducible refine w_op ao_ninSeq ?_)
  | (with_reducible refine w_cb ac_len ?_) | (with_reducible refine w_cb ac_tupleOf ?_) | (with_reducible refine w_cb ac_intOf ?_) | (with_reducible refine w_cb ac_abs ?_) | (with_reducible refine w_cb ac_ord ?_) | (with_reducible refine w_cb ac_all ?_) | (with_reducible refine w_cb ac_any ?_)
  | (with_reducible refine w_isi (by decide) ?_) | (with_reducible refine w_isi2 (by decide) (by decide) ?_) | (with_reducible refine w_sl ?_) | (with_reducible refine wo_none ?_) | (with_reducible refine wo_some ?_)
  | (with_reducible refine w_chain ao_le ao_le ?_) | (with_reducible refine w_chain ao_leS ao_leS ?_) | (with_reducible refine w_call ?_))
local macro_rules | `(tactic| walk_at "v") => `(tactic| first
  | (with_reducible refine m0 ?_) | (with_reducible refine m1 ?_) | (with_reducible refine m2 ?_) | (with_reducible refine m3 ?_) | (with_reducible refine m5 ?_)
  | (with_reducible refine exb ?_) | (with_reducible refine exi ?_) | (with_reducible refine exl ?_) | (with_reducible refine exql ?_) | (with_reducible refine exqt ?_)
  | (refine fixt rfl ?_) | (refine fixl rfl ?_) | (refine fslt rfl ?_) | (refine fsll rfl ?_)
  | (with_reducible refine flent ?_; dsimp only [List.length_cons, List.length_nil]) | (with_reducible refine flenl ?_; dsimp only [List.length_cons, List.length_nil])
  | (with_reducible refine fii (by first | trivial | decide) ?_) | (with_reducible refine fpi ?_) | (with_reducible refine flti ?_) | (with_reducible refine fint ?_) | (with_reducible refine ftupl ?_) | (with_reducible refine ftupt ?_)
  | (with_reducible refine feqW (by decide +kernel) (by decide +kernel) (by decide +kernel) ?_) | (with_reducible refine fneW (by decide +kernel) (by decide +kernel) (by decide +kernel) ?_)
  | (with_reducible refine feq (by decide +kernel) (by decide +kernel) ?_) | (with_reducible refine fne (by decide +kernel) (by decide +kernel) ?_)
  | (with_reducible refine iteK rfl ?_) | (with_reducible refine iteN rfl ?_) | (with_reducible refine iteK (by decide +kernel) ?_) | (with_reducible refine iteN (by decide +kernel) ?_))
local macro_rules | `(tactic| walk_at "x") => `(tactic| first | (with_reducible refine wx_seq ?_) | (with_reducible refine wx_if ?_) | (with_reducible refine wx_next ?_) | (with_reducible refine wx_ret ?_) | (with_reducible refine wr_tup ?_) | (with_reducible refine war_cons ?_) | (with_reducible refine war_nil ?_))
local macro_rules | `(tactic| walk_at "ww") => `(tactic| repeat (first | walk_at "w" | walk_at "v" | walk_at "x"))

/-! ### the stack of the reading -/
structure SKR (k : Sk) (s : Stk) (M : Mm) : Prop where
  m : k.map (·.2) = s.map (fun l => l.map fD)
  i : ∀ p ∈ k, (p.1, true, p.2) ∈ M
  n : (k.map (·.1)).Nodup
theorem SKR.len {k : Sk} {s : Stk} {M : Mm} (h : SKR k s M) : k.length = s.length := by
  have := congrArg List.length h.m
  simpa using this
theorem SKR.push {k : Sk} {s : Stk} {M : Mm} {a : Addr} (h : SKR k s M) (ha : ∀ q ∈ M, q.1 ≠ a) : SKR ((a, []) :: k) ([] :: s) ((a, true, []) :: M) := by
  refine ⟨by rw [List.map_cons, List.map_cons, h.m]; rfl, fun p hp => ?_, ?_⟩
  · rcases List.mem_cons.mp hp with rfl | hp
    · exact List.mem_cons_self
    · exact List.mem_cons_of_mem _ (h.i p hp)
  · rw [List.map_cons, List.nodup_cons]
    refine ⟨fun z => ?_, h.n⟩
    obtain ⟨p, hp, e⟩ := List.mem_map.mp z
    exact ha _ (h.i p hp) e
theorem SKR.inv {k : Sk} {l : List Fm} {r : Stk} {M : Mm} (h : SKR k (l :: r) M) : ∃ a k0, k = (a, l.map fD) :: k0 ∧ (a, true, l.map fD) ∈ M ∧ SKR k0 r M := by
  obtain ⟨h1, h2, h3⟩ := h
  cases k with
  | nil => cases h1
  | cons p k0 =>
    obtain ⟨a, x⟩ := p
    rw [List.map_cons, List.map_cons] at h1
    injection h1 with e1 e2
    have e1 : x = l.map fD := e1
    subst e1
    rw [List.map_cons, List.nodup_cons] at h3
    exact ⟨a, k0, rfl, h2 _ List.mem_cons_self, e2, fun p hp => h2 p (List.mem_cons_of_mem _ hp), h3.2⟩
theorem SKR.app {k : Sk} {l : List Fm} {f : Fm} {r : Stk} {M : Mm} {a : Addr} (h : SKR ((a, l.map fD) :: k) (l :: r) M) : SKR ((a, l.map fD ++ [fD f]) :: k) ((l ++ [f]) :: r) (mset M a (l.map fD ++ [fD f])) := by
  obtain ⟨h1, h2, h3⟩ := h
  rw [List.map_cons, List.map_cons] at h1
  injection h1 with _ e2
  have h3' := h3
  rw [List.map_cons, List.nodup_cons] at h3'
  refine ⟨by rw [List.map_cons, List.map_cons, e2]; simp, fun p hp => ?_, h3⟩
  rcases List.mem_cons.mp hp with rfl | hp
  · exact List.mem_map.mpr ⟨(a, true, l.map fD), h2 _ List.mem_cons_self, by simp⟩
  · have hm := h2 p (List.mem_cons_of_mem _ hp)
    refine List.mem_map.mpr ⟨_, hm, ?_⟩
    rw [if_neg (fun z => h3'.1 (List.mem_map.mpr ⟨p, hp, z⟩))]
theorem SKR.empty {k : Sk} {M : Mm} (h : SKR k [] M) : k = [] := List.length_eq_zero_iff.mp h.len
def BD (s : Stk) (i : Nat) : Prop := s.length ≤ 40 ∧ ∀ l ∈ s, l.length ≤ i
theorem BD.up {s : Stk} {i j : Nat} (h : BD s i) (hj : i ≤ j) : BD s j := ⟨h.1, fun l hl => Nat.le_trans (h.2 l hl) hj⟩
theorem BD.push {s : Stk} {i : Nat} (h : BD s i) (hl : s.length < 40) : BD ([] :: s) i := ⟨by simp; omega, fun l h2 => by
  rcases List.mem_cons.mp h2 with rfl | h2
  · simp
  · exact h.2 l h2⟩
theorem BD.app {l : List Fm} {f : Fm} {r : Stk} {i : Nat} (h : BD (l :: r) i) : BD ((l ++ [f]) :: r) (i + 1) := ⟨h.1, fun m hm => by
  rcases List.mem_cons.mp hm with rfl | hm
  · have := h.2 l List.mem_cons_self
    simp; omega
  · have := h.2 m (List.mem_cons_of_mem _ hm)
    omega⟩
theorem BD.tail {l : List Fm} {r : Stk} {i : Nat} (h : BD (l :: r) i) : BD r i := ⟨by have := h.1; simp at this; omega, fun m hm => h.2 m (List.mem_cons_of_mem _ hm)⟩
def shut (t : Cs) (k : Stk → Nat → R) (l : List Fm) (r : Stk) (i : Nat) : R := if sg t (· == 41) i then item t k r (.tup l) (i + 1) else if sg t (· == 32) i then k (l :: r) (i + 1) else .inl i
theorem item_cons {t : Cs} {k : Stk → Nat → R} {l : List Fm} {r : Stk} {f : Fm} {i : Nat} : item t k (l :: r) f i = shut t k (l ++ [f]) r i := rfl
def toR2 : R → Int ⊕ PyData
  | .inl p => .inl (p : Int)
  | .inr f => .inr (fD f)
def preRF (ds : List PyData) : Prop := ∃ x : Str, ds = [.str x] ∧ AX x
def resRF : List PyData → Int ⊕ PyData
  | [.str x] => toR2 (Run x.cps.toList [] 0)
  | _ => .inl 0
theorem whole_res {f : Fm} {x : Str} {i : Nat} : resWh [fD f, .str x, .int (i : Int)] = toR2 (whole x.cps.toList f i) := by
  show (if i < x.cps.toList.length then Sum.inl (i : Int) else .inr (fD f)) = _
  unfold whole
  by_cases h : i < x.cps.toList.length
  · rw [if_pos h, if_pos h]; rfl
  · rw [if_neg h, if_neg h]; rfl
theorem atom_a8 {t : Cs} {i e : Nat} {f : Fm} (h : atom t i = .inr (f, e)) (ht : ∀ c ∈ t, c < 128) : A8 f := a8_of f fun c hc => by
  have h1 := (atom_spell h).1
  have h2 : c ∈ t.take e := by rw [h1]; exact List.mem_append_right _ hc
  exact ht c (List.mem_of_mem_take h2)
section
variable {P : Program} {w : World} {K : PySem.W.Frag} {mg : Str → Option Value} {base : Heap} {C fI : Addr} (T : Txt K mg) (N : BtT K mg C fI)
include T N
theorem ok_read_form (F : Dfn K mg "read_form" s_read_form ["text"]) (q_has_sign : Cal P w K mg base 1 "_has_sign" ["text", "at", "signs"] (spW preHas fHas K)) (c_read_plain : CalX P w K mg base 4 "_read_plain" ["text", "at"] (spE C "place" preAt resPl K)) (q_whole : CalX P w K mg base 3 "_whole" ["form", "text", "at"] (spE C "place" preWh resWh K)) :
    CalX P w K mg base 5 "read_form" ["text"] (spE C "place" preRF resRF K) := by
  have c_has_sign := q_has_sign.mono (show 1 ≤ 4 by decide)
  have c_whole := q_whole.mono (show 3 ≤ 4 by decide)
  obtain ⟨fdI, G1, b1⟩ := ok_init (P := P) (w := w) (base := base) N
  have hn : ∀ ds, preRF ds → ds.length = 1 := by rintro ds ⟨x, rfl, _⟩; rfl
  refine F.okX sc_read_form (fun vs H Q E h => spE_len hn h) (fun f cdv A outer s H vs Q E hr h => ⟨_, (pss_cons (ps_set (i := 1) sc_read_form.nd rfl (by first | exact .inl rfl | exact .inr rfl) (pe_lst pa_nil))
      (pss_cons (ps_set (i := 2) sc_read_form.nd rfl (by first | exact .inl rfl | exact .inr rfl) pe_int)
      (pss_one (ps_while (passes_of rfl) (pt_val pe_bl) (pss_cons (ps_if (pt_val (pe_cal c_has_sign hr (pa_cons (pv 0) (pa_cons (pv 2) (pa_cons pe_str pa_nil))))) (pss_cons (ps_if (pt_cmpR (k_eqW (K := K) rfl hr) (pe_callB (k_len (K := K) rfl) (by rfl) T.n_len (by decide +kernel) (pa_cons (pv 1) pa_nil)) (pe_gint (by rfl) T.g_MOST_TUPLES) (nomark _)) (pss_one (ps_raise rfl (takes_of rfl rfl rfl rfl) (pmk_oex N.oex N.iC N.tI G1 (hr.mono (by decide)) b1 .nil pass0 (by rfl) N.gC (pa_cons (pv 2) pa_nil)))) pss_nil)
      (pss_cons (ps_expr (pe_bm PySem.F.plainAttrs_list PySem.F.slot_list_append PySem.F.type_list_append mt_append (pv 1) (pa_cons (pe_lst pa_nil) pa_nil)))
      (pss_cons (ps_aug (i := 2) sc_read_form.nd rfl (by first | exact .inl rfl | exact .inr rfl) pe_int ip_add)
      (pss_one (ps_if (pt_not (pt_val (pe_cal c_has_sign hr (pa_cons (pv 0) (pa_cons (pv 2) (pa_cons pe_str pa_nil)))))) (pss_one ps_continue) pss_nil))))) (pss_cons (ps_asg (pe_calP c_read_plain (passes_call (takes_of rfl rfl rfl rfl) fun _ _ _ _ h => h) hr (pa_cons (pv 0) (pa_cons (pv 2) pa_nil))) (k_tup (K := K) (n := 2) rfl rfl (pgs_cons (pg_name (i := 3) sc_read_form.nd rfl (by first | exact .inl rfl | exact .inr rfl)) (pgs_cons (pg_name (i := 2) sc_read_form.nd rfl (by first | exact .inl rfl | exact .inr rfl)) pgs_nil))))
      (pss_cons (ps_if (pt_not (k_tru (K := K) rfl (pv 1))) (pss_one (ps_ret (pe_calP c_whole (passes_call (takes_of rfl rfl rfl rfl) fun _ _ _ _ h => h) hr (pa_cons (pv 3) (pa_cons (pv 0) (pa_cons (pv 2) pa_nil)))))) pss_nil)
      (pss_cons (ps_if (PW.pt (pw_and (pt_cmpR (k_eqW (K := K) rfl hr) (pv 3) pe_str (nomark _)) (pw_and1 (pt_not (k_tru (K := K) rfl (pe_ix (k_ix (K := K) rfl) (pv 1) (pe_un un_neg pe_int) (fun _ _ => rfl))))))) (pss_one (ps_raise rfl (takes_of rfl rfl rfl rfl) (pmk_oex N.oex N.iC N.tI G1 (hr.mono (by decide)) b1 .nil pass0 (by rfl) N.gC (pa_cons (pv 2) pa_nil)))) pss_nil)
      (pss_one (ps_expr (pe_bm PySem.F.plainAttrs_list PySem.F.slot_list_append PySem.F.type_list_append mt_append (pe_ix (k_ix (K := K) rfl) (pv 1) (pe_un un_neg pe_int) (fun _ _ => rfl)) (pa_cons (pv 3) pa_nil))))))))
      (pss_cons (ps_while (passes_of rfl) (pt_val (pe_cal c_has_sign hr (pa_cons (pv 0) (pa_cons (pv 2) (pa_cons pe_str pa_nil))))) (pss_cons (ps_set (i := 3) sc_read_form.nd rfl (by first | exact .inl rfl | exact .inr rfl) (pe_callTy (k_tuple (K := K) rfl) (by rfl) T.n_tuple (by decide +kernel) (pa_cons (pe_bm0 PySem.F.plainAttrs_list PySem.F.slot_list_pop PySem.F.type_list_pop mt_pop (pv 1)) pa_nil)))
      (pss_cons (ps_aug (i := 2) sc_read_form.nd rfl (by first | exact .inl rfl | exact .inr rfl) pe_int ip_add)
      (pss_cons (ps_if (pt_not (k_tru (K := K) rfl (pv 1))) (pss_one (ps_ret (pe_calP c_whole (passes_call (takes_of rfl rfl rfl rfl) fun _ _ _ _ h => h) hr (pa_cons (pv 3) (pa_cons (pv 0) (pa_cons (pv 2) pa_nil)))))) pss_nil)
      (pss_one (ps_expr (pe_bm PySem.F.plainAttrs_list PySem.F.slot_list_append PySem.F.type_list_append mt_append (pe_ix (k_ix (K := K) rfl) (pv 1) (pe_un un_neg pe_int) (fun _ _ => rfl)) (pa_cons (pv 3) pa_nil))))))))
      (pss_cons (ps_if (pt_not (pt_val (pe_cal c_has_sign hr (pa_cons (pv 0) (pa_cons (pv 2) (pa_cons pe_str pa_nil)))))) (pss_one (ps_raise rfl (takes_of rfl rfl rfl rfl) (pmk_oex N.oex N.iC N.tI G1 (hr.mono (by decide)) b1 .nil pass0 (by rfl) N.gC (pa_cons (pv 2) pa_nil)))) pss_nil)
      (pss_one (ps_aug (i := 2) sc_read_form.nd rfl (by first | exact .inl rfl | exact .inr rfl) pe_int ip_add))))))))), to_spE hn (fun S ds hp hx => ?_) h⟩)
  obtain ⟨x, rfl, ha⟩ := hp
  have eR : resRF [.str x] = toR2 (Run x.cps.toList [] 0) := rfl
  rw [eR] at hx
  rw [eR]
  have whr : ∀ {f : Fm} {i : Nat}, resWh [fD f, .str x, .int (i : Int)] = toR2 (whole x.cps.toList f i) := whole_res
  have plr : ∀ {i : Nat}, resPl [.str x, .int (i : Int)] = toRes (atom x.cps.toList i) := rfl
  generalize ht : x.cps.toList = t at hx whr plr ⊢
  have h128 : ∀ c ∈ t, c < 128 := by rw [← ht]; exact ha.2
  have hl2 : t.length ≤ 20000 := by rw [← ht]; exact ha.1
  generalize hRt : Run t [] 0 = Rt at hx ⊢
  change WX K S H _ [.dat (.str x), .no, .no, .no] [] _
  refine wx_newB (P := fun d => toR2 Rt = .inr d) fun b sb h0 => ?_
  have hX : ∀ {va : List L2.V} {i : Nat}, Rt = .inl i → XB (syD S b va) H E C "place" (i : Int) := fun e => (hx _ (by rw [e]; rfl)).ext (xS sb h0 _)
  refine wb_seq (wb_ws (ws_set (w_int ?_)))
  change WB K S H b _ [.dat (.str x), .own b, .dat (.int ((0 : Nat) : Int)), .no] [] [] _
  refine wb_while (fun m as' k' M' => ∃ (i : Nat) (s : Stk) (u : Sv), as' = [.dat (.str x), .own b, .dat (.int (i : Int)), u] ∧ i ≤ t.length ∧ m = t.length + 1 - i ∧ Run t s i = Rt ∧ SKR k' s M' ∧ BD s i) (t.length + 1) ⟨0, [], .no, rfl, Nat.zero_le _, rfl, hRt, ⟨rfl, fun p hp => (by cases hp), List.nodup_nil⟩, by simp, fun l hl => by cases hl⟩ ?_
  rintro m as' k' M' ⟨i, s, u, rfl, hi, rfl, hR, hS, hB⟩
  refine wtb_of (wt_B (w_bl (exb (iteK rfl ?_))))
  rw [Run_eq hi] at hR
  unfold step at hR
  -- the end of a turn
  refine wb_seqK (fun as' k' M' => ∃ (j : Nat) (l : List Fm) (r : Stk) (u : Sv), as' = [.dat (.str x), .own b, .dat (.int (j : Int)), u] ∧ i < j ∧ j ≤ t.length ∧ shut t (Run t) l r j = Rt ∧ SKR k' (l :: r) M' ∧ BD (l :: r) j) ?_ ?_
  · rintro as' k' M' ⟨j, l, r, u, rfl, hij, hj, hR, hS, hB⟩
    refine wb_seqK (fun as' k' M' => ∃ (j : Nat) (l : List Fm) (r : Stk) (u : Sv), as' = [.dat (.str x), .own b, .dat (.int (j : Int)), u] ∧ i < j ∧ j ≤ t.length ∧ shut t (Run t) l r j = Rt ∧ SKR k' (l :: r) M' ∧ BD (l :: r) j ∧ sg t (· == 41) j = false) ?_ ?_
    · rintro as' k' M' ⟨j, l, r, u, rfl, hij, hj, hR, hS, hB, h41⟩
      unfold shut at hR
      rw [h41, if_neg (by simp)] at hR
      refine wb_seq (wb_if (wtb_not (wtb_of (wt_B (w_has (w_var rfl) (w_var rfl) w_str ha (in1 q32) (exb ?_))))))
      rw [ht]
      refine iteB (fun h => ?_) (fun h => ?_)
      · rw [if_neg (by simpa using h)] at hR
        exact wb_wx (wx_raiseE (w_var rfl ⟨_, rfl, hX hR.symm⟩))
      · have h : sg t (· == 32) j = true := by simpa using h
        rw [if_pos h] at hR
        have hlt := sg_lt h
        refine wb_next (wb_ws (ws_aug rfl (w_int ⟨1, rfl, t.length + 1 - (j + 1), by omega, j + 1, l :: r, u, rfl, hlt, rfl, hR, hS, hB.up (by omega)⟩)))
    · refine wb_while (fun m as' k' M' => ∃ (j : Nat) (l : List Fm) (r : Stk) (u : Sv), as' = [.dat (.str x), .own b, .dat (.int (j : Int)), u] ∧ i < j ∧ j ≤ t.length ∧ shut t (Run t) l r j = Rt ∧ SKR k' (l :: r) M' ∧ BD (l :: r) j ∧ m = r.length) r.length ⟨j, l, r, u, rfl, hij, hj, hR, hS, hB, rfl⟩ ?_
      rintro m as' k' M' ⟨j, l, r, u, rfl, hij, hj, hR, hS, hB, rfl⟩
      refine wtb_of (wt_B (w_has (w_var rfl) (w_var rfl) w_str ha (in1 q41) (exb ?_)))
      rw [ht]
      refine iteB (fun h => ?_) (fun h => ?_)
      · have hlt := sg_lt h
        unfold shut at hR
        rw [if_pos h] at hR
        obtain ⟨a, k0, rfl, hm, hS0⟩ := hS.inv
        refine wb_seq (wb_pop rfl sb hm ?_)
        change WB K S H b _ [.dat (.str x), .own b, .dat (.int (j : Int)), .dat (.tuple (l.map fD))] k0 M' _
        rw [show PyData.tuple (l.map fD) = fD (.tup l) by show _ = PyData.tuple (fDs l); rw [fDs_map]]
        refine wb_seq (wb_ws (ws_aug rfl (w_int ⟨1, rfl, ?_⟩)))
        change WB K S H b _ [.dat (.str x), .own b, .dat (.int ((j + 1 : Nat) : Int)), .dat (fD (.tup l))] k0 M' _
        refine wb_seq (wb_if (wtb_not (wtb_sk rfl ?_)))
        cases r with
        | nil =>
          have e := hS0.empty
          subst e
          refine iteK rfl (wb_wx (wx_ret (wr_callE (war_cons (wr_of (w_var rfl (war_cons (wr_of (w_var rfl (war_cons (wr_of (w_var rfl (war_nil (m3 ⟨⟨_, x, j + 1, rfl, ha⟩, fun d hd => ?_, fun p hp => ?_⟩))))))))))))))
          · rw [whr] at hd
            rw [← hR]; exact hd
          · rw [whr] at hp
            refine (hx p ?_).ext (xS sb h0 _)
            rw [← hR]; exact hp
        | cons l2 r2 =>
          obtain ⟨a2, k2, rfl, hm2, hS2⟩ := hS0.inv
          refine iteN rfl (wb_next ?_)
          have hb2 := hB.tail.2 l2 List.mem_cons_self
          refine wb_app rfl rfl hm2 (by rw [List.length_map]; omega) ?_
          exact ⟨r2.length, by simp, j + 1, l2 ++ [.tup l], r2, _, rfl, by omega, hlt, by rw [← item_cons]; exact hR, hS0.app, hB.tail.app, rfl⟩
      · exact ⟨j, l, r, u, rfl, hij, hj, hR, hS, hB, h⟩
  refine wb_if (wtb_of (wt_B (w_has (w_var rfl) (w_var rfl) w_str ha (in1 q40) (exb ?_))))
  rw [ht]
  refine iteB (fun h => ?_) (fun h => ?_)
  · -- a bracket
    have hlt := sg_lt h
    rw [if_pos h] at hR
    refine wb_seq (wb_if (wtb_len rfl ?_))
    refine iteB (fun h4 => ?_) (fun h4 => ?_)
    · have h4 := of_decide_eq_true h4
      rw [if_pos (by rw [← hS.len]; omega)] at hR
      exact wb_wx (wx_raiseE (w_var rfl ⟨_, rfl, hX hR.symm⟩))
    · have h4 := of_decide_eq_false h4
      have hk := hS.len
      have hB1 := hB.1
      rw [if_neg (by omega)] at hR
      refine wb_next (wb_seq (wb_push rfl sb (by omega) fun a haM => ?_))
      refine wb_seq (wb_ws (ws_aug rfl (w_int ⟨1, rfl, ?_⟩)))
      change WB K S H b _ [.dat (.str x), .own b, .dat (.int ((i + 1 : Nat) : Int)), u] _ _ _
      refine wb_if (wtb_not (wtb_of (wt_B (w_has (w_var rfl) (w_var rfl) w_str ha (in1 q41) (exb ?_)))))
      rw [ht]
      refine iteB (fun h5 => ?_) (fun h5 => ?_)
      · rw [if_neg (by simpa using h5)] at hR
        exact wb_cont ⟨t.length + 1 - (i + 1), by omega, i + 1, [] :: s, u, rfl, hlt, rfl, hR, hS.push haM, (hB.push (by omega)).up (by omega)⟩
      · have h5 : sg t (· == 41) (i + 1) = true := by simpa using h5
        rw [if_pos h5] at hR
        refine wb_next ⟨i + 1, [], s, u, rfl, by omega, hlt, ?_, hS.push haM, (hB.push (by omega)).up (by omega)⟩
        unfold shut
        rw [if_pos h5]; exact hR
  · -- no bracket
    rw [h, if_neg (by simp)] at hR
    refine wb_seq (wb_wx (wx_asg ga_pair (wr_callE (war_cons (wr_of (w_var rfl (war_cons (wr_of (w_var rfl (war_nil (m2 ⟨⟨x, i, rfl, ha, by rw [ht]; exact hi⟩, fun d hd => ?_, fun p hp => ?_⟩)))))))))))
    · rw [plr] at hd
      cases ea : atom t i with
      | inl p => rw [ea] at hd; cases hd
      | inr q =>
        obtain ⟨f, e⟩ := q
        rw [ea] at hd hR
        have hd : PyData.tuple [fD f, .int (e : Int)] = d := by
          have hd : Sum.inr (PyData.tuple [fD f, .int (e : Int)]) = (Sum.inr d : Int ⊕ PyData) := hd
          injection hd
        subst hd
        have ha8 := atom_a8 ea h128
        have hge := atom_good ea
        dsimp only at hR
        refine ⟨_, _, .inl rfl, ?_⟩
        change WB K S H b _ [.dat (.str x), .own b, .dat (.int (e : Int)), .dat (fD f)] k' M' _
        refine wb_seq (wb_if (wtb_not (wtb_sk rfl ?_)))
        cases s with
        | nil =>
          have e0 := hS.empty
          subst e0
          have hR : item t (Run t) [] f e = Rt := by
            rw [← hR]
            cases isTextF f <;> rfl
          refine iteK rfl (wb_wx (wx_ret (wr_callE (war_cons (wr_of (w_var rfl (war_cons (wr_of (w_var rfl (war_cons (wr_of (w_var rfl (war_nil (m3 ⟨⟨_, x, e, rfl, ha⟩, fun d hd => ?_, fun p hp => ?_⟩))))))))))))))
          · rw [whr] at hd
            rw [← hR]; exact hd
          · rw [whr] at hp
            refine (hx p ?_).ext (xS sb h0 _)
            rw [← hR]; exact hp
        | cons l r =>
          obtain ⟨a, k0, rfl, hm, hS0⟩ := hS.inv
          have hb2 := hB.2 l List.mem_cons_self
          have fin : (isTextF f && lead (l :: r)) = false → WB K S H b (tDrop (tBM K "list" rAppend (tOp (rIx K) (tVar 1) (tUn (rU fun i => .int (-i)) (tC (.int 1)))) (tCons (tVar 3) tNil))) [.dat (.str x), .own b, .dat (.int (e : Int)), .dat (fD f)] ((a, l.map fD) :: k0) M' ⟨fun as' k' M' => ∃ (j : Nat) (l : List Fm) (r : Stk) (u : Sv), as' = [.dat (.str x), .own b, .dat (.int (j : Int)), u] ∧ i < j ∧ j ≤ t.length ∧ shut t (Run t) l r j = Rt ∧ SKR k' (l :: r) M' ∧ BD (l :: r) j, fun d => toR2 Rt = .inr d, fun a' k' m' => ∃ j, j < t.length + 1 - i ∧ ∃ (i : Nat) (s : Stk) (u : Sv), a' = [.dat (.str x), .own b, .dat (.int (i : Int)), u] ∧ i ≤ t.length ∧ j = t.length + 1 - i ∧ Run t s i = Rt ∧ SKR k' s m' ∧ BD s i⟩ := fun hl => by
            rw [hl, if_neg (by simp)] at hR
            refine wb_app rfl rfl hm (by rw [List.length_map]; omega) ?_
            exact ⟨e, l ++ [f], r, _, rfl, hge.1, hge.2, by rw [← item_cons]; exact hR, hS.app, hB.app.up (by omega)⟩
          refine iteN rfl (wb_next (wb_seq (wb_if (wtb_and (wtb_of (wt_test (w_op ao_eqW (w_var rfl (w_str (feq_text ha8 (exb ?_)))))))))))
          refine iteB (fun h1 => ?_) (fun h1 => ?_)
          · refine wtb_not (wtb_top rfl hm ?_)
            cases l with
            | nil =>
              refine iteK rfl (wb_wx (wx_raiseE (w_var rfl ⟨_, rfl, hX ?_⟩)))
              rw [h1] at hR
              exact hR.symm
            | cons c l2 => exact iteN rfl (wb_next (fin (by simp [lead])))
          · exact iteN rfl (wb_next (fin (by rw [h1]; rfl)))
    · rw [plr] at hp
      cases ea : atom t i with
      | inl q =>
        rw [ea] at hp hR
        have hp : (q : Int) = p := by
          have hp : Sum.inl (q : Int) = (Sum.inl p : Int ⊕ PyData) := hp
          injection hp
        subst hp
        exact hX hR.symm
      | inr q => rw [ea] at hp; cases hp
end
end K6

set_option Elab.async false
set_option linter.all false
set_option maxRecDepth 100000
set_option maxHeartbeats 4000000
namespace K6
open PySem PySem.Spec PyProof.Rows L2 Ab TL NumText
/-- one step of the reading -/
local macro_rules | `(tactic| walk_at "w") => `(tactic| first
  | (with_reducible refine ws_seq ?_) | (with_reducible refine ws_next ?_) | (with_reducible refine ws_set ?_) | (with_reducible refine ws_par ?_) | (with_reducible refine ws_ret ?_) | (with_reducible refine ws_if ?_) | (with_reducible refine ws_drop ?_)
  | (refine w_var rfl ?_) | (with_reducible refine w_int ?_) | (with_reducible refine w_str ?_) | (with_reducible refine w_bl ?_) | (with_reducible refine w_non ?_)
  | (with_reducible refine wa_nil ?_) | (with_reducible refine wa_cons ?_) | (with_reducible refine w_tup ?_) | (with_reducible refine w_lst ?_)
  | (with_reducible refine wt_test ?_) | (with_reducible refine wt_B ?_) | (with_reducible refine wt_not ?_) | (with_reducible refine wt_and ?_) | (with_reducible refine wt_or ?_)
  | (with_reducible refine w_andV ?_) | (with_reducible refine w_orV ?_) | (with_reducible refine w_notV ?_) | (with_reducible refine w_ite ?_)
  | (with_reducible refine w_op ao_eqW ?_) | (with_reducible refine w_op ao_neW ?_) | (with_reducible refine w_op ao_eq ?_) | (with_reducible refine w_op ao_ne ?_) | (with_reducible refine w_op ao_isB ?_) | (with_reducible refine w_op ao_notB ?_) | (with_reducible refine w_op ao_ix ?_) | (with_reducible refine w_op ao_plus ?_) | (with_reducible refine w_op ao_less ?_) | (with_reducible refine w_op ao_le ?_) | (with_reducible refine w_op ao_gt ?_) | (with_reducible refine w_op ao_ge ?_)
  | (with_reducible refine w_op ao_sub ?_) | (with_reducible refine w_op ao_mul ?_) | (with_reducible refine w_op ao_mod ?_) | (with_reducible refine w_op ao_div ?_) | (with_reducible refine w_op ao_pow ?_) | (with_reducible refine w_op ao_isNo ?_) | (with_reducible refine w_op ao_inSg ?_) | (with_reducible refine w_op ao_inW ?_) | (with_reducible refine w_op ao_ninW ?_) | (with_reducible refine w_op ao_inSeq ?_) | (with_reducible refine w_op ao_ninSeq ?_)
  | (with_reducible refine w_cb ac_len ?_) | (with_reducible refine w_cb ac_tupleOf ?_) | (with_reducible refine w_cb ac_intOf ?_) | (with_reducible refine w_cb ac_abs ?_) | (with_reducible refine w_cb ac_ord ?_) | (with_reducible refine w_cb ac_all ?_) | (with_reducible refine w_cb ac_any ?_)
  | (with_reducible refine w_isi (by decide) ?_) | (with_reducible refine w_isi2 (by decide) (by decide) ?_) | (with_reducible refine w_sl ?_) | (with_reducible refine wo_none ?_) | (with_reducible refine wo_some ?_)
  | (with_reducible refine w_chain ao_le ao_le ?_) | (with_reducible refine w_chain ao_leS ao_leS ?_) | (with_reducible refine w_call ?_))
local macro_rules | `(tactic| walk_at "v") => `(tactic| first
  | (with_reducible refine m0 ?_) | (with_reducible refine m1 ?_) | (with_reducible refine m2 ?_) | (with_reducible refine m3 ?_) | (with_reducible refine m5 ?_)
  | (with_reducible refine exb ?_) | (with_reducible refine exi ?_) | (with_reducible refine exl ?_) | (with_reducible refine exql ?_) | (with_reducible refine exqt ?_)
  | (refine fixt rfl ?_) | (refine fixl rfl ?_) | (refine fslt rfl ?_) | (refine fsll rfl ?_)
  | (with_reducible refine flent ?_; dsimp only [List.length_cons, List.length_nil]) | (with_reducible refine flenl ?_; dsimp only [List.length_cons, List.length_nil])
  | (with_reducible refine fii (by first | trivial | decide) ?_) | (with_reducible refine fpi ?_) | (with_reducible refine flti ?_) | (with_reducible refine fint ?_) | (with_reducible refine ftupl ?_) | (with_reducible refine ftupt ?_)
  | (with_reducible refine feqW (by decide +kernel) (by decide +kernel) (by decide +kernel) ?_) | (with_reducible refine fneW (by decide +kernel) (by decide +kernel) (by decide +kernel) ?_)
  | (with_reducible refine feq (by decide +kernel) (by decide +kernel) ?_) | (with_reducible refine fne (by decide +kernel) (by decide +kernel) ?_)
  | (with_reducible refine iteK rfl ?_) | (with_reducible refine iteN rfl ?_) | (with_reducible refine iteK (by decide +kernel) ?_) | (with_reducible refine iteN (by decide +kernel) ?_))
local macro_rules | `(tactic| walk_at "x") => `(tactic| first | (with_reducible refine wx_seq ?_) | (with_reducible refine wx_if ?_) | (with_reducible refine wx_next ?_) | (with_reducible refine wx_ret ?_) | (with_reducible refine wr_tup ?_) | (with_reducible refine war_cons ?_) | (with_reducible refine war_nil ?_))
local macro_rules | `(tactic| walk_at "ww") => `(tactic| repeat (first | walk_at "w" | walk_at "v" | walk_at "x"))


theorem cal_void {P : Program} {w : World} {K : PySem.W.Frag} {mg : Str → Option Value} {base : Heap} {k : Nat} {x : Str} {st : Stmt} {ps : List Str} {sp : Sp} (F : Dfn K mg x st ps) (h : ∀ vs H Q E, ¬ sp vs H Q E) : Cal P w K mg base k x ps sp := by
  obtain ⟨f, fd, a, b, c⟩ := F.ex
  exact ⟨f, fd, ⟨fun vs H Q E q => absurd q (h _ _ _ _), fun A outer s H args us vs Q E hr he hb hv q => absurd q (h _ _ _ _)⟩, b, a.kp, c⟩
theorem cmr {i j : Int} (h : -(2 ^ 64) < j ∧ j < 2 ^ 64) : CMul i j := .inr h
theorem ms_one {p : Addr} {fl : Bool} {X Y : List PyData} : mset [(p, fl, X)] p Y = [(p, fl, Y)] := by simp [mset]
def intL (ns : List Int) : PyData := .list (ns.map .int)
section
variable {P : Program} {w : World} {K : PySem.W.Frag} {mg : Str → Option Value} {base : Heap} (T : Txt K mg)
def prePool (ds : List PyData) : Prop := ∃ (ns : List Int) (n : Nat), ds = [intL ns, .int (n : Int)] ∧ ns.length ≤ 63
include T in
theorem ok_law_pool (F : Dfn K mg "_law_pool" s_law_pool ["_law_script", "_law_at"]) : Cal P w K mg base 1 "_law_pool" ["_law_script", "_law_at"] (spN prePool (fun _ pl => poolD pl) K) := by
  have hn : ∀ ds, prePool ds → ds.length = 2 := by rintro ds ⟨ns, n, rfl, _⟩; rfl
  refine F.ok sc_law_pool (fun vs H Q E h => spN_len hn h) (fun f cdv A outer s H vs Q E hr h => ⟨_, (pss_cons (ps_set (i := 2) sc_law_pool.nd rfl (by first | exact .inl rfl | exact .inr rfl) (pe_ifExp (pt_cmpR op_less (pv 1) (pe_callB (k_len (K := K) rfl) (by rfl) T.n_len (by decide +kernel) (pa_cons (pv 0) pa_nil)) (nomark _)) (pe_ix (k_ix (K := K) rfl) (pv 0) (pv 1) (fun _ _ => rfl)) pe_int))
      (pss_cons (ps_set (i := 3) sc_law_pool.nd rfl (by first | exact .inl rfl | exact .inr rfl) (pe_ifExp (pt_cmpR op_geI (pv 2) pe_int (nomark _)) (pe_op op_mulI (pv 2) pe_int) (pe_op op_subI pe_int (pe_op op_mulI (pv 2) pe_int))))
      (pss_cons (ps_set (i := 4) sc_law_pool.nd rfl (by first | exact .inl rfl | exact .inr rfl) (pe_op op_modI (pe_callTy call_intOf (by rfl) T.n_int (by decide +kernel) (pa_cons (pe_op (k_plus (K := K) rfl) (pe_op (k_plus (K := K) rfl) (pe_op (k_plus (K := K) rfl) (pe_op op_mulI (pv 3) pe_int) (pe_op op_mulI (pv 1) pe_int)) (pe_op op_mulI (pe_callB (k_len (K := K) rfl) (by rfl) T.n_len (by decide +kernel) (pa_cons (pv 0) pa_nil)) pe_int)) pe_int) pa_nil)) pe_int))
      (pss_one (ps_ret (pe_lst (pa_cons (pe_ifExp (pt_cmpR op_geI (pv 3) (pe_op op_powI pe_int pe_int) (nomark _)) (pv 3) pe_int) (pa_cons (pv 4) (pa_cons pe_int pa_nil))))))))), to_spN hn (fun ds hp => ?_) h⟩)
  obtain ⟨ns, n, rfl, hl⟩ := hp
  change WN K _ [.dat (intL ns), .dat (.int (n : Int)), .no, .no, .no] [] _
  -- cell
  have c1 : ∀ (cell : Int), WN K (tSeq (tAsg (tIf (tTest (tOp rGeI (tVar 2) (tC (.int 0)))) (tOp rMulI (tVar 2) (tC (.int 2))) (tOp rSubI (tC (.int 1)) (tOp rMulI (tVar 2) (tC (.int 2))))) (gName 3))
      (tSeq (tAsg (tOp rModI (tCB rIntOf (tCons (tOp (rPlus K) (tOp (rPlus K) (tOp (rPlus K) (tOp rMulI (tVar 3) (tC (.int 48271))) (tOp rMulI (tVar 1) (tC (.int 69621)))) (tOp rMulI (tCB (rLenA K) (tCons (tVar 0) tNil)) (tC (.int 7919)))) (tC (.int 104729))) tNil)) (tC (.int 2147483647))) (gName 4))
        (tRet (tLst (tCons (tIf (tTest (tOp rGeI (tVar 3) (tOp rPowI (tC (.int 10)) (tC (.int 18))))) (tVar 3) (tC (.int 0))) (tCons (tVar 4) (tCons (tC (.int 0)) tNil)))))))
      [.dat (intL ns), .dat (.int (n : Int)), .dat (.int cell), .no, .no] [] poolD := by
    intro cell
    have c2 : ∀ (size : Int), 0 ≤ size → WN K (tSeq (tAsg (tOp rModI (tCB rIntOf (tCons (tOp (rPlus K) (tOp (rPlus K) (tOp (rPlus K) (tOp rMulI (tVar 3) (tC (.int 48271))) (tOp rMulI (tVar 1) (tC (.int 69621)))) (tOp rMulI (tCB (rLenA K) (tCons (tVar 0) tNil)) (tC (.int 7919)))) (tC (.int 104729))) tNil)) (tC (.int 2147483647))) (gName 4))
        (tRet (tLst (tCons (tIf (tTest (tOp rGeI (tVar 3) (tOp rPowI (tC (.int 10)) (tC (.int 18))))) (tVar 3) (tC (.int 0))) (tCons (tVar 4) (tCons (tC (.int 0)) tNil))))))
        [.dat (intL ns), .dat (.int (n : Int)), .dat (.int cell), .dat (.int size), .no] [] poolD := by
      intro size hs
      refine wn_seq (ws_set (w_op ao_mod (w_cb ac_intOf (wa_cons ?_))))
      refine w_op ao_plus (w_op ao_plus (w_op ao_plus (w_op ao_mul (w_var rfl (w_int (fii (cmr (by decide)) ?_))))))
      refine w_op ao_mul (w_var rfl (w_int (fii (cmr (by decide)) (fpi ?_))))
      refine w_op ao_mul (w_cb ac_len (wa_cons (w_var rfl (wa_nil (m1 (flenl (w_int (fii (cmr (by decide)) (fpi ?_)))))))))
      refine w_int (fpi (wa_nil (m1 (fint (w_int (fii (by decide) ?_))))))
      refine wn_ret (wa_cons (w_ite (wt_test (w_op ao_ge (w_var rfl (w_op ao_pow (w_int (w_int (fii (by refine ⟨by decide, by decide, by decide⟩) (fii trivial (exb ?_)))))))))))
      have m := Int.emod_nonneg (size * 48271 + (n : Int) * 69621 + ((ns.map PyData.int).length : Int) * 7919 + 104729) (show (2147483647 : Int) ≠ 0 by decide)
      have m2 := Int.emod_lt_of_pos (size * 48271 + (n : Int) * 69621 + ((ns.map PyData.int).length : Int) * 7919 + 104729) (show (0 : Int) < 2147483647 by decide)
      refine iteB (fun _ => ?_) (fun _ => ?_)
      · exact w_var rfl (wa_cons (w_var rfl (wa_cons (w_int (wa_nil (m3 ⟨by simp, size, _, 0, rfl, hs, m, m2, by decide⟩))))))
      · exact w_int (wa_cons (w_var rfl (wa_cons (w_int (wa_nil (m3 ⟨by simp, 0, _, 0, rfl, by decide, m, m2, by decide⟩))))))
    refine wn_seq (ws_set (w_ite (wt_test (w_op ao_ge (w_var rfl (w_int (fii trivial (exb ?_))))))))
    refine iteB (fun h => ?_) (fun h => ?_)
    · have h : 0 ≤ cell := of_decide_eq_true h
      exact w_op ao_mul (w_var rfl (w_int (fii (cmr (by decide)) (c2 (cell * 2) (by omega)))))
    · have h : ¬ 0 ≤ cell := of_decide_eq_false h
      exact w_op ao_sub (w_int (w_op ao_mul (w_var rfl (w_int (fii (cmr (by decide)) (fii trivial (c2 (1 - cell * 2) (by omega))))))))
  refine wn_seq (ws_set (w_ite (wt_test (w_op ao_less (w_var rfl (w_cb ac_len (wa_cons (w_var rfl (wa_nil (m1 (flenl (flti (exb ?_))))))))))))) 
  refine iteB (fun h => ?_) (fun h => ?_)
  · have h : (n : Int) < ((ns.map PyData.int).length : Int) := of_decide_eq_true h
    have hn2 : n < ns.length := by rw [List.length_map] at h; omega
    refine w_op ao_ix (w_var rfl (w_var rfl (fixl (a := .int ns[n]) (atI_nat (by rw [List.getElem?_map, List.getElem?_eq_getElem hn2]; rfl)) ?_)))
    exact c1 ns[n]
  · exact w_int (c1 0)
def preDraw (ds : List PyData) : Prop := ∃ m : Int, ds = [.int m] ∧ 0 < m ∧ m < 1000000
def postDraw (ds : List PyData) (x : PyData) : Prop := ∀ m : Int, ds = [.int m] → ∃ n : Nat, x = .int (n : Int) ∧ (n : Int) < m
include T in
theorem ok_law_draw (F : Dfn K mg "_law_draw" s_law_draw ["_law_pool_here", "_law_many"]) : Cal P w K mg base 1 "_law_draw" ["_law_pool_here", "_law_many"] (spQ preDraw postDraw K) := by
  have hn : ∀ ds, preDraw ds → ds.length = 1 := by rintro ds ⟨m, rfl, _⟩; rfl
  refine F.ok sc_law_draw (fun vs H Q E h => spQ_len hn h) (fun f cdv A outer s H vs Q E hr h => ⟨_, (pss_cons (ps_if (pt_cmpR op_gtI (pe_ix (k_ix (K := K) rfl) (pv 0) pe_int (fun _ _ => rfl)) pe_int (nomark _)) (pss_cons (ps_set (i := 2) sc_law_draw.nd rfl (by first | exact .inl rfl | exact .inr rfl) (pe_op op_modI (pe_ix (k_ix (K := K) rfl) (pv 0) pe_int (fun _ _ => rfl)) (pv 1)))
      (pss_cons (ps_asg (pe_op op_divW (pe_ix (k_ix (K := K) rfl) (pv 0) pe_int (fun _ _ => rfl)) (pv 1)) (pg_sub (pv 0) pe_int set_list))
      (pss_one (ps_ret (pv 2))))) pss_nil)
      (pss_cons (ps_asg (pe_op (k_plus (K := K) rfl) (pe_ix (k_ix (K := K) rfl) (pv 0) pe_int (fun _ _ => rfl)) pe_int) (pg_sub (pv 0) pe_int set_list))
      (pss_cons (ps_asg (pe_op op_modI (pe_callTy call_intOf (by rfl) T.n_int (by decide +kernel) (pa_cons (pe_op (k_plus (K := K) rfl) (pe_op (k_plus (K := K) rfl) (pe_op op_mulI (pe_ix (k_ix (K := K) rfl) (pv 0) pe_int (fun _ _ => rfl)) pe_int) (pe_op op_mulI (pe_ix (k_ix (K := K) rfl) (pv 0) pe_int (fun _ _ => rfl)) pe_int)) pe_int) pa_nil)) pe_int) (pg_sub (pv 0) pe_int set_list))
      (pss_one (ps_ret (pe_op op_modI (pe_callTy call_intOf (by rfl) T.n_int (by decide +kernel) (pa_cons (pe_op (k_plus (K := K) rfl) (pe_op op_divW (pe_ix (k_ix (K := K) rfl) (pv 0) pe_int (fun _ _ => rfl)) pe_int) (pe_op op_divW (pe_op op_mulI (pe_ix (k_ix (K := K) rfl) (pv 0) pe_int (fun _ _ => rfl)) pe_int) pe_int)) pa_nil)) (pv 1))))))), to_spQ hn (fun p pl ds hpl hp => ?_) h⟩)
  obtain ⟨m, rfl, hm, hm2⟩ := hp
  obtain ⟨b, s0, c, rfl, hb, hs, hs2, hc⟩ := hpl
  change WS K _ [.own p, .dat (.int m), .no] [(p, false, [.int b, .int s0, .int c])] _
  have mem : ∀ X : List PyData, (p, false, X) ∈ [(p, false, X)] := fun X => List.mem_cons_self
  have post : ∀ z : Int, 0 ≤ z → z < m → postDraw [.int m] (.int z) := fun z h1 h2 m' e => by
    injection e with e; injection e with e
    subst e
    exact ⟨z.toNat, by rw [Int.toNat_of_nonneg h1], by rw [Int.toNat_of_nonneg h1]; exact h2⟩
  have hdw : CDivW 0 m := wide_div (b := 20) hm (by omega) (by decide) (by decide)
  refine ws_seq (ws_if (wt_test (w_op ao_gt (w_ixown rfl (w_int ⟨_, _, mem _, fixl rfl (w_int (fii trivial (exb ?_)))⟩)))))
  refine iteB (fun h => ?_) (fun h => ?_)
  · refine ws_seq (ws_set (w_op ao_mod (w_ixown rfl (w_int ⟨_, _, mem _, fixl rfl (w_var rfl (fii hm ?_))⟩))))
    refine ws_seq (ws_setown (k := 0) rfl (w_op ao_div (w_ixown rfl (w_int ⟨_, _, mem _, fixl rfl (w_var rfl (fii hdw ⟨_, _, mem _, by simp, ?_⟩))⟩))))
    rw [ms_one]
    refine ws_ret (w_var rfl ⟨_, rfl, ⟨_, s0, c, rfl, Int.ediv_nonneg hb (by omega), hs, hs2, hc⟩, post _ (Int.emod_nonneg _ (by omega)) (Int.emod_lt_of_pos _ hm)⟩)
  · refine ws_next ?_
    refine ws_seq (ws_setown (k := 2) rfl (w_op ao_plus (w_ixown rfl (w_int ⟨_, _, mem _, fixl rfl (w_int (fpi ⟨_, _, mem _, by simp, ?_⟩))⟩))))
    rw [ms_one]
    refine ws_seq (ws_setown (k := 1) rfl (w_op ao_mod (w_cb ac_intOf (wa_cons (w_op ao_plus (w_op ao_plus (w_op ao_mul (w_ixown rfl (w_int ⟨_, _, mem _, fixl rfl (w_int (fii (cmr (by decide)) ?_))⟩)))))))))
    refine w_op ao_mul (w_ixown rfl (w_int ⟨_, _, mem _, fixl rfl (w_int (fii (cmr (by decide)) (fpi (w_int (fpi (wa_nil (m1 (fint (w_int (fii (by decide) ⟨_, _, mem _, by simp, ?_⟩))))))))))⟩))
    rw [ms_one]
    have z1 := Int.emod_nonneg (s0 * 16807 + (c + 1) * 7919 + 12345) (show (2147483647 : Int) ≠ 0 by decide)
    have z2 := Int.emod_lt_of_pos (s0 * 16807 + (c + 1) * 7919 + 12345) (show (0 : Int) < 2147483647 by decide)
    refine ws_ret (w_op ao_mod (w_cb ac_intOf (wa_cons (w_op ao_plus (w_op ao_div (w_ixown rfl (w_int ⟨_, _, mem _, fixl rfl (w_int (fii (wide_div (b := 4) (by decide) (by decide) (by decide) (by decide)) ?_))⟩)))))))
    refine w_op ao_div (w_op ao_mul (w_ixown rfl (w_int ⟨_, _, mem _, fixl rfl (w_int (fii (cmr (by decide)) (w_int (fii (wide_div (b := 20) (by decide) (by decide) (by decide) (by decide)) (fpi (wa_nil (m1 (fint (w_var rfl (fii hm ?_))))))))))⟩)))
    exact ⟨_, rfl, ⟨b, _, c + 1, rfl, hb, z1, z2, by omega⟩, post _ (Int.emod_nonneg _ (by omega)) (Int.emod_lt_of_pos _ hm)⟩
end
theorem isnb {b : Bool} {P : PyData → Prop} (h : P (.bool false)) : fIsNo (.bool b) .none P := h
theorem isns {b : Str} {P : PyData → Prop} (h : P (.bool false)) : fIsNo (.str b) .none P := h
theorem isnl {b : List PyData} {P : PyData → Prop} (h : P (.bool false)) : fIsNo (.list b) .none P := h
theorem isnt {b : List PyData} {P : PyData → Prop} (h : P (.bool false)) : fIsNo (.tuple b) .none P := h
local macro_rules | `(tactic| walk_at "v") => `(tactic| first | (with_reducible refine isn0 ?_) | (with_reducible refine isnb ?_) | (with_reducible refine isni ?_) | (with_reducible refine isns ?_) | (with_reducible refine isnl ?_) | (with_reducible refine isnt ?_))
/-! ### exact, relisted -/
inductive EX : Nat → PyData → Prop
  | non {n : Nat} : EX n .none
  | bl {n : Nat} {b : Bool} : EX n (.bool b)
  | int {n : Nat} {i : Int} : EX n (.int i)
  | str {n : Nat} {z : Str} : (PyData.str z).canLay0 = true → EX n (.str z)
  | lst {n : Nat} {xs : List PyData} : xs.length ≤ 10000 → (∀ x ∈ xs, EX n x) → EX (n + 1) (.list xs)
  | tup {n : Nat} {xs : List PyData} : xs.length ≤ 10000 → (∀ x ∈ xs, EX n x) → EX (n + 1) (.tuple xs)
theorem EX.mono {n m : Nat} {d : PyData} (h : EX n d) (hm : n ≤ m) : EX m d := by
  induction h generalizing m with
  | non => exact .non
  | bl => exact .bl
  | int => exact .int
  | str h => exact .str h
  | lst hl _ ih =>
    obtain ⟨k, rfl⟩ : ∃ k, m = k + 1 := ⟨m - 1, by omega⟩
    exact .lst hl fun x hx => ih x hx (by omega)
  | tup hl _ ih =>
    obtain ⟨k, rfl⟩ : ∃ k, m = k + 1 := ⟨m - 1, by omega⟩
    exact .tup hl fun x hx => ih x hx (by omega)
abbrev spEx (n : Nat) (K : PySem.W.Frag) : Sp := spP (fun ds => ∃ d, ds = [d, d] ∧ EX n d) (fun _ x => x = .bool true) K
theorem neb (b : Bool) : (!PyData.eqv (.bool b) (.bool b)) = false := by cases b <;> rfl
section
variable {P : Program} {w : World} {K : PySem.W.Frag} {mg : Str → Option Value} {base : Heap} (T : Txt K mg)
include T in
theorem ok_law_exact1 (n : Nat) (F : Dfn K mg "_law_exact" s_law_exact ["_law_told", "_law_due"]) (c_law_exact : ∀ m, n = m + 1 → Cal P w K mg base n "_law_exact" ["_law_told", "_law_due"] (spEx m K)) :
    Cal P w K mg base (n + 1) "_law_exact" ["_law_told", "_law_due"] (spEx n K) := by
  have hn : ∀ ds, (∃ d, ds = [d, d] ∧ EX n d) → ds.length = 2 := by rintro ds ⟨d, rfl, _⟩; rfl
  have hc : ∃ m, (∀ d, EX n d → (match d with | .list _ => n = m + 1 | .tuple _ => n = m + 1 | _ => True)) ∧ Cal P w K mg base n "_law_exact" ["_law_told", "_law_due"] (spP (fun ds => n = m + 1 ∧ ∃ d, ds = [d, d] ∧ EX m d) (fun _ x => x = .bool true) K) := by
    cases n with
    | zero =>
      refine ⟨0, fun d h => by cases h <;> trivial, cal_void F fun vs H Q E h => ?_⟩
      obtain ⟨S, ds, _, ⟨e, _⟩, _⟩ := h
      omega
    | succ m =>
      refine ⟨m, fun d h => by cases h <;> trivial, ?_⟩
      obtain ⟨f, fd, a, b, c, e⟩ := (c_law_exact m rfl).ex
      exact ⟨f, fd, a.imp fun vs H Q E h => by
        obtain ⟨S, ds, i, ⟨_, p⟩, r⟩ := h
        exact ⟨S, ds, i, p, r⟩, b, c, e⟩
  obtain ⟨m, hm, c_law_exact⟩ := hc
  refine F.ok sc_law_exact (fun vs H Q E h => spP_len hn h) (fun f cdv A outer s H vs Q E hr h => ⟨_, (pss_cons (ps_if (pt_val (pe_callB (k_isiT (K := K) rfl) (by rfl) T.n_isinstance (by decide +kernel) (pa_cons (pv 1) (pa_cons (pe_tup (pa_cons (pe_bltn (v := .ty "list") (u := .type "list") (by rfl) T.n_list (by decide +kernel) rfl) (pa_cons (pe_bltn (v := .ty "tuple") (u := .type "tuple") (by rfl) T.n_tuple (by decide +kernel) rfl) pa_nil))) pa_nil)))) (pss_cons (ps_if (PW.pt (pw_or (pt_cmpR (k_neW (K := K) rfl hr) (pe_callB (k_isi (K := K) rfl) (by rfl) T.n_isinstance (by decide +kernel) (pa_cons (pv 1) (pa_cons (pe_bltn (v := .ty "list") (u := .type "list") (by rfl) T.n_list (by decide +kernel) rfl) pa_nil))) (pe_callB (k_isi (K := K) rfl) (by rfl) T.n_isinstance (by decide +kernel) (pa_cons (pv 0) (pa_cons (pe_bltn (v := .ty "list") (u := .type "list") (by rfl) T.n_list (by decide +kernel) rfl) pa_nil))) (nomark _)) (pw_or1 (pt_cmpR (k_neW (K := K) rfl hr) (pe_callB (k_isi (K := K) rfl) (by rfl) T.n_isinstance (by decide +kernel) (pa_cons (pv 1) (pa_cons (pe_bltn (v := .ty "tuple") (u := .type "tuple") (by rfl) T.n_tuple (by decide +kernel) rfl) pa_nil))) (pe_callB (k_isi (K := K) rfl) (by rfl) T.n_isinstance (by decide +kernel) (pa_cons (pv 0) (pa_cons (pe_bltn (v := .ty "tuple") (u := .type "tuple") (by rfl) T.n_tuple (by decide +kernel) rfl) pa_nil))) (nomark _))))) (pss_one (ps_ret pe_bl)) pss_nil)
      (pss_cons (ps_if (pt_cmpR (k_neW (K := K) rfl hr) (pe_callB (k_len (K := K) rfl) (by rfl) T.n_len (by decide +kernel) (pa_cons (pv 0) pa_nil)) (pe_callB (k_len (K := K) rfl) (by rfl) T.n_len (by decide +kernel) (pa_cons (pv 1) pa_nil)) (nomark _)) (pss_one (ps_ret pe_bl)) pss_nil)
      (pss_one (ps_ret (pe_cmpR (k_eqW (K := K) rfl hr) (pe_lc (own := [("_law_k", 2)]) (by rfl) sc_law_exact.nd (pi_range1 (by rfl) T.n_range (pa_cons (pe_callB (k_len (K := K) rfl) (by rfl) T.n_len (by decide +kernel) (pa_cons (pv 1) pa_nil)) pa_nil)) (blkOk_by (N := ["_law_told", "_law_due", "_law_k"]) (sc := defScope s_law_exact) (by decide +kernel)) (fun _ _ _ _ _ => (pg_name (i := 2) sc_law_exact.nd rfl (by first | exact .inl rfl | exact .inr rfl))) (fun _ _ _ _ _ => (pts_one (pt_not (pt_val (pe_cal c_law_exact hr (pa_cons (pe_ix (k_ix (K := K) rfl) (pv 0) (pv 2) (fun _ _ => rfl)) (pa_cons (pe_ix (k_ix (K := K) rfl) (pv 1) (pv 2) (fun _ _ => rfl)) pa_nil))))))) (fun _ _ _ _ _ => (pv 2))) (pe_lst pa_nil) (nomark _)))))) pss_nil)
      (pss_cons (ps_if (pt_cmpR op_isNo (pv 1) pe_non (nomark _)) (pss_one (ps_ret (pe_cmpR op_isNo (pv 0) pe_non (nomark _)))) pss_nil)
      (pss_cons (ps_if (pt_val (pe_callB (k_isi (K := K) rfl) (by rfl) T.n_isinstance (by decide +kernel) (pa_cons (pv 1) (pa_cons (pe_bltn (v := .ty "bool") (u := .type "bool") (by rfl) T.n_bool (by decide +kernel) rfl) pa_nil)))) (pss_one (ps_ret (pe_and (pe_callB (k_isi (K := K) rfl) (by rfl) T.n_isinstance (by decide +kernel) (pa_cons (pv 0) (pa_cons (pe_bltn (v := .ty "bool") (u := .type "bool") (by rfl) T.n_bool (by decide +kernel) rfl) pa_nil))) (pe_one (pe_cmpR (k_eqW (K := K) rfl hr) (pv 0) (pv 1) (nomark _)))))) pss_nil)
      (pss_cons (ps_if (pt_val (pe_callB (k_isi (K := K) rfl) (by rfl) T.n_isinstance (by decide +kernel) (pa_cons (pv 1) (pa_cons (pe_bltn (v := .ty "str") (u := .type "str") (by rfl) T.n_str (by decide +kernel) rfl) pa_nil)))) (pss_one (ps_ret (pe_and (pe_callB (k_isi (K := K) rfl) (by rfl) T.n_isinstance (by decide +kernel) (pa_cons (pv 0) (pa_cons (pe_bltn (v := .ty "str") (u := .type "str") (by rfl) T.n_str (by decide +kernel) rfl) pa_nil))) (pe_one (pe_cmpR (k_eqW (K := K) rfl hr) (pv 0) (pv 1) (nomark _)))))) pss_nil)
      (pss_one (ps_ret (pe_and (pe_callB (k_isi (K := K) rfl) (by rfl) T.n_isinstance (by decide +kernel) (pa_cons (pv 0) (pa_cons (pe_bltn (v := .ty "int") (u := .type "int") (by rfl) T.n_int (by decide +kernel) rfl) pa_nil))) (pe_and (pe_not (pe_callB (k_isi (K := K) rfl) (by rfl) T.n_isinstance (by decide +kernel) (pa_cons (pv 0) (pa_cons (pe_bltn (v := .ty "bool") (u := .type "bool") (by rfl) T.n_bool (by decide +kernel) rfl) pa_nil)))) (pe_one (pe_cmpR (k_eqW (K := K) rfl hr) (pv 0) (pv 1) (nomark _))))))))))), to_spP hn (fun ds hp => ?_) h⟩)
  obtain ⟨d, rfl, hd⟩ := hp
  have hmd := hm d hd
  change WS K _ [.dat d, .dat d, .no] [] _
  cases hd with
  | non =>
    walk_at "ww"
    rfl
  | bl =>
    walk_at "ww"
    refine feqW rfl rfl (by simp [PyData.depth]) ?_
    rename_i b
    show PyData.bool (PyData.eqv (.bool b) (.bool b)) = _
    cases b <;> rfl
  | int =>
    walk_at "ww"
    refine feqW rfl rfl (by simp [PyData.depth]) ?_
    rename_i i
    show PyData.bool (i == i) = _
    rw [beq_self_eq_true]
  | str hz =>
    walk_at "ww"
    refine feqW hz hz (by simp [PyData.depth]) ?_
    rename_i z
    show PyData.bool (PyData.eqv (.str z) (.str z)) = _
    rw [str_eqv, decide_eq_true rfl]
  | @lst m' xs hl hx =>
    have em : m' = m := by have : m' + 1 = m + 1 := hmd; omega
    subst em
    walk_at "ww"
    refine fneW rfl rfl (by simp [PyData.depth]) (exb (iteN (neb _) ?_))
    walk_at "ww"
    refine fneW rfl rfl (by simp [PyData.depth]) ?_
    refine exb (iteN (neb _) ?_)
    walk_at "ww"
    refine flenl ?_
    refine fneW rfl rfl (by simp [PyData.depth]) ?_
    refine exb (iteN ?_ ?_)
    · show (!(((xs.length : Nat) : Int) == ((xs.length : Nat) : Int))) = false
      rw [beq_self_eq_true]; rfl
    walk_at "ww"
    refine w_filt (by decide) (wi_rng (wa_cons (w_cb ac_len (wa_cons (w_var rfl (wa_nil (m1 (flenl (wa_nil ?_)))))))))
    refine ⟨_, rfl, by omega, by omega, fun _ => false, fun x => x, by simp; omega, fun x hxm => ?_, ?_⟩
    · obtain ⟨j, hj, rfl⟩ := List.mem_map.mp hxm
      have hj : j < xs.length := by simpa using List.mem_range.mp hj
      have hat : atI xs (j : Int) = some xs[j] := atI_nat (List.getElem?_eq_getElem hj)
      change WT K _ [.dat (.list xs), .dat (.list xs), .dat (.int (j : Int))] [] _
      refine wt_not (wt_B (w_call (wa_cons (w_op ao_ix (w_var rfl (w_var rfl (fixl hat (wa_cons (w_op ao_ix (w_var rfl (w_var rfl (fixl hat (wa_nil (m2 ⟨⟨rfl, xs[j], rfl, hx _ (List.getElem_mem hj)⟩, fun d hd => ?_⟩))))))))))))))
      subst hd
      exact exb ⟨rfl, rfl, fun h => by cases h⟩
    · rw [show (((List.range ((xs.length : Nat) : Int).toNat).map fun (i : Nat) => PyData.int (i : Int)).filter fun _ => false) = [] by simp]
      refine w_lst (wa_nil (m0 ⟨by simp, feqW (by rfl) (by rfl) (by simp [PyData.depth, PyData.depthAll]) ?_⟩))
      rfl
  | @tup m' xs hl hx =>
    have em : m' = m := by have : m' + 1 = m + 1 := hmd; omega
    subst em
    walk_at "ww"
    refine fneW rfl rfl (by simp [PyData.depth]) (exb (iteN (neb _) ?_))
    walk_at "ww"
    refine fneW rfl rfl (by simp [PyData.depth]) ?_
    refine exb (iteN (neb _) ?_)
    walk_at "ww"
    refine flent ?_
    refine fneW rfl rfl (by simp [PyData.depth]) ?_
    refine exb (iteN ?_ ?_)
    · show (!(((xs.length : Nat) : Int) == ((xs.length : Nat) : Int))) = false
      rw [beq_self_eq_true]; rfl
    walk_at "ww"
    refine w_filt (by decide) (wi_rng (wa_cons (w_cb ac_len (wa_cons (w_var rfl (wa_nil (m1 (flent (wa_nil ?_)))))))))
    refine ⟨_, rfl, by omega, by omega, fun _ => false, fun x => x, by simp; omega, fun x hxm => ?_, ?_⟩
    · obtain ⟨j, hj, rfl⟩ := List.mem_map.mp hxm
      have hj : j < xs.length := by simpa using List.mem_range.mp hj
      have hat : atI xs (j : Int) = some xs[j] := atI_nat (List.getElem?_eq_getElem hj)
      change WT K _ [.dat (.tuple xs), .dat (.tuple xs), .dat (.int (j : Int))] [] _
      refine wt_not (wt_B (w_call (wa_cons (w_op ao_ix (w_var rfl (w_var rfl (fixt hat (wa_cons (w_op ao_ix (w_var rfl (w_var rfl (fixt hat (wa_nil (m2 ⟨⟨rfl, xs[j], rfl, hx _ (List.getElem_mem hj)⟩, fun d hd => ?_⟩))))))))))))))
      subst hd
      exact exb ⟨rfl, rfl, fun h => by cases h⟩
    · rw [show (((List.range ((xs.length : Nat) : Int).toNat).map fun (i : Nat) => PyData.int (i : Int)).filter fun _ => false) = [] by simp]
      refine w_lst (wa_nil (m0 ⟨by simp, feqW (by rfl) (by rfl) (by simp [PyData.depth, PyData.depthAll]) ?_⟩))
      rfl
include T in
theorem ok_law_exact (F : Dfn K mg "_law_exact" s_law_exact ["_law_told", "_law_due"]) : ∀ n, Cal P w K mg base (n + 1) "_law_exact" ["_law_told", "_law_due"] (spEx n K)
  | 0 => ok_law_exact1 T 0 F fun m h => by omega
  | n + 1 => ok_law_exact1 T (n + 1) F fun m h => by
    have e : n = m := by omega
    subst e
    exact ok_law_exact F n
end

theorem pe_cal0 {X : Cx} {k : Nat} {x : Str} {sp : Sp} {p pos : Pos} (c : Cal X.prog X.w X.K X.mg X.base k x [] sp) (hr : Room k X.A) (hg : Gl X x := by rfl) (hdb : (x == ("__debug__" : Str)) = false := by decide) : PE X (.Call (.Name x p) [] [] pos) (tCall sp [] E0 tNil) := by
  obtain ⟨f, fd, F, hm, hk, hb⟩ := c.ex
  exact pe_call0 F hr hg hm hk hb .nil pass0 hdb
/-! ### texts of single signs -/
def sgS (c : Nat) : Str := ⟨#[c]⟩
theorem fold_sg : ∀ (cs : List Nat) (acc : Array Nat), ((cs.map sgS).foldl (fun acc p => acc ++ ("" : Str).cps ++ p.cps) acc) = acc ++ cs.toArray
  | [], acc => by simp
  | c :: cs, acc => by
    rw [List.map_cons, List.foldl_cons, fold_sg cs]
    show acc ++ #[] ++ #[c] ++ cs.toArray = _
    simp
theorem join_sg (cs : List Nat) : Txt.join "" (cs.map sgS) = strT cs := by
  cases cs with
  | nil => rfl
  | cons c cs =>
    show (⟨(((c :: cs).map sgS).drop 1).foldl (fun acc p => acc ++ ("" : Str).cps ++ p.cps) (((c :: cs).map sgS).headD Str.empty).cps⟩ : Str) = _
    rw [List.map_cons, List.drop_one, List.tail_cons, fold_sg]
    show (⟨#[c] ++ cs.toArray⟩ : Str) = ⟨(c :: cs).toArray⟩
    simp
theorem sum_sg : ∀ (cs : List Nat), ((cs.map sgS).map (·.length)).sum = cs.length
  | [] => rfl
  | c :: cs => by
    rw [List.map_cons, List.map_cons, List.sum_cons, sum_sg cs, List.length_cons]
    show 1 + cs.length = _
    omega
section
variable {P : Program} {w : World} {K : PySem.W.Frag} {mg : Str → Option Value} {base : Heap} (T : Txt K mg)
/-- a draw -/
theorem w_drawG {p : Addr} {fl : Bool} {i : Nat} {te : TE} {as : List Sv} {M : Mm} {R : PyData → Mm → Prop} (hi : as[i]? = some (.own p)) (h : W K te as M fun d M1 => ∃ (m : Int) (pl : List PyData), d = .int m ∧ M1 = [(p, fl, pl)] ∧ poolD pl ∧ 0 < m ∧ m < 1000000 ∧ ∀ (n : Nat) pl', (n : Int) < m → poolD pl' → R (.int (n : Int)) [(p, fl, pl')]) :
    W K (tCall (spQ preDraw postDraw K) [] E0 (tCons (tVar i) (tCons te tNil))) as M R := by
  refine w_callQ (wa_mut hi (wa_cons ?_))
  refine h.imp fun d M1 ⟨m, pl, ed, em, hpl, h1, h2, q⟩ => ?_
  subst ed em
  refine wa_nil ⟨p, fl, pl, [.int m], rfl, rfl, hpl, ⟨m, rfl, h1, h2⟩, fun d pl' hpl' hd => ?_⟩
  obtain ⟨n, rfl, hn⟩ := hd m rfl
  exact q n pl' hn hpl'
theorem w_draw {p : Addr} {fl : Bool} {pl : List PyData} {i : Nat} {m : Int} {as : List Sv} {R : PyData → Mm → Prop} (hi : as[i]? = some (.own p)) (hpl : poolD pl) (hm : 0 < m) (hm2 : m < 1000000) (h : ∀ (n : Nat) pl', (n : Int) < m → poolD pl' → R (.int (n : Int)) [(p, fl, pl')]) :
    W K (tCall (spQ preDraw postDraw K) [] E0 (tCons (tVar i) (tCons (tC (.int m)) tNil))) as [(p, fl, pl)] R := w_drawG hi (w_int ⟨m, pl, rfl, rfl, hpl, hm, hm2, h⟩)
/-- ''.join([signs[draw] for k in range(n)]): a text of so many of the signs -/
theorem w_signs {p : Addr} {fl : Bool} {i j : Nat} {z : Str} {m : Int} {vs : List Nat} {tz : TE} {ta : TA} {as : List Sv} {M : Mm} {R : PyData → Mm → Prop} (hj : j ∈ vs) (hi : ∀ d, ((awipe as vs).set j (.dat d))[i]? = some (.own p)) (hm : 0 < m) (hm2 : m ≤ z.length) (hz : z.length ≤ 1000)
    (ht : ∀ d M', W K tz ((awipe as vs).set j (.dat d)) M' fun x M1 => x = .str z ∧ M1 = M')
    (h : WA K ta as M fun ss M1 => ∃ (n : Nat) (pl : List PyData), ss = [.dat (.int (n : Int))] ∧ n ≤ 1000 ∧ M1 = [(p, fl, pl)] ∧ poolD pl ∧ ∀ cs pl', cs.length = n → (∀ c ∈ cs, c ∈ z.cps.toList) → poolD pl' → R (.str (strT cs)) [(p, fl, pl')]) :
    W K (tM1 (rJoin K) (tC (.str "")) (tLc (iRng1 ta) (gName j) tYes (tOp (rIx K) tz (tCall (spQ preDraw postDraw K) [] E0 (tCons (tVar i) (tCons (tC (.int m)) tNil)))) vs)) as M R := by
  refine w_join (w_str ⟨_, rfl, ?_⟩)
  refine w_lc ga_name (by simpa using hj) (wi_rng ?_)
  intro S H0 σ H k r Q q
  refine h S H0 σ H k r Q fun vs2 H2 ss M2 k2 e2 b2 ⟨n, pl, es, hn, em, hpl, fin⟩ => q vs2 H2 ss M2 k2 e2 b2 ?_
  subst em
  refine ⟨(n : Int), es, by omega, by omega, fun i acc Mi => ∃ (cs : List Nat) (pl' : List PyData), acc = (cs.map sgS).map .str ∧ Mi = [(p, fl, pl')] ∧ poolD pl' ∧ cs.length = i ∧ i ≤ n ∧ ∀ c ∈ cs, c ∈ z.cps.toList, ⟨[], pl, rfl, rfl, hpl, rfl, Nat.zero_le _, fun c h => by cases h⟩, ?_, ?_⟩
  · rintro i2 x acc Mi hx ⟨cs, pl', rfl, rfl, hpl', hl, hi2, hc⟩
    have hlt := (List.getElem?_eq_some_iff.mp hx).1
    have hlt : i2 < n := by simpa using hlt
    intro S2 H02 σ2 H2 k2 r2 Q2 q2
    refine q2 true H2 _ k2 (Same.refl _) ?_
    show W K _ _ _ _
    refine w_op ao_ix ((ht _ _).imp fun d M1 ⟨ed, em⟩ => ?_)
    subst ed em
    refine w_draw (hi _) hpl' hm (by omega) fun u pl2 hu hpl2 => ?_
    have lz : z.length = z.cps.toList.length := by rw [Array.length_toList]; rfl
    have hu2 : u < z.cps.toList.length := by omega
    refine ⟨by omega, z.cps.toList[u], atI_nat (List.getElem?_eq_getElem hu2), ?_, ?_⟩
    · rw [List.length_map, List.length_map]; omega
    · refine ⟨cs ++ [z.cps.toList[u]], pl2, by simp [sgS], rfl, hpl2, by simp [hl], by omega, fun c hcm => ?_⟩
      rcases List.mem_append.mp hcm with hcm | hcm
      · exact hc c hcm
      · rw [List.mem_singleton.mp hcm]; exact List.getElem_mem hu2
  · rintro acc M' ⟨cs, pl', rfl, rfl, hpl', hl, _, hc⟩
    have hl : cs.length = n := by rw [hl]; simp
    refine ⟨cs.map sgS, rfl, ?_, ?_⟩
    · rw [sum_sg, List.length_map]
      show cs.length + cs.length * 0 ≤ _
      omega
    · rw [join_sg]
      exact fin cs pl' hl hc hpl'
/-! ### base values -/
def signs12 : List Nat := ("ab9 ~!#(').;" : Str).cps.toList
inductive BV : Str → PyData → Prop
  | int {i : Int} : i.natAbs < 10 ^ 30 → BV "int" (.int i)
  | txt {cs : List Nat} : cs.length ≤ 12 → (∀ c ∈ cs, c ∈ signs12) → BV "text" (.str (strT cs))
abbrev spBV (K : PySem.W.Frag) : Sp := spQ (fun ds => ∃ k, ds = [PyData.str k] ∧ (k = "int" ∨ k = "text")) (fun ds x => ∀ k, ds = [PyData.str k] → BV k x) K
theorem eq0 {n : Nat} {P : PyData → Prop} (z : P (.bool (decide (n = 0)))) : fEqW (.int (n : Int)) (.int 0) P := by
  refine feqW rfl rfl (by simp [PyData.depth]) ?_
  have e : PyData.eqv (.int (n : Int)) (.int 0) = decide (n = 0) := by
    show ((n : Int) == 0) = _
    rw [Bool.eq_iff_iff]; simp
  rw [e]; exact z
include T in
theorem ok_law_base_value (F : Dfn K mg "_law_base_value" s_law_base_value ["_law_pool_here", "_law_kind"]) (c_law_draw : Cal P w K mg base 1 "_law_draw" ["_law_pool_here", "_law_many"] (spQ preDraw postDraw K)) : Cal P w K mg base 2 "_law_base_value" ["_law_pool_here", "_law_kind"] (spBV K) := by
  have hn : ∀ ds, (∃ k, ds = [PyData.str k] ∧ (k = "int" ∨ k = "text")) → ds.length = 1 := by rintro ds ⟨k, rfl, _⟩; rfl
  refine F.ok sc_law_base_value (fun vs H Q E h => spQ_len hn h) (fun f cdv A outer s H vs Q E hr h => ⟨_, (pss_cons (ps_if (pt_cmpR (k_eqW (K := K) rfl hr) (pv 1) pe_str (nomark _)) (pss_one (ps_ret (pe_cmpR (k_eqW (K := K) rfl hr) (pe_cal c_law_draw hr (pa_cons (pv 0) (pa_cons pe_int pa_nil))) pe_int (nomark _)))) pss_nil)
      (pss_cons (ps_if (pt_cmpR (k_eqW (K := K) rfl hr) (pv 1) pe_str (nomark _)) (pss_cons (ps_set (i := 2) sc_law_base_value.nd rfl (by first | exact .inl rfl | exact .inr rfl) (pe_cal c_law_draw hr (pa_cons (pv 0) (pa_cons pe_int pa_nil))))
      (pss_cons (ps_if (pt_cmpR (k_eqW (K := K) rfl hr) (pe_cal c_law_draw hr (pa_cons (pv 0) (pa_cons pe_int pa_nil))) pe_int (nomark _)) (pss_one (ps_set (i := 2) sc_law_base_value.nd rfl (by first | exact .inl rfl | exact .inr rfl) (pe_op op_subI (pe_op op_subI (pe_op op_powI pe_int pe_int) pe_int) (pv 2)))) pss_nil)
      (pss_one (ps_ret (pe_ifExp (pt_cmpR (k_eqW (K := K) rfl hr) (pe_cal c_law_draw hr (pa_cons (pv 0) (pa_cons pe_int pa_nil))) pe_int (nomark _)) (pv 2) (pe_op op_subI pe_int (pv 2))))))) pss_nil)
      (pss_cons (ps_set (i := 3) sc_law_base_value.nd rfl (by first | exact .inl rfl | exact .inr rfl) (pe_ifExp (pt_cmpR (k_eqW (K := K) rfl hr) (pe_cal c_law_draw hr (pa_cons (pv 0) (pa_cons pe_int pa_nil))) pe_int (nomark _)) pe_int (pe_cal c_law_draw hr (pa_cons (pv 0) (pa_cons pe_int pa_nil)))))
      (pss_cons (ps_set (i := 4) sc_law_base_value.nd rfl (by first | exact .inl rfl | exact .inr rfl) pe_str)
      (pss_one (ps_ret (k_join (K := K) rfl pe_str (pe_lc (own := [("_law_k", 5)]) (by rfl) sc_law_base_value.nd (pi_range1 (by rfl) T.n_range (pa_cons (pv 3) pa_nil)) (blkOk_by (N := ["_law_pool_here", "_law_kind", "_law_drawn", "_law_size", "_law_signs", "_law_k"]) (sc := defScope s_law_base_value) (by decide +kernel)) (fun _ _ _ _ _ => (pg_name (i := 5) sc_law_base_value.nd rfl (by first | exact .inl rfl | exact .inr rfl))) (fun _ _ _ _ _ => pts_nil) (fun _ _ _ _ _ => (pe_ix (k_ix (K := K) rfl) (pv 4) (pe_cal c_law_draw hr (pa_cons (pv 0) (pa_cons pe_int pa_nil))) (fun _ _ => rfl))))))))))), to_spQ hn (fun p pl ds hpl hp => ?_) h⟩)
  obtain ⟨k, rfl, hk⟩ := hp
  have fin : ∀ x pl', poolD pl' → BV k x → ∃ pl'', [(p, false, pl')] = [(p, false, pl'')] ∧ poolD pl'' ∧ ∀ k', [PyData.str k] = [PyData.str k'] → BV k' x := fun x pl' h1 h2 => ⟨pl', rfl, h1, fun k' e => by
    injection e with e; injection e with e; rw [← e]; exact h2⟩
  change WS K _ [.own p, .dat (.str k), .no, .no, .no, .no] [(p, false, pl)] _
  rcases hk with rfl | rfl
  · walk_at "ww"
    refine w_draw rfl hpl (by decide) (by decide) fun n pl1 h1 hpl1 => ?_
    change WS K _ [.own p, .dat (.str "int"), .dat (.int (n : Int)), .no, .no, .no] [(p, false, pl1)] _
    have rest : ∀ (z : Int) pl2 (A : AE), -(10 ^ 30) < z → z < 10 ^ 30 → poolD pl2 → (∀ d M, (∃ pl', M = [(p, false, pl')] ∧ poolD pl' ∧ ∀ k', [PyData.str "int"] = [PyData.str k'] → BV k' d) → A.rt d M) → WS K (tRet (tIf (tTest (tOp (rEqW K) (tCall (spQ preDraw postDraw K) [] E0 (tCons (tVar 0) (tCons (tC (.int 2)) tNil))) (tC (.int 0)))) (tVar 2) (tOp rSubI (tC (.int 0)) (tVar 2)))) [.own p, .dat (.str "int"), .dat (.int z), .no, .no, .no] [(p, false, pl2)] A := fun z pl2 A hz1 hz2 hpl2 hA => by
      refine ws_ret (w_ite (wt_test (w_op ao_eqW (w_draw rfl hpl2 (by decide) (by decide) fun n2 pl3 _ hpl3 => w_int (eq0 (exb ?_))))))
      refine iteB (fun _ => ?_) (fun _ => ?_)
      · exact w_var rfl (hA _ _ (fin _ _ hpl3 (.int (by omega))))
      · exact w_op ao_sub (w_int (w_var rfl (fii trivial (hA _ _ (fin _ _ hpl3 (.int (by omega)))))))
    refine ws_seq (ws_if (wt_test (w_op ao_eqW (w_draw rfl hpl1 (by decide) (by decide) fun n2 pl2 _ hpl2 => w_int (eq0 (exb ?_))))))
    refine iteB (fun _ => ?_) (fun _ => ?_)
    · refine ws_set (w_op ao_sub (w_op ao_sub (w_op ao_pow (w_int (w_int (fii (by refine ⟨by decide, by decide, by decide⟩) (w_int (fii trivial (w_var rfl (fii trivial ?_))))))))))
      exact rest ((10 : Int) ^ 30 - 1 - (n : Int)) pl2 _ (by omega) (by omega) hpl2 (fun _ _ h => h)
    · exact ws_next (rest (n : Int) pl2 _ (by omega) (by omega) hpl2 (fun _ _ h => h))
  · walk_at "ww"
    refine w_draw rfl hpl (by decide) (by decide) fun n pl1 h1 hpl1 => w_int (eq0 (exb ?_))
    have rest : ∀ (z : Nat) pl2, z ≤ 12 → poolD pl2 → WS K (tSeq (tAsg (tC (.str "ab9 ~!#(').;")) (gName 4)) (tRet (tM1 (rJoin K) (tC (.str "")) (tLc (iRng1 (tCons (tVar 3) tNil)) (gName 5) tYes (tOp (rIx K) (tVar 4) (tCall (spQ preDraw postDraw K) [] E0 (tCons (tVar 0) (tCons (tC (.int 12)) tNil)))) [5]))))
        [.own p, .dat (.str "text"), .no, .dat (.int (z : Int)), .no, .no] [(p, false, pl2)]
        ⟨fun _ M => ∃ pl', M = [(p, false, pl')] ∧ poolD pl' ∧ ∀ k', [PyData.str "text"] = [PyData.str k'] → BV k' .none, fun d M => ∃ pl', M = [(p, false, pl')] ∧ poolD pl' ∧ ∀ k', [PyData.str "text"] = [PyData.str k'] → BV k' d, fun _ _ => False, fun _ _ => False⟩ := fun z pl2 hz hpl2 => by
      refine ws_seq (ws_set (w_str (ws_ret ?_)))
      refine w_signs (p := p) (fl := false) (z := "ab9 ~!#(').;") (by simp) (fun d => rfl) (by decide) (by decide) (by decide) (fun d M' => w_var rfl ⟨rfl, rfl⟩) (wa_cons (w_var rfl (wa_nil ⟨z, pl2, rfl, by omega, rfl, hpl2, fun cs pl' hl hc hpl' => ?_⟩)))
      exact fin _ _ hpl' (.txt (by omega) hc)
    refine iteB (fun _ => ?_) (fun _ => ?_)
    · exact w_int (rest 12 pl1 (by omega) hpl1)
    · exact w_draw rfl hpl1 (by decide) (by decide) fun n2 pl2 h2 hpl2 => rest n2 pl2 (by omega) hpl2
end
end K6

set_option Elab.async false
set_option linter.all false
set_option maxRecDepth 100000
set_option maxHeartbeats 4000000
namespace K6
open PySem PySem.Spec PyProof.Rows L2 Ab TL NumText
/-- one step of the reading -/
local macro_rules | `(tactic| walk_at "w") => `(tactic| first
  | (with_reducible refine ws_seq ?_) | (with_reducible refine ws_next ?_) | (with_reducible refine ws_set ?_) | (with_reducible refine ws_par ?_) | (with_reducible refine ws_ret ?_) | (with_reducible refine ws_if ?_) | (with_reducible refine ws_drop ?_)
  | (refine w_var rfl ?_) | (with_reducible refine w_int ?_) | (with_reducible refine w_str ?_) | (with_reducible refine w_bl ?_) | (with_reducible refine w_non ?_)
  | (with_reducible refine wa_nil ?_) | (with_reducible refine wa_cons ?_) | (with_reducible refine w_tup ?_) | (with_reducible refine w_lst ?_)
  | (with_reducible refine wt_test ?_) | (with_reducible refine wt_B ?_) | (with_reducible refine wt_not ?_) | (with_reducible refine wt_and ?_) | (with_reducible refine wt_or ?_)
  | (with_reducible refine w_andV ?_) | (with_reducible refine w_orV ?_) | (with_reducible refine w_notV ?_) | (with_reducible refine w_ite ?_)
  | (with_reducible refine w_op ao_eqW ?_) | (with_reducible refine w_op ao_neW ?_) | (with_reducible refine w_op ao_eq ?_) | (with_reducible refine w_op ao_ne ?_) | (with_reducible refine w_op ao_isB ?_) | (with_reducible refine w_op ao_notB ?_) | (with_reducible refine w_op ao_ix ?_) | (with_reducible refine w_op ao_plus ?_) | (with_reducible refine w_op ao_less ?_) | (with_reducible refine w_op ao_le ?_) | (with_reducible refine w_op ao_gt ?_) | (with_reducible refine w_op ao_ge ?_)
  | (with_reducible refine w_op ao_sub ?_) | (with_reducible refine w_op ao_mul ?_) | (with_reducible refine w_op ao_mod ?_) | (with_reducible refine w_op ao_div ?_) | (with_reducible refine w_op ao_pow ?_) | (with_reducible refine w_op ao_isNo ?_) | (with_reducible refine w_op ao_inSg ?_) | (with_reducible refine w_op ao_inW ?_) | (with_reducible refine w_op ao_ninW ?_) | (with_reducible refine w_op ao_inSeq ?_) | (with_reducible refine w_op ao_ninSeq ?_)
  | (with_reducible refine w_cb ac_len ?_) | (with_reducible refine w_cb ac_tupleOf ?_) | (with_reducible refine w_cb ac_intOf ?_) | (with_reducible refine w_cb ac_abs ?_) | (with_reducible refine w_cb ac_ord ?_) | (with_reducible refine w_cb ac_all ?_) | (with_reducible refine w_cb ac_any ?_)
  | (with_reducible refine w_isi (by decide) ?_) | (with_reducible refine w_isi2 (by decide) (by decide) ?_) | (with_reducible refine w_sl ?_) | (with_reducible refine wo_none ?_) | (with_reducible refine wo_some ?_)
  | (with_reducible refine w_chain ao_le ao_le ?_) | (with_reducible refine w_chain ao_leS ao_leS ?_) | (with_reducible refine w_call ?_))
local macro_rules | `(tactic| walk_at "v") => `(tactic| first
  | (with_reducible refine m0 ?_) | (with_reducible refine m1 ?_) | (with_reducible refine m2 ?_) | (with_reducible refine m3 ?_) | (with_reducible refine m5 ?_)
  | (with_reducible refine exb ?_) | (with_reducible refine exi ?_) | (with_reducible refine exl ?_) | (with_reducible refine exql ?_) | (with_reducible refine exqt ?_)
  | (refine fixt rfl ?_) | (refine fixl rfl ?_) | (refine fslt rfl ?_) | (refine fsll rfl ?_)
  | (with_reducible refine flent ?_; dsimp only [List.length_cons, List.length_nil]) | (with_reducible refine flenl ?_; dsimp only [List.length_cons, List.length_nil])
  | (with_reducible refine fii (by first | trivial | decide) ?_) | (with_reducible refine fpi ?_) | (with_reducible refine flti ?_) | (with_reducible refine fint ?_) | (with_reducible refine ftupl ?_) | (with_reducible refine ftupt ?_)
  | (with_reducible refine feqW (by decide +kernel) (by decide +kernel) (by decide +kernel) ?_) | (with_reducible refine fneW (by decide +kernel) (by decide +kernel) (by decide +kernel) ?_)
  | (with_reducible refine feq (by decide +kernel) (by decide +kernel) ?_) | (with_reducible refine fne (by decide +kernel) (by decide +kernel) ?_)
  | (with_reducible refine iteK rfl ?_) | (with_reducible refine iteN rfl ?_) | (with_reducible refine iteK (by decide +kernel) ?_) | (with_reducible refine iteN (by decide +kernel) ?_))
local macro_rules | `(tactic| walk_at "x") => `(tactic| first | (with_reducible refine wx_seq ?_) | (with_reducible refine wx_if ?_) | (with_reducible refine wx_next ?_) | (with_reducible refine wx_ret ?_) | (with_reducible refine wr_tup ?_) | (with_reducible refine war_cons ?_) | (with_reducible refine war_nil ?_))
local macro_rules | `(tactic| walk_at "ww") => `(tactic| repeat (first | walk_at "w" | walk_at "v" | walk_at "x"))

/-! ### try_form, spelt, form -/
theorem wt_yes {K : PySem.W.Frag} {as : List Sv} {M : Mm} {PT : Bool → Mm → Prop} (h : PT true M) : WT K tYes as M PT := fun S H0 σ H k r Q q => q true H M k (Same.refl _) h
mutual
theorem G_V : ∀ f, G f → V f
  | .num i, h => h
  | .name s, h => by
    obtain ⟨⟨c, r, rfl, _⟩, hl⟩ := h
    exact ⟨by simp, hl⟩
  | .txt s, h => h.1
  | .tup l, h => ⟨h.1, GL_VL l h.2⟩
theorem GL_VL : ∀ l, GL l → VL l
  | [], _ => trivial
  | f :: r, h => ⟨G_V f h.1, GL_VL r h.2⟩
end
def tryD (x : Str) : PyData := match Run x.cps.toList [] 0 with
  | .inl p => .int (p : Int)
  | .inr f => .tuple [.str "good", fD f]
def fTry : List PyData → PyData
  | [.str x] => tryD x
  | _ => .none
abbrev spSpelt (n : Nat) (K : PySem.W.Frag) : Sp := spP (fun ds => ∃ f, V f ∧ A8 f ∧ dep f ≤ n ∧ (spell f).length ≤ 20000 ∧ ds = [fD f]) postPF K
def nmB (cs : Cs) : Bool := match cs with
  | c :: r => isLow c && r.all isNm && decide (r.length ≤ 7)
  | [] => false
def bnd : Nat → Nat
  | 0 => 40
  | n + 1 => 3 * bnd n + 10
def PFm (n : Nat) (lead : Bool) (x : PyData) : Prop := ∃ f, x = fD f ∧ G f ∧ A8 f ∧ dep f ≤ n ∧ (spell f).length ≤ bnd n ∧ (lead = true → isTextF f = false)
theorem bnd_ge : ∀ n, 40 ≤ bnd n
  | 0 => Nat.le_refl _
  | n + 1 => by show 40 ≤ 3 * bnd n + 10; have := bnd_ge n; omega
theorem low_lt {c : Nat} (h : isNm c = true) : c < 128 := by
  unfold isNm isLow isDig at h
  simp at h; omega
theorem post_name {n : Nat} {lead : Bool} (z : Str) (h : nmB z.cps.toList = true) (hl : lead = true → (z.cps.toList == textS) = false) : PFm n lead (.str z) := by
  refine ⟨.name z.cps.toList, by show _ = PyData.str (strT _); rw [strT_self], ?_, ?_, Nat.zero_le _, ?_, hl⟩
  · cases e : z.cps.toList with
    | nil => rw [e] at h; cases h
    | cons c r =>
      rw [e] at h
      have h : (isLow c && r.all isNm && decide (r.length ≤ 7)) = true := h
      rw [Bool.and_eq_true, Bool.and_eq_true] at h
      refine ⟨⟨c, r, rfl, h.1.1, fun d hd => List.all_eq_true.mp h.1.2 d hd⟩, ?_⟩
      have := of_decide_eq_true h.2
      simp; omega
  · cases e : z.cps.toList with
    | nil => rw [e] at h; cases h
    | cons c r =>
      rw [e] at h
      have h : (isLow c && r.all isNm && decide (r.length ≤ 7)) = true := h
      rw [Bool.and_eq_true, Bool.and_eq_true] at h
      intro d hd
      rcases List.mem_cons.mp hd with rfl | hd
      · exact low_lt (by unfold isNm; rw [h.1.1]; rfl)
      · exact low_lt (List.all_eq_true.mp h.1.2 d hd)
  · show z.cps.toList.length ≤ _
    have hb := bnd_ge n
    cases e : z.cps.toList with
    | nil => simp
    | cons c r =>
      rw [e] at h
      have h : (isLow c && r.all isNm && decide (r.length ≤ 7)) = true := h
      rw [Bool.and_eq_true, Bool.and_eq_true] at h
      have := of_decide_eq_true h.2
      simp; omega
theorem numS_len {i : Int} (h : i.natAbs < 10 ^ 30) : (numS i).length ≤ 31 := by
  rcases Int.natAbs_eq i with y | y
  · rw [y, numS_nat]
    have := numL_len (k := 30) (by decide) h
    omega
  · rcases Nat.eq_zero_or_pos i.natAbs with w | w
    · rw [show i = ((0 : Nat) : Int) by omega, numS_nat]; decide
    · rw [y, numS_neg w, List.length_cons]
      have := numL_len (k := 30) (by decide) h
      omega
theorem post_int {n : Nat} {lead : Bool} {i : Int} (h : i.natAbs < 10 ^ 30) : PFm n lead (.int i) :=
  ⟨.num i, rfl, h, trivial, Nat.zero_le _, by show (numS i).length ≤ _; have := numS_len h; have := bnd_ge n; omega, fun _ => rfl⟩
theorem signs_tx : ∀ c ∈ signs12, isTx c = true ∧ c < 128 := by decide +kernel
theorem post_txt {n : Nat} {lead : Bool} {cs : List Nat} (hl : cs.length ≤ 12) (hc : ∀ c ∈ cs, c ∈ signs12) : PFm n lead (.tuple [.str "text", .str (strT cs)]) :=
  ⟨.txt cs, rfl, ⟨hl, fun c h => (signs_tx c (hc c h)).1⟩, fun c h => (signs_tx c (hc c h)).2, Nat.zero_le _, by
    show (34 :: (cs ++ [34])).length ≤ _
    have := bnd_ge n
    simp; omega, fun _ => rfl⟩
theorem spellL_le (b : Nat) : ∀ (l : List Fm), (∀ f ∈ l, (spell f).length ≤ b) → (spellL l).length ≤ l.length * (b + 1)
  | [], _ => by simp [spellL]
  | [f], h => by
    have := h f List.mem_cons_self
    show (spell f).length ≤ 1 * (b + 1)
    omega
  | f :: g :: r, h => by
    have h1 := h f List.mem_cons_self
    have ih := spellL_le b (g :: r) fun x hx => h x (List.mem_cons_of_mem _ hx)
    show (spell f ++ 32 :: spellL (g :: r)).length ≤ _
    rw [List.length_append, List.length_cons, List.length_cons, Nat.add_mul]
    omega
theorem post_tup {n : Nat} {lead : Bool} {l : List Fm} (h3 : l.length ≤ 3) (hg : GL l) (ha : A8s l) (hd : depL l ≤ n) (hs : ∀ f ∈ l, (spell f).length ≤ bnd n) (hh : ∀ f, l.head? = some f → isTextF f = false) : PFm (n + 1) lead (.tuple (l.map fD)) := by
  refine ⟨.tup l, by show _ = PyData.tuple (fDs l); rw [fDs_map], ⟨hh, hg⟩, ha, by show depL l + 1 ≤ _; omega, ?_, fun _ => rfl⟩
  show (40 :: (spellL l ++ [41])).length ≤ 3 * bnd n + 10
  have := spellL_le (bnd n) l hs
  have := Nat.mul_le_mul_right (bnd n + 1) h3
  rw [List.length_cons, List.length_append, List.length_singleton]
  omega
theorem GL_app : ∀ {l : List Fm} {f : Fm}, GL l → G f → GL (l ++ [f])
  | [], f, _, h => ⟨h, trivial⟩
  | g :: l, f, h, h2 => ⟨h.1, GL_app h.2 h2⟩
theorem A8_app : ∀ {l : List Fm} {f : Fm}, A8s l → A8 f → A8s (l ++ [f])
  | [], f, _, h => ⟨h, trivial⟩
  | g :: l, f, h, h2 => ⟨h.1, A8_app h.2 h2⟩
theorem depL_mem : ∀ {l : List Fm} {n : Nat}, depL l ≤ n → ∀ f ∈ l, dep f ≤ n
  | [], _, _, f, h => by cases h
  | g :: l, n, h, f, hf => by
    have h : max (dep g) (depL l) ≤ n := h
    rcases List.mem_cons.mp hf with rfl | hf
    · omega
    · exact depL_mem (show depL l ≤ n by omega) f hf
section
variable {P : Program} {w : World} {K : PySem.W.Frag} {mg : Str → Option Value} {base : Heap} {C fI : Addr} (T : Txt K mg) (N : BtT K mg C fI)
include T N in
theorem ok_law_try_form (F : Dfn K mg "_law_try_form" s_law_try_form ["_law_text"]) (c_read_form : CalX P w K mg base 5 "read_form" ["text"] (spE C "place" preRF resRF K)) : Cal P w K mg base 6 "_law_try_form" ["_law_text"] (spW preRF fTry K) := by
  have hn : ∀ ds, preRF ds → ds.length = 1 := by rintro ds ⟨x, rfl, _⟩; rfl
  obtain ⟨fA, fdA, GT, gT, kT, bT⟩ := c_read_form.ex
  refine F.ok sc_law_try_form (fun vs H Q E h => spP_len hn h) (fun f cdv A outer s H vs Q E hr h => ⟨(fun D σ H => tRet (tTup (tCons (tC (.str "good")) (tCons (tCallS (spE C "place" preRF resRF K) (WE (wAs K (.ref C) 1 (fun a cls d => tRet (tXf a cls d C "place" (tVar 1))) (fun _ _ _ _ => False) D)) (tCons (tVar 0) tNil)) tNil))) D σ H), ?_, ?_⟩)
  · exact pss_one (ps_try_as (i := 1) (tb := fun W => tRet (tTup (tCons (tC (.str "good")) (tCons (tCallS (spE C "place" preRF resRF K) (WE W) (tCons (tVar 0) tNil)) tNil)))) (ts := fun a cls d => tRet (tXf a cls d C "place" (tVar 1))) (Wout := fun _ _ _ _ => False) rfl rfl sc_law_try_form.nd rfl rfl ⟨rfl, by decide, Or.inl N.gC⟩ takes0
      (fun W pn xe tk _ => pss_one (ps_ret (by exact (pe_tup (pa_cons pe_str (pa_cons (pe_callS GT hr rfl gT kT bT (fun σ => passAt tk σ) (pa_cons (pv 0) pa_nil)) pa_nil))))))
      (fun a oe cls d pn hz hf => pss_one (ps_ret (by exact (pe_xf N.xf N.no hz hf (pv 1))))))
  · obtain ⟨S, ds, iv, ⟨x, rfl, ha⟩, hd, q⟩ := h
    match vs, hd with
    | [v0], hd =>
      refine ⟨v0, rfl, S, [.str x], iv, ⟨x, rfl, ha⟩, hd, fun d hd v H' xt iv' dp => ?_, fun i hi H' dx xt iv' hx => ?_⟩
      · refine ⟨by show 2 ≤ sizeLine; decide, fun p hp => ?_⟩
        have hd : toR2 (Run x.cps.toList [] 0) = .inr d := hd
        refine q (.ref p) _ (.tuple [.str "good", d]) (fun b o e1 e2 => ?_) (S.mono H' _ (fun b o _ e2 => ?_) iv') (newT hp (fun c hc => S.trk H' c iv' hc) (.cons (.str _) (.cons dp .nil))) ?_
        · have e3 := xt b o e1 e2
          rw [upd_ne (ne_of_none e3 hp)]; exact e3
        · rw [upd_ne (ne_of_none e2 hp)]; exact e2
        · show _ = tryD x
          unfold tryD
          cases e : Run x.cps.toList [] 0 with
          | inl p => rw [e] at hd; cases hd
          | inr f =>
            rw [e] at hd
            have hd : Sum.inr (fD f) = (Sum.inr d : Int ⊕ PyData) := hd
            injection hd with hd
            rw [← hd]
      · have hi : toR2 (Run x.cps.toList [] 0) = .inl i := hi
        refine ⟨true, N.te, fun _ a ha => ?_, fun z => Bool.noConfusion z⟩
        refine ⟨_, rfl, rfl, rfl, dx, _, .int i, rfl, hx, rfl, ?_⟩
        refine q (.int i) H' (.int i) xt iv' (.int _) ?_
        show _ = tryD x
        unfold tryD
        cases e : Run x.cps.toList [] 0 with
        | inr p => rw [e] at hi; cases hi
        | inl f =>
          rw [e] at hi
          have hi : Sum.inl (f : Int) = (Sum.inl i : Int ⊕ PyData) := hi
          injection hi with hi
          rw [← hi]
include T in
theorem ok_law_spelt1 (n : Nat) (F : Dfn K mg "_law_spelt" s_law_spelt ["_law_form_here"]) (q_law_spelt : ∀ m, n = m + 1 → Cal P w K mg base n "_law_spelt" ["_law_form_here"] (spSpelt m K)) : Cal P w K mg base (n + 1) "_law_spelt" ["_law_form_here"] (spSpelt n K) := by
  have hn : ∀ ds, (∃ f, V f ∧ A8 f ∧ dep f ≤ n ∧ (spell f).length ≤ 20000 ∧ ds = [fD f]) → ds.length = 1 := by rintro ds ⟨f, _, _, _, _, rfl⟩; rfl
  have hc : ∃ m, (n = 0 ∨ n = m + 1) ∧ Cal P w K mg base n "_law_spelt" ["_law_form_here"] (spP (fun ds => n = m + 1 ∧ ∃ f, V f ∧ A8 f ∧ dep f ≤ m ∧ (spell f).length ≤ 20000 ∧ ds = [fD f]) postPF K) := by
    cases n with
    | zero =>
      refine ⟨0, .inl rfl, cal_void F fun vs H Q E h => ?_⟩
      obtain ⟨S, ds, _, ⟨e, _⟩, _⟩ := h
      omega
    | succ m =>
      refine ⟨m, .inr rfl, ?_⟩
      obtain ⟨f, fd, a, b, c, e⟩ := (q_law_spelt m rfl).ex
      exact ⟨f, fd, a.imp fun vs H Q E h => by
        obtain ⟨S, ds, i, ⟨_, p⟩, r⟩ := h
        exact ⟨S, ds, i, p, r⟩, b, c, e⟩
  obtain ⟨m, hm, c_law_spelt⟩ := hc
  refine F.ok sc_law_spelt (fun vs H Q E h => spP_len hn h) (fun f cdv A outer s H vs Q E hr h => ⟨_, (pss_cons (ps_if (pt_val (pe_callB (k_isi (K := K) rfl) (by rfl) T.n_isinstance (by decide +kernel) (pa_cons (pv 0) (pa_cons (pe_bltn (v := .ty "int") (u := .type "int") (by rfl) T.n_int (by decide +kernel) rfl) pa_nil)))) (pss_one (ps_ret (pe_callTy call_strA (by rfl) T.n_str (by decide +kernel) (pa_cons (pv 0) pa_nil)))) pss_nil)
      (pss_cons (ps_if (pt_val (pe_callB (k_isi (K := K) rfl) (by rfl) T.n_isinstance (by decide +kernel) (pa_cons (pv 0) (pa_cons (pe_bltn (v := .ty "str") (u := .type "str") (by rfl) T.n_str (by decide +kernel) rfl) pa_nil)))) (pss_one (ps_ret (pv 0))) pss_nil)
      (pss_cons (ps_if (PW.pt (pw_and (pt_cmpR (k_eqW (K := K) rfl hr) (pe_callB (k_len (K := K) rfl) (by rfl) T.n_len (by decide +kernel) (pa_cons (pv 0) pa_nil)) pe_int (nomark _)) (pw_and1 (pt_cmpR (k_eqW (K := K) rfl hr) (pe_ix (k_ix (K := K) rfl) (pv 0) pe_int (fun _ _ => rfl)) pe_str (nomark _))))) (pss_one (ps_ret (pe_op (k_plus (K := K) rfl) (pe_op (k_plus (K := K) rfl) pe_str (pe_ix (k_ix (K := K) rfl) (pv 0) pe_int (fun _ _ => rfl))) pe_str))) pss_nil)
      (pss_one (ps_ret (pe_op (k_plus (K := K) rfl) (pe_op (k_plus (K := K) rfl) pe_str (k_join (K := K) rfl pe_str (pe_lc (own := [("_law_part", 1)]) (by rfl) sc_law_spelt.nd (k_seq (K := K) rfl (pv 0)) (blkOk_by (N := ["_law_form_here", "_law_part"]) (sc := defScope s_law_spelt) (by decide +kernel)) (fun _ _ _ _ _ => (pg_name (i := 1) sc_law_spelt.nd rfl (by first | exact .inl rfl | exact .inr rfl))) (fun _ _ _ _ _ => pts_nil) (fun _ _ _ _ _ => (pe_cal c_law_spelt hr (pa_cons (pv 1) pa_nil)))))) pe_str)))))), to_spP hn (fun ds hp => ?_) h⟩)
  obtain ⟨f0, hv, ha, hdp, hl, rfl⟩ := hp
  have fin : ∀ d, d = .str (strT (spell f0)) → postPF [fD f0] d := fun d e f hf h => by
    injection h with h
    rw [e, fD_inj f0 f hv hf h]
  change WS K _ [.dat (fD f0), .no] [] _
  refine ws_seq (ws_if (wt_B (w_isi (by decide) (w_var rfl (exb ?_)))))
  cases f0 with
  | num i =>
    refine iteK rfl (ws_ret (w_cb ac_strA (wa_cons (w_var rfl (wa_nil (m1 ⟨log_num hv, fin _ ?_⟩))))))
    rw [str_num]; rfl
  | name s =>
    exact iteN rfl (ws_next (ws_seq (ws_if (wt_B (w_isi (by decide) (w_var rfl (exb (iteK rfl (ws_ret (w_var rfl (fin _ rfl)))))))))))
  | txt s =>
    refine iteN rfl (ws_next (ws_seq (ws_if (wt_B (w_isi (by decide) (w_var rfl (exb (iteN rfl (ws_next ?_)))))))))
    refine ws_seq (ws_if (wt_and (wt_test (w_op ao_eqW (w_cb ac_len (wa_cons (w_var rfl (wa_nil (m1 (flent (w_int (feqi (exb (iteK rfl ?_))))))))))))))
    refine wt_test (w_op ao_eqW (w_op ao_ix (w_var rfl (w_int (fixt (a := .str "text") rfl (w_str (feqW (ok_str text_ok) (ok_str text_ok) (by simp [PyData.depth]) (exb (iteK (by decide +kernel) ?_)))))))))
    refine ws_ret (w_op ao_plus (w_op ao_plus (w_str (w_op ao_ix (w_var rfl (w_int (fixt (a := .str (strT s)) rfl ?_)))))))
    have hs : s.length ≤ 12 := hv
    refine fps (by rw [len_l, q34, strT_len]; simp; omega) (w_str ?_)
    have := cat3 (a := "\"") (b := "\"") (y := s) (P := fun d => postPF [fD (.txt s)] d) q34 q34 (by simp; omega) (fin _ (by simp [spell]))
    exact this.2
  | tup l =>
    refine iteN rfl (ws_next (ws_seq (ws_if (wt_B (w_isi (by decide) (w_var rfl (exb (iteN rfl (ws_next ?_)))))))))
    have hl : (40 :: (spellL l ++ [41])).length ≤ 20000 := hl
    have hl : (spellL l).length + 2 ≤ 20000 := by simp at hl; omega
    have h1 := sum_spell l
    have h2 := cnt_spell l hv.2
    have hdp : depL l + 1 ≤ n := hdp
    have hm : n = m + 1 := by omega
    have e2 : ∀ {R : Bool → Mm → Prop}, R false [] → WT K (tAnd (tTest (tOp (rEqW K) (tCB (rLenA K) (tCons (tVar 0) tNil)) (tC (.int 2)))) (tTest (tOp (rEqW K) (tOp (rIx K) (tVar 0) (tC (.int 0))) (tC (.str "text"))))) [.dat (fD (.tup l)), .no] [] R := fun hR => by
      refine wt_and (wt_test (w_op ao_eqW (w_cb ac_len (wa_cons (w_var rfl (wa_nil (m1 (flent (w_int (feqi (exb ?_)))))))))))
      refine iteB (fun h => ?_) (fun h => hR)
      cases l with
      | nil => cases of_decide_eq_true h
      | cons a r =>
        refine wt_test (w_op ao_eqW (w_op ao_ix (w_var rfl (w_int (fixt (a := fD a) (show atI (fD a :: fDs r) ((0 : Nat) : Int) = some (fD a) from atI_nat rfl) (w_str (feq_text ha.1 (exb ?_))))))))
        rw [hv.1 a rfl]; exact hR
    refine ws_seq (ws_if (e2 (iteN rfl (ws_next ?_))))
    refine ws_ret (w_op ao_plus (w_op ao_plus (w_str (w_join (w_str ⟨_, rfl, ?_⟩)))))
    refine w_lc ga_name (by decide) (wi_seq (w_var rfl ⟨l.map fD, .inr (by show PyData.tuple (fDs l) = _; rw [fDs_map]), fun i acc M' => acc = (l.take i).map (fun g => PyData.str (strT (spell g))) ∧ M' = [], ⟨rfl, rfl⟩, ?_, ?_⟩))
    · rintro i x acc Mi hx ⟨rfl, rfl⟩
      rw [List.getElem?_map] at hx
      cases hz : l[i]? with
      | none => rw [hz] at hx; cases hx
      | some g =>
        rw [hz] at hx
        cases hx
        have hgm := List.mem_of_getElem? hz
        have hlt := (List.getElem?_eq_some_iff.mp hz).1
        have hgv := VL_mem hv.2 g hgm
        change WT K tYes [.dat (fD (.tup l)), .dat (fD g)] [] _
        refine wt_yes (iteK rfl (w_call (wa_cons (w_var rfl (wa_nil (m1 ⟨⟨hm, g, hgv, A8_mem ha g hgm, depL_mem (show depL l ≤ m by omega) g hgm, Nat.le_trans (spellL_len l g hgm) (by omega), rfl⟩, fun d hd => ?_⟩))))))
        rw [hd g hgv rfl]
        refine ⟨by rw [List.length_map, List.length_take]; omega, ?_, rfl⟩
        rw [List.take_add_one, hz, List.map_append]; rfl
    · rintro acc M' ⟨rfl, rfl⟩
      rw [List.length_map, List.take_length]
      refine ⟨l.map fun g => strT (spell g), by rw [List.map_map]; rfl, ?_, ?_⟩
      · rw [List.length_map, len_l, show (" " : Str).cps.toList = [32] by decide +kernel]
        simp at h1 ⊢; omega
      · rw [join_spell]
        refine fps (by rw [len_l, q40, strT_len]; simp; omega) (w_str ?_)
        have := cat3 (a := "(") (b := ")") (y := spellL l) (P := fun d => postPF [fD (.tup l)] d) q40 q41 (by simp; omega) (fin _ (by simp [spell]))
        exact this.2
include T in
theorem ok_law_spelt (F : Dfn K mg "_law_spelt" s_law_spelt ["_law_form_here"]) : ∀ n, Cal P w K mg base (n + 1) "_law_spelt" ["_law_form_here"] (spSpelt n K)
  | 0 => ok_law_spelt1 T 0 F fun m h => by omega
  | n + 1 => ok_law_spelt1 T (n + 1) F fun m h => by
    have e : n = m := by omega
    subst e
    exact ok_law_spelt F n
abbrev spForm (n : Nat) (K : PySem.W.Frag) : Sp := spQ (fun ds => ∃ b, ds = [PyData.int (n : Int), .bool b]) (fun ds x => ∀ b, ds = [PyData.int (n : Int), .bool b] → PFm n b x) K
theorem w_formc {p : Addr} {fl : Bool} {pl : List PyData} {n m : Nat} {b : Bool} {te : TE} {as : List Sv} {R : PyData → Mm → Prop} (hi : as[0]? = some (.own p)) (h1 : as[1]? = some (.dat (.int ((m + 1 : Nat) : Int)))) (hn : n = m + 1) (hpl : poolD pl) (ht : ∀ {Q : PyData → Mm → Prop}, Q (.bool b) [(p, fl, pl)] → W K te as [(p, fl, pl)] Q) (h : ∀ f pl', poolD pl' → G f → A8 f → dep f ≤ m → (spell f).length ≤ bnd m → (b = true → isTextF f = false) → R (fD f) [(p, fl, pl')]) :
    W K (tCall (spQ (fun ds => n = m + 1 ∧ ∃ b, ds = [PyData.int (m : Int), .bool b]) (fun ds x => ∀ b, ds = [PyData.int (m : Int), .bool b] → PFm m b x) K) [] E0 (tCons (tVar 0) (tCons (tOp rSubI (tVar 1) (tC (.int 1))) (tCons te tNil)))) as [(p, fl, pl)] R := by
  have em : ((m + 1 : Nat) : Int) - 1 = (m : Int) := by omega
  refine w_callQ (wa_mut hi (wa_cons (w_op ao_sub (w_var h1 (w_int (fii trivial (wa_cons (ht (wa_nil ⟨p, fl, pl, [.int (((m + 1 : Nat) : Int) - 1), .bool b], rfl, rfl, hpl, ⟨hn, b, by rw [em]⟩, fun d pl' hpl' hd => ?_⟩)))))))))
  obtain ⟨f, rfl, a1, a2, a3, a4, a5⟩ := hd b (by rw [em])
  exact h f pl' hpl' a1 a2 a3 a4 a5
include T in
theorem ok_law_form1 (n : Nat) (F : Dfn K mg "_law_form" s_law_form ["_law_pool_here", "_law_left", "_law_leading"]) (q_law_draw : Cal P w K mg base 1 "_law_draw" ["_law_pool_here", "_law_many"] (spQ preDraw postDraw K)) (q_law_base_value : Cal P w K mg base 2 "_law_base_value" ["_law_pool_here", "_law_kind"] (spBV K))
    (q_law_form : ∀ m, n = m + 1 → Cal P w K mg base (n + 2) "_law_form" ["_law_pool_here", "_law_left", "_law_leading"] (spForm m K)) : Cal P w K mg base (n + 3) "_law_form" ["_law_pool_here", "_law_left", "_law_leading"] (spForm n K) := by
  have hn : ∀ ds, (∃ b, ds = [PyData.int (n : Int), .bool b]) → ds.length = 2 := by rintro ds ⟨b, rfl⟩; rfl
  have c_law_draw := q_law_draw.mono (show 1 ≤ n + 2 by omega)
  have c_law_base_value := q_law_base_value.mono (show 2 ≤ n + 2 by omega)
  have hc : ∃ m, (n = 0 ∨ n = m + 1) ∧ Cal P w K mg base (n + 2) "_law_form" ["_law_pool_here", "_law_left", "_law_leading"] (spQ (fun ds => n = m + 1 ∧ ∃ b, ds = [PyData.int (m : Int), .bool b]) (fun ds x => ∀ b, ds = [PyData.int (m : Int), .bool b] → PFm m b x) K) := by
    cases n with
    | zero =>
      refine ⟨0, .inl rfl, cal_void F fun vs H Q E h => ?_⟩
      obtain ⟨S, p, ws, ds, l, pl, _, _, _, _, _, _, _, ⟨e, _⟩, _⟩ := h
      omega
    | succ m =>
      refine ⟨m, .inr rfl, ?_⟩
      obtain ⟨f, fd, a, b, c, e⟩ := (q_law_form m rfl).ex
      exact ⟨f, fd, a.imp fun vs H Q E h => by
        obtain ⟨S, p, ws, ds, l, pl, e1, i, e2, e3, e4, e5, e6, ⟨_, e7⟩, r⟩ := h
        exact ⟨S, p, ws, ds, l, pl, e1, i, e2, e3, e4, e5, e6, e7, r⟩, b, c, e⟩
  obtain ⟨m, hm, c_law_form⟩ := hc
  refine F.ok sc_law_form (fun vs H Q E h => spQ_len hn h) (fun f cdv A outer s H vs Q E hr h => ⟨_, (pss_cons (ps_set (i := 3) sc_law_form.nd rfl (by first | exact .inl rfl | exact .inr rfl) (pe_cal c_law_draw hr (pa_cons (pv 0) (pa_cons pe_int pa_nil))))
      (pss_cons (ps_if (pt_cmpR (k_eqW (K := K) rfl hr) (pv 3) pe_int (nomark _)) (pss_one (ps_ret (pe_cal c_law_base_value hr (pa_cons (pv 0) (pa_cons pe_str pa_nil))))) pss_nil)
      (pss_cons (ps_if (pt_cmpR (k_eqW (K := K) rfl hr) (pv 3) pe_int (nomark _)) (pss_one (ps_ret (pe_tup (pa_cons pe_str (pa_cons (pe_cal c_law_base_value hr (pa_cons (pv 0) (pa_cons pe_str pa_nil))) pa_nil))))) pss_nil)
      (pss_cons (ps_if (PW.pt (pw_or (pt_cmpR op_less (pv 3) pe_int (nomark _)) (pw_or1 (pt_cmpR (k_eqW (K := K) rfl hr) (pv 1) pe_int (nomark _))))) (pss_cons (ps_set (i := 4) sc_law_form.nd rfl (by first | exact .inl rfl | exact .inr rfl) (pe_ix (k_ix (K := K) rfl) (pe_lst (pa_cons pe_str (pa_cons pe_str (pa_cons pe_str (pa_cons pe_str (pa_cons pe_str (pa_cons pe_str pa_nil))))))) (pe_cal c_law_draw hr (pa_cons (pv 0) (pa_cons pe_int pa_nil))) (fun _ _ => rfl)))
      (pss_one (ps_ret (pe_ifExp (PW.pt (pw_and (pt_val (pv 2)) (pw_and1 (pt_cmpR (k_eqW (K := K) rfl hr) (pv 4) pe_str (nomark _))))) pe_str (pv 4))))) pss_nil)
      (pss_cons (ps_set (i := 5) sc_law_form.nd rfl (by first | exact .inl rfl | exact .inr rfl) (pe_cal c_law_draw hr (pa_cons (pv 0) (pa_cons pe_int pa_nil))))
      (pss_one (ps_ret (pe_callTy (k_tuple (K := K) rfl) (by rfl) T.n_tuple (by decide +kernel) (pa_cons (pe_lc (own := [("_law_k", 6)]) (by rfl) sc_law_form.nd (pi_range1 (by rfl) T.n_range (pa_cons (pv 5) pa_nil)) (blkOk_by (N := ["_law_pool_here", "_law_left", "_law_leading", "_law_way", "_law_name", "_law_many", "_law_k"]) (sc := defScope s_law_form) (by decide +kernel)) (fun _ _ _ _ _ => (pg_name (i := 6) sc_law_form.nd rfl (by first | exact .inl rfl | exact .inr rfl))) (fun _ _ _ _ _ => pts_nil) (fun _ _ _ _ _ => (pe_cal c_law_form hr (pa_cons (pv 0) (pa_cons (pe_op op_subI (pv 1) pe_int) (pa_cons (pe_cmpR (k_eqW (K := K) rfl hr) (pv 6) pe_int (nomark _)) pa_nil)))))) pa_nil))))))))), to_spQ hn (fun p pl ds hpl hp => ?_) h⟩)
  obtain ⟨b, rfl⟩ := hp
  have fin : ∀ x pl', poolD pl' → PFm n b x → ∃ pl'', [(p, false, pl')] = [(p, false, pl'')] ∧ poolD pl'' ∧ ∀ b', [PyData.int (n : Int), .bool b] = [PyData.int (n : Int), .bool b'] → PFm n b' x := fun x pl' h1 h2 => ⟨pl', rfl, h1, fun b' e => by
    injection e with _ e; injection e with e; injection e with e; rw [← e]; exact h2⟩
  change WS K _ [.own p, .dat (.int (n : Int)), .dat (.bool b), .no, .no, .no, .no] [(p, false, pl)] _
  refine ws_seq (ws_set (w_draw rfl hpl (by decide) (by decide) fun way pl1 hway hpl1 => ?_))
  change WS K _ [.own p, .dat (.int (n : Int)), .dat (.bool b), .dat (.int (way : Int)), .no, .no, .no] [(p, false, pl1)] _
  refine ws_seq (ws_if (wt_test (w_op ao_eqW (w_var rfl (w_int (eq0 (exb ?_)))))))
  refine iteB (fun h0 => ?_) (fun h0 => ?_)
  · refine ws_ret (w_callQ (wa_mut rfl (wa_cons (w_str (wa_nil ⟨p, false, pl1, [.str "int"], rfl, rfl, hpl1, ⟨_, rfl, .inl rfl⟩, fun d pl2 hpl2 hd => ?_⟩)))))
    have hd := hd "int" rfl
    cases hd with
    | int hz => exact fin _ _ hpl2 (post_int hz)
  refine ws_next (ws_seq (ws_if (wt_test (w_op ao_eqW (w_var rfl (w_int (feqi (exb ?_))))))))
  refine iteB (fun h1 => ?_) (fun h1 => ?_)
  · refine ws_ret (w_tup (wa_cons (w_str (wa_cons (w_callQ (wa_mut rfl (wa_cons (w_str (wa_nil ⟨p, false, pl1, [.str "text"], rfl, rfl, hpl1, ⟨_, rfl, .inr rfl⟩, fun d pl2 hpl2 hd => ?_⟩)))))))))
    have hd := hd "text" rfl
    cases hd with
    | txt hz hc => exact wa_nil (m2 ⟨by simp, fin _ _ hpl2 (post_txt hz hc)⟩)
  have names : ∀ {B : AE}, (∀ x pl', poolD pl' → PFm n b x → B.rt x [(p, false, pl')]) → WS K (tSeq (tAsg (tOp (rIx K) (tLst (tCons (tC (.str "a")) (tCons (tC (.str "text")) (tCons (tC (.str "texts")) (tCons (tC (.str "b2")) (tCons (tC (.str "abcdefgh")) (tCons (tC (.str "v1")) tNil))))))) (tCall (spQ preDraw postDraw K) [] E0 (tCons (tVar 0) (tCons (tC (.int 6)) tNil)))) (gName 4))
      (tRet (tIf (tAnd (tB (tVar 2)) (tTest (tOp (rEqW K) (tVar 4) (tC (.str "text"))))) (tC (.str "tex")) (tVar 4)))) [.own p, .dat (.int (n : Int)), .dat (.bool b), .dat (.int (way : Int)), .no, .no, .no] [(p, false, pl1)]
      B := fun {B} hB => by
    refine ws_seq (ws_set (w_op ao_ix (w_lst (wa_cons (w_str (wa_cons (w_str (wa_cons (w_str (wa_cons (w_str (wa_cons (w_str (wa_cons (w_str (wa_nil ⟨[.str "a", .str "text", .str "texts", .str "b2", .str "abcdefgh", .str "v1"], rfl, by simp, ?_⟩))))))))))))))))
    refine w_draw rfl hpl1 (by decide) (by decide) fun z pl2 hz hpl2 => ?_
    have hz6 : z = 0 ∨ z = 1 ∨ z = 2 ∨ z = 3 ∨ z = 4 ∨ z = 5 := by omega
    have step : ∀ (y : Str), (PyData.str y).canLay0 = true → PyData.eqv (.str y) (.str "text") = (y.cps.toList == textS) → nmB y.cps.toList = true → WS K (tRet (tIf (tAnd (tB (tVar 2)) (tTest (tOp (rEqW K) (tVar 4) (tC (.str "text"))))) (tC (.str "tex")) (tVar 4))) [.own p, .dat (.int (n : Int)), .dat (.bool b), .dat (.int (way : Int)), .dat (.str y), .no, .no] [(p, false, pl2)]
        B := fun y hy1 hy2 hy3 => by
      refine ws_ret (w_ite (wt_and (wt_B (w_var rfl (exb ?_)))))
      refine iteB (fun hb => ?_) (fun hb => ?_)
      · refine wt_test (w_op ao_eqW (w_var rfl (w_str (feqW hy1 (ok_str text_ok) (by simp [PyData.depth]) (exb ?_)))))
        rw [hy2]
        refine iteB (fun ht => ?_) (fun ht => ?_)
        · exact w_str (hB _ _ hpl2 (post_name "tex" (by decide +kernel) (fun _ => by decide +kernel)))
        · exact w_var rfl (hB _ _ hpl2 (post_name y hy3 fun _ => ht))
      · exact iteN rfl (w_var rfl (hB _ _ hpl2 (post_name y hy3 fun e => by rw [hb] at e; cases e)))
    rcases hz6 with rfl | rfl | rfl | rfl | rfl | rfl
    · exact fixl rfl (step "a" (by decide +kernel) (by decide +kernel) (by decide +kernel))
    · exact fixl rfl (step "text" (by decide +kernel) (by decide +kernel) (by decide +kernel))
    · exact fixl rfl (step "texts" (by decide +kernel) (by decide +kernel) (by decide +kernel))
    · exact fixl rfl (step "b2" (by decide +kernel) (by decide +kernel) (by decide +kernel))
    · exact fixl rfl (step "abcdefgh" (by decide +kernel) (by decide +kernel) (by decide +kernel))
    · exact fixl rfl (step "v1" (by decide +kernel) (by decide +kernel) (by decide +kernel))
  refine ws_next (ws_seq (ws_if (wt_or (wt_test (w_op ao_less (w_var rfl (w_int (flti (exb ?_)))))))))
  refine iteB (fun h4 => ?_) (fun h4 => ?_)
  · exact iteK rfl (names fin)
  refine wt_test (w_op ao_eqW (w_var rfl (w_int (eq0 (exb ?_)))))
  rcases hm with rfl | rfl
  · exact iteK rfl (names fin)
  refine iteN (by rw [decide_eq_false_iff_not]; omega) (ws_next ?_)
  refine ws_seq (ws_set (w_draw rfl hpl1 (by decide) (by decide) fun many pl2 hmany hpl2 => ?_))
  change WS K _ [.own p, .dat (.int ((m + 1 : Nat) : Int)), .dat (.bool b), .dat (.int (way : Int)), .no, .dat (.int (many : Int)), .no] [(p, false, pl2)] _
  refine ws_ret (w_cb ac_tupleOf (wa_cons ?_))
  refine w_lc ga_name (by decide) (wi_rng (wa_cons (w_var rfl (wa_nil ⟨(many : Int), rfl, by omega, by omega, fun i acc M' => ∃ (l : List Fm) (pl' : List PyData), acc = l.map fD ∧ M' = [(p, false, pl')] ∧ poolD pl' ∧ l.length = i ∧ i ≤ 3 ∧ GL l ∧ A8s l ∧ depL l ≤ m ∧ (∀ f ∈ l, (spell f).length ≤ bnd m) ∧ (∀ f, l.head? = some f → isTextF f = false), ⟨[], pl2, rfl, rfl, hpl2, rfl, by omega, trivial, trivial, Nat.zero_le _, by simp, by simp⟩, ?_, ?_⟩))))
  · rintro i x acc Mi hx ⟨l, pl', rfl, rfl, hpl', hli, hi3, hgl, hal, hdl, hsl, hhl⟩
    have hlt := (List.getElem?_eq_some_iff.mp hx).1
    have hlt : i < many := by simpa using hlt
    rw [List.getElem?_map, List.getElem?_range (by simpa using hlt)] at hx
    cases hx
    change WT K tYes [.own p, .dat (.int ((m + 1 : Nat) : Int)), .dat (.bool b), .dat (.int (way : Int)), .no, .dat (.int (many : Int)), .dat (.int (i : Int))] _ _
    refine wt_yes (iteK rfl (w_formc (b := decide (i = 0)) rfl rfl rfl hpl' (fun hq => w_op ao_eqW (w_var rfl (w_int (eq0 hq)))) fun f pl3 hpl3 hg ha8 hd hs hlead => ?_))
    refine ⟨by rw [List.length_map]; omega, l ++ [f], pl3, by simp, rfl, hpl3, by simp [hli], by omega, GL_app hgl hg, A8_app hal ha8, by rw [depL_app]; omega, fun g hgm => ?_, head_app hhl fun e => ?_⟩
    · rcases List.mem_append.mp hgm with hgm | hgm
      · exact hsl g hgm
      · rw [List.mem_singleton.mp hgm]; exact hs
    · refine hlead (decide_eq_true ?_)
      rw [← hli, e]; rfl
  · rintro acc M' ⟨l, pl', rfl, rfl, hpl', hli, hi3, hgl, hal, hdl, hsl, hhl⟩
    exact wa_nil (m1 (ftupl (fin _ _ hpl' (post_tup (by omega) hgl hal hdl hsl hhl))))
include T in
theorem ok_law_form (F : Dfn K mg "_law_form" s_law_form ["_law_pool_here", "_law_left", "_law_leading"]) (q_law_draw : Cal P w K mg base 1 "_law_draw" ["_law_pool_here", "_law_many"] (spQ preDraw postDraw K)) (q_law_base_value : Cal P w K mg base 2 "_law_base_value" ["_law_pool_here", "_law_kind"] (spBV K)) :
    ∀ n, Cal P w K mg base (n + 3) "_law_form" ["_law_pool_here", "_law_left", "_law_leading"] (spForm n K)
  | 0 => ok_law_form1 T 0 F q_law_draw q_law_base_value fun m h => by omega
  | n + 1 => ok_law_form1 T (n + 1) F q_law_draw q_law_base_value fun m h => by
    have e : n = m := by omega
    subst e
    exact ok_law_form F q_law_draw q_law_base_value n
end
end K6

set_option Elab.async false
set_option linter.all false
set_option maxRecDepth 100000
set_option maxHeartbeats 4000000
namespace K6
open PySem PySem.Spec PyProof.Rows L2 Ab TL NumText
/-- one step of the reading -/
local macro_rules | `(tactic| walk_at "w") => `(tactic| first
  | (with_reducible refine ws_seq ?_) | (with_reducible refine ws_next ?_) | (with_reducible refine ws_set ?_) | (with_reducible refine ws_par ?_) | (with_reducible refine ws_ret ?_) | (with_reducible refine ws_if ?_) | (with_reducible refine ws_drop ?_)
  | (refine w_var rfl ?_) | (with_reducible refine w_int ?_) | (with_reducible refine w_str ?_) | (with_reducible refine w_bl ?_) | (with_reducible refine w_non ?_)
  | (with_reducible refine wa_nil ?_) | (with_reducible refine wa_cons ?_) | (with_reducible refine w_tup ?_) | (with_reducible refine w_lst ?_)
  | (with_reducible refine wt_test ?_) | (with_reducible refine wt_B ?_) | (with_reducible refine wt_not ?_) | (with_reducible refine wt_and ?_) | (with_reducible refine wt_or ?_)
  | (with_reducible refine w_andV ?_) | (with_reducible refine w_orV ?_) | (with_reducible refine w_notV ?_) | (with_reducible refine w_ite ?_)
  | (with_reducible refine w_op ao_eqW ?_) | (with_reducible refine w_op ao_neW ?_) | (with_reducible refine w_op ao_eq ?_) | (with_reducible refine w_op ao_ne ?_) | (with_reducible refine w_op ao_isB ?_) | (with_reducible refine w_op ao_notB ?_) | (with_reducible refine w_op ao_ix ?_) | (with_reducible refine w_op ao_plus ?_) | (with_reducible refine w_op ao_less ?_) | (with_reducible refine w_op ao_le ?_) | (with_reducible refine w_op ao_gt ?_) | (with_reducible refine w_op ao_ge ?_)
  | (with_reducible refine w_op ao_sub ?_) | (with_reducible refine w_op ao_mul ?_) | (with_reducible refine w_op ao_mod ?_) | (with_reducible refine w_op ao_div ?_) | (with_reducible refine w_op ao_pow ?_) | (with_reducible refine w_op ao_isNo ?_) | (with_reducible refine w_op ao_inSg ?_) | (with_reducible refine w_op ao_inW ?_) | (with_reducible refine w_op ao_ninW ?_) | (with_reducible refine w_op ao_inSeq ?_) | (with_reducible refine w_op ao_ninSeq ?_)
  | (with_reducible refine w_cb ac_len ?_) | (with_reducible refine w_cb ac_tupleOf ?_) | (with_reducible refine w_cb ac_intOf ?_) | (with_reducible refine w_cb ac_abs ?_) | (with_reducible refine w_cb ac_ord ?_) | (with_reducible refine w_cb ac_all ?_) | (with_reducible refine w_cb ac_any ?_)
  | (with_reducible refine w_isi (by decide) ?_) | (with_reducible refine w_isi2 (by decide) (by decide) ?_) | (with_reducible refine w_sl ?_) | (with_reducible refine wo_none ?_) | (with_reducible refine wo_some ?_)
  | (with_reducible refine w_chain ao_le ao_le ?_) | (with_reducible refine w_chain ao_leS ao_leS ?_) | (with_reducible refine w_call ?_))
local macro_rules | `(tactic| walk_at "v") => `(tactic| first
  | (with_reducible refine m0 ?_) | (with_reducible refine m1 ?_) | (with_reducible refine m2 ?_) | (with_reducible refine m3 ?_) | (with_reducible refine m5 ?_)
  | (with_reducible refine exb ?_) | (with_reducible refine exi ?_) | (with_reducible refine exl ?_) | (with_reducible refine exql ?_) | (with_reducible refine exqt ?_)
  | (refine fixt rfl ?_) | (refine fixl rfl ?_) | (refine fslt rfl ?_) | (refine fsll rfl ?_)
  | (with_reducible refine flent ?_; dsimp only [List.length_cons, List.length_nil]) | (with_reducible refine flenl ?_; dsimp only [List.length_cons, List.length_nil])
  | (with_reducible refine fii (by first | trivial | decide) ?_) | (with_reducible refine fpi ?_) | (with_reducible refine flti ?_) | (with_reducible refine fint ?_) | (with_reducible refine ftupl ?_) | (with_reducible refine ftupt ?_)
  | (with_reducible refine feqW (by decide +kernel) (by decide +kernel) (by decide +kernel) ?_) | (with_reducible refine fneW (by decide +kernel) (by decide +kernel) (by decide +kernel) ?_)
  | (with_reducible refine feq (by decide +kernel) (by decide +kernel) ?_) | (with_reducible refine fne (by decide +kernel) (by decide +kernel) ?_)
  | (with_reducible refine iteK rfl ?_) | (with_reducible refine iteN rfl ?_) | (with_reducible refine iteK (by decide +kernel) ?_) | (with_reducible refine iteN (by decide +kernel) ?_))
local macro_rules | `(tactic| walk_at "x") => `(tactic| first | (with_reducible refine wx_seq ?_) | (with_reducible refine wx_if ?_) | (with_reducible refine wx_next ?_) | (with_reducible refine wx_ret ?_) | (with_reducible refine wr_tup ?_) | (with_reducible refine war_cons ?_) | (with_reducible refine war_nil ?_))
local macro_rules | `(tactic| walk_at "ww") => `(tactic| repeat (first | walk_at "w" | walk_at "v" | walk_at "x"))

/-! ### atom_end -/
def lawE (t : Cs) (i : Nat) : Nat × Int :=
  if sg t (· == 34) i then (if sg t (· == 34) (endOf t isTx 12 (i + 1)) then (endOf t isTx 12 (i + 1) + 1, -1) else (0, (endOf t isTx 12 (i + 1) : Nat)))
  else if sg t isLow i then (if endOf t isNm 8 i = i + 8 ∧ sg t isNm (i + 8) = true then (0, ((i + 8 : Nat) : Int)) else (endOf t isNm 8 i, -1))
  else
    let j := if sg t (· == 45) i then i + 1 else i
    if sg t (· == 45) i && sg t (· == 48) j then (0, (j : Int))
    else if sg t (· == 48) j then (if sg t isDig (j + 1) then (0, ((j + 1 : Nat) : Int)) else (j + 1, -1))
    else if sg t isDig j then (if endOf t isDig 30 j = j + 30 ∧ sg t isDig (j + 30) = true then (0, ((j + 30 : Nat) : Int)) else (endOf t isDig 30 j, -1))
    else (0, (j : Int))
def pairE (q : Nat × Int) : PyData := .tuple [.int (q.1 : Int), .int q.2]
def isAt (c : Nat) : Bool := isNm c || (c == 45) || (c == 34)
def preAE (ds : List PyData) : Prop := ∃ (x : Str) (i : Nat), ds = [.str x, .int (i : Int)] ∧ AX x ∧ i < x.cps.toList.length
def fAE : List PyData → PyData
  | [.str x, .int i] => pairE (lawE x.cps.toList i.toNat)
  | _ => .none
theorem and_prop {a b : Bool} : (a && b) = true ↔ a = true ∧ b = true := Bool.and_eq_true_iff
theorem alleq {t : Cs} {p : Nat → Bool} {i j : Nat} (h : ∀ k, i ≤ k → k < i + j → sg t p k = true) (h2 : sg t p (i + j) = true) : ∀ k, i ≤ k → k < i + (j + 1) → sg t p k = true := fun k h3 h4 => by
  by_cases e : k = i + j
  · rw [e]; exact h2
  · exact h k h3 (by omega)
theorem q92 : ("\\" : Str).cps.toList = [92] := by decide +kernel
theorem q126 : ("~" : Str).cps.toList = [126] := by decide +kernel
theorem lt1 (a b : Nat) : ([a] < [b]) ↔ a < b := by simp [List.cons_lt_cons_iff]
theorem leS1 {a b : Str} {c d : Nat} {P : PyData → Prop} (ha : a.cps.toList = [c]) (hb : b.cps.toList = [d]) (h : P (.bool (decide (c ≤ d)))) : fLeS (.str a) (.str b) P := by
  show P (.bool (!decide (b.cps.toList < a.cps.toList)))
  rw [ha, hb, show decide ([d] < [c]) = decide (d < c) from decide_eq_decide.mpr (lt1 _ _)]
  rw [show (!decide (d < c)) = decide (c ≤ d) by rw [Bool.eq_iff_iff]; simp]
  exact h
section
variable {P : Program} {w : World} {K : PySem.W.Frag} {mg : Str → Option Value} {base : Heap} (T : Txt K mg)
include T in
theorem ok_law_atom_end (F : Dfn K mg "_law_atom_end" s_law_atom_end ["_law_text", "_law_at"]) : Cal P w K mg base 1 "_law_atom_end" ["_law_text", "_law_at"] (spW preAE fAE K) := by
  have hn : ∀ ds, preAE ds → ds.length = 2 := by rintro ds ⟨x, i, rfl, _⟩; rfl
  refine F.ok sc_law_atom_end (fun vs H Q E h => spP_len hn h) (fun f cdv A outer s H vs Q E hr h => ⟨_, (pss_cons (ps_set (i := 2) sc_law_atom_end.nd rfl (by first | exact .inl rfl | exact .inr rfl) (pe_callB (k_len (K := K) rfl) (by rfl) T.n_len (by decide +kernel) (pa_cons (pv 0) pa_nil)))
      (pss_cons (ps_set (i := 3) sc_law_atom_end.nd rfl (by first | exact .inl rfl | exact .inr rfl) (pv 1))
      (pss_cons (ps_if (pt_cmpR (k_eqW (K := K) rfl hr) (pe_ix (k_ix (K := K) rfl) (pv 0) (pv 1) (fun _ _ => rfl)) pe_str (nomark _)) (pss_cons (ps_for PassesOwn.never rfl (pi_range2 (by rfl) T.n_range (pa_cons (pe_op (k_plus (K := K) rfl) (pv 1) pe_int) (pa_cons (pe_callB (call_minI rfl) (by rfl) T.n_min (by decide +kernel) (pa_cons (pv 2) (pa_cons (pe_op (k_plus (K := K) rfl) (pv 1) pe_int) pa_nil))) pa_nil))) (pg_name (i := 4) sc_law_atom_end.nd rfl (by first | exact .inl rfl | exact .inr rfl)) (pss_cons (ps_if (pt_cmpR (k_eqW (K := K) rfl hr) (pe_ix (k_ix (K := K) rfl) (pv 0) (pv 4) (fun _ _ => rfl)) pe_str (nomark _)) (pss_one (ps_ret (pe_tup (pa_cons (pe_op (k_plus (K := K) rfl) (pv 4) pe_int) (pa_cons (pe_un un_neg pe_int) pa_nil))))) pss_nil)
      (pss_one (ps_if (PW.pt (pw_or (pt_cmpR (k_eqW (K := K) rfl hr) (pv 4) (pe_op (k_plus (K := K) rfl) (pv 1) pe_int) (nomark _)) (pw_or (pt_cmpR (k_eqW (K := K) rfl hr) (pe_ix (k_ix (K := K) rfl) (pv 0) (pv 4) (fun _ _ => rfl)) pe_str (nomark _)) (pw_or (pt_not (pt_chain op_leS op_leS pe_str (pe_ix (k_ix (K := K) rfl) (pv 0) (pv 4) (fun _ _ => rfl)) pe_str)) (pw_or1 (pt_cmpR (k_eqW (K := K) rfl hr) (pe_callB call_ordS (by rfl) T.n_ord (by decide +kernel) (pa_cons (pe_ix (k_ix (K := K) rfl) (pv 0) (pv 4) (fun _ _ => rfl)) pa_nil)) pe_int (nomark _))))))) (pss_one (ps_ret (pe_tup (pa_cons pe_int (pa_cons (pv 4) pa_nil))))) pss_nil))))
      (pss_one (ps_ret (pe_tup (pa_cons pe_int (pa_cons (pv 2) pa_nil)))))) pss_nil)
      (pss_cons (ps_if (pt_cmpR op_inSg (pe_ix (k_ix (K := K) rfl) (pv 0) (pv 1) (fun _ _ => rfl)) pe_str (by rfl)) (pss_cons (ps_while PassesOwn.never (PW.pt (pw_and (pt_cmpR op_less (pv 3) (pv 2) (nomark _)) (pw_and1 (pt_cmpR op_inSg (pe_ix (k_ix (K := K) rfl) (pv 0) (pv 3) (fun _ _ => rfl)) pe_str (by rfl))))) (pss_cons (ps_if (pt_cmpR (k_eqW (K := K) rfl hr) (pv 3) (pe_op (k_plus (K := K) rfl) (pv 1) pe_int) (nomark _)) (pss_one (ps_ret (pe_tup (pa_cons pe_int (pa_cons (pv 3) pa_nil))))) pss_nil)
      (pss_one (ps_set (i := 3) sc_law_atom_end.nd rfl (by first | exact .inl rfl | exact .inr rfl) (pe_op (k_plus (K := K) rfl) (pv 3) pe_int)))))
      (pss_one (ps_ret (pe_tup (pa_cons (pv 3) (pa_cons (pe_un un_neg pe_int) pa_nil)))))) pss_nil)
      (pss_cons (ps_set (i := 5) sc_law_atom_end.nd rfl (by first | exact .inl rfl | exact .inr rfl) (pe_ifExp (pt_cmpR (k_eqW (K := K) rfl hr) (pe_ix (k_ix (K := K) rfl) (pv 0) (pv 1) (fun _ _ => rfl)) pe_str (nomark _)) (pe_op (k_plus (K := K) rfl) (pv 1) pe_int) (pv 1)))
      (pss_cons (ps_set (i := 3) sc_law_atom_end.nd rfl (by first | exact .inl rfl | exact .inr rfl) (pv 5))
      (pss_cons (ps_while PassesOwn.never (PW.pt (pw_and (pt_cmpR op_less (pv 3) (pv 2) (nomark _)) (pw_and1 (pt_cmpR op_inSg (pe_ix (k_ix (K := K) rfl) (pv 0) (pv 3) (fun _ _ => rfl)) pe_str (by rfl))))) (pss_cons (ps_if (PW.pt (pw_or (pt_cmpR (k_eqW (K := K) rfl hr) (pv 3) (pe_op (k_plus (K := K) rfl) (pv 5) pe_int) (nomark _)) (pw_or (PW.pt (pw_and (pt_cmpR (k_eqW (K := K) rfl hr) (pv 3) (pe_op (k_plus (K := K) rfl) (pv 5) pe_int) (nomark _)) (pw_and1 (pt_cmpR (k_eqW (K := K) rfl hr) (pe_ix (k_ix (K := K) rfl) (pv 0) (pv 5) (fun _ _ => rfl)) pe_str (nomark _))))) (pw_or1 (PW.pt (pw_and (pt_cmpR (k_eqW (K := K) rfl hr) (pe_ix (k_ix (K := K) rfl) (pv 0) (pv 1) (fun _ _ => rfl)) pe_str (nomark _)) (pw_and1 (pt_cmpR (k_eqW (K := K) rfl hr) (pe_ix (k_ix (K := K) rfl) (pv 0) (pv 5) (fun _ _ => rfl)) pe_str (nomark _))))))))) (pss_one (ps_ret (pe_tup (pa_cons pe_int (pa_cons (pe_ifExp (PW.pt (pw_and (pt_cmpR (k_eqW (K := K) rfl hr) (pe_ix (k_ix (K := K) rfl) (pv 0) (pv 1) (fun _ _ => rfl)) pe_str (nomark _)) (pw_and1 (pt_cmpR (k_eqW (K := K) rfl hr) (pe_ix (k_ix (K := K) rfl) (pv 0) (pv 5) (fun _ _ => rfl)) pe_str (nomark _))))) (pv 5) (pv 3)) pa_nil))))) pss_nil)
      (pss_one (ps_set (i := 3) sc_law_atom_end.nd rfl (by first | exact .inl rfl | exact .inr rfl) (pe_op (k_plus (K := K) rfl) (pv 3) pe_int)))))
      (pss_one (ps_ret (pe_ifExp (pt_cmpR (k_eqW (K := K) rfl hr) (pv 3) (pv 5) (nomark _)) (pe_tup (pa_cons pe_int (pa_cons (pv 3) pa_nil))) (pe_tup (pa_cons (pv 3) (pa_cons (pe_un un_neg pe_int) pa_nil))))))))))))), to_spP hn (fun ds hp => ?_) h⟩)
  obtain ⟨x, i, rfl, ha, hi⟩ := hp
  have eF : fAE [.str x, .int (i : Int)] = pairE (lawE x.cps.toList i) := rfl
  rw [eF]
  generalize ht : x.cps.toList = t at hi ⊢
  have h128 : ∀ c ∈ t, c < 128 := by rw [← ht]; exact ha.2
  have hl2 : t.length ≤ 20000 := by rw [← ht]; exact ha.1
  have getx : ∀ {k c : Nat}, t[k]? = some c → x.cps.toList[k]? = some c := fun e => by rw [ht]; exact e
  obtain ⟨c0, ec0⟩ : ∃ c, t[i]? = some c := ⟨_, List.getElem?_eq_getElem hi⟩
  have hc0 := h128 c0 (List.mem_of_getElem? ec0)
  change WS K _ [.dat (.str x), .dat (.int (i : Int)), .no, .no, .no, .no] [] _
  refine ws_seq (ws_set (w_cb ac_len (wa_cons (w_var rfl (wa_nil (m1 (flens ha.l ?_)))))))
  rw [ht]
  refine ws_seq (ws_set (w_var rfl ?_))
  change WS K _ [.dat (.str x), .dat (.int (i : Int)), .dat (.int (t.length : Int)), .dat (.int (i : Int)), .no, .no] [] _
  refine ws_seq (ws_if (wt_test (w_op ao_eqW (w_op ao_ix (w_var rfl (w_var rfl (fixs ha.l (getx ec0) (w_str (feql q34 hc0 (by decide) (exb ?_))))))))))
  refine iteB (fun h34 => ?_) (fun h34 => ?_)
  · -- a quoted text
    have s34 : sg t (· == 34) i = true := by rw [sg_of ec0]; exact h34
    have eL : lawE t i = if sg t (· == 34) (endOf t isTx 12 (i + 1)) then (endOf t isTx 12 (i + 1) + 1, -1) else (0, ((endOf t isTx 12 (i + 1) : Nat) : Int)) := by
      unfold lawE; rw [if_pos s34]
    refine ws_seq (ws_for ga_name (wi_rng2 (wa_cons (w_op ao_plus (w_var rfl (w_int (fpi (wa_cons (w_cb ac_min (wa_cons (w_var rfl (wa_cons (w_op ao_plus (w_var rfl (w_int (fpi (wa_nil (m2 ?_))))))))))))))))))
    refine wa_nil ⟨_, _, rfl, by split <;> omega, fun j as' M' => M' = [] ∧ (∃ u, as' = [.dat (.str x), .dat (.int (i : Int)), .dat (.int (t.length : Int)), .dat (.int (i : Int)), u, .no]) ∧ j ≤ 12 ∧ ∀ k, i + 1 ≤ k → k < i + 1 + j → sg t isTx k = true, ⟨rfl, ⟨_, rfl⟩, by omega, fun k h1 h2 => by omega⟩, ?_, ?_⟩
    · rintro j y as' M' hy ⟨rfl, ⟨u, rfl⟩, hj, hall⟩
      have hlt := (List.getElem?_eq_some_iff.mp hy).1
      rw [List.length_map, List.length_range] at hlt
      rw [List.getElem?_map, List.getElem?_range hlt] at hy
      cases hy
      have hkl : i + 1 + j < t.length ∧ j < 13 := by
        split at hlt <;> omega
      obtain ⟨c, ec⟩ : ∃ c, t[i + 1 + j]? = some c := ⟨_, List.getElem?_eq_getElem hkl.1⟩
      have hc := h128 c (List.mem_of_getElem? ec)
      have ek : ((i : Int) + 1 + (j : Int)) = ((i + 1 + j : Nat) : Int) := by omega
      change WS K _ [.dat (.str x), .dat (.int (i : Int)), .dat (.int (t.length : Int)), .dat (.int (i : Int)), .dat (.int ((i : Int) + 1 + (j : Int))), .no] [] _
      rw [ek]
      have fin0 : sg t (· == 34) (i + 1 + j) = false → endOf t isTx 12 (i + 1) = i + 1 + j → ∀ {B : AE}, (∀ d, d = pairE (lawE t i) → B.rt d []) → WS K (tRet (tTup (tCons (tC (.int 0)) (tCons (tVar 4) tNil)))) [.dat (.str x), .dat (.int (i : Int)), .dat (.int (t.length : Int)), .dat (.int (i : Int)), .dat (.int ((i + 1 + j : Nat) : Int)), .no] [] B := fun h1 h2 B hB => by
        refine ws_ret (w_tup (wa_cons (w_int (wa_cons (w_var rfl (wa_nil (m2 ⟨by simp, hB _ ?_⟩)))))))
        rw [eL, h2, h1]; rfl
      refine ws_seq (ws_if (wt_test (w_op ao_eqW (w_op ao_ix (w_var rfl (w_var rfl (fixs ha.l (getx ec) (w_str (feql q34 hc (by decide) (exb ?_))))))))))
      refine iteB (fun q => ?_) (fun q => ?_)
      · have q' : sg t (· == 34) (i + 1 + j) = true := by rw [sg_of ec]; exact q
        have e1 : endOf t isTx 12 (i + 1) = i + 1 + j := endOf_is (by omega) (by omega) (fun k h1 h2 => hall k h1 (by omega)) (.inr (by rw [sg_of ec, eq_of_beq q]; rfl))
        refine ws_ret (w_tup (wa_cons (w_op ao_plus (w_var rfl (w_int (fpi (wa_cons (w_neg (w_int (exi (wa_nil (m2 ⟨by simp, ?_⟩))))))))))))
        rw [eL, e1, q']; rfl
      have q' : sg t (· == 34) (i + 1 + j) = false := by rw [sg_of ec]; exact q
      refine ws_next (ws_if (wt_or (wt_test (w_op ao_eqW (w_var rfl (w_op ao_plus (w_var rfl (w_int (fpi (feqi (exb ?_)))))))))))
      refine iteB (fun q1 => ?_) (fun q1 => ?_)
      · have q1 := of_decide_eq_true q1
        exact iteK rfl (fin0 q' (endOf_is (by omega) (by omega) (fun k h1 h2 => hall k h1 (by omega)) (.inl (by omega))) fun d e => e)
      have q1 := of_decide_eq_false q1
      have bad : isTx c = false → endOf t isTx 12 (i + 1) = i + 1 + j := fun e => endOf_is (by omega) (by omega) (fun k h1 h2 => hall k h1 (by omega)) (.inr (by rw [sg_of ec]; exact e))
      refine wt_or (wt_test (w_op ao_eqW (w_op ao_ix (w_var rfl (w_var rfl (fixs ha.l (getx ec) (w_str (feql q92 hc (by decide) (exb ?_)))))))))
      refine iteB (fun q2 => ?_) (fun q2 => ?_)
      · exact iteK rfl (fin0 q' (bad (by rw [eq_of_beq q2]; rfl)) fun d e => e)
      refine wt_or (wt_not (wt_test (w_chain ao_leS ao_leS (w_str (w_op ao_ix (w_var rfl (w_var rfl (fixs ha.l (getx ec) (leS1 q32 (c := 32) (d := c) (by simp) (exb ?_))))))))))
      refine iteB (fun q3 => ?_) (fun q3 => ?_)
      · refine w_str (leS1 (c := c) (by simp) q126 (exb ?_))
        refine iteB (fun q4 => ?_) (fun q4 => ?_)
        · exact iteK rfl (fin0 q' (bad (by unfold isTx; rw [show decide (c ≤ 126) = false by simpa using q4]; simp)) fun d e => e)
        have q4 : decide (c ≤ 126) = true := by simpa using q4
        refine wt_test (w_op ao_eqW (w_cb ac_ord (wa_cons (w_op ao_ix (w_var rfl (w_var rfl (fixs ha.l (getx ec) (wa_nil (m1 ⟨rfl, w_int ?_⟩)))))))))
        have eo : (((⟨#[c]⟩ : Str).cps.getD 0 0 : Nat) : Int) = (c : Int) := rfl
        rw [eo]
        refine feqn (b := 37) (exb ?_)
        refine iteB (fun q5 => ?_) (fun q5 => ?_)
        · exact fin0 q' (bad (by rw [of_decide_eq_true q5]; rfl)) fun d e => e
        · have q5 := of_decide_eq_false q5
          refine ws_next ⟨rfl, ⟨_, rfl⟩, by omega, alleq hall ?_⟩
          rw [sg_of ec]
          unfold isTx
          rw [q3, q4, q, q2, show (c == 37) = false by simpa using q5]; rfl
      · exact exb (iteK rfl (iteK rfl (fin0 q' (bad (by unfold isTx; rw [q3]; rfl)) fun d e => e)))
    · rintro as' M' ⟨rfl, ⟨u, rfl⟩, hj, hall⟩
      rw [List.length_map, List.length_range] at hj hall
      have hj2 : i + 1 + ((if (i : Int) + 14 < (t.length : Int) then (i : Int) + 14 else (t.length : Int)) - ((i : Int) + 1)).toNat = t.length := by
        split at hj <;> split <;> omega
      rw [hj2] at hall
      have e1 : endOf t isTx 12 (i + 1) = t.length := endOf_is (by omega) (by split at hj <;> omega) (fun k h1 h2 => hall k h1 h2) (.inr (sg_end (Nat.le_refl _)))
      refine ws_ret (w_tup (wa_cons (w_int (wa_cons (w_var rfl (wa_nil (m2 ⟨by simp, ?_⟩)))))))
      rw [eL, e1, sg_end (Nat.le_refl _)]; rfl
  have s34 : sg t (· == 34) i = false := by rw [sg_of ec0]; exact h34
  refine ws_next (ws_seq (ws_if (wt_test (w_op ao_inSg (w_op ao_ix (w_var rfl (w_var rfl (fixs ha.l (getx ec0) (w_str (finsg (exb ?_)))))))))))
  rw [show decide (c0 ∈ ("abcdefghijklmnopqrstuvwxyz" : Str).cps.toList) = isLow c0 from in_letters c0]
  refine iteB (fun hlow => ?_) (fun hlow => ?_)
  · -- a name
    have slow : sg t isLow i = true := by rw [sg_of ec0]; exact hlow
    have eL : lawE t i = if endOf t isNm 8 i = i + 8 ∧ sg t isNm (i + 8) = true then (0, ((i + 8 : Nat) : Int)) else (endOf t isNm 8 i, -1) := by
      unfold lawE; rw [s34, if_neg (by simp), if_pos slow]
    refine ws_seq (ws_while (fun m as' M' => M' = [] ∧ ∃ j : Nat, as' = [.dat (.str x), .dat (.int (i : Int)), .dat (.int (t.length : Int)), .dat (.int ((i + j : Nat) : Int)), .no, .no] ∧ j + m = 8 ∧ ∀ k, i ≤ k → k < i + j → sg t isNm k = true) 8 ⟨rfl, 0, rfl, by omega, fun k h1 h2 => by omega⟩ ?_)
    rintro m as' M' ⟨rfl, j, rfl, hj, hall⟩
    have fin : sg t isNm (i + j) = false → ∀ {B : AE}, (∀ d, d = pairE (lawE t i) → B.rt d []) → WS K (tRet (tTup (tCons (tVar 3) (tCons (tUn (rU fun i => .int (-i)) (tC (.int 1))) tNil)))) [.dat (.str x), .dat (.int (i : Int)), .dat (.int (t.length : Int)), .dat (.int ((i + j : Nat) : Int)), .no, .no] [] B := fun hs B hB => by
      have e1 : endOf t isNm 8 i = i + j := endOf_is (by omega) (by omega) hall (.inr hs)
      refine ws_ret (w_tup (wa_cons (w_var rfl (wa_cons (w_neg (w_int (exi (wa_nil (m2 ⟨by simp, hB _ ?_⟩)))))))))
      rw [eL, e1, if_neg (fun z => by rw [← z.1, hs] at z; cases z.2)]; rfl
    refine wt_and (wt_test (w_op ao_less (w_var rfl (w_var rfl (flti (exb ?_))))))
    refine iteB (fun h1 => ?_) (fun h1 => ?_)
    · have h1 := of_decide_eq_true h1
      have hlt : i + j < t.length := by omega
      obtain ⟨c, ec⟩ : ∃ c, t[i + j]? = some c := ⟨_, List.getElem?_eq_getElem hlt⟩
      refine wt_test (w_op ao_inSg (w_op ao_ix (w_var rfl (w_var rfl (fixs ha.l (getx ec) (w_str (finsg (exb ?_))))))))
      rw [show decide (c ∈ ("abcdefghijklmnopqrstuvwxyz0123456789" : Str).cps.toList) = isNm c from in_name c]
      refine iteB (fun h2 => ?_) (fun h2 => ?_)
      · have h2' : sg t isNm (i + j) = true := by rw [sg_of ec]; exact h2
        refine ws_seq (ws_if (wt_test (w_op ao_eqW (w_var rfl (w_op ao_plus (w_var rfl (w_int (fpi (feqi (exb ?_))))))))))
        refine iteB (fun h3 => ?_) (fun h3 => ?_)
        · have h3 := of_decide_eq_true h3
          have e8 : j = 8 := by omega
          subst e8
          have e1 : endOf t isNm 8 i = i + 8 := endOf_is (by omega) (by omega) hall (.inl rfl)
          refine ws_ret (w_tup (wa_cons (w_int (wa_cons (w_var rfl (wa_nil (m2 ⟨by simp, ?_⟩)))))))
          rw [eL, if_pos ⟨e1, h2'⟩]; rfl
        · have h3 := of_decide_eq_false h3
          refine ws_next (ws_set (w_op ao_plus (w_var rfl (w_int (fpi ⟨m - 1, by omega, rfl, j + 1, ?_, by omega, alleq hall h2'⟩)))))
          show [Sv.dat (.str x), .dat (.int (i : Int)), .dat (.int (t.length : Int)), .dat (.int (((i + j : Nat) : Int) + 1)), .no, .no] = _
          rw [show (((i + j : Nat) : Int) + 1) = ((i + (j + 1) : Nat) : Int) by omega]
      · exact fin (by rw [sg_of ec]; exact h2) fun d e => e
    · have h1 := of_decide_eq_false h1
      exact iteN rfl (fin (sg_end (by omega)) fun d e => e)
  have slow : sg t isLow i = false := by rw [sg_of ec0]; exact hlow
  -- a number
  refine ws_next (ws_seq (ws_set (w_ite (wt_test (w_op ao_eqW (w_op ao_ix (w_var rfl (w_var rfl (fixs ha.l (getx ec0) (w_str (feql q45 hc0 (by decide) (exb ?_))))))))))))
  have s45 : sg t (· == 45) i = (c0 == 45) := sg_of ec0
  refine w_two (fun v => ∃ j : Nat, v = .int (j : Int) ∧ j = (if sg t (· == 45) i then i + 1 else i)) ?_ (fun h45 => ?_) (fun h45 => ?_)
  · rintro v ⟨j, rfl, hj⟩
    have eL : lawE t i = if sg t (· == 45) i && sg t (· == 48) j then (0, (j : Int)) else if sg t (· == 48) j then (if sg t isDig (j + 1) then (0, ((j + 1 : Nat) : Int)) else (j + 1, -1))
        else if sg t isDig j then (if endOf t isDig 30 j = j + 30 ∧ sg t isDig (j + 30) = true then (0, ((j + 30 : Nat) : Int)) else (endOf t isDig 30 j, -1)) else (0, (j : Int)) := by
      unfold lawE; rw [s34, if_neg (by simp), slow, if_neg (by simp), hj]
    have hji : i ≤ j := by rw [hj]; split <;> omega
    refine ws_seq (ws_set (w_var rfl ?_))
    change WS K _ [.dat (.str x), .dat (.int (i : Int)), .dat (.int (t.length : Int)), .dat (.int (j : Int)), .no, .dat (.int (j : Int))] [] _
    refine ws_seq (ws_while (fun m as' M' => M' = [] ∧ ∃ n : Nat, as' = [.dat (.str x), .dat (.int (i : Int)), .dat (.int (t.length : Int)), .dat (.int ((j + n : Nat) : Int)), .no, .dat (.int (j : Int))] ∧ n + m = 30 ∧ (∀ k, j ≤ k → k < j + n → sg t isDig k = true) ∧ (1 ≤ n → (sg t (· == 45) i && sg t (· == 48) j) = false) ∧ (2 ≤ n → sg t (· == 48) j = false)) 30 ⟨rfl, 0, rfl, by omega, fun k h1 h2 => by omega, fun h => by omega, fun h => by omega⟩ ?_)
    rintro m as' M' ⟨rfl, n, rfl, hn2, hall, hneg, hzer⟩
    have fin : sg t isDig (j + n) = false → WS K (tRet (tIf (tTest (tOp (rEqW K) (tVar 3) (tVar 5))) (tTup (tCons (tC (.int 0)) (tCons (tVar 3) tNil))) (tTup (tCons (tVar 3) (tCons (tUn (rU fun i => .int (-i)) (tC (.int 1))) tNil))))) [.dat (.str x), .dat (.int (i : Int)), .dat (.int (t.length : Int)), .dat (.int ((j + n : Nat) : Int)), .no, .dat (.int (j : Int))] [] ⟨fun _ _ => PyData.none = pairE (lawE t i), fun d _ => d = pairE (lawE t i), fun _ _ => False, fun _ _ => False⟩ := fun hs => by
      refine ws_ret (w_ite (wt_test (w_op ao_eqW (w_var rfl (w_var rfl (feqi (exb ?_)))))))
      refine iteB (fun h1 => ?_) (fun h1 => ?_)
      · have h1 := of_decide_eq_true h1
        have n0 : n = 0 := by omega
        subst n0
        have hs : sg t isDig j = false := hs
        have h48 : sg t (· == 48) j = false := by
          cases e : sg t (· == 48) j with
          | false => rfl
          | true => rw [sg_of (sg_eq.mp e)] at hs; cases hs
        refine w_tup (wa_cons (w_int (wa_cons (w_var rfl (wa_nil (m2 ⟨by simp, ?_⟩))))))
        rw [eL, h48, hs, Bool.and_false]; rfl
      · have h1 := of_decide_eq_false h1
        have n1 : 1 ≤ n := by omega
        refine w_tup (wa_cons (w_var rfl (wa_cons (w_neg (w_int (exi (wa_nil (m2 ⟨by simp, ?_⟩))))))))
        have hd0 := hall j (Nat.le_refl _) (by omega)
        rw [eL, hneg n1, if_neg (by simp)]
        by_cases h2 : 2 ≤ n
        · have e1 : endOf t isDig 30 j = j + n := endOf_is (by omega) (by omega) hall (.inr hs)
          rw [hzer h2, if_neg (by simp), if_pos hd0, e1, if_neg (fun z => by rw [← z.1, hs] at z; cases z.2)]; rfl
        · have e1 : n = 1 := by omega
          subst e1
          rw [hs]
          have e1 : endOf t isDig 30 j = j + 1 := endOf_is (by omega) (by omega) hall (.inr hs)
          rw [hd0, e1]
          cases sg t (· == 48) j with
          | true => rfl
          | false => rw [if_neg (by simp), if_pos rfl, if_neg (fun z => by omega)]; rfl
    refine wt_and (wt_test (w_op ao_less (w_var rfl (w_var rfl (flti (exb ?_))))))
    refine iteB (fun h1 => ?_) (fun h1 => ?_)
    · have h1 := of_decide_eq_true h1
      have hlt : j + n < t.length := by omega
      obtain ⟨c, ec⟩ : ∃ c, t[j + n]? = some c := ⟨_, List.getElem?_eq_getElem hlt⟩
      obtain ⟨cj, ecj⟩ : ∃ c, t[j]? = some c := ⟨_, List.getElem?_eq_getElem (show j < t.length by omega)⟩
      have hcj := h128 cj (List.mem_of_getElem? ecj)
      have s48 : sg t (· == 48) j = (cj == 48) := sg_of ecj
      refine wt_test (w_op ao_inSg (w_op ao_ix (w_var rfl (w_var rfl (fixs ha.l (getx ec) (w_str (finsg (exb ?_))))))))
      rw [show decide (c ∈ ("0123456789" : Str).cps.toList) = isDig c from in_digits c]
      refine iteB (fun h2 => ?_) (fun h2 => ?_)
      · have h2' : sg t isDig (j + n) = true := by rw [sg_of ec]; exact h2
        -- '-' and '0'
        have neg0 : ∀ {R : Bool → Mm → Prop}, R (sg t (· == 45) i && sg t (· == 48) j) [] → WT K (tAnd (tTest (tOp (rEqW K) (tOp (rIx K) (tVar 0) (tVar 1)) (tC (.str "-")))) (tTest (tOp (rEqW K) (tOp (rIx K) (tVar 0) (tVar 5)) (tC (.str "0"))))) [.dat (.str x), .dat (.int (i : Int)), .dat (.int (t.length : Int)), .dat (.int ((j + n : Nat) : Int)), .no, .dat (.int (j : Int))] [] R := fun {R} hR => by
          rw [s45, s48] at hR
          refine wt_and (wt_test (w_op ao_eqW (w_op ao_ix (w_var rfl (w_var rfl (fixs ha.l (getx ec0) (w_str (feql q45 hc0 (by decide) (exb ?_)))))))))
          refine iteB (fun q => ?_) (fun q => ?_)
          · refine wt_test (w_op ao_eqW (w_op ao_ix (w_var rfl (w_var rfl (fixs ha.l (getx ecj) (w_str (feql q48 hcj (by decide) (exb ?_))))))))
            rw [q, Bool.true_and] at hR
            exact hR
          · rw [q, Bool.false_and] at hR
            exact hR
        -- what is handed back
        have back : ∀ {B : AE}, (∀ d, d = pairE (0, ((if (sg t (· == 45) i && sg t (· == 48) j) = true then j else j + n : Nat) : Int)) → B.rt d []) → WS K (tRet (tTup (tCons (tC (.int 0)) (tCons (tIf (tAnd (tTest (tOp (rEqW K) (tOp (rIx K) (tVar 0) (tVar 1)) (tC (.str "-")))) (tTest (tOp (rEqW K) (tOp (rIx K) (tVar 0) (tVar 5)) (tC (.str "0"))))) (tVar 5) (tVar 3)) tNil)))) [.dat (.str x), .dat (.int (i : Int)), .dat (.int (t.length : Int)), .dat (.int ((j + n : Nat) : Int)), .no, .dat (.int (j : Int))] [] B := fun {B} hB => by
          refine ws_ret (w_tup (wa_cons (w_int (wa_cons (w_ite (neg0 ?_))))))
          refine iteB (fun q => ?_) (fun q => ?_)
          · refine w_var rfl (wa_nil (m2 ⟨by simp, hB _ ?_⟩))
            rw [if_pos q]; rfl
          · refine w_var rfl (wa_nil (m2 ⟨by simp, hB _ ?_⟩))
            rw [q, if_neg (by simp)]; rfl
        refine ws_seq (ws_if (wt_or (wt_test (w_op ao_eqW (w_var rfl (w_op ao_plus (w_var rfl (w_int (fpi (feqi (exb ?_)))))))))))
        refine iteB (fun h3 => ?_) (fun h3 => ?_)
        · have h3 := of_decide_eq_true h3
          have e30 : n = 30 := by omega
          subst e30
          have hN := hneg (by omega)
          have hZ := hzer (by omega)
          have e1 : endOf t isDig 30 j = j + 30 := endOf_is (by omega) (by omega) hall (.inl rfl)
          refine iteK rfl (back fun d e => ?_)
          rw [hN, if_neg (by simp)] at e
          show d = pairE (lawE t i)
          rw [e, eL, hN, if_neg (by simp), hZ, if_neg (by simp), if_pos (hall j (Nat.le_refl _) (by omega)), if_pos ⟨e1, h2'⟩]
        have h3 := of_decide_eq_false h3
        refine wt_or (wt_and (wt_test (w_op ao_eqW (w_var rfl (w_op ao_plus (w_var rfl (w_int (fpi (feqi (exb ?_))))))))))
        have go : (n = 1 → sg t (· == 48) j = false) → (sg t (· == 45) i && sg t (· == 48) j) = false → ∃ k, k < m ∧ ([] : Mm) = [] ∧ ∃ n' : Nat, [Sv.dat (.str x), .dat (.int (i : Int)), .dat (.int (t.length : Int)), .dat (.int (((j + n : Nat) : Int) + 1)), .no, .dat (.int (j : Int))] = [.dat (.str x), .dat (.int (i : Int)), .dat (.int (t.length : Int)), .dat (.int ((j + n' : Nat) : Int)), .no, .dat (.int (j : Int))] ∧ n' + k = 30 ∧ (∀ k, j ≤ k → k < j + n' → sg t isDig k = true) ∧ (1 ≤ n' → (sg t (· == 45) i && sg t (· == 48) j) = false) ∧ (2 ≤ n' → sg t (· == 48) j = false) := fun g1 g2 => by
          refine ⟨m - 1, by omega, rfl, n + 1, ?_, by omega, alleq hall h2', fun _ => g2, fun g3 => ?_⟩
          · rw [show (((j + n : Nat) : Int) + 1) = ((j + (n + 1) : Nat) : Int) by omega]
          · by_cases e : n = 1
            · exact g1 e
            · exact hzer (by omega)
        refine iteB (fun h4 => ?_) (fun h4 => ?_)
        · have h4 := of_decide_eq_true h4
          have e1 : n = 1 := by omega
          subst e1
          have hN := hneg (by omega)
          refine wt_test (w_op ao_eqW (w_op ao_ix (w_var rfl (w_var rfl (fixs ha.l (getx ecj) (w_str (feql q48 hcj (by decide) (exb ?_))))))))
          refine iteB (fun h5 => ?_) (fun h5 => ?_)
          · refine iteK rfl (back fun d e => ?_)
            rw [hN, if_neg (by simp)] at e
            show d = pairE (lawE t i)
            rw [e, eL, hN, if_neg (by simp), s48, h5, if_pos rfl, h2', if_pos rfl]
          · exact neg0 (iteN hN (ws_next (ws_set (w_op ao_plus (w_var rfl (w_int (fpi (go (fun _ => by rw [s48]; exact h5) hN))))))))
        · have h4 := of_decide_eq_false h4
          refine iteN rfl (neg0 ?_)
          refine iteB (fun h5 => ?_) (fun h5 => ?_)
          · refine back fun d e => ?_
            rw [if_pos h5] at e
            show d = pairE (lawE t i)
            rw [e, eL, if_pos h5]
          · exact ws_next (ws_set (w_op ao_plus (w_var rfl (w_int (fpi (go (fun e => by omega) h5))))))
      · exact fin (by rw [sg_of ec]; exact h2)
    · have h1 := of_decide_eq_false h1
      exact iteN rfl (fin (sg_end (by omega)))
  · refine w_op ao_plus (w_var rfl (w_int (fpi ⟨⟨i + 1, rfl, ?_⟩, rfl⟩)))
    rw [s45, h45]; rfl
  · refine w_var rfl ⟨⟨i, rfl, ?_⟩, rfl⟩
    rw [s45, h45]; rfl
end
end K6

set_option Elab.async false
set_option linter.all false
set_option maxRecDepth 100000
set_option maxHeartbeats 4000000
namespace K6
open PySem PySem.Spec PyProof.Rows L2 Ab TL NumText
/-- one step of the reading -/
local macro_rules | `(tactic| walk_at "w") => `(tactic| first
  | (with_reducible refine ws_seq ?_) | (with_reducible refine ws_next ?_) | (with_reducible refine ws_set ?_) | (with_reducible refine ws_par ?_) | (with_reducible refine ws_ret ?_) | (with_reducible refine ws_if ?_) | (with_reducible refine ws_drop ?_)
  | (refine w_var rfl ?_) | (with_reducible refine w_int ?_) | (with_reducible refine w_str ?_) | (with_reducible refine w_bl ?_) | (with_reducible refine w_non ?_)
  | (with_reducible refine wa_nil ?_) | (with_reducible refine wa_cons ?_) | (with_reducible refine w_tup ?_) | (with_reducible refine w_lst ?_)
  | (with_reducible refine wt_test ?_) | (with_reducible refine wt_B ?_) | (with_reducible refine wt_not ?_) | (with_reducible refine wt_and ?_) | (with_reducible refine wt_or ?_)
  | (with_reducible refine w_andV ?_) | (with_reducible refine w_orV ?_) | (with_reducible refine w_notV ?_) | (with_reducible refine w_ite ?_)
  | (with_reducible refine w_op ao_eqW ?_) | (with_reducible refine w_op ao_neW ?_) | (with_reducible refine w_op ao_eq ?_) | (with_reducible refine w_op ao_ne ?_) | (with_reducible refine w_op ao_isB ?_) | (with_reducible refine w_op ao_notB ?_) | (with_reducible refine w_op ao_ix ?_) | (with_reducible refine w_op ao_plus ?_) | (with_reducible refine w_op ao_less ?_) | (with_reducible refine w_op ao_le ?_) | (with_reducible refine w_op ao_gt ?_) | (with_reducible refine w_op ao_ge ?_)
  | (with_reducible refine w_op ao_sub ?_) | (with_reducible refine w_op ao_mul ?_) | (with_reducible refine w_op ao_mod ?_) | (with_reducible refine w_op ao_div ?_) | (with_reducible refine w_op ao_pow ?_) | (with_reducible refine w_op ao_isNo ?_) | (with_reducible refine w_op ao_inSg ?_) | (with_reducible refine w_op ao_inW ?_) | (with_reducible refine w_op ao_ninW ?_) | (with_reducible refine w_op ao_inSeq ?_) | (with_reducible refine w_op ao_ninSeq ?_)
  | (with_reducible refine w_cb ac_len ?_) | (with_reducible refine w_cb ac_tupleOf ?_) | (with_reducible refine w_cb ac_intOf ?_) | (with_reducible refine w_cb ac_abs ?_) | (with_reducible refine w_cb ac_ord ?_) | (with_reducible refine w_cb ac_all ?_) | (with_reducible refine w_cb ac_any ?_)
  | (with_reducible refine w_isi (by decide) ?_) | (with_reducible refine w_isi2 (by decide) (by decide) ?_) | (with_reducible refine w_sl ?_) | (with_reducible refine wo_none ?_) | (with_reducible refine wo_some ?_)
  | (with_reducible refine w_chain ao_le ao_le ?_) | (with_reducible refine w_chain ao_leS ao_leS ?_) | (with_reducible refine w_call ?_))
local macro_rules | `(tactic| walk_at "v") => `(tactic| first
  | (with_reducible refine m0 ?_) | (with_reducible refine m1 ?_) | (with_reducible refine m2 ?_) | (with_reducible refine m3 ?_) | (with_reducible refine m5 ?_)
  | (with_reducible refine exb ?_) | (with_reducible refine exi ?_) | (with_reducible refine exl ?_) | (with_reducible refine exql ?_) | (with_reducible refine exqt ?_)
  | (refine fixt rfl ?_) | (refine fixl rfl ?_) | (refine fslt rfl ?_) | (refine fsll rfl ?_)
  | (with_reducible refine flent ?_; dsimp only [List.length_cons, List.length_nil]) | (with_reducible refine flenl ?_; dsimp only [List.length_cons, List.length_nil])
  | (with_reducible refine fii (by first | trivial | decide) ?_) | (with_reducible refine fpi ?_) | (with_reducible refine flti ?_) | (with_reducible refine fint ?_) | (with_reducible refine ftupl ?_) | (with_reducible refine ftupt ?_)
  | (with_reducible refine feqW (by decide +kernel) (by decide +kernel) (by decide +kernel) ?_) | (with_reducible refine fneW (by decide +kernel) (by decide +kernel) (by decide +kernel) ?_)
  | (with_reducible refine feq (by decide +kernel) (by decide +kernel) ?_) | (with_reducible refine fne (by decide +kernel) (by decide +kernel) ?_)
  | (with_reducible refine iteK rfl ?_) | (with_reducible refine iteN rfl ?_) | (with_reducible refine iteK (by decide +kernel) ?_) | (with_reducible refine iteN (by decide +kernel) ?_))
local macro_rules | `(tactic| walk_at "x") => `(tactic| first | (with_reducible refine wx_seq ?_) | (with_reducible refine wx_if ?_) | (with_reducible refine wx_next ?_) | (with_reducible refine wx_ret ?_) | (with_reducible refine wr_tup ?_) | (with_reducible refine war_cons ?_) | (with_reducible refine war_nil ?_))
local macro_rules | `(tactic| walk_at "ww") => `(tactic| repeat (first | walk_at "w" | walk_at "v" | walk_at "x"))

/-! ### the law's atom beside the reader's -/
theorem item_bad {t : Cs} {k : Stk → Nat → R} {s : Stk} {f : Fm} {e : Nat} (hlt : e < t.length) (h1 : sg t (· == 41) e = false) (h2 : sg t (· == 32) e = false) : item t k s f e = .inl e := by
  cases s with
  | nil =>
    show whole t f e = _
    unfold whole
    rw [if_pos hlt]
  | cons l r =>
    show (if sg t (· == 41) e then _ else if sg t (· == 32) e then _ else _) = _
    rw [h1, h2]; rfl
theorem item_nm {t : Cs} {k : Stk → Nat → R} {s : Stk} {f : Fm} {e : Nat} (h : sg t isNm e = true) : item t k s f e = .inl e :=
  item_bad (sg_lt h) (sg_excl h fun c hc => by unfold isNm isLow isDig at hc; simp at hc ⊢; omega) (sg_excl h fun c hc => by unfold isNm isLow isDig at hc; simp at hc ⊢; omega)
theorem dig_nm {t : Cs} {e : Nat} (h : sg t isDig e = true) : sg t isNm e = true := by
  obtain ⟨c, ec, hc⟩ := sg_get h
  rw [sg_of ec]; unfold isNm; rw [hc]; simp
def goOn (t : Cs) (k : Stk → Nat → R) (s : Stk) (a : Nat ⊕ (Fm × Nat)) : R := match a with
  | .inl p => .inl p
  | .inr (f, e) => if isTextF f && lead s then .inl e else item t k s f e
theorem goOn_num {t : Cs} {k : Stk → Nat → R} {s : Stk} {z : Int} {e : Nat} (h : sg t isDig e = true) : goOn t k s (.inr (.num z, e)) = .inl e := by
  show (if (false && lead s) = true then Sum.inl e else item t k s (.num z) e) = _
  rw [Bool.false_and, if_neg (by simp)]
  exact item_nm (dig_nm h)
/-- the number's three ways -/
theorem atom_at {t : Cs} {i : Nat} (h1 : sg t isLow i = false) (h2 : sg t (· == 34) i = false) : atom t i = numAt t i := by
  unfold atom numAt
  rw [h1, if_neg (by simp), h2, if_neg (by simp)]
theorem no48 {t : Cs} {i : Nat} (h : sg t (· == 45) i = true) : sg t (· == 48) i = false := sg_excl h fun c hc => by rw [eq_of_beq hc]; rfl
theorem lawE_bad {t : Cs} {i : Nat} {q : Int} (h : lawE t i = (0, q)) : ∃ p : Nat, q = (p : Int) ∧ ∀ k s, goOn t k s (atom t i) = .inl p := by
  unfold lawE at h
  split at h
  · rename_i h34
    have nl : sg t isLow i = false := sg_excl h34 fun c hc => by rw [eq_of_beq hc]; rfl
    split at h
    · injection h with h; omega
    · rename_i hq
      injection h with _ h
      refine ⟨_, h.symm, fun k s => ?_⟩
      unfold atom
      rw [nl, if_neg (by simp), if_pos h34, if_neg hq]; rfl
  · rename_i h34
    have h34 : sg t (· == 34) i = false := by simpa using h34
    split at h
    · rename_i hlow
      split at h
      · rename_i hc
        injection h with _ h
        refine ⟨_, h.symm, fun k s => ?_⟩
        unfold atom
        rw [if_pos hlow, hc.1]
        have hlt := sg_lt hc.2
        have hl := sl_len t (a := i) (b := i + 8) (by omega)
        have ht : isTextF (.name (sl t i (i + 8))) = false := by
          show (sl t i (i + 8) == textS) = false
          rw [beq_eq_false_iff_ne]
          intro e
          rw [e] at hl
          have : textS.length = 4 := rfl
          omega
        show (if (isTextF (.name (sl t i (i + 8))) && lead s) = true then _ else _) = _
        rw [ht, Bool.false_and, if_neg (by simp)]
        exact item_nm hc.2
      · injection h with h
        have hn : sg t isNm i = true := by
          obtain ⟨c, e, hc⟩ := sg_get hlow
          rw [sg_of e]; unfold isNm; rw [hc]; rfl
        have : i < endOf t isNm 8 i := endOf_gt 7 hn
        omega
    · rename_i hlow
      have hlow : sg t isLow i = false := by simpa using hlow
      rw [atom_at hlow h34]
      by_cases h45 : sg t (· == 45) i = true
      · have n48 := no48 h45
        have en : numAt t i = if sg t isDig (i + 1) && !sg t (· == 48) (i + 1) then .inr (.num (-(digitsVal (sl t (i + 1) (endOf t isDig 30 (i + 1))) : Int)), endOf t isDig 30 (i + 1)) else .inl (i + 1) := by
          unfold numAt; rw [n48, if_neg (by simp), if_pos h45]
        rw [en]
        simp only [h45, Bool.true_and, if_true] at h
        split at h
        · rename_i h48
          injection h with _ h
          refine ⟨_, h.symm, fun k s => ?_⟩
          rw [h48]; simp; rfl
        · rename_i h48
          have h48 : sg t (· == 48) (i + 1) = false := by simpa using h48
          rw [h48, Bool.not_false, Bool.and_true]
          split at h
          · rename_i hd
            split at h
            · rename_i hc
              injection h with _ h
              refine ⟨_, h.symm, fun k s => ?_⟩
              rw [if_pos hd, hc.1]
              exact goOn_num hc.2
            · injection h with h
              have : i + 1 < endOf t isDig 30 (i + 1) := endOf_gt 29 hd
              omega
          · rename_i hd
            injection h with _ h
            refine ⟨_, h.symm, fun k s => ?_⟩
            rw [if_neg hd]; rfl
      · have h45 : sg t (· == 45) i = false := by simpa using h45
        simp only [h45, Bool.false_and, if_false, Bool.false_eq_true] at h
        split at h
        · rename_i h48
          have en : numAt t i = .inr (.num 0, i + 1) := by unfold numAt; rw [if_pos h48]
          split at h
          · rename_i hd
            injection h with _ h
            refine ⟨_, h.symm, fun k s => ?_⟩
            rw [en]
            exact goOn_num hd
          · injection h with h; omega
        · rename_i h48
          have en : numAt t i = if sg t isDig i then .inr (.num (digitsVal (sl t i (endOf t isDig 30 i)) : Int), endOf t isDig 30 i) else .inl i := by
            unfold numAt; rw [if_neg h48, h45, if_neg (by simp)]
          rw [en]
          split at h
          · rename_i hd
            split at h
            · rename_i hc
              injection h with _ h
              refine ⟨_, h.symm, fun k s => ?_⟩
              rw [if_pos hd, hc.1]
              exact goOn_num hc.2
            · injection h with h
              have : i < endOf t isDig 30 i := endOf_gt 29 hd
              omega
          · rename_i hd
            injection h with _ h
            refine ⟨_, h.symm, fun k s => ?_⟩
            rw [if_neg hd]; rfl
theorem lawE_good {t : Cs} {i e : Nat} {b : Int} (h : lawE t i = (e, b)) (he : e ≠ 0) : ∃ f, atom t i = .inr (f, e) := by
  unfold lawE at h
  split at h
  · rename_i h34
    have nl : sg t isLow i = false := sg_excl h34 fun c hc => by rw [eq_of_beq hc]; rfl
    split at h
    · rename_i hq
      injection h with h _
      refine ⟨.txt (sl t (i + 1) (endOf t isTx 12 (i + 1))), ?_⟩
      unfold atom
      rw [nl, if_neg (by simp), if_pos h34, if_pos hq, ← h]
    · injection h with h; omega
  · rename_i h34
    have h34 : sg t (· == 34) i = false := by simpa using h34
    split at h
    · rename_i hlow
      split at h
      · injection h with h; omega
      · injection h with h _
        refine ⟨.name (sl t i (endOf t isNm 8 i)), ?_⟩
        unfold atom
        rw [if_pos hlow, ← h]
    · rename_i hlow
      have hlow : sg t isLow i = false := by simpa using hlow
      rw [atom_at hlow h34]
      by_cases h45 : sg t (· == 45) i = true
      · have n48 := no48 h45
        have en : numAt t i = if sg t isDig (i + 1) && !sg t (· == 48) (i + 1) then .inr (.num (-(digitsVal (sl t (i + 1) (endOf t isDig 30 (i + 1))) : Int)), endOf t isDig 30 (i + 1)) else .inl (i + 1) := by
          unfold numAt; rw [n48, if_neg (by simp), if_pos h45]
        rw [en]
        simp only [h45, Bool.true_and, if_true] at h
        split at h
        · injection h with h; omega
        · rename_i h48
          have h48 : sg t (· == 48) (i + 1) = false := by simpa using h48
          rw [h48, Bool.not_false, Bool.and_true]
          split at h
          · rename_i hd
            split at h
            · injection h with h; omega
            · injection h with h _
              exact ⟨_, by rw [if_pos hd, ← h]⟩
          · injection h with h; omega
      · have h45 : sg t (· == 45) i = false := by simpa using h45
        simp only [h45, Bool.false_and, if_false, Bool.false_eq_true] at h
        split at h
        · rename_i h48
          have en : numAt t i = .inr (.num 0, i + 1) := by unfold numAt; rw [if_pos h48]
          split at h
          · injection h with h; omega
          · injection h with h _
            exact ⟨_, by rw [en, ← h]⟩
        · rename_i h48
          have en : numAt t i = if sg t isDig i then .inr (.num (digitsVal (sl t i (endOf t isDig 30 i)) : Int), endOf t isDig 30 i) else .inl i := by
            unfold numAt; rw [if_neg h48, h45, if_neg (by simp)]
          rw [en]
          split at h
          · rename_i hd
            split at h
            · injection h with h; omega
            · injection h with h _
              exact ⟨_, by rw [if_pos hd, ← h]⟩
          · injection h with h; omega
theorem spell_text : ∀ f : Fm, isTextF f = (spell f == textS)
  | .num z => by
    show false = (numS z == textS)
    refine (beq_eq_false_iff_ne.mpr fun e => ?_).symm
    have dg : ∀ n, numL n ≠ textS := fun n e => by
      have := numL_digits n 116 (by rw [e]; decide)
      omega
    rcases Int.natAbs_eq z with y | y
    · rw [y, numS_nat] at e; exact dg _ e
    · rcases Nat.eq_zero_or_pos z.natAbs with w | w
      · rw [show z = ((0 : Nat) : Int) by omega, numS_nat] at e; exact dg _ e
      · rw [y, numS_neg w] at e; cases e
  | .name s => rfl
  | .txt s => rfl
  | .tup l => rfl
theorem atom_text {t : Cs} {i e : Nat} {f : Fm} (h : atom t i = .inr (f, e)) : isTextF f = (sl t i e == textS) := by
  have h1 := (atom_spell h).1
  have h2 := atom_good h
  rw [take_sl (Nat.le_of_lt h2.1)] at h1
  have h1 := List.append_cancel_left h1
  rw [spell_text, h1]
theorem goOn_step {t : Cs} {k : Stk → Nat → R} {s : Stk} {i : Nat} (h : sg t (· == 40) i = false) : step t k s i = goOn t k s (atom t i) := by
  unfold step goOn
  rw [h, if_neg (by simp)]
  all_goals (cases atom t i <;> rfl)
theorem atom_not {t : Cs} {i : Nat} (h : sg t isAt i = false) : atom t i = .inl i := by
  have sub : ∀ p : Nat → Bool, (∀ c, p c = true → isAt c = true) → sg t p i = false := fun p hp => by
    cases e : sg t p i with
    | false => rfl
    | true =>
      obtain ⟨c, ec, hc⟩ := sg_get e
      rw [sg_of ec, hp c hc] at h; cases h
  have h1 := sub isLow fun c hc => by unfold isAt isNm; rw [hc]; rfl
  have h2 := sub (· == 34) fun c hc => by unfold isAt; rw [hc]; simp
  have h3 := sub (· == 48) fun c hc => by rw [eq_of_beq hc]; rfl
  have h4 := sub (· == 45) fun c hc => by unfold isAt; rw [hc]; simp
  have h5 := sub isDig fun c hc => by unfold isAt isNm; rw [hc]; simp
  rw [atom_at h1 h2]
  unfold numAt
  rw [h3, h4, h5]; rfl
def atS : Str := "abcdefghijklmnopqrstuvwxyz0123456789-\""
theorem at_l : atS.cps.toList = nameS.cps.toList ++ [45, 34] := by decide +kernel
theorem in_at (c : Nat) : decide (c ∈ atS.cps.toList) = isAt c := by
  unfold isAt
  rw [← in_name, at_l, Bool.eq_iff_iff, decide_eq_true_eq, List.mem_append, Bool.or_eq_true, Bool.or_eq_true, decide_eq_true_eq, beq_iff_eq, beq_iff_eq]
  simp [or_assoc]
/-! ### place_of -/
def cnt (s : Stk) : List PyData := (s.map fun l => PyData.int (l.length : Int)).reverse
theorem cnt_cons (l : List Fm) (s : Stk) : cnt (l :: s) = cnt s ++ [.int (l.length : Int)] := by
  unfold cnt; rw [List.map_cons, List.reverse_cons]
theorem cnt_len (s : Stk) : (cnt s).length = s.length := by unfold cnt; simp
theorem cnt_emp (s : Stk) : (cnt s).isEmpty = s.isEmpty := by
  cases s with
  | nil => rfl
  | cons l r => rw [cnt_cons]; simp
def plD : R → Int
  | .inl p => (p : Int)
  | .inr _ => -1
def fPO : List PyData → PyData
  | [.str x] => .int (plD (Run x.cps.toList [] 0))
  | _ => .none
section
variable {K : PySem.W.Frag} {as : List Sv} {M : Mm} {te : TE} {s1 s2 : TS} {A : AE} {p : Addr} {fl : Bool} {xs : List PyData}
theorem ws_seqK (N : List Sv → Mm → Prop) (key : ∀ as' M', N as' M' → WS K s2 as' M' A) (h : WS K s1 as M { A with nx := N }) : WS K (tSeq s1 s2) as M A := fun S H0 σ H D k r n rt b c =>
  h S H0 σ H { D with nx := s2 D } k r (fun σ' H' as' M' k' r' e' q => key as' M' q S H0 σ' H' D k' r' (fun σ'' H'' as'' M'' k'' r'' e'' => n σ'' H'' as'' M'' k'' r'' (e'.trans e'')) rt
    (fun σ'' H'' as'' M'' k'' r'' e'' => b σ'' H'' as'' M'' k'' r'' (e'.trans e'')) (fun σ'' H'' as'' M'' k'' r'' e'' => c σ'' H'' as'' M'' k'' r'' (e'.trans e''))) rt b c
/-- own.pop() -/
theorem ws_popD {i : Nat} (hi : as[i]? = some (.own p)) (hm : (p, fl, xs) ∈ M) (hl : xs ≠ []) (h : A.nx as (mset M p xs.dropLast)) : WS K (tDrop (tBM0 K "list" rPop (tVar i))) as M A := fun S H0 σ H D k r n _ _ _ => by
  obtain ⟨o, e1, e2⟩ := r.at_ i _ hi
  cases (show o = some (L2.V.ref p) from e2)
  obtain ⟨us, hp, hu⟩ := k.mem _ hm
  have hn : xs.length ≠ 0 := fun z => hl (List.length_eq_zero_iff.mp z)
  have hlt : xs.length - 1 < xs.length := by omega
  obtain ⟨v, hv, _⟩ := dps_at hu (List.getElem?_eq_getElem hlt)
  have ge : Gh S (mset M p xs.dropLast) (upd H p (.lst us.dropLast)) = Gh S M H := gh_write hm
  have k2 := ok_write (ws := us.dropLast) (ys := xs.dropLast) k hm (dps_dropLast hu)
  exact ⟨.ref p, e1, tyl k hm, p, us, v, rfl, rfl, hp, by rw [dps_len hu]; exact hv, n _ _ as _ k2 (by rw [ge]; exact r) (by rw [ge]; exact Same.refl _) h⟩
/-- own[-1] = e -/
theorem ws_setlast {i : Nat} (hi : as[i]? = some (.own p)) (h : W K te as M fun d M' => ∃ fl ys z, (p, fl, ys ++ [z]) ∈ M' ∧ A.nx as (mset M' p (ys ++ [d]))) : WS K (tAsg te (gSub (tVar i) (tUn (rU fun i => .int (-i)) (tC (.int 1))) rSetL)) as M A := fun S H0 σ H D ok r n _ _ _ =>
  h S H0 σ H ok r _ fun v H1 d M1 k1 e1 b1 ⟨fl, ys, z, hm, p1⟩ => by
    obtain ⟨o, e3, e2⟩ := r.at_ i _ hi
    cases (show o = some (L2.V.ref p) from e2)
    obtain ⟨us, hp, hu⟩ := k1.mem _ hm
    have ln := dps_len hu
    rw [List.length_append, List.length_singleton] at ln
    refine ⟨.ref p, e3, 1, rfl, p, us, -1, ys.length, rfl, rfl, hp, ?_, ?_⟩
    · unfold ixN
      rw [if_neg (by decide), if_pos (by rw [ln]; omega)]
      congr 1
      rw [ln]; omega
    · have hset : DpAll K (Gh S M1 H1) (us.set ys.length v) (ys ++ [d]) := by
        have h1 := dps_take ys.length hu
        rw [List.take_left] at h1
        rw [List.set_eq_take_append_cons_drop, if_pos (by omega), List.drop_eq_nil_of_le (by omega)]
        exact dps_app h1 (.cons b1 .nil)
      have ge : Gh S (mset M1 p (ys ++ [d])) (upd H1 p (.lst (us.set ys.length v))) = Gh S M1 H1 := gh_write hm
      exact n σ _ as _ (ok_write k1 hm hset) (by rw [ge]; exact r.mono e1) (by rw [ge]; exact e1) p1
end
section
variable {P : Program} {w : World} {K : PySem.W.Frag} {mg : Str → Option Value} {base : Heap} (T : Txt K mg)
include T in
theorem ok_law_place_of (F : Dfn K mg "_law_place_of" s_law_place_of ["_law_text"]) (c_law_atom_end : Cal P w K mg base 1 "_law_atom_end" ["_law_text", "_law_at"] (spW preAE fAE K)) : Cal P w K mg base 2 "_law_place_of" ["_law_text"] (spW preRF fPO K) := by
  have hn : ∀ ds, preRF ds → ds.length = 1 := by rintro ds ⟨x, rfl, _⟩; rfl
  refine F.ok sc_law_place_of (fun vs H Q E h => spP_len hn h) (fun f cdv A outer s H vs Q E hr h => ⟨_, (pss_cons (ps_set (i := 1) sc_law_place_of.nd rfl (by first | exact .inl rfl | exact .inr rfl) (pe_lst pa_nil))
      (pss_cons (ps_set (i := 2) sc_law_place_of.nd rfl (by first | exact .inl rfl | exact .inr rfl) pe_int)
      (pss_cons (ps_for PassesOwn.never rfl (pi_range1 (by rfl) T.n_range (pa_cons (pe_op (k_plus (K := K) rfl) (pe_callB (k_len (K := K) rfl) (by rfl) T.n_len (by decide +kernel) (pa_cons (pv 0) pa_nil)) pe_int) pa_nil)) (pg_name (i := 3) sc_law_place_of.nd rfl (by first | exact .inl rfl | exact .inr rfl)) (pss_cons (ps_if (pt_cmpR op_geI (pv 2) (pe_callB (k_len (K := K) rfl) (by rfl) T.n_len (by decide +kernel) (pa_cons (pv 0) pa_nil)) (nomark _)) (pss_one (ps_ret (pe_callB (k_len (K := K) rfl) (by rfl) T.n_len (by decide +kernel) (pa_cons (pv 0) pa_nil)))) pss_nil)
      (pss_cons (ps_if (pt_cmpR (k_eqW (K := K) rfl hr) (pe_ix (k_ix (K := K) rfl) (pv 0) (pv 2) (fun _ _ => rfl)) pe_str (nomark _)) (pss_cons (ps_if (pt_cmpR (k_eqW (K := K) rfl hr) (pe_callB (k_len (K := K) rfl) (by rfl) T.n_len (by decide +kernel) (pa_cons (pv 1) pa_nil)) pe_int (nomark _)) (pss_one (ps_ret (pv 2))) pss_nil)
      (pss_cons (ps_expr (pe_bm PySem.F.plainAttrs_list PySem.F.slot_list_append PySem.F.type_list_append mt_append (pv 1) (pa_cons pe_int pa_nil)))
      (pss_cons (ps_set (i := 2) sc_law_place_of.nd rfl (by first | exact .inl rfl | exact .inr rfl) (pe_op (k_plus (K := K) rfl) (pv 2) pe_int))
      (pss_cons (ps_if (PW.pt (pw_or (pt_cmpR op_geI (pv 2) (pe_callB (k_len (K := K) rfl) (by rfl) T.n_len (by decide +kernel) (pa_cons (pv 0) pa_nil)) (nomark _)) (pw_or1 (pt_cmpR (k_neW (K := K) rfl hr) (pe_ix (k_ix (K := K) rfl) (pv 0) (pv 2) (fun _ _ => rfl)) pe_str (nomark _))))) (pss_one ps_continue) pss_nil)
      (pss_cons (ps_expr (pe_bm0 PySem.F.plainAttrs_list PySem.F.slot_list_pop PySem.F.type_list_pop mt_pop (pv 1)))
      (pss_one (ps_set (i := 2) sc_law_place_of.nd rfl (by first | exact .inl rfl | exact .inr rfl) (pe_op (k_plus (K := K) rfl) (pv 2) pe_int)))))))) (pss_one (ps_if (pt_cmpR op_inSg (pe_ix (k_ix (K := K) rfl) (pv 0) (pv 2) (fun _ _ => rfl)) pe_str (by rfl)) (pss_cons (ps_asg (pe_cal c_law_atom_end hr (pa_cons (pv 0) (pa_cons (pv 2) pa_nil))) (k_tup (K := K) (n := 2) rfl rfl (pgs_cons (pg_name (i := 4) sc_law_place_of.nd rfl (by first | exact .inl rfl | exact .inr rfl)) (pgs_cons (pg_name (i := 5) sc_law_place_of.nd rfl (by first | exact .inl rfl | exact .inr rfl)) pgs_nil))))
      (pss_cons (ps_if (pt_cmpR (k_eqW (K := K) rfl hr) (pv 4) pe_int (nomark _)) (pss_one (ps_ret (pv 5))) pss_nil)
      (pss_cons (ps_if (PW.pt (pw_and (pt_cmpR (k_eqW (K := K) rfl hr) (pe_slice (k_sl (K := K) rfl) (pv 0) (po_some (pv 2)) (po_some (pv 4))) pe_str (nomark _)) (pw_and (k_tru (K := K) rfl (pv 1)) (pw_and1 (pt_cmpR (k_eqW (K := K) rfl hr) (pe_ix (k_ix (K := K) rfl) (pv 1) (pe_un un_neg pe_int) (fun _ _ => rfl)) pe_int (nomark _)))))) (pss_one (ps_ret (pv 4))) pss_nil)
      (pss_one (ps_set (i := 2) sc_law_place_of.nd rfl (by first | exact .inl rfl | exact .inr rfl) (pv 4)))))) (pss_one (ps_ret (pv 2))))))
      (pss_cons (ps_for PassesOwn.never rfl (pi_range1 (by rfl) T.n_range (pa_cons (pe_op (k_plus (K := K) rfl) (pe_callB (k_len (K := K) rfl) (by rfl) T.n_len (by decide +kernel) (pa_cons (pv 1) pa_nil)) pe_int) pa_nil)) (pg_name (i := 6) sc_law_place_of.nd rfl (by first | exact .inl rfl | exact .inr rfl)) (pss_cons (ps_if (k_tru (K := K) rfl (pv 1)) (pss_one (ps_asg (pe_op (k_plus (K := K) rfl) (pe_ix (k_ix (K := K) rfl) (pv 1) (pe_un un_neg pe_int) (fun _ _ => rfl)) pe_int) (pg_sub (pv 1) (pe_un un_neg pe_int) set_list))) pss_nil)
      (pss_cons (ps_if (PW.pt (pw_or (pt_not (k_tru (K := K) rfl (pv 1))) (pw_or (pt_cmpR op_geI (pv 2) (pe_callB (k_len (K := K) rfl) (by rfl) T.n_len (by decide +kernel) (pa_cons (pv 0) pa_nil)) (nomark _)) (pw_or1 (pt_cmpR (k_neW (K := K) rfl hr) (pe_ix (k_ix (K := K) rfl) (pv 0) (pv 2) (fun _ _ => rfl)) pe_str (nomark _)))))) (pss_one ps_break) pss_nil)
      (pss_cons (ps_expr (pe_bm0 PySem.F.plainAttrs_list PySem.F.slot_list_pop PySem.F.type_list_pop mt_pop (pv 1)))
      (pss_one (ps_set (i := 2) sc_law_place_of.nd rfl (by first | exact .inl rfl | exact .inr rfl) (pe_op (k_plus (K := K) rfl) (pv 2) pe_int)))))))
      (pss_cons (ps_if (pt_not (k_tru (K := K) rfl (pv 1))) (pss_one (ps_ret (pe_ifExp (pt_cmpR op_less (pv 2) (pe_callB (k_len (K := K) rfl) (by rfl) T.n_len (by decide +kernel) (pa_cons (pv 0) pa_nil)) (nomark _)) (pv 2) (pe_un un_neg pe_int)))) pss_nil)
      (pss_cons (ps_if (PW.pt (pw_or (pt_cmpR op_geI (pv 2) (pe_callB (k_len (K := K) rfl) (by rfl) T.n_len (by decide +kernel) (pa_cons (pv 0) pa_nil)) (nomark _)) (pw_or1 (pt_cmpR (k_neW (K := K) rfl hr) (pe_ix (k_ix (K := K) rfl) (pv 0) (pv 2) (fun _ _ => rfl)) pe_str (nomark _))))) (pss_one (ps_ret (pv 2))) pss_nil)
      (pss_one (ps_set (i := 2) sc_law_place_of.nd rfl (by first | exact .inl rfl | exact .inr rfl) (pe_op (k_plus (K := K) rfl) (pv 2) pe_int)))))))))
      (pss_one (ps_ret (pe_callB (k_len (K := K) rfl) (by rfl) T.n_len (by decide +kernel) (pa_cons (pv 0) pa_nil))))))), to_spP hn (fun ds hp => ?_) h⟩)
  obtain ⟨x, rfl, ha⟩ := hp
  have eF : fPO [.str x] = .int (plD (Run x.cps.toList [] 0)) := rfl
  rw [eF]
  have eA : ∀ i : Nat, fAE [.str x, .int (i : Int)] = pairE (lawE x.cps.toList i) := fun _ => rfl
  generalize ht : x.cps.toList = t at eA ⊢
  have h128 : ∀ c ∈ t, c < 128 := by rw [← ht]; exact ha.2
  have hl2 : t.length ≤ 20000 := by rw [← ht]; exact ha.1
  have getx : ∀ {k c : Nat}, t[k]? = some c → x.cps.toList[k]? = some c := fun e => by rw [ht]; exact e
  have lenx : ∀ {as : List Sv} {M : Mm} {R : PyData → Mm → Prop}, as[0]? = some (.dat (.str x)) → R (.int (t.length : Int)) M → W K (tCB (rLenA K) (tCons (tVar 0) tNil)) as M R := fun {as M R} h1 h2 => w_cb ac_len (wa_cons (w_var h1 (wa_nil (m1 (flens ha.l (by rw [ht]; exact h2))))))
  generalize hRt : Run t [] 0 = Rt
  change WS K _ [.dat (.str x), .no, .no, .no, .no, .no, .no] [] _
  refine ws_seq (ws_new (wa_nil (m0 ⟨by simp, fun p _ => ?_⟩)))
  refine ws_seq (ws_set (w_int ?_))
  change WS K _ [.dat (.str x), .own p, .dat (.int ((0 : Nat) : Int)), .no, .no, .no, .no] [(p, true, [])] _
  have mem : ∀ X : List PyData, (p, true, X) ∈ [(p, true, X)] := fun X => List.mem_cons_self
  have ms1 : ∀ X Y : List PyData, mset [(p, true, X)] p Y = [(p, true, Y)] := fun X Y => by simp [mset]
  refine ws_seq (ws_for ga_name (wi_rng (wa_cons (w_op ao_plus (lenx rfl (w_int (fpi (wa_nil ⟨_, rfl, by omega, by omega, fun n as' M' => ∃ (i : Nat) (s : Stk) (u3 u4 u5 u6 : Sv), as' = [.dat (.str x), .own p, .dat (.int (i : Int)), u3, u4, u5, u6] ∧ M' = [(p, true, cnt s)] ∧ i ≤ t.length ∧ n ≤ i ∧ Run t s i = Rt ∧ s.length ≤ 40, ⟨0, [], .no, .no, .no, .no, rfl, rfl, Nat.zero_le _, Nat.le_refl _, hRt, by simp⟩, ?_, ?_⟩)))))))) 
  · rintro n y as' M' hy ⟨i, s, u3, u4, u5, u6, rfl, rfl, hi, hni, hR, hs40⟩
    have hlt := (List.getElem?_eq_some_iff.mp hy).1
    rw [List.length_map, List.length_range] at hlt
    rw [List.getElem?_map, List.getElem?_range hlt] at hy
    cases hy
    rw [Run_eq hi] at hR
    change WS K _ [.dat (.str x), .own p, .dat (.int (i : Int)), .dat (.int (n : Int)), u4, u5, u6] _ _
    refine ws_seq (ws_if (wt_test (w_op ao_ge (w_var rfl (lenx rfl (fii trivial (exb ?_)))))))
    refine iteB (fun hend => ?_) (fun hend => ?_)
    · have hend := of_decide_eq_true hend
      refine ws_ret (lenx rfl ?_)
      have e : i = t.length := by omega
      subst e
      have ge : ∀ q, sg t q t.length = false := fun q => sg_end (Nat.le_refl _)
      rw [goOn_step (ge _), atom_not (ge _)] at hR
      rw [← hR]; rfl
    have hend := of_decide_eq_false hend
    have hil : i < t.length := by omega
    obtain ⟨c, ec⟩ : ∃ c, t[i]? = some c := ⟨_, List.getElem?_eq_getElem hil⟩
    have hc := h128 c (List.mem_of_getElem? ec)
    refine ws_next ?_
    refine ws_seqK (fun as' M' => ∃ (j : Nat) (s : Stk) (f : Fm) (u3 u4 u5 u6 : Sv), as' = [.dat (.str x), .own p, .dat (.int (j : Int)), u3, u4, u5, u6] ∧ M' = [(p, true, cnt s)] ∧ i < j ∧ j ≤ t.length ∧ item t (Run t) s f j = Rt ∧ s.length ≤ 40) ?_ ?_
    · rintro as' M' ⟨j, s, f, u3, u4, u5, u6, rfl, rfl, hij, hj, hR, hs40⟩
      refine ws_seqK (fun as' M' => ∃ (j : Nat) (s : Stk) (u3 u4 u5 u6 : Sv), as' = [.dat (.str x), .own p, .dat (.int (j : Int)), u3, u4, u5, u6] ∧ M' = [(p, true, cnt s)] ∧ i < j ∧ j ≤ t.length ∧ s.length ≤ 40 ∧ (s = [] → ∃ f, whole t f j = Rt) ∧ (s ≠ [] → (if sg t (· == 32) j then Run t s (j + 1) else .inl j) = Rt)) ?_ ?_
      · rintro as' M' ⟨j, s, u3, u4, u5, u6, rfl, rfl, hij, hj, hs40, h0, h1⟩
        refine ws_seq (ws_if (wt_not (wt_own rfl (mem _) ?_)))
        rw [cnt_emp]
        cases s with
        | nil =>
          obtain ⟨f, hw⟩ := h0 rfl
          unfold whole at hw
          refine iteK rfl (ws_ret (w_ite (wt_test (w_op ao_less (w_var rfl (lenx rfl (flti (exb ?_))))))))
          refine iteB (fun q => ?_) (fun q => ?_)
          · have q := of_decide_eq_true q
            rw [if_pos (by omega)] at hw
            refine w_var rfl ?_
            rw [← hw]; rfl
          · have q := of_decide_eq_false q
            rw [if_neg (by omega)] at hw
            refine w_neg (w_int (exi ?_))
            rw [← hw]; rfl
        | cons l r =>
          have h1 := h1 (by simp)
          refine iteN rfl (ws_next (ws_seq (ws_if (wt_or (wt_test (w_op ao_ge (w_var rfl (lenx rfl (fii trivial (exb ?_))))))))))
          have ret : sg t (· == 32) j = false → ∀ {B : AE}, (∀ d, d = .int (plD Rt) → B.rt d [(p, true, cnt (l :: r))]) → WS K (tRet (tVar 2)) [.dat (.str x), .own p, .dat (.int (j : Int)), u3, u4, u5, u6] [(p, true, cnt (l :: r))] B := fun q B hB => by
            rw [q, if_neg (by simp)] at h1
            refine ws_ret (w_var rfl (hB _ ?_))
            rw [← h1]; rfl
          refine iteB (fun q => ?_) (fun q => ?_)
          · have q := of_decide_eq_true q
            exact iteK rfl (ret (sg_end (by omega)) fun d e => e)
          · have q := of_decide_eq_false q
            obtain ⟨cj, ecj⟩ : ∃ c, t[j]? = some c := ⟨_, List.getElem?_eq_getElem (show j < t.length by omega)⟩
            refine wt_test (w_op ao_neW (w_op ao_ix (w_var rfl (w_var rfl (fixs ha.l (getx ecj) (w_str (fnel q32 (h128 cj (List.mem_of_getElem? ecj)) (by decide) (exb ?_))))))))
            refine iteB (fun q2 => ?_) (fun q2 => ?_)
            · exact ret (by rw [sg_of ecj]; simpa using q2) fun d e => e
            · have q2 : sg t (· == 32) j = true := by rw [sg_of ecj]; simpa using q2
              rw [if_pos q2] at h1
              exact ws_next (ws_set (w_op ao_plus (w_var rfl (w_int (fpi ⟨j + 1, l :: r, _, _, _, _, rfl, rfl, sg_lt q2, by omega, h1, hs40⟩)))))
      · refine ws_for ga_name (wi_rng (wa_cons (w_op ao_plus (w_lenown rfl (mem _) (w_int (fpi (wa_nil ⟨_, rfl, by rw [cnt_len]; omega, by omega, fun lv as' M' => ∃ (j : Nat) (s' : Stk) (f : Fm) (u3 u4 u5 u6 : Sv), as' = [.dat (.str x), .own p, .dat (.int (j : Int)), u3, u4, u5, u6] ∧ M' = [(p, true, cnt s')] ∧ i < j ∧ j ≤ t.length ∧ item t (Run t) s' f j = Rt ∧ s'.length + lv = s.length, ⟨j, s, f, u3, u4, u5, u6, rfl, rfl, hij, hj, hR, by omega⟩, ?_, ?_⟩)))))))
        · rintro lv y as' M' hy ⟨j, s', f, u3, u4, u5, u6, rfl, rfl, hij, hj, hR, hlv⟩
          have hlt := (List.getElem?_eq_some_iff.mp hy).1
          rw [List.length_map, List.length_range] at hlt
          rw [List.getElem?_map, List.getElem?_range hlt] at hy
          cases hy
          change WS K _ [.dat (.str x), .own p, .dat (.int (j : Int)), u3, u4, u5, .dat (.int (lv : Int))] _ _
          refine ws_seq (ws_if (wt_own rfl (mem _) ?_))
          rw [cnt_emp]
          cases s' with
          | nil =>
            refine iteN rfl (ws_next (ws_seq (ws_if (wt_or (wt_not (wt_own rfl (mem _) ?_))))))
            rw [cnt_emp]
            exact iteK rfl (iteK rfl (ws_break ⟨j, [], _, _, _, _, rfl, rfl, hij, hj, by simp, fun _ => ⟨f, hR⟩, fun z => absurd rfl z⟩))
          | cons l r =>
            have hlr : (l :: r).length = r.length + 1 := rfl
            refine iteK rfl (ws_setlast rfl (w_op ao_plus (w_ixown rfl (w_neg (w_int (exi ⟨true, cnt r ++ [.int (l.length : Int)], by rw [cnt_cons]; exact mem _, fixl (Ab.atI_last _ _) (w_int (fpi ⟨true, cnt r, .int (l.length : Int), by rw [cnt_cons]; exact mem _, ?_⟩))⟩))))))
            rw [ms1, show cnt r ++ [PyData.int ((l.length : Int) + 1)] = cnt ((l ++ [f]) :: r) by rw [cnt_cons]; simp]
            have hR : (if sg t (· == 41) j then item t (Run t) r (.tup (l ++ [f])) (j + 1) else if sg t (· == 32) j then Run t ((l ++ [f]) :: r) (j + 1) else .inl j) = Rt := hR
            refine ws_seq (ws_if (wt_or (wt_not (wt_own rfl (mem _) ?_))))
            rw [cnt_emp]
            have brk2 : sg t (· == 41) j = false → (if sg t (· == 32) j then Run t ((l ++ [f]) :: r) (j + 1) else .inl j) = Rt := fun q => by
              rw [q, if_neg (by simp)] at hR
              exact hR
            refine iteN rfl (wt_or (wt_test (w_op ao_ge (w_var rfl (lenx rfl (fii trivial (exb ?_)))))))
            refine iteB (fun q => ?_) (fun q => ?_)
            · have q := of_decide_eq_true q
              exact iteK rfl (ws_break ⟨j, (l ++ [f]) :: r, _, _, _, _, rfl, rfl, hij, hj, by simp; omega, fun z => (by cases z), fun _ => brk2 (sg_end (by omega))⟩)
            · have q := of_decide_eq_false q
              obtain ⟨cj, ecj⟩ : ∃ c, t[j]? = some c := ⟨_, List.getElem?_eq_getElem (show j < t.length by omega)⟩
              refine wt_test (w_op ao_neW (w_op ao_ix (w_var rfl (w_var rfl (fixs ha.l (getx ecj) (w_str (fnel q41 (h128 cj (List.mem_of_getElem? ecj)) (by decide) (exb ?_))))))))
              refine iteB (fun q2 => ?_) (fun q2 => ?_)
              · exact ws_break ⟨j, (l ++ [f]) :: r, _, _, _, _, rfl, rfl, hij, hj, by simp; omega, fun z => (by cases z), fun _ => brk2 (by rw [sg_of ecj]; simpa using q2)⟩
              · have q2 : sg t (· == 41) j = true := by rw [sg_of ecj]; simpa using q2
                rw [if_pos q2] at hR
                refine ws_next (ws_seq (ws_popD rfl (mem _) (by rw [cnt_cons]; simp) ?_))
                rw [ms1, show (cnt ((l ++ [f]) :: r)).dropLast = cnt r by rw [cnt_cons]; simp]
                exact ws_set (w_op ao_plus (w_var rfl (w_int (fpi ⟨j + 1, r, .tup (l ++ [f]), _, _, _, _, rfl, rfl, by omega, sg_lt q2, hR, by omega⟩))))
        · rintro as' M' ⟨j, s', f, u3, u4, u5, u6, rfl, rfl, hij, hj, hR, hlv⟩
          rw [List.length_map, List.length_range, cnt_len] at hlv
          exfalso
          omega
    refine ws_if (wt_test (w_op ao_eqW (w_op ao_ix (w_var rfl (w_var rfl (fixs ha.l (getx ec) (w_str (feql q40 hc (by decide) (exb ?_)))))))))
    refine iteB (fun h40 => ?_) (fun h40 => ?_)
    · -- a bracket
      have s40 : sg t (· == 40) i = true := by rw [sg_of ec]; exact h40
      unfold step at hR
      rw [if_pos s40] at hR
      refine ws_seq (ws_if (wt_test (w_op ao_eqW (w_lenown rfl (mem _) (w_int (feqi (exb ?_)))))))
      refine iteB (fun q => ?_) (fun q => ?_)
      · have q := of_decide_eq_true q
        rw [cnt_len] at q
        rw [if_pos (by omega)] at hR
        refine ws_ret (w_var rfl ?_)
        rw [← hR]; rfl
      have q := of_decide_eq_false q
      rw [cnt_len] at q
      rw [if_neg (by omega)] at hR
      refine ws_next (ws_seq (ws_app (p := p) rfl (mem _) (w_int ⟨true, cnt s, mem _, by rw [cnt_len]; omega, ?_⟩)))
      rw [ms1, show cnt s ++ [PyData.int 0] = cnt ([] :: s) by rw [cnt_cons]; rfl]
      refine ws_seq (ws_set (w_op ao_plus (w_var rfl (w_int (fpi ?_)))))
      change WS K _ [.dat (.str x), .own p, .dat (.int ((i + 1 : Nat) : Int)), .dat (.int (n : Int)), u4, u5, u6] _ _
      have cont : sg t (· == 41) (i + 1) = false → Run t ([] :: s) (i + 1) = Rt := fun z => by
        rw [z, if_neg (by simp)] at hR; exact hR
      refine ws_seq (ws_if (wt_or (wt_test (w_op ao_ge (w_var rfl (lenx rfl (fii trivial (exb ?_))))))))
      refine iteB (fun q1 => ?_) (fun q1 => ?_)
      · have q1 := of_decide_eq_true q1
        exact iteK rfl (ws_cont ⟨i + 1, [] :: s, _, _, _, _, rfl, rfl, hil, by omega, cont (sg_end (by omega)), by simp; omega⟩)
      have q1 := of_decide_eq_false q1
      obtain ⟨c2, ec2⟩ : ∃ c, t[i + 1]? = some c := ⟨_, List.getElem?_eq_getElem (show i + 1 < t.length by omega)⟩
      refine wt_test (w_op ao_neW (w_op ao_ix (w_var rfl (w_var rfl (fixs ha.l (getx ec2) (w_str (fnel q41 (h128 c2 (List.mem_of_getElem? ec2)) (by decide) (exb ?_))))))))
      refine iteB (fun q2 => ?_) (fun q2 => ?_)
      · exact ws_cont ⟨i + 1, [] :: s, _, _, _, _, rfl, rfl, hil, by omega, cont (by rw [sg_of ec2]; simpa using q2), by simp; omega⟩
      · have q2 : sg t (· == 41) (i + 1) = true := by rw [sg_of ec2]; simpa using q2
        rw [if_pos q2] at hR
        refine ws_next (ws_seq (ws_popD rfl (mem _) (by rw [cnt_cons]; simp) ?_))
        rw [ms1, show (cnt ([] :: s)).dropLast = cnt s by rw [cnt_cons]; simp]
        refine ws_set (w_op ao_plus (w_var rfl (w_int (fpi ⟨i + 2, s, .tup [], .dat (.int (n : Int)), u4, u5, u6, ?_, rfl, by omega, sg_lt q2, hR, hs40⟩))))
        rw [show ((i + 2 : Nat) : Int) = ((i + 1 : Nat) : Int) + 1 by omega]; rfl
    · have s40 : sg t (· == 40) i = false := by rw [sg_of ec]; exact h40
      rw [goOn_step s40] at hR
      refine ws_if (wt_test (w_op ao_inSg (w_op ao_ix (w_var rfl (w_var rfl (fixs ha.l (getx ec) (w_str (finsg (exb ?_)))))))))
      rw [show decide (c ∈ ("abcdefghijklmnopqrstuvwxyz0123456789-\"" : Str).cps.toList) = isAt c from in_at c]
      refine iteB (fun hat => ?_) (fun hat => ?_)
      · refine ws_seq (ws_asg ga_pair (w_callW (wa_cons (w_var rfl (wa_cons (w_var rfl (wa_nil (m2 ⟨⟨x, i, rfl, ha, by rw [ht]; exact hil⟩, ?_⟩))))))))
        rw [eA]
        cases hL : lawE t i with
        | mk e b =>
          refine ⟨.int (e : Int), .int b, .inl rfl, ?_⟩
          change WS K _ [.dat (.str x), .own p, .dat (.int (i : Int)), .dat (.int (n : Int)), .dat (.int (e : Int)), .dat (.int b), u6] _ _
          refine ws_seq (ws_if (wt_test (w_op ao_eqW (w_var rfl (w_int (feqi (exb ?_)))))))
          refine iteB (fun q => ?_) (fun q => ?_)
          · have q := of_decide_eq_true q
            have e0 : e = 0 := by omega
            subst e0
            obtain ⟨pp, rfl, hgo⟩ := lawE_bad hL
            rw [hgo] at hR
            refine ws_ret (w_var rfl ?_)
            rw [← hR]; rfl
          · have q := of_decide_eq_false q
            obtain ⟨f, hf⟩ := lawE_good hL (by omega)
            have hg := atom_good hf
            have htx := atom_text hf
            rw [hf] at hR
            have hR : (if (isTextF f && lead s) = true then .inl e else item t (Run t) s f e) = Rt := hR
            rw [htx] at hR
            have go : (sl t i e == textS && lead s) = false → item t (Run t) s f e = Rt := fun z => by
              rw [z, if_neg (by simp)] at hR; exact hR
            have fin : (sl t i e == textS && lead s) = false → ∃ (j : Nat) (s' : Stk) (f : Fm) (u3 u4 u5 u6' : Sv), [Sv.dat (.str x), .own p, .dat (.int (e : Int)), .dat (.int (n : Int)), .dat (.int (e : Int)), .dat (.int b), u6] = [.dat (.str x), .own p, .dat (.int (j : Int)), u3, u4, u5, u6'] ∧ [(p, true, cnt s)] = [(p, true, cnt s')] ∧ i < j ∧ j ≤ t.length ∧ item t (Run t) s' f j = Rt ∧ s'.length ≤ 40 := fun z => ⟨e, s, f, _, _, _, _, rfl, rfl, hg.1, hg.2, go z, hs40⟩
            refine ws_next (ws_seq (ws_if (wt_and (wt_test (w_op ao_eqW (w_sl (w_var rfl (wo_some (w_var rfl (exi (wo_some (w_var rfl (exi (fslb ha.l (by rw [ht]; omega) (by rw [ht]; exact hg.2) (w_str ?_)))))))))))))))
            rw [ht]
            refine feqW (ok_str (by rw [strT_l]; exact sl_lt h128)) (ok_str text_ok) (by simp [PyData.depth]) (exb ?_)
            have ee : PyData.eqv (.str (strT (sl t i e))) (.str "text") = (sl t i e == textS) := by
              rw [str_eqv, Bool.eq_iff_iff, decide_eq_true_eq, beq_iff_eq, ← textP_l]
              constructor
              · intro h; rw [← strT_l (sl t i e), h]; rfl
              · intro h; rw [h]; exact strT_self _
            rw [ee]
            refine iteB (fun q1 => ?_) (fun q1 => ?_)
            · refine wt_and (wt_own rfl (mem _) ?_)
              rw [cnt_emp]
              cases s with
              | nil => exact iteN rfl (iteN rfl (ws_next (ws_set (w_var rfl (fin (by simp [lead]))))))
              | cons l r =>
                refine iteK rfl (wt_test (w_op ao_eqW (w_ixown rfl (w_neg (w_int (exi ⟨true, cnt r ++ [.int (l.length : Int)], by rw [cnt_cons]; exact mem _, fixl (Ab.atI_last _ _) (w_int (eq0 (exb ?_)))⟩))))))
                cases l with
                | nil =>
                  refine iteK rfl (ws_ret (w_var rfl ?_))
                  rw [q1, show lead ([] :: r) = true from rfl, Bool.and_self, if_pos rfl] at hR
                  rw [← hR]; rfl
                | cons a l => exact iteN (by simp) (ws_next (ws_set (w_var rfl (fin (by simp [lead])))))
            · exact iteN rfl (ws_next (ws_set (w_var rfl (fin (by rw [q1]; rfl)))))
      · rw [atom_not (by rw [sg_of ec]; exact hat)] at hR
        refine ws_ret (w_var rfl ?_)
        rw [← hR]; rfl
  · rintro as' M' ⟨i, s, u3, u4, u5, u6, rfl, rfl, hi, hni, _⟩
    rw [List.length_map, List.length_range] at hni
    exfalso
    omega
end
end K6

set_option Elab.async false
set_option linter.all false
set_option maxRecDepth 100000
set_option maxHeartbeats 4000000
namespace K6
open PySem PySem.Spec PyProof.Rows L2 Ab TL NumText
/-- one step of the reading -/
local macro_rules | `(tactic| walk_at "w") => `(tactic| first
  | (with_reducible refine ws_seq ?_) | (with_reducible refine ws_next ?_) | (with_reducible refine ws_set ?_) | (with_reducible refine ws_par ?_) | (with_reducible refine ws_ret ?_) | (with_reducible refine ws_if ?_) | (with_reducible refine ws_drop ?_)
  | (refine w_var rfl ?_) | (with_reducible refine w_int ?_) | (with_reducible refine w_str ?_) | (with_reducible refine w_bl ?_) | (with_reducible refine w_non ?_)
  | (with_reducible refine wa_nil ?_) | (with_reducible refine wa_cons ?_) | (with_reducible refine w_tup ?_) | (with_reducible refine w_lst ?_)
  | (with_reducible refine wt_test ?_) | (with_reducible refine wt_B ?_) | (with_reducible refine wt_not ?_) | (with_reducible refine wt_and ?_) | (with_reducible refine wt_or ?_)
  | (with_reducible refine w_andV ?_) | (with_reducible refine w_orV ?_) | (with_reducible refine w_notV ?_) | (with_reducible refine w_ite ?_)
  | (with_reducible refine w_op ao_eqW ?_) | (with_reducible refine w_op ao_neW ?_) | (with_reducible refine w_op ao_eq ?_) | (with_reducible refine w_op ao_ne ?_) | (with_reducible refine w_op ao_isB ?_) | (with_reducible refine w_op ao_notB ?_) | (with_reducible refine w_op ao_ix ?_) | (with_reducible refine w_op ao_plus ?_) | (with_reducible refine w_op ao_less ?_) | (with_reducible refine w_op ao_le ?_) | (with_reducible refine w_op ao_gt ?_) | (with_reducible refine w_op ao_ge ?_)
  | (with_reducible refine w_op ao_sub ?_) | (with_reducible refine w_op ao_mul ?_) | (with_reducible refine w_op ao_mod ?_) | (with_reducible refine w_op ao_div ?_) | (with_reducible refine w_op ao_pow ?_) | (with_reducible refine w_op ao_isNo ?_) | (with_reducible refine w_op ao_inSg ?_) | (with_reducible refine w_op ao_inW ?_) | (with_reducible refine w_op ao_ninW ?_) | (with_reducible refine w_op ao_inSeq ?_) | (with_reducible refine w_op ao_ninSeq ?_)
  | (with_reducible refine w_cb ac_len ?_) | (with_reducible refine w_cb ac_tupleOf ?_) | (with_reducible refine w_cb ac_intOf ?_) | (with_reducible refine w_cb ac_abs ?_) | (with_reducible refine w_cb ac_ord ?_) | (with_reducible refine w_cb ac_all ?_) | (with_reducible refine w_cb ac_any ?_)
  | (with_reducible refine w_isi (by decide) ?_) | (with_reducible refine w_isi2 (by decide) (by decide) ?_) | (with_reducible refine w_sl ?_) | (with_reducible refine wo_none ?_) | (with_reducible refine wo_some ?_)
  | (with_reducible refine w_chain ao_le ao_le ?_) | (with_reducible refine w_chain ao_leS ao_leS ?_) | (with_reducible refine w_call ?_))
local macro_rules | `(tactic| walk_at "v") => `(tactic| first
  | (with_reducible refine m0 ?_) | (with_reducible refine m1 ?_) | (with_reducible refine m2 ?_) | (with_reducible refine m3 ?_) | (with_reducible refine m5 ?_)
  | (with_reducible refine exb ?_) | (with_reducible refine exi ?_) | (with_reducible refine exl ?_) | (with_reducible refine exql ?_) | (with_reducible refine exqt ?_)
  | (refine fixt rfl ?_) | (refine fixl rfl ?_) | (refine fslt rfl ?_) | (refine fsll rfl ?_)
  | (with_reducible refine flent ?_; dsimp only [List.length_cons, List.length_nil]) | (with_reducible refine flenl ?_; dsimp only [List.length_cons, List.length_nil])
  | (with_reducible refine fii (by first | trivial | decide) ?_) | (with_reducible refine fpi ?_) | (with_reducible refine flti ?_) | (with_reducible refine fint ?_) | (with_reducible refine ftupl ?_) | (with_reducible refine ftupt ?_)
  | (with_reducible refine feqW (by decide +kernel) (by decide +kernel) (by decide +kernel) ?_) | (with_reducible refine fneW (by decide +kernel) (by decide +kernel) (by decide +kernel) ?_)
  | (with_reducible refine feq (by decide +kernel) (by decide +kernel) ?_) | (with_reducible refine fne (by decide +kernel) (by decide +kernel) ?_)
  | (with_reducible refine iteK rfl ?_) | (with_reducible refine iteN rfl ?_) | (with_reducible refine iteK (by decide +kernel) ?_) | (with_reducible refine iteN (by decide +kernel) ?_))
local macro_rules | `(tactic| walk_at "x") => `(tactic| first | (with_reducible refine wx_seq ?_) | (with_reducible refine wx_if ?_) | (with_reducible refine wx_next ?_) | (with_reducible refine wx_ret ?_) | (with_reducible refine wr_tup ?_) | (with_reducible refine war_cons ?_) | (with_reducible refine war_nil ?_))
local macro_rules | `(tactic| walk_at "ww") => `(tactic| repeat (first | walk_at "w" | walk_at "v" | walk_at "x"))

/-! ### agrees, law -/
mutual
theorem spell_lt : ∀ f, A8 f → ∀ c ∈ spell f, c < 128
  | .num z, _, c, hc => by
    have hc : c ∈ numS z := hc
    have dg : ∀ n, c ∈ numL n → c < 128 := fun n h => by have := numL_digits n c h; omega
    rcases Int.natAbs_eq z with y | y
    · rw [y, numS_nat] at hc; exact dg _ hc
    · rcases Nat.eq_zero_or_pos z.natAbs with w | w
      · rw [show z = ((0 : Nat) : Int) by omega, numS_nat] at hc; exact dg _ hc
      · rw [y, numS_neg w] at hc
        rcases List.mem_cons.mp hc with rfl | hc
        · decide
        · exact dg _ hc
  | .name s, h, c, hc => h c hc
  | .txt s, h, c, hc => by
    have hc : c ∈ 34 :: (s ++ [34]) := hc
    simp at hc
    rcases hc with rfl | hc | rfl
    · decide
    · exact h c hc
    · decide
  | .tup l, h, c, hc => by
    have hc : c ∈ 40 :: (spellL l ++ [41]) := hc
    simp at hc
    rcases hc with rfl | hc | rfl
    · decide
    · exact spellL_lt l h c hc
    · decide
theorem spellL_lt : ∀ l, A8s l → ∀ c ∈ spellL l, c < 128
  | [], _, c, hc => by cases hc
  | [f], h, c, hc => spell_lt f h.1 c hc
  | f :: g :: r, h, c, hc => by
    have hc : c ∈ spell f ++ 32 :: spellL (g :: r) := hc
    rcases List.mem_append.mp hc with hc | hc
    · exact spell_lt f h.1 c hc
    · rcases List.mem_cons.mp hc with rfl | hc
      · decide
      · exact spellL_lt (g :: r) h.2 c hc
end
mutual
theorem ex_fD : ∀ f n, V f → A8 f → dep f ≤ n → (spell f).length ≤ 10000 → EX (n + 1) (fD f)
  | .num _, _, _, _, _, _ => .int
  | .name s, _, _, h, _, _ => .str (fD_ok (.name s) h)
  | .txt s, n, hv, h, _, _ => by
    refine .tup (by simp) fun x hx => ?_
    simp only [List.mem_cons, List.mem_nil_iff, or_false] at hx
    rcases hx with rfl | rfl
    · exact .str (ok_str text_ok)
    · exact .str (ok_str (by rw [strT_l]; exact h))
  | .tup l, n, hv, h, hd, hl => by
    have hd : depL l + 1 ≤ n := hd
    obtain ⟨m, rfl⟩ : ∃ m, n = m + 1 := ⟨n - 1, by omega⟩
    have hl : (40 :: (spellL l ++ [41])).length ≤ 10000 := hl
    have hl : (spellL l).length + 2 ≤ 10000 := by simp at hl; omega
    refine .tup ?_ (ex_fDs l m hv.2 h (by omega) (by omega))
    rw [fDs_map, List.length_map]
    have := cnt_spell l hv.2
    omega
theorem ex_fDs : ∀ l n, VL l → A8s l → depL l ≤ n → (spellL l).length ≤ 10000 → ∀ x ∈ fDs l, EX (n + 1) x
  | [], _, _, _, _, _, x, hx => by cases hx
  | f :: r, n, hv, h, hd, hl, x, hx => by
    have hd : max (dep f) (depL r) ≤ n := hd
    rcases List.mem_cons.mp hx with rfl | hx
    · exact ex_fD f n hv.1 h.1 (by omega) (Nat.le_trans (spellL_len (f :: r) f List.mem_cons_self) hl)
    · refine ex_fDs r n hv.2 h.2 (by omega) ?_ x hx
      cases r with
      | nil => simp [spellL]
      | cons g r =>
        have : (spellL (f :: g :: r)).length = (spell f).length + ((spellL (g :: r)).length + 1) := by
          show (spell f ++ 32 :: spellL (g :: r)).length = _
          simp
        omega
end
/-! texts of plain signs -/
def SX (n : Nat) (y : Str) : Prop := y.cps.toList.length ≤ n ∧ ∀ c ∈ y.cps.toList, c < 128
theorem SX.ax {n : Nat} {y : Str} (h : SX n y) (hn : n ≤ 20000) : AX y := ⟨Nat.le_trans h.1 hn, h.2⟩
theorem SX.app {n m : Nat} {a b : Str} (h : SX n a) (k : SX m b) : SX (n + m) (a ++ b) := by
  have e : (a ++ b).cps.toList = a.cps.toList ++ b.cps.toList := TL.tl_append a b
  refine ⟨by rw [e, List.length_append]; have := h.1; have := k.1; omega, fun c hc => ?_⟩
  rw [e] at hc
  rcases List.mem_append.mp hc with hc | hc
  · exact h.2 c hc
  · exact k.2 c hc
theorem SX.T {n : Nat} {cs : Cs} (hl : cs.length ≤ n) (h : ∀ c ∈ cs, c < 128) : SX n (strT cs) := ⟨by rw [strT_l]; exact hl, by rw [strT_l]; exact h⟩
def sxB (n : Nat) (y : Str) : Bool := decide (y.cps.toList.length ≤ n) && y.cps.toList.all fun c => decide (c < 128)
theorem SX.of {n : Nat} {y : Str} (h : sxB n y = true) : SX n y := by
  unfold sxB at h
  rw [Bool.and_eq_true] at h
  exact ⟨of_decide_eq_true h.1, fun c hc => of_decide_eq_true (List.all_eq_true.mp h.2 c hc)⟩
theorem fpx {n m : Nat} {a b : Str} {P : PyData → Prop} (h : SX n a) (k : SX m b) (hn : n + m ≤ 20000) (q : ∀ y, SX (n + m) y → P (.str y)) : fPlus (.str a) (.str b) P :=
  fps (by rw [len_l, len_l]; have := h.1; have := k.1; omega) (q _ (h.app k))
theorem fslx0 {n i : Nat} {z : Str} {P : PyData → Prop} (h : SX n z) (hn : n ≤ 20000) (q : ∀ y, SX n y → P (.str y)) : fSl (.str z) (some (i : Int)) none P :=
  fsl0 (h.ax hn).l (q _ (SX.T (by have := h.1; rw [List.length_drop]; omega) fun c hc => h.2 c (List.mem_of_mem_drop hc)))
theorem fslxt {n i : Nat} {z : Str} {P : PyData → Prop} (h : SX n z) (hn : n ≤ 20000) (q : ∀ y, SX n y → P (.str y)) : fSl (.str z) none (some (i : Int)) P :=
  fslt0 (h.ax hn).l (q _ (SX.T (by have := h.1; rw [List.length_take]; omega) fun c hc => h.2 c (List.mem_of_mem_take hc)))
abbrev spAg (K : PySem.W.Frag) : Sp := spW preRF (fun _ => .bool true) K
abbrev spLaw (K : PySem.W.Frag) : Sp := spP (fun ds => ∃ ns : List Int, ds = [intL ns] ∧ ns.length ≤ 63) (fun _ x => x = .bool true) K
def signsL : Str := "()a0-\" text_9Z\\~"
section
variable {P : Program} {w : World} {K : PySem.W.Frag} {mg : Str → Option Value} {base : Heap} (T : Txt K mg)
include T in
theorem ok_law_agrees (F : Dfn K mg "_law_agrees" s_law_agrees ["_law_text"]) (q_law_place_of : Cal P w K mg base 2 "_law_place_of" ["_law_text"] (spW preRF fPO K)) (q_law_try_form : Cal P w K mg base 6 "_law_try_form" ["_law_text"] (spW preRF fTry K))
    (q_law_exact : Cal P w K mg base 7 "_law_exact" ["_law_told", "_law_due"] (spEx 6 K)) (q_law_spelt : Cal P w K mg base 41 "_law_spelt" ["_law_form_here"] (spSpelt 40 K)) (q_print_form : Cal P w K mg base 4 "print_form" ["form"] (spP prePF postPF K)) : Cal P w K mg base 42 "_law_agrees" ["_law_text"] (spAg K) := by
  have c_law_place_of := q_law_place_of.mono (show 2 ≤ 41 by decide)
  have c_law_try_form := q_law_try_form.mono (show 6 ≤ 41 by decide)
  have c_law_exact := q_law_exact.mono (show 7 ≤ 41 by decide)
  have c_law_spelt := q_law_spelt
  have c_print_form := q_print_form.mono (show 4 ≤ 41 by decide)
  have hn : ∀ ds, preRF ds → ds.length = 1 := by rintro ds ⟨x, rfl, _⟩; rfl
  refine F.ok sc_law_agrees (fun vs H Q E h => spP_len hn h) (fun f cdv A outer s H vs Q E hr h => ⟨_, (pss_cons (ps_set (i := 1) sc_law_agrees.nd rfl (by first | exact .inl rfl | exact .inr rfl) (pe_cal c_law_place_of hr (pa_cons (pv 0) pa_nil)))
      (pss_cons (ps_set (i := 2) sc_law_agrees.nd rfl (by first | exact .inl rfl | exact .inr rfl) (pe_cal c_law_try_form hr (pa_cons (pv 0) pa_nil)))
      (pss_cons (ps_if (pt_cmpR op_geI (pv 1) pe_int (nomark _)) (pss_one (ps_ret (pe_cal c_law_exact hr (pa_cons (pv 2) (pa_cons (pv 1) pa_nil))))) pss_nil)
      (pss_one (ps_ret (pe_and (pe_callB (k_isi (K := K) rfl) (by rfl) T.n_isinstance (by decide +kernel) (pa_cons (pv 2) (pa_cons (pe_bltn (v := .ty "tuple") (u := .type "tuple") (by rfl) T.n_tuple (by decide +kernel) rfl) pa_nil))) (pe_and (pe_cmpR (k_eqW (K := K) rfl hr) (pe_cal c_law_spelt hr (pa_cons (pe_ix (k_ix (K := K) rfl) (pv 2) pe_int (fun _ _ => rfl)) pa_nil)) (pv 0) (nomark _)) (pe_one (pe_cmpR (k_eqW (K := K) rfl hr) (pe_cal c_print_form hr (pa_cons (pe_ix (k_ix (K := K) rfl) (pv 2) pe_int (fun _ _ => rfl)) pa_nil)) (pv 0) (nomark _)))))))))), to_spP hn (fun ds hp => ?_) h⟩)
  obtain ⟨x, rfl, ha⟩ := hp
  change WS K _ [.dat (.str x), .no, .no] [] _
  refine ws_seq (ws_set (w_callW (wa_cons (w_var rfl (wa_nil (m1 ⟨⟨x, rfl, ha⟩, ?_⟩))))))
  refine ws_seq (ws_set (w_callW (wa_cons (w_var rfl (wa_nil (m1 ⟨⟨x, rfl, ha⟩, ?_⟩))))))
  change WS K _ [.dat (.str x), .dat (.int (plD (Run x.cps.toList [] 0))), .dat (tryD x)] [] _
  have et : tryD x = match Run x.cps.toList [] 0 with
    | .inl p => .int (p : Int)
    | .inr f => .tuple [.str "good", fD f] := rfl
  rw [et]
  cases e : Run x.cps.toList [] 0 with
  | inl p =>
    change WS K _ [.dat (.str x), .dat (.int (p : Int)), .dat (.int (p : Int))] [] _
    refine ws_seq (ws_if (wt_test (w_op ao_ge (w_var rfl (w_int (fii trivial (exb (iteK (decide_eq_true (by omega)) ?_))))))))
    exact ws_ret (w_call (wa_cons (w_var rfl (wa_cons (w_var rfl (wa_nil (m2 ⟨⟨_, rfl, .int⟩, fun d hd => hd⟩)))))))
  | inr f =>
    obtain ⟨hs, hv, hd⟩ := read_spell e
    have ha8 : A8 f := a8_of f (by rw [hs]; exact ha.2)
    have hl : (spell f).length ≤ 20000 := by rw [hs]; exact ha.1
    change WS K _ [.dat (.str x), .dat (.int (-1)), .dat (.tuple [.str "good", fD f])] [] _
    have same : ∀ {R : PyData → Prop}, R (.bool true) → fEqW (.str (strT (spell f))) (.str x) R := fun {R} hR => by
      rw [hs, strT_self]
      refine feqW ha.ok ha.ok (by simp [PyData.depth]) ?_
      rw [str_eqv, decide_eq_true rfl]; exact hR
    refine ws_seq (ws_if (wt_test (w_op ao_ge (w_var rfl (w_int (fii trivial (exb (iteN rfl (ws_next ?_)))))))))
    refine ws_ret (w_andV (w_isi (by decide) (w_var rfl (exb (iteK rfl ?_)))))
    refine w_andV (w_op ao_eqW (w_call (wa_cons (w_op ao_ix (w_var rfl (w_int (fixt (a := fD f) rfl (wa_nil (m1 ⟨⟨f, hv, ha8, hd, hl, rfl⟩, fun d hd2 => ?_⟩)))))))))
    rw [hd2 f hv rfl]
    refine w_var rfl (same (exb (iteK rfl ?_)))
    refine w_op ao_eqW (w_call (wa_cons (w_op ao_ix (w_var rfl (w_int (fixt (a := fD f) rfl (wa_nil (m1 ⟨⟨f, ⟨hv, ha8, hd, hl⟩, rfl⟩, fun d hd2 => ?_⟩))))))))
    rw [hd2 f hv rfl]
    exact w_var rfl (same rfl)
theorem w_ag {te : TE} {as : List Sv} {M : Mm} {E : XK} {R : PyData → Mm → Prop} (h : W K te as M fun d M1 => ∃ y, d = .str y ∧ AX y ∧ R (.bool true) M1) : W K (tCall (spAg K) [] E (tCons te tNil)) as M R :=
  w_callW (wa_cons (h.imp fun d M1 ⟨y, e, hy, hr⟩ => by subst e; exact wa_nil (m1 ⟨⟨y, rfl, hy⟩, hr⟩)))
theorem w_ex {d : PyData} {ta : TA} {as : List Sv} {M : Mm} {R : PyData → Mm → Prop} {n : Nat} (he : EX n d) (h : WA K ta as M fun ss M1 => ss = [.dat d, .dat d] ∧ R (.bool true) M1) : W K (tCall (spEx n K) [] E0 ta) as M R :=
  w_call fun S H0 σ H k r Q q => h S H0 σ H k r Q fun vs H1 ss M1 k1 e1 b1 p1 => q vs H1 ss M1 k1 e1 b1 (by
    obtain ⟨es, hr⟩ := p1
    exact ⟨[d, d], es, ⟨d, rfl, he⟩, fun x hx => by rw [hx]; exact hr⟩)
/-- a text of so many equal signs -/
theorem w_rep {j : Nat} {z : Str} {c : Nat} {vs : List Nat} {ta : TA} {as : List Sv} {M : Mm} {R : PyData → Mm → Prop} (hj : j ∈ vs) (hz : z.cps.toList = [c]) (h : WA K ta as M fun ss M1 => ∃ n : Nat, ss = [.dat (.int (n : Int))] ∧ n ≤ 1000 ∧ R (.str (strT (List.replicate n c))) M1) :
    W K (tM1 (rJoin K) (tC (.str "")) (tLc (iRng1 ta) (gName j) tYes (tC (.str z)) vs)) as M R := by
  refine w_join (w_str ⟨_, rfl, ?_⟩)
  refine w_lc ga_name (by simpa using hj) (wi_rng ?_)
  intro S H0 σ H k r Q q
  refine h S H0 σ H k r Q fun vs2 H2 ss M2 k2 e2 b2 ⟨n, es, hn, fin⟩ => q vs2 H2 ss M2 k2 e2 b2 ?_
  refine ⟨(n : Int), es, by omega, by omega, fun i acc Mi => acc = ((List.replicate i c).map sgS).map .str ∧ Mi = M2 ∧ i ≤ n, ⟨rfl, rfl, Nat.zero_le _⟩, ?_, ?_⟩
  · rintro i x acc Mi hx ⟨rfl, rfl, hi⟩
    have hlt := (List.getElem?_eq_some_iff.mp hx).1
    have hlt : i < n := by simpa using hlt
    refine wt_yes (iteK rfl (w_str ⟨by simp; omega, ?_, rfl, hlt⟩))
    rw [List.replicate_succ']
    simp
    exact str1 hz
  · rintro acc M' ⟨rfl, rfl, _⟩
    rw [show (List.map (fun (i : Nat) => PyData.int (i : Int)) (List.range ((n : Int)).toNat)).length = n by simp]
    refine ⟨(List.replicate n c).map sgS, rfl, ?_, ?_⟩
    · rw [sum_sg, List.length_map, List.length_replicate]
      show n + n * 0 ≤ _
      omega
    · rw [join_sg]; exact fin
/-- a text of drawn digits -/
theorem w_digs {p : Addr} {fl : Bool} {i j : Nat} {vs : List Nat} {ta : TA} {as : List Sv} {M : Mm} {R : PyData → Mm → Prop} (hj : j ∈ vs) (hi : ∀ d, ((awipe as vs).set j (.dat d))[i]? = some (.own p))
    (h : WA K ta as M fun ss M1 => ∃ (n : Nat) (pl : List PyData), ss = [.dat (.int (n : Int))] ∧ n ≤ 1000 ∧ M1 = [(p, fl, pl)] ∧ poolD pl ∧ ∀ cs pl', cs.length = n → (∀ c ∈ cs, c < 128) → poolD pl' → R (.str (strT cs)) [(p, fl, pl')]) :
    W K (tM1 (rJoin K) (tC (.str "")) (tLc (iRng1 ta) (gName j) tYes (tCB rStrA (tCons (tOp (rPlus K) (tC (.int 1)) (tCall (spQ preDraw postDraw K) [] E0 (tCons (tVar i) (tCons (tC (.int 9)) tNil)))) tNil)) vs)) as M R := by
  refine w_join (w_str ⟨_, rfl, ?_⟩)
  refine w_lc ga_name (by simpa using hj) (wi_rng ?_)
  intro S H0 σ H k r Q q
  refine h S H0 σ H k r Q fun vs2 H2 ss M2 k2 e2 b2 ⟨n, pl, es, hn, em, hpl, fin⟩ => q vs2 H2 ss M2 k2 e2 b2 ?_
  subst em
  refine ⟨(n : Int), es, by omega, by omega, fun i acc Mi => ∃ (cs : List Nat) (pl' : List PyData), acc = (cs.map sgS).map .str ∧ Mi = [(p, fl, pl')] ∧ poolD pl' ∧ cs.length = i ∧ i ≤ n ∧ ∀ c ∈ cs, c < 128, ⟨[], pl, rfl, rfl, hpl, rfl, Nat.zero_le _, fun c h => by cases h⟩, ?_, ?_⟩
  · rintro i2 x acc Mi hx ⟨cs, pl', rfl, rfl, hpl', hl, hi2, hc⟩
    have hlt := (List.getElem?_eq_some_iff.mp hx).1
    have hlt : i2 < n := by simpa using hlt
    refine wt_yes (iteK rfl (w_cb ac_strA (wa_cons (w_op ao_plus (w_int (w_draw (hi _) hpl' (by decide) (by decide) fun u pl2 hu hpl2 => fpi (wa_nil (m1 ?_))))))))
    have eu : ((1 : Int) + (u : Int)) = ((1 + u : Nat) : Int) := by omega
    have en : (toString ((1 : Int) + (u : Int)) : Str) = sgS (48 + (1 + u)) := by
      rw [eu, str_num, numS_nat, numL_lt (by omega)]; rfl
    refine ⟨?_, ?_, cs ++ [48 + (1 + u)], pl2, ?_, rfl, hpl2, by simp [hl], by omega, fun c hcm => ?_⟩
    · rw [eu]
      exact log_num (by
        show (1 + u) < 10 ^ 30
        have : (9 : Nat) < 10 ^ 30 := by decide
        omega)
    · rw [List.length_map, List.length_map]; omega
    · rw [en]; simp
    · rcases List.mem_append.mp hcm with hcm | hcm
      · exact hc c hcm
      · rw [List.mem_singleton.mp hcm]; omega
  · rintro acc M' ⟨cs, pl', rfl, rfl, hpl', hl, _, hc⟩
    have hl : cs.length = n := by rw [hl]; simp
    refine ⟨cs.map sgS, rfl, ?_, ?_⟩
    · rw [sum_sg, List.length_map]
      show cs.length + cs.length * 0 ≤ _
      omega
    · rw [join_sg]
      exact fin cs pl' hl hc hpl'
include T in
theorem ok_law {f0 : Addr} {fd0 : FuncData} (F : Fun K "law" "law" s_law f0 fd0) (q_law_pool : Cal P w K mg base 1 "_law_pool" ["_law_script", "_law_at"] (spN prePool (fun _ pl => poolD pl) K)) (q_law_draw : Cal P w K mg base 1 "_law_draw" ["_law_pool_here", "_law_many"] (spQ preDraw postDraw K))
    (q_law_exact : Cal P w K mg base 7 "_law_exact" ["_law_told", "_law_due"] (spEx 6 K)) (q_law_form : Cal P w K mg base 6 "_law_form" ["_law_pool_here", "_law_left", "_law_leading"] (spForm 3 K)) (q_law_spelt : Cal P w K mg base 41 "_law_spelt" ["_law_form_here"] (spSpelt 40 K))
    (q_print_form : Cal P w K mg base 4 "print_form" ["form"] (spP prePF postPF K)) (q_law_try_form : Cal P w K mg base 6 "_law_try_form" ["_law_text"] (spW preRF fTry K)) (q_law_agrees : Cal P w K mg base 42 "_law_agrees" ["_law_text"] (spAg K)) : FnOk P w K mg base CX0 43 f0 fd0 ["_law_script"] (spLaw K) := by
  have hn : ∀ ds, (∃ ns : List Int, ds = [intL ns] ∧ ns.length ≤ 63) → ds.length = 1 := by rintro ds ⟨ns, rfl, _⟩; rfl
  have c_law_pool := q_law_pool.mono (show 1 ≤ 42 by decide)
  have c_law_draw := q_law_draw.mono (show 1 ≤ 42 by decide)
  have c_law_exact := q_law_exact.mono (show 7 ≤ 42 by decide)
  have c_law_form := q_law_form.mono (show 6 ≤ 42 by decide)
  have c_law_spelt := q_law_spelt.mono (show 41 ≤ 42 by decide)
  have c_print_form := q_print_form.mono (show 4 ≤ 42 by decide)
  have c_law_try_form := q_law_try_form.mono (show 6 ≤ 42 by decide)
  have c_law_agrees := q_law_agrees
  refine F.ok sc_law (fun vs H Q E h => spP_len hn h) (fun cdv A outer s H vs Q E hr h => ⟨_, (pss_cons (ps_set (i := 1) sc_law.nd rfl (by first | exact .inl rfl | exact .inr rfl) (pe_cal c_law_pool hr (pa_cons (pv 0) (pa_cons pe_int pa_nil))))
      (pss_cons (ps_set (i := 2) sc_law.nd rfl (by first | exact .inl rfl | exact .inr rfl) (pe_cal c_law_form hr (pa_cons (pv 1) (pa_cons pe_int (pa_cons pe_bl pa_nil)))))
      (pss_cons (ps_set (i := 3) sc_law.nd rfl (by first | exact .inl rfl | exact .inr rfl) (pe_cal c_law_spelt hr (pa_cons (pv 2) pa_nil)))
      (pss_cons (ps_if (PW.pt (pw_or (pt_not (pt_val (pe_cal c_law_exact hr (pa_cons (pe_cal c_print_form hr (pa_cons (pv 2) pa_nil)) (pa_cons (pv 3) pa_nil))))) (pw_or1 (pt_not (pt_val (pe_cal c_law_exact hr (pa_cons (pe_cal c_law_try_form hr (pa_cons (pv 3) pa_nil)) (pa_cons (pe_tup (pa_cons pe_str (pa_cons (pv 2) pa_nil))) pa_nil)))))))) (pss_one (ps_ret pe_bl)) pss_nil)
      (pss_cons (ps_set (i := 4) sc_law.nd rfl (by first | exact .inl rfl | exact .inr rfl) pe_str)
      (pss_cons (ps_for PassesOwn.never rfl (pi_range1 (by rfl) T.n_range (pa_cons pe_int pa_nil)) (pg_name (i := 5) sc_law.nd rfl (by first | exact .inl rfl | exact .inr rfl)) (pss_cons (ps_set (i := 6) sc_law.nd rfl (by first | exact .inl rfl | exact .inr rfl) (pe_cal c_law_draw hr (pa_cons (pv 1) (pa_cons (pe_op (k_plus (K := K) rfl) (pe_callB (k_len (K := K) rfl) (by rfl) T.n_len (by decide +kernel) (pa_cons (pv 3) pa_nil)) pe_int) pa_nil))))
      (pss_cons (ps_set (i := 7) sc_law.nd rfl (by first | exact .inl rfl | exact .inr rfl) (pe_ix (k_ix (K := K) rfl) (pv 4) (pe_cal c_law_draw hr (pa_cons (pv 1) (pa_cons (pe_callB (k_len (K := K) rfl) (by rfl) T.n_len (by decide +kernel) (pa_cons (pv 4) pa_nil)) pa_nil))) (fun _ _ => rfl)))
      (pss_cons (ps_set (i := 8) sc_law.nd rfl (by first | exact .inl rfl | exact .inr rfl) (pe_cal c_law_draw hr (pa_cons (pv 1) (pa_cons pe_int pa_nil))))
      (pss_cons (ps_set (i := 9) sc_law.nd rfl (by first | exact .inl rfl | exact .inr rfl) (pe_ifExp (pt_cmpR (k_eqW (K := K) rfl hr) (pv 8) pe_int (nomark _)) (pe_slice (k_sl (K := K) rfl) (pv 3) (po_some (pv 6)) po_none) (pe_slice (k_sl (K := K) rfl) (pv 3) (po_some (pe_op (k_plus (K := K) rfl) (pv 6) pe_int)) po_none)))
      (pss_cons (ps_set (i := 10) sc_law.nd rfl (by first | exact .inl rfl | exact .inr rfl) (pe_ifExp (pt_cmpR op_less (pv 8) pe_int (nomark _)) (pv 7) (pe_ix (k_ix (K := K) rfl) (pe_lst (pa_cons pe_str (pa_cons pe_str pa_nil))) (pe_op op_subI (pv 8) pe_int) (fun _ _ => rfl))))
      (pss_one (ps_if (PW.pt (pw_or (pt_not (pt_val (pe_cal c_law_agrees hr (pa_cons (pe_op (k_plus (K := K) rfl) (pe_op (k_plus (K := K) rfl) (pe_slice (k_sl (K := K) rfl) (pv 3) po_none (po_some (pv 6))) (pv 10)) (pv 9)) pa_nil)))) (pw_or1 (pt_not (pt_val (pe_cal c_law_agrees hr (pa_cons (pe_slice (k_sl (K := K) rfl) (pv 3) po_none (po_some (pv 6))) pa_nil))))))) (pss_one (ps_ret pe_bl)) pss_nil))))))))
      (pss_cons (ps_set (i := 11) sc_law.nd rfl (by first | exact .inl rfl | exact .inr rfl) (k_join (K := K) rfl pe_str (pe_lc (own := [("_law_k", 5)]) (by rfl) sc_law.nd (pi_range1 (by rfl) T.n_range (pa_cons (pe_cal c_law_draw hr (pa_cons (pv 1) (pa_cons pe_int pa_nil))) pa_nil)) (blkOk_by (N := ["_law_script", "_law_pool_here", "_law_form_here", "_law_text", "_law_signs", "_law_k", "_law_at", "_law_sign", "_law_way", "_law_tail", "_law_middle", "_law_short", "_law_turns", "_law_deep", "_law_shut", "_law_digits"]) (sc := defScope s_law) (by decide +kernel)) (fun _ _ _ _ _ => (pg_name (i := 5) sc_law.nd rfl (by first | exact .inl rfl | exact .inr rfl))) (fun _ _ _ _ _ => pts_nil) (fun _ _ _ _ _ => (pe_ix (k_ix (K := K) rfl) (pv 4) (pe_cal c_law_draw hr (pa_cons (pv 1) (pa_cons pe_int pa_nil))) (fun _ _ => rfl))))))
      (pss_cons (ps_if (PW.pt (pw_or (pt_not (pt_val (pe_cal c_law_agrees hr (pa_cons (pv 11) pa_nil)))) (pw_or (pt_not (pt_val (pe_cal c_law_agrees hr (pa_cons (pe_op (k_plus (K := K) rfl) pe_str (pv 11)) pa_nil)))) (pw_or1 (pt_not (pt_val (pe_cal c_law_agrees hr (pa_cons (pe_op (k_plus (K := K) rfl) (pe_op (k_plus (K := K) rfl) pe_str (pv 11)) pe_str) pa_nil)))))))) (pss_one (ps_ret pe_bl)) pss_nil)
      (pss_cons (ps_set (i := 12) sc_law.nd rfl (by first | exact .inl rfl | exact .inr rfl) (pe_op (k_plus (K := K) rfl) pe_int (pe_cal c_law_draw hr (pa_cons (pv 1) (pa_cons pe_int pa_nil)))))
      (pss_cons (ps_set (i := 13) sc_law.nd rfl (by first | exact .inl rfl | exact .inr rfl) (k_join (K := K) rfl pe_str (pe_lc (own := [("_law_k", 5)]) (by rfl) sc_law.nd (pi_range1 (by rfl) T.n_range (pa_cons (pv 12) pa_nil)) (blkOk_by (N := ["_law_script", "_law_pool_here", "_law_form_here", "_law_text", "_law_signs", "_law_k", "_law_at", "_law_sign", "_law_way", "_law_tail", "_law_middle", "_law_short", "_law_turns", "_law_deep", "_law_shut", "_law_digits"]) (sc := defScope s_law) (by decide +kernel)) (fun _ _ _ _ _ => (pg_name (i := 5) sc_law.nd rfl (by first | exact .inl rfl | exact .inr rfl))) (fun _ _ _ _ _ => pts_nil) (fun _ _ _ _ _ => pe_str))))
      (pss_cons (ps_set (i := 14) sc_law.nd rfl (by first | exact .inl rfl | exact .inr rfl) (k_join (K := K) rfl pe_str (pe_lc (own := [("_law_k", 5)]) (by rfl) sc_law.nd (pi_range1 (by rfl) T.n_range (pa_cons (pv 12) pa_nil)) (blkOk_by (N := ["_law_script", "_law_pool_here", "_law_form_here", "_law_text", "_law_signs", "_law_k", "_law_at", "_law_sign", "_law_way", "_law_tail", "_law_middle", "_law_short", "_law_turns", "_law_deep", "_law_shut", "_law_digits"]) (sc := defScope s_law) (by decide +kernel)) (fun _ _ _ _ _ => (pg_name (i := 5) sc_law.nd rfl (by first | exact .inl rfl | exact .inr rfl))) (fun _ _ _ _ _ => pts_nil) (fun _ _ _ _ _ => pe_str))))
      (pss_cons (ps_if (PW.pt (pw_or (pt_not (pt_val (pe_cal c_law_agrees hr (pa_cons (pe_op (k_plus (K := K) rfl) (pv 13) (pv 14)) pa_nil)))) (pw_or (pt_not (pt_val (pe_cal c_law_agrees hr (pa_cons (pe_op (k_plus (K := K) rfl) (pe_op (k_plus (K := K) rfl) (pv 13) pe_str) (pv 14)) pa_nil)))) (pw_or1 (pt_not (pt_val (pe_cal c_law_agrees hr (pa_cons (pe_op (k_plus (K := K) rfl) pe_str (pv 11)) pa_nil)))))))) (pss_one (ps_ret pe_bl)) pss_nil)
      (pss_cons (ps_set (i := 15) sc_law.nd rfl (by first | exact .inl rfl | exact .inr rfl) (k_join (K := K) rfl pe_str (pe_lc (own := [("_law_k", 5)]) (by rfl) sc_law.nd (pi_range1 (by rfl) T.n_range (pa_cons (pe_op (k_plus (K := K) rfl) pe_int (pe_cal c_law_draw hr (pa_cons (pv 1) (pa_cons pe_int pa_nil)))) pa_nil)) (blkOk_by (N := ["_law_script", "_law_pool_here", "_law_form_here", "_law_text", "_law_signs", "_law_k", "_law_at", "_law_sign", "_law_way", "_law_tail", "_law_middle", "_law_short", "_law_turns", "_law_deep", "_law_shut", "_law_digits"]) (sc := defScope s_law) (by decide +kernel)) (fun _ _ _ _ _ => (pg_name (i := 5) sc_law.nd rfl (by first | exact .inl rfl | exact .inr rfl))) (fun _ _ _ _ _ => pts_nil) (fun _ _ _ _ _ => (pe_callTy call_strA (by rfl) T.n_str (by decide +kernel) (pa_cons (pe_op (k_plus (K := K) rfl) pe_int (pe_cal c_law_draw hr (pa_cons (pv 1) (pa_cons pe_int pa_nil)))) pa_nil))))))
      (pss_one (ps_ret (pe_and (pe_cal c_law_agrees hr (pa_cons (pv 15) pa_nil)) (pe_and (pe_cal c_law_agrees hr (pa_cons (pe_op (k_plus (K := K) rfl) pe_str (pv 15)) pa_nil)) (pe_one (pe_cal c_law_agrees hr (pa_cons (pe_op (k_plus (K := K) rfl) (pe_op (k_plus (K := K) rfl) (pe_op (k_plus (K := K) rfl) pe_str (pv 15)) pe_str) (pv 15)) pa_nil)))))))))))))))))))), to_spP hn (fun ds hp => ?_) h⟩)
  obtain ⟨ns, rfl, hns⟩ := hp
  change WS K _ [.dat (intL ns), .no, .no, .no, .no, .no, .no, .no, .no, .no, .no, .no, .no, .no, .no, .no] [] _
  refine ws_seq (ws_setN (wa_cons (w_var rfl (wa_cons (w_int (wa_nil (m2 ⟨⟨ns, 0, rfl, hns⟩, fun c pl _ hpl => ?_⟩)))))))
  change WS K _ [.dat (intL ns), .own c, .no, .no, .no, .no, .no, .no, .no, .no, .no, .no, .no, .no, .no, .no] [(c, true, pl)] _
  -- a form and its spelling
  refine ws_seq (ws_set (w_callQ (wa_mut rfl (wa_cons (w_int (wa_cons (w_bl (wa_nil ⟨c, true, pl, [.int 3, .bool false], rfl, rfl, hpl, ⟨false, rfl⟩, fun d pl1 hpl1 hd => ?_⟩))))))))
  obtain ⟨f, rfl, hg, ha8, hdp, hln, _⟩ := hd false rfl
  have hv := G_V f hg
  have hln : (spell f).length ≤ 1210 := hln
  refine ws_seq (ws_set (w_call (wa_cons (w_var rfl (wa_nil (m1 ⟨⟨f, hv, ha8, by omega, by omega, rfl⟩, fun d hd => ?_⟩))))))
  rw [hd f hv rfl]
  have hX : SX 1210 (strT (spell f)) := SX.T hln (spell_lt f ha8)
  have hrb : tryD (strT (spell f)) = .tuple [.str "good", fD f] := by
    unfold tryD
    rw [strT_l, read_back hg (by omega)]
  generalize hx : strT (spell f) = X at hX hrb
  have hAX := hX.ax (by omega)
  change WS K _ [.dat (intL ns), .own c, .dat (fD f), .dat (.str X), .no, .no, .no, .no, .no, .no, .no, .no, .no, .no, .no, .no] [(c, true, pl1)] _
  refine ws_seq (ws_if (wt_or (wt_not (wt_B (w_ex (d := .str X) (.str hAX.ok) (wa_cons (w_call (wa_cons (w_var rfl (wa_nil (m1 ⟨⟨f, ⟨hv, ha8, by omega, by omega⟩, rfl⟩, fun d hd => ?_⟩)))))))))))
  rw [hd f hv rfl, hx]
  refine wa_cons (w_var rfl (wa_nil ⟨rfl, exb (iteN rfl ?_)⟩))
  have hex : EX 6 (.tuple [.str "good", fD f]) := .tup (by simp) fun x hx => by
    simp only [List.mem_cons, List.mem_nil_iff, or_false] at hx
    rcases hx with rfl | rfl
    · exact .str (by decide +kernel)
    · exact (ex_fD f 3 hv ha8 hdp (by omega)).mono (by omega)
  refine wt_not (wt_B (w_ex hex (wa_cons (w_callW (wa_cons (w_var rfl (wa_nil (m1 ⟨⟨X, rfl, hAX⟩, ?_⟩))))))))
  rw [show fTry [PyData.str X] = tryD X from rfl, hrb]
  refine wa_cons (w_tup (wa_cons (w_str (wa_cons (w_var rfl (wa_nil (m2 ⟨by simp, wa_nil ⟨rfl, exb (iteN rfl (ws_next ?_))⟩⟩)))))))
  refine ws_seq (ws_set (w_str ?_))
  have hsg : SX 17 signsL := SX.of (by decide +kernel)
  have hsl : signsL.cps.toList.length = 16 := by decide +kernel
  have sgn : ∀ {n : Nat} {R : PyData → Prop}, n < 16 → (∀ y, SX 1 y → R (.str y)) → fIx (.str signsL) (.int (n : Int)) R := fun {n R} hn hR => by
    have hn2 : n < signsL.cps.toList.length := by omega
    refine fixs (hsg.ax (by decide)).l (List.getElem?_eq_getElem hn2) (hR _ ?_)
    have h1 := hsg.2 _ (List.getElem_mem hn2)
    exact SX.T (cs := [signsL.cps.toList[n]]) (by simp) fun c hc => by rw [List.mem_singleton.mp hc]; exact h1
  change WS K _ [.dat (intL ns), .own c, .dat (fD f), .dat (.str X), .dat (.str signsL), .no, .no, .no, .no, .no, .no, .no, .no, .no, .no, .no] [(c, true, pl1)] _
  refine ws_seq (ws_for ga_name (wi_rng (wa_cons (w_int (wa_nil ⟨4, rfl, by decide, by decide, fun _ as' M' => ∃ (u5 u6 u7 u8 u9 u10 : Sv) (pl : List PyData), as' = [.dat (intL ns), .own c, .dat (fD f), .dat (.str X), .dat (.str signsL), u5, u6, u7, u8, u9, u10, .no, .no, .no, .no, .no] ∧ M' = [(c, true, pl)] ∧ poolD pl, ⟨_, _, _, _, _, _, pl1, rfl, rfl, hpl1⟩, ?_, ?_⟩)))))
  · rintro i y as' M' hy ⟨u5, u6, u7, u8, u9, u10, pl2, rfl, rfl, hpl2⟩
    change WS K _ [.dat (intL ns), .own c, .dat (fD f), .dat (.str X), .dat (.str signsL), .dat y, u6, u7, u8, u9, u10, .no, .no, .no, .no, .no] _ _
    refine ws_seq (ws_set (w_drawG (p := c) (fl := true) rfl (w_op ao_plus (w_cb ac_len (wa_cons (w_var rfl (wa_nil (m1 (flens hAX.l (w_int (fpi ?_)))))))))))
    have hXl := hX.1
    refine ⟨_, pl2, rfl, rfl, hpl2, by omega, by omega, fun at1 pl3 hat hpl3 => ?_⟩
    refine ws_seq (ws_set (w_op ao_ix (w_var rfl (w_drawG (p := c) (fl := true) rfl (w_cb ac_len (wa_cons (w_var rfl (wa_nil (m1 (flens (hsg.ax (by decide)).l ⟨_, pl3, rfl, rfl, hpl3, by omega, by omega, fun sn pl4 hsn hpl4 => ?_⟩))))))))))
    refine sgn (by omega) fun sig hsig => ?_
    refine ws_seq (ws_set (w_draw rfl hpl4 (by decide) (by decide) fun way pl5 hway hpl5 => ?_))
    change WS K _ [.dat (intL ns), .own c, .dat (fD f), .dat (.str X), .dat (.str signsL), .dat y, .dat (.int (at1 : Int)), .dat (.str sig), .dat (.int (way : Int)), u9, u10, .no, .no, .no, .no, .no] [(c, true, pl5)] _
    -- the tail
    refine ws_seq (ws_set (w_ite (wt_test (w_op ao_eqW (w_var rfl (w_int (eq0 (exb ?_))))))))
    refine w_two (fun v => ∃ z, v = .str z ∧ SX 1210 z) ?_ (fun _ => ?_) (fun _ => ?_)
    · rintro v ⟨tail, rfl, htail⟩
      refine ws_seq (ws_set (w_ite (wt_test (w_op ao_less (w_var rfl (w_int (flti (exb ?_))))))))
      refine w_two (fun v => ∃ z, v = .str z ∧ SX 4 z) ?_ (fun _ => ?_) (fun hw => ?_)
      · rintro v ⟨mid, rfl, hmid⟩
        change WS K _ [.dat (intL ns), .own c, .dat (fD f), .dat (.str X), .dat (.str signsL), .dat y, .dat (.int (at1 : Int)), .dat (.str sig), .dat (.int (way : Int)), .dat (.str tail), .dat (.str mid), .no, .no, .no, .no, .no] [(c, true, pl5)] _
        refine ws_if (wt_or (wt_not (wt_B (w_ag (w_op ao_plus (w_op ao_plus (w_sl (w_var rfl (wo_none (wo_some (w_var rfl (exi (fslxt hX (by decide) fun hd1 hhd => w_var rfl (fpx hhd hmid (by decide) fun y1 hy1 => w_var rfl (fpx hy1 htail (by decide) fun y2 hy2 => ⟨y2, rfl, hy2.ax (by decide), exb (iteN rfl ?_)⟩)))))))))))))))
        refine wt_not (wt_B (w_ag (w_sl (w_var rfl (wo_none (wo_some (w_var rfl (exi (fslxt hX (by decide) fun y3 hy3 => ⟨y3, rfl, hy3.ax (by decide), exb (iteN rfl (ws_next ?_))⟩)))))))))
        exact ⟨_, _, _, _, _, _, pl5, rfl, rfl, hpl5⟩
      · exact w_var rfl ⟨⟨sig, rfl, Nat.le_trans hsig.1 (by decide), hsig.2⟩, rfl⟩
      · have hw := of_decide_eq_false hw
        have h23 : way = 2 ∨ way = 3 := by omega
        refine w_op ao_ix (w_lst (wa_cons (w_str (wa_cons (w_str (wa_nil (m2 ⟨by simp, w_op ao_sub (w_var rfl (w_int (fii trivial ?_)))⟩)))))))
        rcases h23 with rfl | rfl
        · exact fixl (a := .str "") rfl ⟨⟨_, rfl, SX.of (by decide +kernel)⟩, rfl⟩
        · exact fixl (a := .str "text") rfl ⟨⟨_, rfl, SX.of (by decide +kernel)⟩, rfl⟩
    · exact w_sl (w_var rfl (wo_some (w_var rfl (exi (wo_none (fslx0 hX (by decide) fun z hz => ⟨⟨z, rfl, hz⟩, rfl⟩))))))
    · exact w_sl (w_var rfl (wo_some (w_op ao_plus (w_var rfl (w_int (fpi (exi (wo_none (fslx0 (i := at1 + 1) hX (by decide) fun z hz => ⟨⟨z, rfl, hz⟩, rfl⟩)))))))))
  · rintro as' M' ⟨u5, u6, u7, u8, u9, u10, pl2, rfl, rfl, hpl2⟩
    -- short texts
    refine ws_seq (ws_set (w_signs (p := c) (fl := true) (i := 1) (j := 5) (z := signsL) (m := 9) (by simp) (fun d => rfl) (by decide) (by decide +kernel) (by decide +kernel) (fun d M' => w_var rfl ⟨rfl, rfl⟩) (wa_cons ?_)))
    refine w_draw rfl hpl2 (by decide) (by decide) fun n pl3 hn8 hpl3 => wa_nil ⟨n, pl3, rfl, by omega, rfl, hpl3, fun cs pl4 hcl hcs hpl4 => ?_⟩
    have hS : SX 8 (strT cs) := SX.T (by omega) fun c hc => hsg.2 c (hcs c hc)
    generalize strT cs = sh at hS
    refine ws_seq (ws_if (wt_or (wt_not (wt_B (w_ag (w_var rfl ⟨sh, rfl, hS.ax (by decide), exb (iteN rfl ?_)⟩))))))
    have h40 : SX 1 ("(" : Str) := SX.of (by decide +kernel)
    refine wt_or (wt_not (wt_B (w_ag (w_op ao_plus (w_str (w_var rfl (fpx h40 hS (by decide) fun y hy => ⟨y, rfl, hy.ax (by decide), exb (iteN rfl ?_)⟩)))))))
    refine wt_not (wt_B (w_ag (w_op ao_plus (w_op ao_plus (w_str (w_var rfl (fpx (n := 3) (SX.of (by decide +kernel)) hS (by decide) fun y hy => w_str (fpx (m := 1) hy (SX.of (by decide +kernel)) (by decide) fun y2 hy2 => ⟨y2, rfl, hy2.ax (by decide), exb (iteN rfl (ws_next ?_))⟩))))))))
    -- deep texts
    refine ws_seq (ws_set (w_op ao_plus (w_int (w_draw rfl hpl4 (by decide) (by decide) fun tn pl5 htn hpl5 => fpi ?_))))
    have et : ((37 : Int) + (tn : Int)) = ((37 + tn : Nat) : Int) := by omega
    rw [et]
    refine ws_seq (ws_set (w_rep (by simp) q40 (wa_cons (w_var rfl (wa_nil ⟨37 + tn, rfl, by omega, ?_⟩)))))
    refine ws_seq (ws_set (w_rep (by simp) q41 (wa_cons (w_var rfl (wa_nil ⟨37 + tn, rfl, by omega, ?_⟩)))))
    have hD : SX 50 (strT (List.replicate (37 + tn) 40)) := SX.T (by simp; omega) fun c hc => by rw [(List.mem_replicate.mp hc).2]; decide
    have hU : SX 50 (strT (List.replicate (37 + tn) 41)) := SX.T (by simp; omega) fun c hc => by rw [(List.mem_replicate.mp hc).2]; decide
    generalize strT (List.replicate (37 + tn) 40) = dp at hD
    generalize strT (List.replicate (37 + tn) 41) = st at hU
    refine ws_seq (ws_if (wt_or (wt_not (wt_B (w_ag (w_op ao_plus (w_var rfl (w_var rfl (fpx hD hU (by decide) fun y hy => ⟨y, rfl, hy.ax (by decide), exb (iteN rfl ?_)⟩)))))))))
    refine wt_or (wt_not (wt_B (w_ag (w_op ao_plus (w_op ao_plus (w_var rfl (w_str (fpx (m := 1) hD (SX.of (by decide +kernel)) (by decide) fun y hy => w_var rfl (fpx hy hU (by decide) fun y2 hy2 => ⟨y2, rfl, hy2.ax (by decide), exb (iteN rfl ?_)⟩)))))))))
    refine wt_not (wt_B (w_ag (w_op ao_plus (w_str (w_var rfl (fpx (n := 1) (SX.of (by decide +kernel)) hS (by decide) fun y hy => ⟨y, rfl, hy.ax (by decide), exb (iteN rfl (ws_next ?_))⟩))))))
    -- long numbers
    refine ws_seq (ws_set (w_digs (p := c) (fl := true) (i := 1) (j := 5) (by simp) (fun d => rfl) (wa_cons (w_op ao_plus (w_int (w_draw rfl hpl5 (by decide) (by decide) fun dn pl6 hdn hpl6 => fpi ?_))))))
    refine wa_nil ⟨28 + dn, pl6, ?_, by omega, rfl, hpl6, fun cs2 pl7 hcl2 hcs2 hpl7 => ?_⟩
    · rw [show ((28 : Int) + (dn : Int)) = ((28 + dn : Nat) : Int) by omega]
    have hG : SX 40 (strT cs2) := SX.T (by omega) hcs2
    generalize strT cs2 = dg at hG
    refine ws_ret (w_andV (w_ag (w_var rfl ⟨dg, rfl, hG.ax (by decide), exb (iteK rfl ?_)⟩)))
    refine w_andV (w_ag (w_op ao_plus (w_str (w_var rfl (fpx (n := 1) (SX.of (by decide +kernel)) hG (by decide) fun y hy => ⟨y, rfl, hy.ax (by decide), exb (iteK rfl ?_)⟩)))))
    exact w_ag (w_op ao_plus (w_op ao_plus (w_op ao_plus (w_str (w_var rfl (fpx (n := 4) (SX.of (by decide +kernel)) hG (by decide) fun y hy => w_str (fpx (m := 1) hy (SX.of (by decide +kernel)) (by decide) fun y2 hy2 => w_var rfl (fpx hy2 hG (by decide) fun y3 hy3 => ⟨y3, rfl, hy3.ax (by decide), rfl⟩))))))))
end
end K6

set_option Elab.async false
set_option linter.all false
set_option maxRecDepth 100000
set_option maxHeartbeats 4000000
namespace K6
open PySem PySem.Spec PyProof.Rows L2 Ab
/-! ### what the top has written -/
/-- a def's name, its object, its code -/
structure DefIn (K : PySem.W.Frag) (x : Str) (st : Stmt) (f : Addr) : Prop where
  ex : ∃ (oc kV dc pm cd ct : Value) (od an : Option Addr) (sl : Array (Option Value)), K.lookup f = some ⟨oc, od, .func (PySem.W.fnOf x x (defArgs st) (defBody st) (defScope st) .none kV dc pm an cd ct), sl⟩ ∧ PySem.W.codeIn K cd x = true
  nm : PySem.W.nsIn K mainGlobals x = some (some (.ref f))
  kp : PySem.W.keepIn K (.ref f) = true
theorem DefIn.of {K : PySem.W.Frag} {x : Str} {st : Stmt} {f : Addr} {oc kV dc pm cd ct : Value} {od an : Option Addr} {sl : Array (Option Value)} (h3 : PySem.W.nsIn K mainGlobals x = some (some (.ref f)))
    (h1 : K.lookup f = some ⟨oc, od, .func (PySem.W.fnOf x x (defArgs st) (defBody st) (defScope st) .none kV dc pm an cd ct), sl⟩) (h2 : PySem.W.codeIn K cd x = true) (h4 : PySem.W.keepIn K (.ref f) = true) : DefIn K x st f := ⟨⟨_, _, _, _, _, _, _, _, _, h1, h2⟩, h3, h4⟩
theorem gs_of {K : PySem.W.Frag} {x z : Str} {t : Nat} (h : PySem.W.nsIn K mainGlobals x = some (some (.str z t))) : ∃ t, PySem.W.nsIn K mainGlobals x = some (some (.str z t)) := ⟨t, h⟩
theorem gi_of {K : PySem.W.Frag} {x : Str} {z : Int} {t : Nat} (h : PySem.W.nsIn K mainGlobals x = some (some (.int z t))) : ∃ t, PySem.W.nsIn K mainGlobals x = some (some (.int z t)) := ⟨t, h⟩
theorem te_of {K : PySem.W.Frag} {C : Addr} (h1 : PySem.W.subIn K (.ref C) (.type "BaseException") = some true) (h2 : PySem.W.isClsIn K C = true) (h3 : PySem.W.typeIn K (.ref C) = some (.type "type")) (h4 : PySem.W.subIn K (.ref C) (.ref C) = some true) : PySem.W.exmOne K (.ref C) (.ref C) = some true := by
  have h2' : (PySem.W.clsIn K C).isSome = true := h2
  unfold PySem.W.exmOne PySem.W.kitCls
  simp [h1, h2', h3, h4]
theorem ki_of {K : PySem.W.Frag} {C : Addr} : PySem.W.kitOne K (.ref C) (.ref C) = some true := by
  unfold PySem.W.kitOne
  rw [if_pos (beq_self_eq_true _)]
theorem dp_ints {K : PySem.W.Frag} {H : Hp} {a : Addr} {ns : List Int} (h : SqL K H a (ns.map V.int)) : Dp K (Hide (fun _ => false) H) (.ref a) (intL ns) := by
  have sm : Same H (Hide (fun _ => false) H) := fun b o e => by rw [hide_f rfl]; exact e
  refine .lst (sm.seq h) ?_
  clear h
  induction ns with
  | nil => exact .nil
  | cons n ns ih => exact .cons (.int n) ih
section
variable {K : PySem.W.Frag} {h : Heap} {mg : Str → Option Value} {f : Addr} (X : K.In h) (G : h.Ns mainGlobals mg)
include X G
theorem d_fold (D : DefIn K "fold" s_fold f) : Dfn K mg "fold" s_fold ["root", "opened", "made"] := by
  obtain ⟨oc, kV, dc, pm, cd, ct, od, an, sl, l, c⟩ := D.ex
  have F := fun_mk (st := s_fold) l c D.kp
  exact ⟨f, _, F, PySem.W.mg_of X G D.nm, F.binds (ps := ["root", "opened", "made"]) fun _ _ _ _ _ _ us hl => match us, hl with | [_, _, _], _ => rfl⟩
theorem d_is_text_sign (D : DefIn K "is_text_sign" s_is_text_sign f) : Dfn K mg "is_text_sign" s_is_text_sign ["sign"] := by
  obtain ⟨oc, kV, dc, pm, cd, ct, od, an, sl, l, c⟩ := D.ex
  have F := fun_mk (st := s_is_text_sign) l c D.kp
  exact ⟨f, _, F, PySem.W.mg_of X G D.nm, F.binds (ps := ["sign"]) fun _ _ _ _ _ _ us hl => match us, hl with | [_], _ => rfl⟩
theorem d_begins_with (D : DefIn K "begins_with" s_begins_with f) : Dfn K mg "begins_with" s_begins_with ["form", "word"] := by
  obtain ⟨oc, kV, dc, pm, cd, ct, od, an, sl, l, c⟩ := D.ex
  have F := fun_mk (st := s_begins_with) l c D.kp
  exact ⟨f, _, F, PySem.W.mg_of X G D.nm, F.binds (ps := ["form", "word"]) fun _ _ _ _ _ _ us hl => match us, hl with | [_, _], _ => rfl⟩
theorem d_print_form (D : DefIn K "print_form" s_print_form f) : Dfn K mg "print_form" s_print_form ["form"] := by
  obtain ⟨oc, kV, dc, pm, cd, ct, od, an, sl, l, c⟩ := D.ex
  have F := fun_mk (st := s_print_form) l c D.kp
  exact ⟨f, _, F, PySem.W.mg_of X G D.nm, F.binds (ps := ["form"]) fun _ _ _ _ _ _ us hl => match us, hl with | [_], _ => rfl⟩
theorem d_forms_in (D : DefIn K "_forms_in" s_forms_in f) : Dfn K mg "_forms_in" s_forms_in ["form"] := by
  obtain ⟨oc, kV, dc, pm, cd, ct, od, an, sl, l, c⟩ := D.ex
  have F := fun_mk (st := s_forms_in) l c D.kp
  exact ⟨f, _, F, PySem.W.mg_of X G D.nm, F.binds (ps := ["form"]) fun _ _ _ _ _ _ us hl => match us, hl with | [_], _ => rfl⟩
theorem d_spelling (D : DefIn K "_spelling" s_spelling f) : Dfn K mg "_spelling" s_spelling ["form", "parts"] := by
  obtain ⟨oc, kV, dc, pm, cd, ct, od, an, sl, l, c⟩ := D.ex
  have F := fun_mk (st := s_spelling) l c D.kp
  exact ⟨f, _, F, PySem.W.mg_of X G D.nm, F.binds (ps := ["form", "parts"]) fun _ _ _ _ _ _ us hl => match us, hl with | [_, _], _ => rfl⟩
theorem d_read_form (D : DefIn K "read_form" s_read_form f) : Dfn K mg "read_form" s_read_form ["text"] := by
  obtain ⟨oc, kV, dc, pm, cd, ct, od, an, sl, l, c⟩ := D.ex
  have F := fun_mk (st := s_read_form) l c D.kp
  exact ⟨f, _, F, PySem.W.mg_of X G D.nm, F.binds (ps := ["text"]) fun _ _ _ _ _ _ us hl => match us, hl with | [_], _ => rfl⟩
theorem d_whole (D : DefIn K "_whole" s_whole f) : Dfn K mg "_whole" s_whole ["form", "text", "at"] := by
  obtain ⟨oc, kV, dc, pm, cd, ct, od, an, sl, l, c⟩ := D.ex
  have F := fun_mk (st := s_whole) l c D.kp
  exact ⟨f, _, F, PySem.W.mg_of X G D.nm, F.binds (ps := ["form", "text", "at"]) fun _ _ _ _ _ _ us hl => match us, hl with | [_, _, _], _ => rfl⟩
theorem d_has_sign (D : DefIn K "_has_sign" s_has_sign f) : Dfn K mg "_has_sign" s_has_sign ["text", "at", "signs"] := by
  obtain ⟨oc, kV, dc, pm, cd, ct, od, an, sl, l, c⟩ := D.ex
  have F := fun_mk (st := s_has_sign) l c D.kp
  exact ⟨f, _, F, PySem.W.mg_of X G D.nm, F.binds (ps := ["text", "at", "signs"]) fun _ _ _ _ _ _ us hl => match us, hl with | [_, _, _], _ => rfl⟩
theorem d_end_of (D : DefIn K "_end_of" s_end_of f) : Dfn K mg "_end_of" s_end_of ["text", "at", "signs", "most"] := by
  obtain ⟨oc, kV, dc, pm, cd, ct, od, an, sl, l, c⟩ := D.ex
  have F := fun_mk (st := s_end_of) l c D.kp
  exact ⟨f, _, F, PySem.W.mg_of X G D.nm, F.binds (ps := ["text", "at", "signs", "most"]) fun _ _ _ _ _ _ us hl => match us, hl with | [_, _, _, _], _ => rfl⟩
theorem d_read_plain (D : DefIn K "_read_plain" s_read_plain f) : Dfn K mg "_read_plain" s_read_plain ["text", "at"] := by
  obtain ⟨oc, kV, dc, pm, cd, ct, od, an, sl, l, c⟩ := D.ex
  have F := fun_mk (st := s_read_plain) l c D.kp
  exact ⟨f, _, F, PySem.W.mg_of X G D.nm, F.binds (ps := ["text", "at"]) fun _ _ _ _ _ _ us hl => match us, hl with | [_, _], _ => rfl⟩
theorem d_read_number (D : DefIn K "_read_number" s_read_number f) : Dfn K mg "_read_number" s_read_number ["text", "at"] := by
  obtain ⟨oc, kV, dc, pm, cd, ct, od, an, sl, l, c⟩ := D.ex
  have F := fun_mk (st := s_read_number) l c D.kp
  exact ⟨f, _, F, PySem.W.mg_of X G D.nm, F.binds (ps := ["text", "at"]) fun _ _ _ _ _ _ us hl => match us, hl with | [_, _], _ => rfl⟩
theorem d_read_quoted (D : DefIn K "_read_quoted" s_read_quoted f) : Dfn K mg "_read_quoted" s_read_quoted ["text", "at"] := by
  obtain ⟨oc, kV, dc, pm, cd, ct, od, an, sl, l, c⟩ := D.ex
  have F := fun_mk (st := s_read_quoted) l c D.kp
  exact ⟨f, _, F, PySem.W.mg_of X G D.nm, F.binds (ps := ["text", "at"]) fun _ _ _ _ _ _ us hl => match us, hl with | [_, _], _ => rfl⟩
theorem d_law_pool (D : DefIn K "_law_pool" s_law_pool f) : Dfn K mg "_law_pool" s_law_pool ["_law_script", "_law_at"] := by
  obtain ⟨oc, kV, dc, pm, cd, ct, od, an, sl, l, c⟩ := D.ex
  have F := fun_mk (st := s_law_pool) l c D.kp
  exact ⟨f, _, F, PySem.W.mg_of X G D.nm, F.binds (ps := ["_law_script", "_law_at"]) fun _ _ _ _ _ _ us hl => match us, hl with | [_, _], _ => rfl⟩
theorem d_law_draw (D : DefIn K "_law_draw" s_law_draw f) : Dfn K mg "_law_draw" s_law_draw ["_law_pool_here", "_law_many"] := by
  obtain ⟨oc, kV, dc, pm, cd, ct, od, an, sl, l, c⟩ := D.ex
  have F := fun_mk (st := s_law_draw) l c D.kp
  exact ⟨f, _, F, PySem.W.mg_of X G D.nm, F.binds (ps := ["_law_pool_here", "_law_many"]) fun _ _ _ _ _ _ us hl => match us, hl with | [_, _], _ => rfl⟩
theorem d_law_exact (D : DefIn K "_law_exact" s_law_exact f) : Dfn K mg "_law_exact" s_law_exact ["_law_told", "_law_due"] := by
  obtain ⟨oc, kV, dc, pm, cd, ct, od, an, sl, l, c⟩ := D.ex
  have F := fun_mk (st := s_law_exact) l c D.kp
  exact ⟨f, _, F, PySem.W.mg_of X G D.nm, F.binds (ps := ["_law_told", "_law_due"]) fun _ _ _ _ _ _ us hl => match us, hl with | [_, _], _ => rfl⟩
theorem d_law_base_value (D : DefIn K "_law_base_value" s_law_base_value f) : Dfn K mg "_law_base_value" s_law_base_value ["_law_pool_here", "_law_kind"] := by
  obtain ⟨oc, kV, dc, pm, cd, ct, od, an, sl, l, c⟩ := D.ex
  have F := fun_mk (st := s_law_base_value) l c D.kp
  exact ⟨f, _, F, PySem.W.mg_of X G D.nm, F.binds (ps := ["_law_pool_here", "_law_kind"]) fun _ _ _ _ _ _ us hl => match us, hl with | [_, _], _ => rfl⟩
theorem d_law_try_form (D : DefIn K "_law_try_form" s_law_try_form f) : Dfn K mg "_law_try_form" s_law_try_form ["_law_text"] := by
  obtain ⟨oc, kV, dc, pm, cd, ct, od, an, sl, l, c⟩ := D.ex
  have F := fun_mk (st := s_law_try_form) l c D.kp
  exact ⟨f, _, F, PySem.W.mg_of X G D.nm, F.binds (ps := ["_law_text"]) fun _ _ _ _ _ _ us hl => match us, hl with | [_], _ => rfl⟩
theorem d_law_spelt (D : DefIn K "_law_spelt" s_law_spelt f) : Dfn K mg "_law_spelt" s_law_spelt ["_law_form_here"] := by
  obtain ⟨oc, kV, dc, pm, cd, ct, od, an, sl, l, c⟩ := D.ex
  have F := fun_mk (st := s_law_spelt) l c D.kp
  exact ⟨f, _, F, PySem.W.mg_of X G D.nm, F.binds (ps := ["_law_form_here"]) fun _ _ _ _ _ _ us hl => match us, hl with | [_], _ => rfl⟩
theorem d_law_form (D : DefIn K "_law_form" s_law_form f) : Dfn K mg "_law_form" s_law_form ["_law_pool_here", "_law_left", "_law_leading"] := by
  obtain ⟨oc, kV, dc, pm, cd, ct, od, an, sl, l, c⟩ := D.ex
  have F := fun_mk (st := s_law_form) l c D.kp
  exact ⟨f, _, F, PySem.W.mg_of X G D.nm, F.binds (ps := ["_law_pool_here", "_law_left", "_law_leading"]) fun _ _ _ _ _ _ us hl => match us, hl with | [_, _, _], _ => rfl⟩
theorem d_law_atom_end (D : DefIn K "_law_atom_end" s_law_atom_end f) : Dfn K mg "_law_atom_end" s_law_atom_end ["_law_text", "_law_at"] := by
  obtain ⟨oc, kV, dc, pm, cd, ct, od, an, sl, l, c⟩ := D.ex
  have F := fun_mk (st := s_law_atom_end) l c D.kp
  exact ⟨f, _, F, PySem.W.mg_of X G D.nm, F.binds (ps := ["_law_text", "_law_at"]) fun _ _ _ _ _ _ us hl => match us, hl with | [_, _], _ => rfl⟩
theorem d_law_place_of (D : DefIn K "_law_place_of" s_law_place_of f) : Dfn K mg "_law_place_of" s_law_place_of ["_law_text"] := by
  obtain ⟨oc, kV, dc, pm, cd, ct, od, an, sl, l, c⟩ := D.ex
  have F := fun_mk (st := s_law_place_of) l c D.kp
  exact ⟨f, _, F, PySem.W.mg_of X G D.nm, F.binds (ps := ["_law_text"]) fun _ _ _ _ _ _ us hl => match us, hl with | [_], _ => rfl⟩
theorem d_law_agrees (D : DefIn K "_law_agrees" s_law_agrees f) : Dfn K mg "_law_agrees" s_law_agrees ["_law_text"] := by
  obtain ⟨oc, kV, dc, pm, cd, ct, od, an, sl, l, c⟩ := D.ex
  have F := fun_mk (st := s_law_agrees) l c D.kp
  exact ⟨f, _, F, PySem.W.mg_of X G D.nm, F.binds (ps := ["_law_text"]) fun _ _ _ _ _ _ us hl => match us, hl with | [_], _ => rfl⟩
end
/-- the world in which the law stands -/
theorem all_mk {l : PySem.W.OpenLaw} {w : World} {K : PySem.W.Frag} {h : Heap} {mg : Str → Option Value} {fa : Addr} (X : K.In h) (G : h.Ns mainGlobals mg) (hfa : mg "law" = some (.ref fa))
    {f_fold f_is_text_sign f_begins_with f_print_form f_forms_in f_spelling f_read_form f_whole f_has_sign f_end_of f_read_plain f_read_number f_read_quoted f_law_pool f_law_draw f_law_exact f_law_base_value f_law_try_form f_law_spelt f_law_form f_law_atom_end f_law_place_of f_law_agrees f_law : Addr}
    (D_fold : DefIn K "fold" s_fold f_fold)
    (D_is_text_sign : DefIn K "is_text_sign" s_is_text_sign f_is_text_sign)
    (D_begins_with : DefIn K "begins_with" s_begins_with f_begins_with)
    (D_print_form : DefIn K "print_form" s_print_form f_print_form)
    (D_forms_in : DefIn K "_forms_in" s_forms_in f_forms_in)
    (D_spelling : DefIn K "_spelling" s_spelling f_spelling)
    (D_read_form : DefIn K "read_form" s_read_form f_read_form)
    (D_whole : DefIn K "_whole" s_whole f_whole)
    (D_has_sign : DefIn K "_has_sign" s_has_sign f_has_sign)
    (D_end_of : DefIn K "_end_of" s_end_of f_end_of)
    (D_read_plain : DefIn K "_read_plain" s_read_plain f_read_plain)
    (D_read_number : DefIn K "_read_number" s_read_number f_read_number)
    (D_read_quoted : DefIn K "_read_quoted" s_read_quoted f_read_quoted)
    (D_law_pool : DefIn K "_law_pool" s_law_pool f_law_pool)
    (D_law_draw : DefIn K "_law_draw" s_law_draw f_law_draw)
    (D_law_exact : DefIn K "_law_exact" s_law_exact f_law_exact)
    (D_law_base_value : DefIn K "_law_base_value" s_law_base_value f_law_base_value)
    (D_law_try_form : DefIn K "_law_try_form" s_law_try_form f_law_try_form)
    (D_law_spelt : DefIn K "_law_spelt" s_law_spelt f_law_spelt)
    (D_law_form : DefIn K "_law_form" s_law_form f_law_form)
    (D_law_atom_end : DefIn K "_law_atom_end" s_law_atom_end f_law_atom_end)
    (D_law_place_of : DefIn K "_law_place_of" s_law_place_of f_law_place_of)
    (D_law_agrees : DefIn K "_law_agrees" s_law_agrees f_law_agrees)
    (D_law : DefIn K "law" s_law f_law)
    (z_bool : PySem.W.nsIn K mainGlobals "bool" = some none)
    (z_int : PySem.W.nsIn K mainGlobals "int" = some none)
    (z_isinstance : PySem.W.nsIn K mainGlobals "isinstance" = some none)
    (z_len : PySem.W.nsIn K mainGlobals "len" = some none)
    (z_list : PySem.W.nsIn K mainGlobals "list" = some none)
    (z_min : PySem.W.nsIn K mainGlobals "min" = some none)
    (z_ord : PySem.W.nsIn K mainGlobals "ord" = some none)
    (z_range : PySem.W.nsIn K mainGlobals "range" = some none)
    (z_reversed : PySem.W.nsIn K mainGlobals "reversed" = some none)
    (z_str : PySem.W.nsIn K mainGlobals "str" = some none)
    (z_tuple : PySem.W.nsIn K mainGlobals "tuple" = some none)
    (gv0 : ∃ t, PySem.W.nsIn K mainGlobals "LETTERS" = some (some (.str "abcdefghijklmnopqrstuvwxyz" t)))
    (gv1 : ∃ t, PySem.W.nsIn K mainGlobals "DIGITS" = some (some (.str "0123456789" t)))
    (gv2 : ∃ t, PySem.W.nsIn K mainGlobals "NAME_SIGNS" = some (some (.str "abcdefghijklmnopqrstuvwxyz0123456789" t)))
    (gv3 : ∃ t, PySem.W.nsIn K mainGlobals "MOST_NAME_SIGNS" = some (some (.int 8 t)))
    (gv4 : ∃ t, PySem.W.nsIn K mainGlobals "MOST_TEXT_SIGNS" = some (some (.int 12 t)))
    (gv5 : ∃ t, PySem.W.nsIn K mainGlobals "MOST_DIGITS" = some (some (.int 30 t)))
    (gv6 : ∃ t, PySem.W.nsIn K mainGlobals "MOST_TUPLES" = some (some (.int 40 t)))
    {C cA fI N : Addr} {nm q : Str} {bs sub : List Value} {sn : List Str} {ab : Bool} {col : Option Bool} {dd : Option Addr} {m0 m1 m2 m3 m5 : Option Value}
    (e1 : PySem.W.nsIn K mainGlobals "BadText" = some (some (.ref C)))
    (e2 : K.lookup C = some (excClassObj nm q C N bs [.ref cA, .type "ValueError", .type "Exception", .type "BaseException", .type "object"] true sn sub ab col dd m0 m1 m2 m3 m5 "ValueError.__new__"))
    (e3 : PySem.W.findIn K (.ref C) "__setattr__" = some (some (.builtin "object.__setattr__"))) (e4 : PySem.W.findIn K (.ref C) "__getattribute__" = some (some (.builtin "BaseException.__getattribute__"))) (e5 : PySem.W.findIn K (.ref C) "__getattr__" = some none) (e6 : PySem.W.findIn K (.ref C) "place" = some none)
    (e7 : PySem.W.findIn K (.ref C) "__init__" = some (some (.ref fI))) (e8 : PySem.W.typeIn K (.ref fI) = some (.type "function"))
    (e9 : PySem.W.keepIn K (.ref C) = true) (e10 : PySem.W.subIn K (.ref C) (.type "BaseException") = some true) (e11 : PySem.W.typeIn K (.ref C) = some (.type "type")) (e12 : PySem.W.hasDictIn K C = true) (e13 : PySem.W.isClsIn K C = true) (e14 : PySem.W.subIn K (.ref C) (.ref C) = some true)
    {oc kV dc pm cd ct : Value} {od an : Option Addr} {sl : Array (Option Value)}
    (i1 : K.lookup fI = some ⟨oc, od, .func (PySem.W.fnOf "__init__" "BadText.__init__" (defArgs sInit) (defBody sInit) (defScope sInit) .none kV dc pm an cd ct), sl⟩) (i2 : PySem.W.codeIn K cd "BadText.__init__" = true) (i3 : PySem.W.keepIn K (.ref fI) = true) :
    ∃ fd : FuncData, (∀ (s : Shared) (v : Value), BindsTo s fd ⟨[v], []⟩ [("_law_script", v)]) ∧ ∀ base : Heap, K.In base → base.Ns mainGlobals mg → FnOk l.prog w K mg base CX0 43 fa fd ["_law_script"] (spLaw K) := by
  have e := hfa.symm.trans (PySem.W.mg_of X G D_law.nm)
  cases e
  have T : Txt K mg :=
    { n_bool := PySem.W.mg_none_of X G z_bool,
      n_int := PySem.W.mg_none_of X G z_int,
      n_isinstance := PySem.W.mg_none_of X G z_isinstance,
      n_len := PySem.W.mg_none_of X G z_len,
      n_list := PySem.W.mg_none_of X G z_list,
      n_min := PySem.W.mg_none_of X G z_min,
      n_ord := PySem.W.mg_none_of X G z_ord,
      n_range := PySem.W.mg_none_of X G z_range,
      n_reversed := PySem.W.mg_none_of X G z_reversed,
      n_str := PySem.W.mg_none_of X G z_str,
      n_tuple := PySem.W.mg_none_of X G z_tuple,
      g_LETTERS := gv0.elim fun t e => ⟨t, PySem.W.mg_of X G e⟩,
      g_DIGITS := gv1.elim fun t e => ⟨t, PySem.W.mg_of X G e⟩,
      g_NAME_SIGNS := gv2.elim fun t e => ⟨t, PySem.W.mg_of X G e⟩,
      g_MOST_NAME_SIGNS := gv3.elim fun t e => ⟨t, PySem.W.mg_of X G e⟩,
      g_MOST_TEXT_SIGNS := gv4.elim fun t e => ⟨t, PySem.W.mg_of X G e⟩,
      g_MOST_DIGITS := gv5.elim fun t e => ⟨t, PySem.W.mg_of X G e⟩,
      g_MOST_TUPLES := gv6.elim fun t e => ⟨t, PySem.W.mg_of X G e⟩ }
  have FI := fun_mk (st := sInit) i1 i2 i3
  have N : BtT K mg C fI :=
    { gC := PySem.W.mg_of X G e1, oex := ⟨⟨_, _, _, _, _, _, _, _, _, _, _, _, _, _, _, e2, by show PySem.HandSPX.refsVE [.type "ValueError", .type "Exception", .type "BaseException", .type "object"] = true; decide +kernel⟩, e3, e10, e11, e9⟩, xf := ⟨e4, e5, e10, e12⟩, no := e6, iC := e7, tI := e8, te := te_of e10 e13 e11 e14,
      fn := ⟨_, FI, FI.binds (ps := ["self", "place"]) fun _ _ _ _ _ _ us hl => match us, hl with | [_, _], _ => rfl⟩ }
  obtain ⟨oc, kV, dc, pm, cd, ct, od, an, sl, ll, lc⟩ := D_law.ex
  have FL := fun_mk (st := s_law) ll lc D_law.kp
  refine ⟨PySem.W.fnOf "law" "law" (defArgs s_law) (defBody s_law) (defScope s_law) .none kV dc pm an cd ct, fun s v => .of_eq rfl, fun base KB GB => ?_⟩
  have c1 := ok_is_text_sign (P := l.prog) (w := w) (base := base) T (d_is_text_sign X G D_is_text_sign)
  have c2 := ok_has_sign (P := l.prog) (w := w) (base := base) T (d_has_sign X G D_has_sign)
  have c3 := ok_end_of (P := l.prog) (w := w) (base := base) T (d_end_of X G D_end_of) c2
  have c4 := ok_begins_with (P := l.prog) (w := w) (base := base) T (d_begins_with X G D_begins_with)
  have c5 := ok_forms_in (P := l.prog) (w := w) (base := base) T (d_forms_in X G D_forms_in) c4
  have c6 := ok_spelling (P := l.prog) (w := w) (base := base) T (d_spelling X G D_spelling) c4
  have c7 := ok_print_form (P := l.prog) (w := w) (base := base) T (d_print_form X G D_print_form) (d_fold X G D_fold) c5 c6
  have c8 := ok_whole (P := l.prog) (w := w) (base := base) T N (d_whole X G D_whole)
  have c9 := ok_read_number (P := l.prog) (w := w) (base := base) T N (d_read_number X G D_read_number) c2 c3
  have c10 := ok_read_quoted (P := l.prog) (w := w) (base := base) T N (d_read_quoted X G D_read_quoted) c2 c1
  have c11 := ok_read_plain (P := l.prog) (w := w) (base := base) T N (d_read_plain X G D_read_plain) c2 c3 c10 c9
  have c12 := ok_read_form (P := l.prog) (w := w) (base := base) T N (d_read_form X G D_read_form) c2 c11 c8
  have q1 := ok_law_pool (P := l.prog) (w := w) (base := base) T (d_law_pool X G D_law_pool)
  have q2 := ok_law_draw (P := l.prog) (w := w) (base := base) T (d_law_draw X G D_law_draw)
  have q3 := ok_law_exact (P := l.prog) (w := w) (base := base) T (d_law_exact X G D_law_exact) 6
  have q4 := ok_law_base_value (P := l.prog) (w := w) (base := base) T (d_law_base_value X G D_law_base_value) q2
  have q5 := ok_law_form (P := l.prog) (w := w) (base := base) T (d_law_form X G D_law_form) q2 q4 3
  have q6 := ok_law_spelt (P := l.prog) (w := w) (base := base) T (d_law_spelt X G D_law_spelt) 40
  have q7 := ok_law_try_form (P := l.prog) (w := w) (base := base) T N (d_law_try_form X G D_law_try_form) c12
  have q8 := ok_law_atom_end (P := l.prog) (w := w) (base := base) T (d_law_atom_end X G D_law_atom_end)
  have q9 := ok_law_place_of (P := l.prog) (w := w) (base := base) T (d_law_place_of X G D_law_place_of) q8
  have q10 := ok_law_agrees (P := l.prog) (w := w) (base := base) T (d_law_agrees X G D_law_agrees) q9 q7 q3 q6 c7
  exact ok_law T FL q1 q2 q3 q5 q6 c7 q7 q10
end K6

set_option Elab.async false
set_option linter.all false
open PySem PySem.W PyProof.Rows
set_option maxRecDepth 100000 in
set_option maxHeartbeats 0 in
theorem PySem.Challenge.cw_listasks_k06_texts_read_to_the_first_wro_holds : PySem.Challenge.rw_listasks_k06_texts_read_to_the_first_wro.Holds := by
  w_on; o_law; k_headL; (case hw => w_witness2)
  k_fill
  refine L2.walk_of (l := PySem.Challenge.rw_listasks_k06_texts_read_to_the_first_wro) (n := 63) (k := 43) (x := "_law_script") (CX := fun _ => L2.CX0) (sp := fun w => K6.spLaw _) rfl (by decide) rfl ⟨rfl, by decide, by decide⟩ (fun w h Y => PySem.W.kIn_of Y) ?F
    (fun _ H a ns hl _ hS => ⟨⟨fun _ => false, fun _ => True, fun _ _ _ _ => trivial, fun _ _ _ e => by cases e⟩, [K6.intL ns], trivial, ⟨ns, rfl, hl⟩, .cons (K6.dp_ints hS) .nil, fun v H' d _ _ hd e => by subst e; cases hd; rfl⟩) (fun _ _ _ _ _ h => h)
  case F =>
    as_aux_lemma =>
      intro w mg fa h KX G hmg
      refine' K6.all_mk KX G hmg ?D_fold ?D_is_text_sign ?D_begins_with ?D_print_form ?D_forms_in ?D_spelling ?D_read_form ?D_whole ?D_has_sign ?D_end_of ?D_read_plain ?D_read_number ?D_read_quoted ?D_law_pool ?D_law_draw ?D_law_exact ?D_law_base_value ?D_law_try_form ?D_law_spelt ?D_law_form ?D_law_atom_end ?D_law_place_of ?D_law_agrees ?D_law ?z_bool ?z_int ?z_isinstance ?z_len ?z_list ?z_min ?z_ord ?z_range ?z_reversed ?z_str ?z_tuple ?gv0 ?gv1 ?gv2 ?gv3 ?gv4 ?gv5 ?gv6 ?e1 ?e2 ?e3 ?e4 ?e5 ?e6 ?e7 ?e8 ?e9 ?e10 ?e11 ?e12 ?e13 ?e14 ?i1 ?i2 ?i3
      (case D_fold => (refine' K6.DefIn.of ?l3 ?l1 ?l2 ?l4; (case l3 => k_is); (case l1 => k_is); (case l2 => k_is); (case l4 => k_is)))
      (case D_is_text_sign => (refine' K6.DefIn.of ?l3 ?l1 ?l2 ?l4; (case l3 => k_is); (case l1 => k_is); (case l2 => k_is); (case l4 => k_is)))
      (case D_begins_with => (refine' K6.DefIn.of ?l3 ?l1 ?l2 ?l4; (case l3 => k_is); (case l1 => k_is); (case l2 => k_is); (case l4 => k_is)))
      (case D_print_form => (refine' K6.DefIn.of ?l3 ?l1 ?l2 ?l4; (case l3 => k_is); (case l1 => k_is); (case l2 => k_is); (case l4 => k_is)))
      (case D_forms_in => (refine' K6.DefIn.of ?l3 ?l1 ?l2 ?l4; (case l3 => k_is); (case l1 => k_is); (case l2 => k_is); (case l4 => k_is)))
      (case D_spelling => (refine' K6.DefIn.of ?l3 ?l1 ?l2 ?l4; (case l3 => k_is); (case l1 => k_is); (case l2 => k_is); (case l4 => k_is)))
      (case D_read_form => (refine' K6.DefIn.of ?l3 ?l1 ?l2 ?l4; (case l3 => k_is); (case l1 => k_is); (case l2 => k_is); (case l4 => k_is)))
      (case D_whole => (refine' K6.DefIn.of ?l3 ?l1 ?l2 ?l4; (case l3 => k_is); (case l1 => k_is); (case l2 => k_is); (case l4 => k_is)))
      (case D_has_sign => (refine' K6.DefIn.of ?l3 ?l1 ?l2 ?l4; (case l3 => k_is); (case l1 => k_is); (case l2 => k_is); (case l4 => k_is)))
      (case D_end_of => (refine' K6.DefIn.of ?l3 ?l1 ?l2 ?l4; (case l3 => k_is); (case l1 => k_is); (case l2 => k_is); (case l4 => k_is)))
      (case D_read_plain => (refine' K6.DefIn.of ?l3 ?l1 ?l2 ?l4; (case l3 => k_is); (case l1 => k_is); (case l2 => k_is); (case l4 => k_is)))
      (case D_read_number => (refine' K6.DefIn.of ?l3 ?l1 ?l2 ?l4; (case l3 => k_is); (case l1 => k_is); (case l2 => k_is); (case l4 => k_is)))
      (case D_read_quoted => (refine' K6.DefIn.of ?l3 ?l1 ?l2 ?l4; (case l3 => k_is); (case l1 => k_is); (case l2 => k_is); (case l4 => k_is)))
      (case D_law_pool => (refine' K6.DefIn.of ?l3 ?l1 ?l2 ?l4; (case l3 => k_is); (case l1 => k_is); (case l2 => k_is); (case l4 => k_is)))
      (case D_law_draw => (refine' K6.DefIn.of ?l3 ?l1 ?l2 ?l4; (case l3 => k_is); (case l1 => k_is); (case l2 => k_is); (case l4 => k_is)))
      (case D_law_exact => (refine' K6.DefIn.of ?l3 ?l1 ?l2 ?l4; (case l3 => k_is); (case l1 => k_is); (case l2 => k_is); (case l4 => k_is)))
      (case D_law_base_value => (refine' K6.DefIn.of ?l3 ?l1 ?l2 ?l4; (case l3 => k_is); (case l1 => k_is); (case l2 => k_is); (case l4 => k_is)))
      (case D_law_try_form => (refine' K6.DefIn.of ?l3 ?l1 ?l2 ?l4; (case l3 => k_is); (case l1 => k_is); (case l2 => k_is); (case l4 => k_is)))
      (case D_law_spelt => (refine' K6.DefIn.of ?l3 ?l1 ?l2 ?l4; (case l3 => k_is); (case l1 => k_is); (case l2 => k_is); (case l4 => k_is)))
      (case D_law_form => (refine' K6.DefIn.of ?l3 ?l1 ?l2 ?l4; (case l3 => k_is); (case l1 => k_is); (case l2 => k_is); (case l4 => k_is)))
      (case D_law_atom_end => (refine' K6.DefIn.of ?l3 ?l1 ?l2 ?l4; (case l3 => k_is); (case l1 => k_is); (case l2 => k_is); (case l4 => k_is)))
      (case D_law_place_of => (refine' K6.DefIn.of ?l3 ?l1 ?l2 ?l4; (case l3 => k_is); (case l1 => k_is); (case l2 => k_is); (case l4 => k_is)))
      (case D_law_agrees => (refine' K6.DefIn.of ?l3 ?l1 ?l2 ?l4; (case l3 => k_is); (case l1 => k_is); (case l2 => k_is); (case l4 => k_is)))
      (case D_law => (refine' K6.DefIn.of ?l3 ?l1 ?l2 ?l4; (case l3 => k_is); (case l1 => k_is); (case l2 => k_is); (case l4 => k_is)))
      (case z_bool => k_is)
      (case z_int => k_is)
      (case z_isinstance => k_is)
      (case z_len => k_is)
      (case z_list => k_is)
      (case z_min => k_is)
      (case z_ord => k_is)
      (case z_range => k_is)
      (case z_reversed => k_is)
      (case z_str => k_is)
      (case z_tuple => k_is)
      (case gv0 => (refine' K6.gs_of ?l1; (case l1 => k_is)))
      (case gv1 => (refine' K6.gs_of ?l1; (case l1 => k_is)))
      (case gv2 => (refine' K6.gs_of ?l1; (case l1 => k_is)))
      (case gv3 => (refine' K6.gi_of ?l1; (case l1 => k_is)))
      (case gv4 => (refine' K6.gi_of ?l1; (case l1 => k_is)))
      (case gv5 => (refine' K6.gi_of ?l1; (case l1 => k_is)))
      (case gv6 => (refine' K6.gi_of ?l1; (case l1 => k_is)))
      (case e1 => k_is)
      (case e2 => k_is)
      (case e3 => k_is)
      (case e4 => k_is)
      (case e5 => k_is)
      (case e6 => k_is)
      (case e7 => k_is)
      (case e8 => k_is)
      (case e9 => k_is)
      (case e10 => k_is)
      (case e11 => k_is)
      (case e12 => k_is)
      (case e13 => k_is)
      (case e14 => k_is)
      (case i1 => k_is)
      (case i2 => k_is)
      (case i3 => k_is)


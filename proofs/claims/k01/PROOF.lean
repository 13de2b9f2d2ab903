import PyProof.Rows.All
import Wide.All
import OpenK.AllK
import Wide.FinOn
import HandS.ForMost
import HandS.ForExc
import HandS.IsInst
import HandS.TupAny
import HandS.Rev
import HandS.Deep
import HandS.Flow
import HandS.Wide
import HandS.Conv
import HandS.Steps
import HandS.ExcInit
import HandS.ExcField
import HandS.Style
import HandS.ExcIs
import PySem.Challenge.RW_listasks_k01_kinds_and_values_let_by_or
set_option Elab.async false
set_option linter.all false
set_option maxRecDepth 100000
set_option maxHeartbeats 4000000
/-! A logic over plain data: states are slots of data and own lists, expressions and statements are read as what they do to these. -/
namespace Ab
open PySem PySem.Spec PyProof.Rows L2

/-! ### heaps with a part that is hidden -/
def Hide (B : Addr → Bool) (H : Hp) : Hp := fun a => if B a = true then none else H a
section
variable {B B' : Addr → Bool} {H H' : Hp} {a : Addr} {o : HO} {K : PySem.W.Frag} {v : V} {d : PyData} {vs : List V} {ds : List PyData}
theorem hide_f (h : B a = false) : Hide B H a = H a := by unfold Hide; rw [h]; rfl
theorem hide_t (h : B a = true) : Hide B H a = none := by unfold Hide; rw [if_pos h]
theorem hide_some (h : Hide B H a = some o) : B a = false ∧ H a = some o := by
  cases e : B a with
  | true => rw [hide_t e] at h; cases h
  | false => rw [hide_f e] at h; exact ⟨rfl, h⟩
theorem same_hide : Same (Hide B H) H := fun a o h => (hide_some h).2
theorem seqT {xs : List V} (e : Same H H') (h : SqT K H a xs) : SqT K H' a xs := by
  rcases h with (h | ⟨o, h⟩) | h
  · exact .inl (.inl (e _ _ h))
  · exact .inl (.inr ⟨o, e _ _ h⟩)
  · exact .inr h
mutual
theorem dp_mono (e : Same H H') : ∀ (d : PyData) (v : V), Dp K H v d → Dp K H' v d
  | .none, _, h => by cases h; exact .non
  | .bool b, _, h => by cases h; exact .bl b
  | .int i, _, h => by cases h; exact .int i
  | .str x, _, h => by cases h; exact .str x
  | .list ds, _, h => by
    cases h with
    | lst hs ha => exact .lst (e.seq hs) (dps_mono e ds _ ha)
  | .tuple ds, _, h => by
    cases h with
    | tup hs ha => exact .tup (seqT e hs) (dps_mono e ds _ ha)
  | .dict _, _, h => by cases h
theorem dps_mono (e : Same H H') : ∀ (ds : List PyData) (vs : List V), DpAll K H vs ds → DpAll K H' vs ds
  | [], _, h => by cases h; exact .nil
  | d :: ds, _, h => by
    cases h with
    | cons h1 h2 => exact .cons (dp_mono e d _ h1) (dps_mono e ds _ h2)
end
theorem dps_len : ∀ {vs : List V} {ds : List PyData}, DpAll K H vs ds → vs.length = ds.length
  | [], _, h => by cases h; rfl
  | _ :: _, _, h => by
    cases h with
    | cons h1 h2 => rw [List.length_cons, List.length_cons, dps_len h2]
theorem dps_at : ∀ {vs : List V} {ds : List PyData} {i : Nat} {d : PyData}, DpAll K H vs ds → ds[i]? = some d → ∃ v, vs[i]? = some v ∧ Dp K H v d
  | [], _, i, d, h, e => by cases h; simp at e
  | v :: _, _, 0, d, h, e => by
    cases h with
    | cons h1 h2 => simp at e; subst e; exact ⟨v, rfl, h1⟩
  | _ :: _, _, i + 1, d, h, e => by
    cases h with
    | cons h1 h2 => simp at e; obtain ⟨v, a, b⟩ := dps_at h2 e; exact ⟨v, by simpa using a, b⟩
theorem dps_at' : ∀ {vs : List V} {ds : List PyData} {i : Nat} {v : V}, DpAll K H vs ds → vs[i]? = some v → ∃ d, ds[i]? = some d ∧ Dp K H v d
  | [], _, i, d, h, e => by simp at e
  | w :: _, _, 0, v, h, e => by
    cases h with
    | cons h1 h2 => simp at e; subst e; exact ⟨_, rfl, h1⟩
  | _ :: _, _, i + 1, v, h, e => by
    cases h with
    | cons h1 h2 => simp at e; obtain ⟨d, a, b⟩ := dps_at' h2 e; exact ⟨d, by simpa using a, b⟩
theorem dps_app : ∀ {vs : List V} {ds : List PyData} {ws : List V} {es : List PyData}, DpAll K H vs ds → DpAll K H ws es → DpAll K H (vs ++ ws) (ds ++ es)
  | [], _, _, _, h, k => by cases h; exact k
  | _ :: _, _, _, _, h, k => by
    cases h with
    | cons h1 h2 => exact .cons h1 (dps_app h2 k)
theorem dps_take : ∀ {vs : List V} {ds : List PyData} (n : Nat), DpAll K H vs ds → DpAll K H (vs.take n) (ds.take n)
  | [], _, n, h => by cases h; simp; exact .nil
  | _ :: _, _, 0, h => by simp; exact .nil
  | _ :: _, _, n + 1, h => by
    cases h with
    | cons h1 h2 => exact .cons h1 (dps_take n h2)
theorem dps_drop : ∀ {vs : List V} {ds : List PyData} (n : Nat), DpAll K H vs ds → DpAll K H (vs.drop n) (ds.drop n)
  | [], _, n, h => by cases h; simp; exact .nil
  | _ :: _, _, 0, h => h
  | _ :: _, _, n + 1, h => by
    cases h with
    | cons h1 h2 => exact dps_drop n h2
theorem dps_dropLast {vs : List V} {ds : List PyData} (h : DpAll K H vs ds) : DpAll K H vs.dropLast ds.dropLast := by
  rw [List.dropLast_eq_take, List.dropLast_eq_take, dps_len h]
  exact dps_take _ h
end

/-! ### frames, slots, own lists -/
/-- what a caller holds: addresses that data never name, and what is true of them -/
structure Sy where
  B : Addr → Bool
  I : Hp → Prop
  mono : ∀ H H', (∀ a o, B a = true → H a = some o → H' a = some o) → I H → I H'
  trk : ∀ H a, I H → B a = true → H a ≠ none
inductive Sv where
  | dat (d : PyData)
  | own (a : Addr)
  | no
abbrev Mm := List (Addr × Bool × List PyData)
def Bm (S : Sy) (M : Mm) : Addr → Bool := fun a => S.B a || M.any fun p => p.1 == a
def RSv (K : PySem.W.Frag) (G : Hp) : Option V → Sv → Prop
  | o, .dat d => ∃ v, o = some v ∧ Dp K G v d
  | o, .own a => o = some (.ref a)
  | _, .no => True
structure Rs (K : PySem.W.Frag) (G : Hp) (σ : L2.St) (as : List Sv) : Prop where
  len : σ.length = as.length
  at_ : ∀ (i : Nat) (s : Sv), as[i]? = some s → ∃ o : Option V, σ[i]? = some o ∧ RSv K G o s
/-- lists may be written -/
def Stb (S : Sy) (p : Addr) : Prop := ∀ H l l', S.I H → H p = some (.lst l) → S.I (upd H p (.lst l'))
structure Ok0 (K : PySem.W.Frag) (S : Sy) (H0 H : Hp) (M : Mm) : Prop where
  xt : ∀ a o, S.B a = false → H0 a = some o → H a = some o
  inv : S.I H
  nd : (M.map (·.1)).Nodup
  loc : ∀ p ∈ M, (p.2.1 = true → S.B p.1 = false ∧ H0 p.1 = none) ∧ (p.2.1 = false → S.B p.1 = true ∧ Stb S p.1)
  mem : ∀ p ∈ M, ∃ vs, H p.1 = some (.lst vs) ∧ DpAll K (Hide (Bm S M) H) vs p.2.2
def Gh (S : Sy) (M : Mm) (H : Hp) : Hp := Hide (Bm S M) H

section
variable {K : PySem.W.Frag} {S : Sy} {H0 H H' : Hp} {σ : L2.St} {as : List Sv} {M : Mm} {G G' : Hp}
theorem RSv.mono {o : Option V} {s : Sv} (e : Same G G') (h : RSv K G o s) : RSv K G' o s := by
  cases s with
  | dat d => obtain ⟨v, a, b⟩ := h; exact ⟨v, a, dp_mono e _ _ b⟩
  | own a => exact h
  | no => trivial
theorem Rs.mono (e : Same G G') (h : Rs K G σ as) : Rs K G' σ as := ⟨h.len, fun i s q => let ⟨o, a, b⟩ := h.at_ i s q; ⟨o, a, b.mono e⟩⟩
theorem Rs.set {v : V} {s : Sv} (i : Nat) (h : Rs K G σ as) (r : RSv K G (some v) s) : Rs K G (σ.set i (some v)) (as.set i s) := by
  refine ⟨by rw [List.length_set, List.length_set, h.len], fun j t q => ?_⟩
  by_cases e : i = j
  · subst e
    have hl : i < as.length := by
      have := (List.getElem?_eq_some_iff.mp q).1
      simpa using this
    rw [List.getElem?_set_self hl] at q
    cases q
    exact ⟨some v, List.getElem?_set_self (by rw [h.len]; exact hl), r⟩
  · rw [List.getElem?_set_ne e] at q
    obtain ⟨o, a, b⟩ := h.at_ j t q
    exact ⟨o, by rw [List.getElem?_set_ne e]; exact a, b⟩
theorem bm_trk (h : Ok0 K S H0 H M) (a : Addr) (e : Bm S M a = true) : H a ≠ none := by
  rcases (Bool.or_eq_true _ _).mp e with e | e
  · exact S.trk H a h.inv e
  · obtain ⟨p, hp, q⟩ := List.any_eq_true.mp e
    obtain ⟨vs, k, _⟩ := h.mem p hp
    have : p.1 = a := by simpa using q
    rw [← this, k]
    simp
theorem bm_false {a : Addr} : Bm S M a = false ↔ S.B a = false ∧ ∀ p ∈ M, p.1 ≠ a := by
  unfold Bm
  rw [Bool.or_eq_false_iff, List.any_eq_false]
  simp
theorem new_same {p : Addr} {o : HO} {B : Addr → Bool} (hp : H p = none) : Same (Hide B H) (Hide B (upd H p o)) := fun a u e => by
  obtain ⟨e1, e2⟩ := hide_some e
  rw [hide_f e1, upd_ne (ne_of_none e2 hp)]
  exact e2
theorem ok_new {p : Addr} {o : HO} (h : Ok0 K S H0 H M) (hp : H p = none) : Ok0 K S H0 (upd H p o) M := by
  refine ⟨fun a u e1 e2 => ?_, S.mono H _ (fun a u e1 e2 => ?_) h.inv, h.nd, h.loc, fun q hq => ?_⟩
  · have q := h.xt a u e1 e2
    rw [upd_ne (ne_of_none q hp)]; exact q
  · rw [upd_ne (ne_of_none e2 hp)]; exact e2
  · obtain ⟨vs, a, b⟩ := h.mem q hq
    exact ⟨vs, by rw [upd_ne (ne_of_none a hp)]; exact a, dps_mono (new_same hp) _ _ b⟩
theorem new_hid {p : Addr} (h : Ok0 K S H0 H M) (hp : H p = none) : Bm S M p = false := by
  cases e : Bm S M p with
  | false => rfl
  | true => exact absurd hp (bm_trk h p e)
end

/-! ### what is read -/
section
variable (K : PySem.W.Frag)
def W (te : TE) (as : List Sv) (M : Mm) (P : PyData → Mm → Prop) : Prop := ∀ S H0 σ H, Ok0 K S H0 H M → Rs K (Gh S M H) σ as → ∀ Q : VK,
  (∀ v H' d M', Ok0 K S H0 H' M' → Same (Gh S M H) (Gh S M' H') → Dp K (Gh S M' H') v d → P d M' → Q v H') → te σ H Q
def WT (t : TT) (as : List Sv) (M : Mm) (P : Bool → Mm → Prop) : Prop := ∀ S H0 σ H, Ok0 K S H0 H M → Rs K (Gh S M H) σ as → ∀ Q : Bool → Hp → Prop,
  (∀ b H' M', Ok0 K S H0 H' M' → Same (Gh S M H) (Gh S M' H') → P b M' → Q b H') → t σ H Q
def RA (K : PySem.W.Frag) (G : Hp) : List V → List Sv → Prop
  | [], [] => True
  | v :: vs, s :: ss => RSv K G (some v) s ∧ RA K G vs ss
  | _, _ => False
def WA (ta : TA) (as : List Sv) (M : Mm) (P : List Sv → Mm → Prop) : Prop := ∀ S H0 σ H, Ok0 K S H0 H M → Rs K (Gh S M H) σ as → ∀ Q : List V → Hp → Prop,
  (∀ vs H' ss M', Ok0 K S H0 H' M' → Same (Gh S M H) (Gh S M' H') → RA K (Gh S M' H') vs ss → P ss M' → Q vs H') → ta σ H Q
def WO (to : TO) (as : List Sv) (M : Mm) (P : Option Int → Mm → Prop) : Prop := ∀ S H0 σ H, Ok0 K S H0 H M → Rs K (Gh S M H) σ as → ∀ Q : Option Int → Hp → Prop,
  (∀ o H' M', Ok0 K S H0 H' M' → Same (Gh S M H) (Gh S M' H') → P o M' → Q o H') → to σ H Q
structure AE where
  nx : List Sv → Mm → Prop
  rt : PyData → Mm → Prop
  bk : List Sv → Mm → Prop := fun _ _ => False
  ct : List Sv → Mm → Prop := fun _ _ => False
def WS (ts : TS) (as : List Sv) (M : Mm) (A : AE) : Prop := ∀ S H0 σ H (D : Ends), Ok0 K S H0 H M → Rs K (Gh S M H) σ as →
  (∀ σ' H' as' M', Ok0 K S H0 H' M' → Rs K (Gh S M' H') σ' as' → Same (Gh S M H) (Gh S M' H') → A.nx as' M' → D.nx σ' H') →
  (∀ v H' d M', Ok0 K S H0 H' M' → Dp K (Gh S M' H') v d → A.rt d M' → D.rt v H') →
  (∀ σ' H' as' M', Ok0 K S H0 H' M' → Rs K (Gh S M' H') σ' as' → Same (Gh S M H) (Gh S M' H') → A.bk as' M' → D.bk σ' H') →
  (∀ σ' H' as' M', Ok0 K S H0 H' M' → Rs K (Gh S M' H') σ' as' → Same (Gh S M H) (Gh S M' H') → A.ct as' M' → D.ct σ' H') → ts D σ H
end

section
variable {K : PySem.W.Frag} {as : List Sv} {M : Mm} {te ta tb tc : TE} {P : PyData → Mm → Prop}
theorem ra_mono {G G' : Hp} (e : Same G G') : ∀ {vs : List V} {ss : List Sv}, RA K G vs ss → RA K G' vs ss
  | [], [], _ => trivial
  | _ :: _, _ :: _, h => ⟨h.1.mono e, ra_mono e h.2⟩
  | [], _ :: _, h => h.elim
  | _ :: _, [], h => h.elim
theorem ra_len {G : Hp} : ∀ {vs : List V} {ss : List Sv}, RA K G vs ss → vs.length = ss.length
  | [], [], _ => rfl
  | _ :: _, _ :: _, h => by rw [List.length_cons, List.length_cons, ra_len h.2]
  | [], _ :: _, h => h.elim
  | _ :: _, [], h => h.elim
theorem ra_dat {G : Hp} : ∀ {vs : List V} {ds : List PyData}, RA K G vs (ds.map .dat) → DpAll K G vs ds
  | [], [], _ => .nil
  | _ :: _, _ :: _, h => by
    obtain ⟨⟨v, e, q⟩, h2⟩ := h
    cases e
    exact .cons q (ra_dat h2)
  | [], _ :: _, h => h.elim
  | _ :: _, [], h => h.elim
theorem dat_ra {G : Hp} : ∀ {vs : List V} {ds : List PyData}, DpAll K G vs ds → RA K G vs (ds.map .dat)
  | [], [], _ => trivial
  | _ :: _, _ :: _, h => by
    cases h with
    | cons h1 h2 => exact ⟨⟨_, rfl, h1⟩, dat_ra h2⟩
  | [], _ :: _, h => by cases h
  | _ :: _, [], h => by cases h
theorem ra_start {G : Hp} : ∀ {vs : List V} {ss : List Sv} (n : Nat), RA K G vs ss → Rs K G (vs.map some ++ List.replicate n none) (ss ++ List.replicate n .no)
  | [], [], n, _ => ⟨by simp, fun i s q => by
      simp only [List.nil_append] at q
      have hi : i < n := by have := (List.getElem?_eq_some_iff.mp q).1; simpa using this
      rw [List.getElem?_replicate, if_pos hi] at q
      cases q
      exact ⟨none, by simp [List.getElem?_replicate, hi], trivial⟩⟩
  | v :: vs, s :: ss, n, h => by
    have ih := ra_start n h.2
    refine ⟨by have := ih.len; simp only [List.length_append, List.length_map, List.length_cons, List.length_replicate] at this ⊢; omega, fun i t q => ?_⟩
    cases i with
    | zero =>
      simp at q
      subst q
      exact ⟨some v, by simp, h.1⟩
    | succ i =>
      obtain ⟨o, a, b⟩ := ih.at_ i t (by simpa using q)
      exact ⟨o, by simpa using a, b⟩
  | [], _ :: _, _, h => h.elim
  | _ :: _, [], _, h => h.elim
theorem W.imp {P' : PyData → Mm → Prop} (h : W K te as M P) (i : ∀ d M', P d M' → P' d M') : W K te as M P' := fun S H0 σ H k r Q q => h S H0 σ H k r Q fun v H' d M' a b c e => q v H' d M' a b c (i _ _ e)
theorem w_var {i : Nat} {d : PyData} (h : as[i]? = some (.dat d)) (p : P d M) : W K (tVar i) as M P := fun S H0 σ H k r Q q => by
  obtain ⟨o, a, v, e, b⟩ := r.at_ i _ h
  subst e
  exact ⟨v, a, q v H d M k (Same.refl _) b p⟩
theorem w_int {i : Int} (p : P (.int i) M) : W K (tC (.int i)) as M P := fun S H0 σ H k r Q q => q _ H _ M k (Same.refl _) (.int i) p
theorem w_str {i : Str} (p : P (.str i) M) : W K (tC (.str i)) as M P := fun S H0 σ H k r Q q => q _ H _ M k (Same.refl _) (.str i) p
theorem w_bl {i : Bool} (p : P (.bool i) M) : W K (tC (.bl i)) as M P := fun S H0 σ H k r Q q => q _ H _ M k (Same.refl _) (.bl i) p
theorem w_non (p : P .none M) : W K (tC .non) as M P := fun S H0 σ H k r Q q => q _ H _ M k (Same.refl _) .non p
/-- a tuple of texts that stands in the written part -/
theorem w_cT {a : Addr} {ds : List PyData} (hk : ∀ H, Dp K H (.ref a) (.tuple ds)) (p : P (.tuple ds) M) : W K (tC (.ref a)) as M P := fun S H0 σ H k r Q q => q _ H _ M k (Same.refl _) (hk _) p
theorem wa_nil {P : List Sv → Mm → Prop} (p : P [] M) : WA K tNil as M P := fun S H0 σ H k r Q q => q [] H [] M k (Same.refl _) trivial p
theorem wa_cons {tr : TA} {P : List Sv → Mm → Prop} (h : W K te as M fun d M1 => WA K tr as M1 fun ss M2 => P (.dat d :: ss) M2) : WA K (tCons te tr) as M P := fun S H0 σ H k r Q q =>
  h S H0 σ H k r _ fun v H1 d M1 k1 e1 b1 hr => hr S H0 σ H1 k1 (r.mono e1) _ fun vs H2 ss M2 k2 e2 b2 p => q _ H2 (.dat d :: ss) M2 k2 (e1.trans e2) ⟨⟨v, rfl, dp_mono e2 _ _ b1⟩, b2⟩ p
theorem wa_mut {i : Nat} {a : Addr} {tr : TA} {P : List Sv → Mm → Prop} (h : as[i]? = some (.own a)) (hr : WA K tr as M fun ss M2 => P (.own a :: ss) M2) : WA K (tCons (tVar i) tr) as M P := fun S H0 σ H k r Q q => by
  obtain ⟨o, e1, e2⟩ := r.at_ i _ h
  cases (show o = some (V.ref a) from e2)
  exact ⟨.ref a, e1, hr S H0 σ H k r _ fun vs H2 ss M2 k2 e2 b2 p => q _ H2 (.own a :: ss) M2 k2 e2 ⟨rfl, b2⟩ p⟩
theorem sz_of {n : Nat} (h : n ≤ 100000) : n ≤ sizeLine := Nat.le_trans h (by decide)
theorem w_tup {ta : TA} (h : WA K ta as M fun ss M' => ∃ ds : List PyData, ss = ds.map .dat ∧ ds.length ≤ 100000 ∧ P (.tuple ds) M') : W K (tTup ta) as M P := fun S H0 σ H k r Q q =>
  h S H0 σ H k r _ fun vs H1 ss M1 k1 e1 b1 ⟨ds, es, hl, p⟩ => by
    subst es
    have bd := ra_dat b1
    refine ⟨sz_of (by rw [dps_len bd]; exact hl), fun a ha => q _ _ (.tuple ds) M1 (ok_new k1 ha) (e1.trans (new_same ha)) ?_ p⟩
    have hh : Gh S M1 (upd H1 a (.tup vs)) a = some (.tup vs) := by unfold Gh; rw [hide_f (new_hid k1 ha), upd_same]
    exact .tup (.of hh) (dps_mono (new_same ha) _ _ bd)
theorem w_lst {ta : TA} (h : WA K ta as M fun ss M' => ∃ ds : List PyData, ss = ds.map .dat ∧ ds.length ≤ 100000 ∧ P (.list ds) M') : W K (tLst ta) as M P := fun S H0 σ H k r Q q =>
  h S H0 σ H k r _ fun vs H1 ss M1 k1 e1 b1 ⟨ds, es, hl, p⟩ => by
    subst es
    have bd := ra_dat b1
    refine ⟨sz_of (by rw [dps_len bd]; exact hl), fun a ha => q _ _ (.list ds) M1 (ok_new k1 ha) (e1.trans (new_same ha)) ?_ p⟩
    have hh : Gh S M1 (upd H1 a (.lst vs)) a = some (.lst vs) := by unfold Gh; rw [hide_f (new_hid k1 ha), upd_same]
    exact .lst (.of hh) (dps_mono (new_same ha) _ _ bd)
/-- two-place operations that write nothing -/
def AO (K : PySem.W.Frag) (r : R2) (f : PyData → PyData → (PyData → Prop) → Prop) : Prop := ∀ (B : Addr → Bool) (H : Hp) (x y : V) (a b : PyData) (P : PyData → Prop), (∀ c, B c = true → H c ≠ none) → Dp K (Hide B H) x a → Dp K (Hide B H) y b → f a b P →
  ∀ Q : VK, (∀ v d H', (H' = H ∨ ∃ p o, H p = none ∧ H' = upd H p o) → Dp K (Hide B H') v d → P d → Q v H') → r x y H Q
theorem w_op {r : R2} {f : PyData → PyData → (PyData → Prop) → Prop} (ho : AO K r f) (h : W K ta as M fun a M1 => W K tb as M1 fun b M2 => f a b fun d => P d M2) : W K (tOp r ta tb) as M P := fun S H0 σ H k rs Q q =>
  h S H0 σ H k rs _ fun x H1 a M1 k1 e1 b1 h2 => h2 S H0 σ H1 k1 (rs.mono e1) _ fun y H2 b M2 k2 e2 b2 p => ho _ H2 x y a b _ (bm_trk k2) (dp_mono e2 _ _ b1) b2 p Q fun v d H3 hc hd pd => by
    rcases hc with rfl | ⟨c, o, hn, rfl⟩
    · exact q v _ d M2 k2 (e1.trans e2) hd pd
    · exact q v _ d M2 (ok_new k2 hn) ((e1.trans e2).trans (new_same hn)) hd pd
theorem w_op2 {r : R2} {f : PyData → PyData → (PyData → Prop) → Prop} (ho : AO K r f) {tx : TE} (e : tx = tOp r ta tb) (h : W K ta as M fun a M1 => W K tb as M1 fun b M2 => f a b fun d => P d M2) : W K tx as M P := by
  subst e; exact w_op ho h
/-- one-place built-ins on data that write nothing -/
def AC (K : PySem.W.Frag) (r : List V → Hp → VK → Prop) (f : List PyData → (PyData → Prop) → Prop) : Prop := ∀ (B : Addr → Bool) (H : Hp) (xs : List V) (as : List PyData) (P : PyData → Prop), (∀ c, B c = true → H c ≠ none) → DpAll K (Hide B H) xs as → f as P →
  ∀ Q : VK, (∀ v d H', (H' = H ∨ ∃ p o, H p = none ∧ H' = upd H p o) → Dp K (Hide B H') v d → P d → Q v H') → r xs H Q
theorem w_cb {r : List V → Hp → VK → Prop} {f : List PyData → (PyData → Prop) → Prop} {ta : TA} (ho : AC K r f) (h : WA K ta as M fun ss M1 => ∃ ds : List PyData, ss = ds.map .dat ∧ f ds fun d => P d M1) : W K (tCB r ta) as M P := fun S H0 σ H k rs Q q =>
  h S H0 σ H k rs _ fun xs H1 ss M1 k1 e1 b1 ⟨ds, es, p⟩ => by
    subst es
    refine ho _ H1 xs ds _ (bm_trk k1) (ra_dat b1) p Q fun v d H3 hc hd pd => ?_
    rcases hc with rfl | ⟨c, o, hn, rfl⟩
    · exact q v _ d M1 k1 e1 hd pd
    · exact q v _ d M1 (ok_new k1 hn) (e1.trans (new_same hn)) hd pd
/-! tests -/
variable {t u : TT} {PT : Bool → Mm → Prop}
theorem wt_test (h : W K te as M fun d M' => ∃ b, d = .bool b ∧ PT b M') : WT K (tTest te) as M PT := fun S H0 σ H k r Q q =>
  h S H0 σ H k r _ fun v H1 d M1 k1 e1 b1 ⟨b, ed, p⟩ => by subst ed; cases b1; exact ⟨b, rfl, q b H1 M1 k1 e1 p⟩
theorem wt_B (h : W K te as M fun d M' => ∃ b, d = .bool b ∧ PT b M') : WT K (tB te) as M PT := fun S H0 σ H k r Q q =>
  h S H0 σ H k r _ fun v H1 d M1 k1 e1 b1 ⟨b, ed, p⟩ => by subst ed; cases b1; exact ⟨b, rfl, q b H1 M1 k1 e1 p⟩
theorem wt_not (h : WT K t as M fun b M' => PT (!b) M') : WT K (tNot t) as M PT := fun S H0 σ H k r Q q => h S H0 σ H k r _ fun b H1 M1 k1 e1 p => q _ H1 M1 k1 e1 p
theorem wt_and (h : WT K t as M fun b M1 => if b = true then WT K u as M1 PT else PT false M1) : WT K (tAnd t u) as M PT := fun S H0 σ H k r Q q => h S H0 σ H k r _ fun b H1 M1 k1 e1 p => by
  cases b with
  | true => exact (show WT K u as M1 PT from p) S H0 σ H1 k1 (r.mono e1) _ fun c H2 M2 k2 e2 p2 => q c H2 M2 k2 (e1.trans e2) p2
  | false => exact q false H1 M1 k1 e1 p
theorem wt_or (h : WT K t as M fun b M1 => if b = true then PT true M1 else WT K u as M1 PT) : WT K (tOr t u) as M PT := fun S H0 σ H k r Q q => h S H0 σ H k r _ fun b H1 M1 k1 e1 p => by
  cases b with
  | false => exact (show WT K u as M1 PT from p) S H0 σ H1 k1 (r.mono e1) _ fun c H2 M2 k2 e2 p2 => q c H2 M2 k2 (e1.trans e2) p2
  | true => exact q true H1 M1 k1 e1 p
theorem w_andV (h : W K ta as M fun d M1 => ∃ b, d = .bool b ∧ if b = true then W K tb as M1 P else P (.bool false) M1) : W K (tAndV ta tb) as M P := fun S H0 σ H k r Q q =>
  h S H0 σ H k r _ fun v H1 d M1 k1 e1 b1 ⟨b, ed, p⟩ => by
    subst ed; cases b1
    refine ⟨b, rfl, ?_⟩
    cases b with
    | true => exact (show W K tb as M1 P from p) S H0 σ H1 k1 (r.mono e1) _ fun v H2 d M2 k2 e2 b2 p2 => q v H2 d M2 k2 (e1.trans e2) b2 p2
    | false => exact q _ H1 _ M1 k1 e1 (.bl false) p
theorem w_orV (h : W K ta as M fun d M1 => ∃ b, d = .bool b ∧ if b = true then P (.bool true) M1 else W K tb as M1 P) : W K (tOrV ta tb) as M P := fun S H0 σ H k r Q q =>
  h S H0 σ H k r _ fun v H1 d M1 k1 e1 b1 ⟨b, ed, p⟩ => by
    subst ed; cases b1
    refine ⟨b, rfl, ?_⟩
    cases b with
    | false => exact (show W K tb as M1 P from p) S H0 σ H1 k1 (r.mono e1) _ fun v H2 d M2 k2 e2 b2 p2 => q v H2 d M2 k2 (e1.trans e2) b2 p2
    | true => exact q _ H1 _ M1 k1 e1 (.bl true) p
theorem w_notV (h : W K ta as M fun d M1 => ∃ b, d = .bool b ∧ P (.bool (!b)) M1) : W K (tNotV ta) as M P := fun S H0 σ H k r Q q =>
  h S H0 σ H k r _ fun v H1 d M1 k1 e1 b1 ⟨b, ed, p⟩ => by subst ed; cases b1; exact ⟨b, rfl, q _ H1 _ M1 k1 e1 (.bl _) p⟩
theorem w_ite (h : WT K t as M fun b M1 => if b = true then W K ta as M1 P else W K tb as M1 P) : W K (tIf t ta tb) as M P := fun S H0 σ H k r Q q => h S H0 σ H k r _ fun b H1 M1 k1 e1 p => by
  cases b with
  | true => exact (show W K ta as M1 P from p) S H0 σ H1 k1 (r.mono e1) _ fun v H2 d M2 k2 e2 b2 p2 => q v H2 d M2 k2 (e1.trans e2) b2 p2
  | false => exact (show W K tb as M1 P from p) S H0 σ H1 k1 (r.mono e1) _ fun v H2 d M2 k2 e2 b2 p2 => q v H2 d M2 k2 (e1.trans e2) b2 p2
theorem wo_none {P : Option Int → Mm → Prop} (p : P none M) : WO K tNoPart as M P := fun S H0 σ H k r Q q => q none H M k (Same.refl _) p
theorem wo_some {P : Option Int → Mm → Prop} (h : W K te as M fun d M' => ∃ i, d = .int i ∧ P (some i) M') : WO K (tPart te) as M P := fun S H0 σ H k r Q q =>
  h S H0 σ H k r _ fun v H1 d M1 k1 e1 b1 ⟨i, ed, p⟩ => by subst ed; cases b1; exact ⟨i, rfl, q _ H1 M1 k1 e1 p⟩
/-! statements -/
variable {A : AE} {s1 s2 : TS}
theorem ws_next (p : A.nx as M) : WS K tNext as M A := fun S H0 σ H D k r n _ _ _ => n σ H as M k r (Same.refl _) p
theorem ws_never (h : False) : WS K tNever as M A := h.elim
theorem ws_seq (h : WS K s1 as M { A with nx := fun as' M' => WS K s2 as' M' A }) : WS K (tSeq s1 s2) as M A := fun S H0 σ H D k r n rt b c =>
  h S H0 σ H { D with nx := s2 D } k r (fun σ' H' as' M' k' r' e' p => p S H0 σ' H' D k' r' (fun σ'' H'' as'' M'' k'' r'' e'' => n σ'' H'' as'' M'' k'' r'' (e'.trans e'')) rt
    (fun σ'' H'' as'' M'' k'' r'' e'' => b σ'' H'' as'' M'' k'' r'' (e'.trans e'')) (fun σ'' H'' as'' M'' k'' r'' e'' => c σ'' H'' as'' M'' k'' r'' (e'.trans e''))) rt b c
theorem ws_set {i : Nat} (h : W K te as M fun d M' => A.nx (as.set i (.dat d)) M') : WS K (tAsg te (gName i)) as M A := fun S H0 σ H D k r n _ _ _ =>
  h S H0 σ H k r _ fun v H1 d M1 k1 e1 b1 p => n _ H1 (as.set i (.dat d)) M1 k1 ((r.mono e1).set i (s := .dat d) ⟨v, rfl, b1⟩) e1 p
theorem ws_ret (h : W K te as M A.rt) : WS K (tRet te) as M A := fun S H0 σ H D k r _ rt _ _ => h S H0 σ H k r _ fun v H1 d M1 k1 e1 b1 p => rt v H1 d M1 k1 b1 p
theorem ws_retN (p : A.rt .none M) : WS K tRetN as M A := fun S H0 σ H D k r _ rt _ _ => rt .non H .none M k .non p
theorem ws_drop (h : W K te as M fun _ M' => A.nx as M') : WS K (tDrop te) as M A := fun S H0 σ H D k r n _ _ _ =>
  h S H0 σ H k r _ fun v H1 d M1 k1 e1 b1 p => n σ H1 as M1 k1 (r.mono e1) e1 p
theorem ws_if (h : WT K t as M fun b M' => if b = true then WS K s1 as M' A else WS K s2 as M' A) : WS K (tIfS t s1 s2) as M A := fun S H0 σ H D k r n rt bb cc => h S H0 σ H k r _ fun b H1 M1 k1 e1 p => by
  have go : ∀ s, WS K s as M1 A → s D σ H1 := fun s hs => hs S H0 σ H1 D k1 (r.mono e1) (fun σ'' H'' as'' M'' k'' r'' e'' => n σ'' H'' as'' M'' k'' r'' (e1.trans e'')) rt
    (fun σ'' H'' as'' M'' k'' r'' e'' => bb σ'' H'' as'' M'' k'' r'' (e1.trans e'')) (fun σ'' H'' as'' M'' k'' r'' e'' => cc σ'' H'' as'' M'' k'' r'' (e1.trans e''))
  cases b with
  | true => exact go s1 p
  | false => exact go s2 p
theorem ws_break (p : A.bk as M) : WS K tBreak as M A := fun S H0 σ H D k r _ _ b _ => b σ H as M k r (Same.refl _) p
theorem ws_cont (p : A.ct as M) : WS K tCont as M A := fun S H0 σ H D k r _ _ _ c => c σ H as M k r (Same.refl _) p
/-- a, b = x, y -/
theorem ws_par {i j : Nat} {ta : TA} (h : WA K ta as M fun ss M' => ∃ a b, ss = [a, b] ∧ A.nx ((as.set i a).set j b) M') : WS K (tPar i j ta) as M A := fun S H0 σ H D k r n _ _ _ =>
  h S H0 σ H k r _ fun vs H1 ss M1 k1 e1 b1 ⟨a, b, es, p⟩ => by
    subst es
    match vs, b1 with
    | [v, w], ⟨q1, q2, _⟩ => exact ⟨v, w, rfl, n _ H1 _ M1 k1 (((r.mono e1).set i q1).set j q2) e1 p⟩
end
end Ab

set_option Elab.async false
set_option linter.all false
set_option maxRecDepth 100000
set_option maxHeartbeats 4000000
namespace Ab
open PySem PySem.Spec PyProof.Rows L2

/-! ### own lists -/
def mset (M : Mm) (p : Addr) (xs : List PyData) : Mm := M.map fun q => if q.1 = p then (p, q.2.1, xs) else q
def mdel (M : Mm) (p : Addr) : Mm := M.filter fun q => !(q.1 == p)
section
variable {K : PySem.W.Frag} {S : Sy} {H0 H H' : Hp} {σ : L2.St} {as : List Sv} {M : Mm} {p : Addr} {fl : Bool} {xs ys : List PyData} {vs ws : List V}
theorem mset_fst : ∀ M : Mm, (mset M p xs).map (·.1) = M.map (·.1)
  | [] => rfl
  | q :: M => by
    have ih := mset_fst M
    unfold mset at ih ⊢
    rw [List.map_cons, List.map_cons, List.map_cons, ih]
    by_cases e : q.1 = p
    · rw [if_pos e, e]
    · rw [if_neg e]
theorem any_fst {M N : Mm} (h : M.map (·.1) = N.map (·.1)) (a : Addr) : (M.any fun q => q.1 == a) = N.any fun q => q.1 == a := by
  have e1 : ∀ L : Mm, (L.any fun q => q.1 == a) = (L.map (·.1)).any fun b => b == a := fun L => by rw [List.any_map]; rfl
  rw [e1, e1, h]
theorem bm_set : Bm S (mset M p xs) = Bm S M := by
  funext a
  unfold Bm
  rw [any_fst (mset_fst M)]
theorem mem_uniq : ∀ {M : Mm}, (M.map (·.1)).Nodup → ∀ {q r : Addr × Bool × List PyData}, q ∈ M → r ∈ M → q.1 = r.1 → q = r
  | [], _, _, _, h, _, _ => by cases h
  | m :: M, nd, q, r, hq, hr, e => by
    rw [List.map_cons, List.nodup_cons] at nd
    rcases List.mem_cons.mp hq with e1 | hq2
    · rcases List.mem_cons.mp hr with e2 | hr2
      · rw [e1, e2]
      · exact absurd (by rw [← e1, e]; exact List.mem_map_of_mem hr2) nd.1
    · rcases List.mem_cons.mp hr with e2 | hr2
      · exact absurd (by rw [← e2, ← e]; exact List.mem_map_of_mem hq2) nd.1
      · exact mem_uniq nd.2 hq2 hr2 e
theorem own_bm (hm : (p, fl, xs) ∈ M) : Bm S M p = true := by
  unfold Bm
  rw [Bool.or_eq_true]
  exact .inr (List.any_eq_true.mpr ⟨_, hm, by simp⟩)
theorem gh_write (hm : (p, fl, xs) ∈ M) {o : HO} : Gh S (mset M p ys) (upd H p o) = Gh S M H := by
  unfold Gh
  rw [bm_set]
  funext a
  by_cases e : Bm S M a = true
  · rw [hide_t e, hide_t e]
  · have e' : Bm S M a = false := by simpa using e
    rw [hide_f e', hide_f e', upd_ne (fun z => by rw [z, own_bm hm] at e'; cases e')]
theorem ok_write (k : Ok0 K S H0 H M) (hm : (p, fl, xs) ∈ M) (hd : DpAll K (Gh S M H) ws ys) : Ok0 K S H0 (upd H p (.lst ws)) (mset M p ys) := by
  obtain ⟨vs, hp, hv⟩ := k.mem _ hm
  have hp : H p = some (.lst vs) := hp
  have lc := k.loc _ hm
  have ge : Hide (Bm S (mset M p ys)) (upd H p (.lst ws)) = Hide (Bm S M) H := gh_write hm
  refine ⟨fun a o e1 e2 => ?_, ?_, by rw [mset_fst]; exact k.nd, fun q hq => ?_, fun q hq => ?_⟩
  · have ne : a ≠ p := fun z => by
      subst z
      cases fl with
      | true => rw [(lc.1 rfl).2] at e2; cases e2
      | false => have z := (lc.2 rfl).1; rw [e1] at z; cases z
    rw [upd_ne ne]
    exact k.xt a o e1 e2
  · cases fl with
    | true => exact S.mono H _ (fun a o e1 e2 => by rw [upd_ne (fun z => by subst z; have z := (lc.1 rfl).1; rw [e1] at z; cases z)]; exact e2) k.inv
    | false => exact (lc.2 rfl).2 H vs ws k.inv hp
  · obtain ⟨r, hr, e⟩ := List.mem_map.mp hq
    have lr := k.loc r hr
    by_cases z : r.1 = p
    · rw [if_pos z] at e
      subst e
      rw [z] at lr
      exact lr
    · rw [if_neg z] at e
      subst e
      exact lr
  · obtain ⟨r, hr, e⟩ := List.mem_map.mp hq
    rw [ge]
    by_cases z : r.1 = p
    · rw [if_pos z] at e
      subst e
      exact ⟨ws, upd_same, hd⟩
    · rw [if_neg z] at e
      subst e
      obtain ⟨us, a, b⟩ := k.mem r hr
      exact ⟨us, by rw [upd_ne z]; exact a, b⟩
theorem same_own (k : Ok0 K S H0 H M) (hp : H p = none) {o : HO} : Same (Gh S M H) (Gh S ((p, fl, xs) :: M) (upd H p o)) := fun a u e => by
  obtain ⟨e1, e2⟩ := hide_some e
  have ne : a ≠ p := ne_of_none e2 hp
  have e3 : Bm S ((p, fl, xs) :: M) a = false := by
    rw [bm_false] at e1 ⊢
    refine ⟨e1.1, fun q hq => ?_⟩
    rcases List.mem_cons.mp hq with rfl | hq
    · exact fun z => ne z.symm
    · exact e1.2 q hq
  unfold Gh
  rw [hide_f e3, upd_ne ne]
  exact e2
theorem ok_own (k : Ok0 K S H0 H M) (hp : H p = none) (hd : DpAll K (Gh S M H) vs xs) : Ok0 K S H0 (upd H p (.lst vs)) ((p, true, xs) :: M) := by
  have nb := bm_false.mp (new_hid k hp)
  have sm : Same (Gh S M H) (Gh S ((p, true, xs) :: M) (upd H p (.lst vs))) := same_own k hp
  have k2 := ok_new (o := .lst vs) k hp
  refine ⟨k2.xt, k2.inv, ?_, fun q hq => ?_, fun q hq => ?_⟩
  · rw [List.map_cons, List.nodup_cons]
    refine ⟨fun z => ?_, k.nd⟩
    obtain ⟨q, hq, e⟩ := List.mem_map.mp z
    exact nb.2 q hq e
  · rcases List.mem_cons.mp hq with rfl | hq
    · refine ⟨fun _ => ⟨nb.1, ?_⟩, fun z => by cases z⟩
      cases e : H0 p with
      | none => rfl
      | some o => have z := k.xt p o nb.1 e; rw [hp] at z; cases z
    · exact k.loc q hq
  · rcases List.mem_cons.mp hq with rfl | hq
    · exact ⟨vs, upd_same, dps_mono sm _ _ hd⟩
    · obtain ⟨us, a, b⟩ := k.mem q hq
      exact ⟨us, by rw [upd_ne (ne_of_none a hp)]; exact a, dps_mono sm _ _ b⟩
variable {A : AE} {te : TE} {ta : TA}
theorem ws_new {i : Nat} (h : WA K ta as M fun ss M' => ∃ ds : List PyData, ss = ds.map .dat ∧ ds.length ≤ 100000 ∧ ∀ a, (∀ q ∈ M', q.1 ≠ a) → A.nx (as.set i (.own a)) ((a, true, ds) :: M')) : WS K (tAsg (tLst ta) (gName i)) as M A := fun S H0 σ H D k r n _ _ _ =>
  h S H0 σ H k r _ fun vs H1 ss M1 k1 e1 b1 ⟨ds, es, hl, p⟩ => by
    subst es
    have bd := ra_dat b1
    refine ⟨sz_of (by rw [dps_len bd]; exact hl), fun a ha => ?_⟩
    have sm : Same (Gh S M1 H1) (Gh S ((a, true, ds) :: M1) (upd H1 a (.lst vs))) := same_own k1 ha
    exact n _ _ (as.set i (.own a)) _ (ok_own k1 ha bd) (((r.mono e1).mono sm).set i (s := .own a) rfl) (e1.trans sm) (p a (bm_false.mp (new_hid k1 ha)).2)
theorem tyl (k : Ok0 K S H0 H M) (hm : (p, fl, xs) ∈ M) : tyV K "list" (.ref p) H := by
  obtain ⟨vs, hp, _⟩ := k.mem _ hm
  exact Or.inl ⟨rfl, vs, SqL.of hp⟩
theorem ws_app {i : Nat} (hi : as[i]? = some (.own p)) (hm : (p, fl, xs) ∈ M) (h : W K te as M fun d M' => ∃ fl' ys, (p, fl', ys) ∈ M' ∧ ys.length < 100000 ∧ A.nx as (mset M' p (ys ++ [d]))) :
    WS K (tDrop (tBM K "list" rAppend (tVar i) (tCons te tNil))) as M A := fun S H0 σ H D k r n _ _ _ => by
  obtain ⟨o, e1, e2⟩ := r.at_ i _ hi
  cases (show o = some (V.ref p) from e2)
  refine ⟨.ref p, e1, tyl k hm, h S H0 σ H k r _ fun v H1 d M1 k1 e1 b1 ⟨fl', ys, hy, hl, q⟩ => ?_⟩
  obtain ⟨us, hp, hu⟩ := k1.mem _ hy
  refine ⟨p, us, v, rfl, rfl, hp, Nat.lt_of_lt_of_le (by rw [dps_len hu]; exact hl) (by decide), ?_⟩
  have ge : Gh S (mset M1 p (ys ++ [d])) (upd H1 p (.lst (us ++ [v]))) = Gh S M1 H1 := gh_write hy
  have k2 := ok_write (ws := us ++ [v]) (ys := ys ++ [d]) k1 hy (dps_app hu (.cons b1 .nil))
  exact n σ _ as _ k2 (by rw [ge]; exact r.mono e1) (by rw [ge]; exact e1) q
theorem ws_pop {i j : Nat} {d : PyData} (hi : as[i]? = some (.own p)) (hm : (p, fl, xs) ∈ M) (hl : xs[xs.length - 1]? = some d) (h : A.nx (as.set j (.dat d)) (mset M p xs.dropLast)) :
    WS K (tAsg (tBM0 K "list" rPop (tVar i)) (gName j)) as M A := fun S H0 σ H D k r n _ _ _ => by
  obtain ⟨o, e1, e2⟩ := r.at_ i _ hi
  cases (show o = some (V.ref p) from e2)
  obtain ⟨us, hp, hu⟩ := k.mem _ hm
  obtain ⟨v, hv, hvd⟩ := dps_at hu hl
  have ge : Gh S (mset M p xs.dropLast) (upd H p (.lst us.dropLast)) = Gh S M H := gh_write hm
  have k2 := ok_write (ws := us.dropLast) (ys := xs.dropLast) k hm (dps_dropLast hu)
  refine ⟨.ref p, e1, tyl k hm, p, us, v, rfl, rfl, hp, by rw [dps_len hu]; exact hv, ?_⟩
  exact n _ _ (as.set j (.dat d)) _ k2 (by rw [ge]; exact r.set j (s := .dat d) ⟨v, rfl, hvd⟩) (by rw [ge]; exact Same.refl _) h
theorem wt_own {i : Nat} {PT : Bool → Mm → Prop} (hi : as[i]? = some (.own p)) (hm : (p, fl, xs) ∈ M) (h : PT (!xs.isEmpty) M) : WT K (tTru K (tVar i)) as M PT := fun S H0 σ H k r Q q => by
  obtain ⟨o, e1, e2⟩ := r.at_ i _ hi
  cases (show o = some (V.ref p) from e2)
  obtain ⟨us, hp, hu⟩ := k.mem _ hm
  have el : us.isEmpty = xs.isEmpty := by
    have := dps_len hu
    cases us <;> cases xs <;> simp at this ⊢
  exact ⟨.ref p, e1, !us.isEmpty, Or.inl ⟨us, SqL.of hp, rfl⟩, by rw [el]; exact q _ H M k (Same.refl _) h⟩
/-- an own list of the def's is read from here on -/
def afrz (p : Addr) (xs : List PyData) : Sv → Sv
  | .own a => if a = p then .dat (.list xs) else .own a
  | s => s
theorem ws_frz {ts : TS} (hm : (p, true, xs) ∈ M) (h : WS K ts (as.map (afrz p xs)) (mdel M p) A) : WS K ts as M A := fun S H0 σ H D k r n rt b c => by
  obtain ⟨us, hp, hu⟩ := k.mem _ hm
  have hp : H p = some (.lst us) := hp
  have sb := (k.loc _ hm).1 rfl
  have sub : ∀ q ∈ mdel M p, q ∈ M ∧ q.1 ≠ p := fun q hq => by
    have z := List.mem_filter.mp hq
    exact ⟨z.1, by simpa using z.2⟩
  have bmp : Bm S (mdel M p) p = false := bm_false.mpr ⟨sb.1, fun q hq => (sub q hq).2⟩
  have sm : Same (Gh S M H) (Gh S (mdel M p) H) := fun a o e => by
    obtain ⟨e1, e2⟩ := hide_some e
    rw [bm_false] at e1
    unfold Gh
    rw [hide_f (bm_false.mpr ⟨e1.1, fun q hq => e1.2 q (sub q hq).1⟩)]
    exact e2
  have k2 : Ok0 K S H0 H (mdel M p) := ⟨k.xt, k.inv, (List.filter_sublist.map _).nodup k.nd, fun q hq => k.loc q (sub q hq).1, fun q hq => by
    obtain ⟨ws, a, b⟩ := k.mem q (sub q hq).1
    exact ⟨ws, a, dps_mono sm _ _ b⟩⟩
  have hg : Gh S (mdel M p) H p = some (.lst us) := by unfold Gh; rw [hide_f bmp]; exact hp
  have r2 : Rs K (Gh S (mdel M p) H) σ (as.map (afrz p xs)) := ⟨by rw [List.length_map]; exact r.len, fun i s q => by
    rw [List.getElem?_map] at q
    cases e : as[i]? with
    | none => rw [e] at q; cases q
    | some t =>
      rw [e] at q
      cases q
      obtain ⟨o, e1, e2⟩ := r.at_ i t e
      refine ⟨o, e1, ?_⟩
      cases t with
      | dat d => exact RSv.mono sm (s := .dat d) e2
      | no => trivial
      | own a =>
        show RSv K _ o (if a = p then .dat (.list xs) else .own a)
        by_cases z : a = p
        · rw [if_pos z]
          subst z
          exact ⟨.ref a, e2, .lst (SqL.of hg) (dps_mono sm _ _ hu)⟩
        · rw [if_neg z]
          exact e2⟩
  exact h S H0 σ H D k2 r2 (fun σ' H' as' M' k' r' e' => n σ' H' as' M' k' r' (sm.trans e')) rt (fun σ' H' as' M' k' r' e' => b σ' H' as' M' k' r' (sm.trans e')) (fun σ' H' as' M' k' r' e' => c σ' H' as' M' k' r' (sm.trans e'))
end

/-! ### calls -/
def spP (pre : List PyData → Prop) (post : List PyData → PyData → Prop) (K : PySem.W.Frag) : Sp := fun vs H Q _ => ∃ (S : Sy) (ds : List PyData), S.I H ∧ pre ds ∧ DpAll K (Hide S.B H) vs ds ∧
  ∀ v H' d, (∀ a o, S.B a = false → H a = some o → H' a = some o) → S.I H' → Dp K (Hide S.B H') v d → post ds d → Q v H'
def syAt (S : Sy) (M : Mm) (H1 : Hp) (h : ∀ q ∈ M, H1 q.1 ≠ none) : Sy where
  B := Bm S M
  I := fun H => S.I H ∧ ∀ q ∈ M, H q.1 = H1 q.1
  mono := fun H H' e i => ⟨S.mono H H' (fun a o e1 e2 => e a o (by unfold Bm; rw [e1]; rfl) e2) i.1, fun q hq => by
    have e2 := i.2 q hq
    cases e3 : H1 q.1 with
    | none => exact absurd e3 (h q hq)
    | some o => rw [e3] at e2; exact e _ o (by unfold Bm; rw [Bool.or_eq_true]; exact .inr (List.any_eq_true.mpr ⟨q, hq, by simp⟩)) e2⟩
  trk := fun H a i e => by
    rcases (Bool.or_eq_true _ _).mp e with e | e
    · exact S.trk H a i.1 e
    · obtain ⟨q, hq, z⟩ := List.any_eq_true.mp e
      have z : q.1 = a := by simpa using z
      rw [← z, i.2 q hq]
      exact h q hq
def syP (S : Sy) (p : Addr) (fl : Bool) (pl : List PyData) : Sy where
  B := Bm S [(p, fl, pl)]
  I := fun H => S.I H ∧ ∃ l, H p = some (.lst l)
  mono := fun H H' e i => ⟨S.mono H H' (fun a o e1 e2 => e a o (by unfold Bm; rw [e1]; rfl) e2) i.1, (by
    obtain ⟨l, e2⟩ := i.2
    exact ⟨l, e p _ (own_bm (List.mem_singleton.mpr rfl)) e2⟩)⟩
  trk := fun H a i e => by
    rcases (Bool.or_eq_true _ _).mp e with e | e
    · exact S.trk H a i.1 e
    · have z : p = a := by simpa using e
      obtain ⟨l, e2⟩ := i.2
      rw [← z, e2]; simp
def poolD (l : List PyData) : Prop := ∃ b s c : Int, l = [.int b, .int s, .int c] ∧ 0 ≤ b ∧ 0 ≤ s ∧ s < 2147483647 ∧ 0 ≤ c
def spQ (pre : List PyData → Prop) (post : List PyData → PyData → Prop) (K : PySem.W.Frag) : Sp := fun vs H Q _ => ∃ (S : Sy) (p : Addr) (ws : List V) (ds : List PyData) (l : List V) (pl : List PyData), vs = .ref p :: ws ∧ S.I H ∧ S.B p = true ∧ Stb S p ∧
  H p = some (.lst l) ∧ DpAll K (Hide S.B H) l pl ∧ poolD pl ∧ pre ds ∧ DpAll K (Hide S.B H) ws ds ∧
  ∀ v H' d l' pl', (∀ a o, S.B a = false → H a = some o → H' a = some o) → S.I H' → H' p = some (.lst l') → DpAll K (Hide S.B H') l' pl' → poolD pl' → Dp K (Hide S.B H') v d → post ds d → Q v H'
section
variable {K : PySem.W.Frag} {as : List Sv} {M : Mm} {ta : TA} {pre : List PyData → Prop} {post : List PyData → PyData → Prop} {P : PyData → Mm → Prop} {E : XK}
theorem gh_any {S : Sy} {H H' : Hp} (x : ∀ a o, Bm S M a = false → H a = some o → H' a = some o) : Same (Gh S M H) (Gh S M H') := fun a o e => by
  obtain ⟨e1, e2⟩ := hide_some e
  unfold Gh
  rw [hide_f e1]
  exact x a o e1 e2
theorem w_call (h : WA K ta as M fun ss M1 => ∃ ds : List PyData, ss = ds.map .dat ∧ pre ds ∧ ∀ d, post ds d → P d M1) : W K (tCall (spP pre post K) [] E ta) as M P := fun S H0 σ H k r Q q =>
  h S H0 σ H k r _ fun vs H1 ss M1 k1 e1 b1 ⟨ds, es, hp, p⟩ => by
    subst es
    rw [List.append_nil]
    refine ⟨syAt S M1 H1 fun z hz => by obtain ⟨us, a, _⟩ := k1.mem z hz; rw [a]; simp, ds, ⟨k1.inv, fun _ _ => rfl⟩, hp, ra_dat b1, fun v H' d xt iv dp pd => ?_⟩
    have sm : Same (Gh S M1 H1) (Gh S M1 H') := gh_any xt
    refine q v H' d M1 ⟨fun a o e3 e4 => ?_, iv.1, k1.nd, k1.loc, fun z hz => ?_⟩ (e1.trans sm) dp (p d pd)
    · have e5 := k1.xt a o e3 e4
      by_cases e6 : Bm S M1 a = false
      · exact xt a o e6 e5
      · have e7 : Bm S M1 a = true := by simpa using e6
        rcases (Bool.or_eq_true _ _).mp e7 with e | e
        · rw [e3] at e; cases e
        · obtain ⟨z, hz, y⟩ := List.any_eq_true.mp e
          have y : z.1 = a := by simpa using y
          rw [← y, iv.2 z hz, y]
          exact e5
    · obtain ⟨us, a, b⟩ := k1.mem z hz
      exact ⟨us, by rw [iv.2 z hz]; exact a, dps_mono sm _ _ b⟩
theorem w_callQ (h : WA K ta as M fun ss M1 => ∃ (p : Addr) (fl : Bool) (pl ds : List PyData), ss = .own p :: ds.map .dat ∧ M1 = [(p, fl, pl)] ∧ poolD pl ∧ pre ds ∧ ∀ d pl', poolD pl' → post ds d → P d [(p, fl, pl')]) :
    W K (tCall (spQ pre post K) [] E ta) as M P := fun S H0 σ H k r Q q =>
  h S H0 σ H k r _ fun vs H1 ss M1 k1 e1 b1 ⟨p, fl, pl, ds, es, em, hpl, hp, cont⟩ => by
    subst es em
    rw [List.append_nil]
    match vs, b1 with
    | v0 :: ws, ⟨q1, q2⟩ =>
      cases (show some v0 = some (V.ref p) from q1)
      have hm : (p, fl, pl) ∈ [(p, fl, pl)] := List.mem_singleton.mpr rfl
      obtain ⟨us, hus, hud⟩ := k1.mem _ hm
      have hus : H1 p = some (.lst us) := hus
      have lc := k1.loc _ hm
      let S' : Sy := syP S p fl pl
      have stb : Stb S' p := fun H l l' i hl => ⟨by
        cases fl with
        | true => exact S.mono H _ (fun a o y1 y2 => by rw [upd_ne (fun z => by have w := (lc.1 rfl).1; rw [z] at y1; rw [show S.B p = true from y1] at w; cases w)]; exact y2) i.1
        | false => exact (lc.2 rfl).2 H l l' i.1 hl, ⟨l', upd_same⟩⟩
      refine ⟨S', p, ws, ds, us, pl, rfl, ⟨k1.inv, us, hus⟩, own_bm hm, stb, hus, hud, hpl, hp, ra_dat q2, fun v H' d l' pl' xt iv hl' hd' hpl' dp pd => ?_⟩
      have be : Bm S [(p, fl, pl')] = Bm S [(p, fl, pl)] := rfl
      have sm : Same (Gh S [(p, fl, pl)] H1) (Gh S [(p, fl, pl')] H') := fun a o e => by
        obtain ⟨e1, e2⟩ := hide_some e
        unfold Gh
        rw [be, hide_f e1]
        exact xt a o e1 e2
      refine q v H' d [(p, fl, pl')] ⟨fun a o e3 e4 => ?_, iv.1, by simp, fun z hz => ?_, fun z hz => ?_⟩ (e1.trans sm) dp (cont d pl' hpl' pd)
      · have e5 := k1.xt a o e3 e4
        refine xt a o ?_ e5
        refine bm_false.mpr ⟨e3, fun z hz => ?_⟩
        have z1 := List.mem_singleton.mp hz
        subst z1
        intro z2
        have z2 : p = a := z2
        subst z2
        cases fl with
        | true => rw [(lc.1 rfl).2] at e4; cases e4
        | false => have z := (lc.2 rfl).1; rw [e3] at z; cases z
      · have z1 := List.mem_singleton.mp hz
        subst z1
        exact lc
      · have z1 := List.mem_singleton.mp hz
        subst z1
        exact ⟨l', hl', hd'⟩
theorem bm_nil {S : Sy} : Bm S [] = S.B := by
  funext a
  unfold Bm
  simp
/-- a def of data keeps its word -/
theorem to_spP {t : TS} {N : List Str} {vs : List V} {H : Hp} {Q : VK} {n : Nat} (hn : ∀ ds, pre ds → ds.length = n) (hb : ∀ ds, pre ds → WS K t (ds.map .dat ++ List.replicate (N.length - n) .no) [] ⟨fun _ _ => post ds .none, fun d _ => post ds d, fun _ _ => False, fun _ _ => False⟩)
    (h : spP pre post K vs H Q E) : t { nx := fun _ H' => Q .non H', rt := Q } (L2.start N vs) H := by
  obtain ⟨S, ds, iv, hp, hd, q⟩ := h
  have ln : vs.length = n := by rw [dps_len hd]; exact hn ds hp
  have k0 : Ok0 K S H H [] := ⟨fun _ _ _ e => e, iv, List.nodup_nil, (fun z hz => by cases hz), (fun z hz => by cases hz)⟩
  have hg : Gh S [] H = Hide S.B H := by unfold Gh; rw [bm_nil]
  have r0 : Rs K (Gh S [] H) (L2.start N vs) (ds.map .dat ++ List.replicate (N.length - n) .no) := by
    unfold L2.start
    rw [ln, hg]
    exact ra_start _ (dat_ra hd)
  have fin : ∀ v H' d M', Ok0 K S H H' M' → Dp K (Gh S M' H') v d → post ds d → Q v H' := fun v H' d M' k' dp pd => by
    refine q v H' d k'.xt k'.inv (dp_mono (fun a o e => ?_) _ _ dp) pd
    obtain ⟨e1, e2⟩ := hide_some e
    rw [hide_f (bm_false.mp e1).1]
    exact e2
  exact hb ds hp S H (L2.start N vs) H _ k0 r0 (fun σ' H' as' M' k' _ _ p => fin .non H' .none M' k' .non p) (fun v H' d M' k' dp p => fin v H' d M' k' dp p) (fun _ _ _ _ _ _ _ p => p.elim) (fun _ _ _ _ _ _ _ p => p.elim)
theorem to_spQ {t : TS} {N : List Str} {vs : List V} {H : Hp} {Q : VK} {n : Nat} (hn : ∀ ds, pre ds → ds.length = n) (hb : ∀ p pl ds, poolD pl → pre ds → WS K t (.own p :: ds.map .dat ++ List.replicate (N.length - (n + 1)) .no) [(p, false, pl)]
      ⟨fun _ M => ∃ pl', M = [(p, false, pl')] ∧ poolD pl' ∧ post ds .none, fun d M => ∃ pl', M = [(p, false, pl')] ∧ poolD pl' ∧ post ds d, fun _ _ => False, fun _ _ => False⟩)
    (h : spQ pre post K vs H Q E) : t { nx := fun _ H' => Q .non H', rt := Q } (L2.start N vs) H := by
  obtain ⟨S, p, ws, ds, l, pl, ev, iv, hB, stb, hl, hld, hpl, hp, hd, q⟩ := h
  subst ev
  have ln : ws.length = n := by rw [dps_len hd]; exact hn ds hp
  have hm : (p, false, pl) ∈ [(p, false, pl)] := List.mem_singleton.mpr rfl
  have be : ∀ pl' : List PyData, Bm S [(p, false, pl')] = S.B := fun pl' => by
    funext a
    unfold Bm
    cases e : S.B a with
    | true => rfl
    | false =>
      have : (p == a) = false := by
        rw [beq_eq_false_iff_ne]
        intro z
        rw [← z, hB] at e
        cases e
      simp [this]
  have k0 : Ok0 K S H H [(p, false, pl)] := ⟨fun _ _ _ e => e, iv, by simp, fun z hz => by
    have z1 := List.mem_singleton.mp hz
    subst z1
    exact ⟨(fun z => by cases z), fun _ => ⟨hB, stb⟩⟩, fun z hz => by
    have z1 := List.mem_singleton.mp hz
    subst z1
    exact ⟨l, hl, by rw [be]; exact hld⟩⟩
  have r0 : Rs K (Gh S [(p, false, pl)] H) (L2.start N (.ref p :: ws)) (.own p :: ds.map .dat ++ List.replicate (N.length - (n + 1)) .no) := by
    unfold L2.start Gh
    rw [be, List.length_cons, ln]
    exact ra_start (vs := .ref p :: ws) (ss := .own p :: ds.map .dat) _ ⟨rfl, dat_ra hd⟩
  have fin : ∀ v H' d M', Ok0 K S H H' M' → Dp K (Gh S M' H') v d → (∃ pl', M' = [(p, false, pl')] ∧ poolD pl' ∧ post ds d) → Q v H' := fun v H' d M' k' dp ⟨pl', em, hpl', pd⟩ => by
    subst em
    obtain ⟨l', hl', hd'⟩ := k'.mem _ (List.mem_singleton.mpr rfl)
    unfold Gh at dp
    rw [be] at dp hd'
    exact q v H' d l' pl' k'.xt k'.inv hl' hd' hpl' dp pd
  exact hb p pl ds hpl hp S H _ H _ k0 r0 (fun σ' H' as' M' k' _ _ p => fin .non H' .none M' k' .non p) (fun v H' d M' k' dp p => fin v H' d M' k' dp p) (fun _ _ _ _ _ _ _ p => p.elim) (fun _ _ _ _ _ _ _ p => p.elim)
theorem spP_len {vs : List V} {H : Hp} {Q : VK} {n : Nat} (hn : ∀ ds, pre ds → ds.length = n) (h : spP pre post K vs H Q E) : vs.length = n := by
  obtain ⟨S, ds, _, hp, hd, _⟩ := h
  rw [dps_len hd]; exact hn ds hp
theorem spQ_len {vs : List V} {H : Hp} {Q : VK} {n : Nat} (hn : ∀ ds, pre ds → ds.length = n) (h : spQ pre post K vs H Q E) : vs.length = n + 1 := by
  obtain ⟨S, p, ws, ds, l, pl, ev, _, _, _, _, _, _, hp, hd, _⟩ := h
  rw [ev, List.length_cons, dps_len hd, hn ds hp]
end
end Ab

set_option Elab.async false
set_option linter.all false
set_option maxRecDepth 100000
set_option maxHeartbeats 4000000
namespace Ab
open PySem PySem.Spec PyProof.Rows L2

/-! ### what is walked -/
structure ItOk (K : PySem.W.Frag) (J : It) (G0 : Hp) (xs : List PyData) : Prop where
  go : ∀ G H i, Same G0 G → Same G H → i < xs.length → J.go i H
  yld : ∀ G H i v H', Same G0 G → Same G H → J.yld i H v H' → H' = H ∧ ∀ d, xs[i]? = some d → Dp K G v d
  stop : ∀ G H, Same G0 G → Same G H → J.stop xs.length H
def WI (K : PySem.W.Frag) (wi : TI) (as : List Sv) (M : Mm) (P : List PyData → Mm → Prop) : Prop := ∀ S H0 σ H, Ok0 K S H0 H M → Rs K (Gh S M H) σ as → ∀ R : It → Hp → Prop,
  (∀ J H' xs M', Ok0 K S H0 H' M' → Same (Gh S M H) (Gh S M' H') → ItOk K J (Gh S M' H') xs → P xs M' → R J H') → wi σ H R
/-- a list or a tuple, whichever comes -/
def iSeq (K : PySem.W.Frag) (tl : TE) : TI := fun σ H R => tl σ H fun x H1 => ∃ a, x = .ref a ∧ (((∃ xs, SqL K H1 a xs) ∧ R (Itl K a) H1) ∨ ((∃ xs, SqT K H1 a xs) ∧ R (Itt K a) H1))
theorem pi_seq {X : Cx} {tg l : Expr} {tl : TE} (hl : PE X l tl) : PI X tg l (iSeq X.K tl) := by
  refine ⟨fun pins s σ H R I h => ?_⟩
  refine thn (hl.run pins s σ H _ I h) fun v s1 ⟨x, H1, I1, r1, q1⟩ => ?_
  obtain ⟨a, e, q⟩ := q1
  subst e
  cases r1
  rcases q with ⟨⟨xs, hq⟩, q⟩ | ⟨⟨xs, hq⟩, q⟩
  · obtain ⟨its, rv, p, hz⟩ := I1.list hq
    refine wpAny_pyIter_list p.isList ?_
    refine ⟨s1.heap.objs.size, [s1.heap.objs.size], _, _, H1, rfl, I1.kept (t' := s1.toks) fun b o e => Heap.get?_push_of_some _ e, turn_list a _, ⟨_, Heap.get?_push_size _ rfl, rfl, rfl⟩, fun b hb => ?_, q⟩
    have e : b = s1.heap.objs.size := by simpa using hb
    subst e
    exact I1.fpOk (Nat.le_refl _) (I1.hok.fresh (Nat.le_refl _))
  · obtain ⟨its, rv, p, hz⟩ := I1.tuple hq
    refine wpAny_pyIter_tuple (show s1.heap.IsTuple a its.toArray from p) ?_
    refine ⟨s1.heap.objs.size, [s1.heap.objs.size], _, _, H1, rfl, I1.kept (t' := s1.toks) fun b o e => Heap.get?_push_of_some _ e, turn_tuple a _, ⟨_, Heap.get?_push_size _ rfl, rfl, rfl⟩, fun b hb => ?_, q⟩
    have e : b = s1.heap.objs.size := by simpa using hb
    subst e
    exact I1.fpOk (Nat.le_refl _) (I1.hok.fresh (Nat.le_refl _))
section
variable {K : PySem.W.Frag} {as : List Sv} {M : Mm} {tl : TE} {P : List PyData → Mm → Prop}
theorem itl_ok {a : Addr} {vs : List V} {xs : List PyData} {G0 : Hp} (h : SqL K G0 a vs) (hd : DpAll K G0 vs xs) : ItOk K (Itl K a) G0 xs := by
  have ln := dps_len hd
  refine ⟨fun G H i e1 e2 hi => ?_, fun G H i v H' e1 e2 y => ?_, fun G H e1 e2 => ?_⟩
  · exact ⟨vs, vs[i]'(by omega), e2.seq (e1.seq h), by simp [show i < vs.length by omega]⟩
  · refine ⟨y.1, fun d hx => ?_⟩
    obtain ⟨w, a1, b1⟩ := dps_at hd hx
    have z := y.2 vs (e2.seq (e1.seq h))
    rw [a1] at z
    cases z
    exact dp_mono e1 _ _ b1
  · exact ⟨vs, e2.seq (e1.seq h), by omega⟩
theorem itt_ok {a : Addr} {vs : List V} {xs : List PyData} {G0 : Hp} (h : SqT K G0 a vs) (hd : DpAll K G0 vs xs) : ItOk K (Itt K a) G0 xs := by
  have ln := dps_len hd
  refine ⟨fun G H i e1 e2 hi => ?_, fun G H i v H' e1 e2 y => ?_, fun G H e1 e2 => ?_⟩
  · exact ⟨vs, vs[i]'(by omega), seqT e2 (seqT e1 h), by simp [show i < vs.length by omega]⟩
  · refine ⟨y.1, fun d hx => ?_⟩
    obtain ⟨w, a1, b1⟩ := dps_at hd hx
    have z := y.2 vs (seqT e2 (seqT e1 h))
    rw [a1] at z
    cases z
    exact dp_mono e1 _ _ b1
  · exact ⟨vs, seqT e2 (seqT e1 h), by omega⟩
theorem itv_ok {a : Addr} {vs : List V} {xs : List PyData} {G0 : Hp} (h : SqL K G0 a vs) (hd : DpAll K G0 vs xs) : ItOk K (Itv K a vs.length) G0 xs.reverse := by
  have ln := dps_len hd
  have lr : xs.reverse.length = vs.length := by rw [List.length_reverse]; omega
  refine ⟨fun G H i e1 e2 hi => ?_, fun G H i v H' e1 e2 y => ?_, fun G H e1 e2 => ?_⟩
  · rw [lr] at hi
    exact ⟨hi, vs, vs[vs.length - 1 - i]'(by omega), e2.seq (e1.seq h), by simp [show vs.length - 1 - i < vs.length by omega]⟩
  · refine ⟨y.1, fun d hx => ?_⟩
    have hi : i < xs.length := by have := (List.getElem?_eq_some_iff.mp hx).1; rw [List.length_reverse] at this; exact this
    rw [List.getElem?_reverse hi] at hx
    obtain ⟨w, a1, b1⟩ := dps_at hd hx
    have z := y.2 vs (e2.seq (e1.seq h))
    rw [show vs.length - 1 - i = xs.length - 1 - i by omega, a1] at z
    cases z
    exact dp_mono e1 _ _ b1
  · rw [lr]; exact Nat.le_refl _
theorem itvt_ok {a : Addr} {vs : List V} {xs : List PyData} {G0 : Hp} (h : SqT K G0 a vs) (hd : DpAll K G0 vs xs) : ItOk K (RT.ItvT K a vs.length) G0 xs.reverse := by
  have ln := dps_len hd
  have lr : xs.reverse.length = vs.length := by rw [List.length_reverse]; omega
  refine ⟨fun G H i e1 e2 hi => ?_, fun G H i v H' e1 e2 y => ?_, fun G H e1 e2 => ?_⟩
  · rw [lr] at hi
    exact ⟨hi, vs, vs[vs.length - 1 - i]'(by omega), seqT e2 (seqT e1 h), by simp [show vs.length - 1 - i < vs.length by omega]⟩
  · refine ⟨y.1, fun d hx => ?_⟩
    have hi : i < xs.length := by have := (List.getElem?_eq_some_iff.mp hx).1; rw [List.length_reverse] at this; exact this
    rw [List.getElem?_reverse hi] at hx
    obtain ⟨w, a1, b1⟩ := dps_at hd hx
    have z := y.2 vs (seqT e2 (seqT e1 h))
    rw [show vs.length - 1 - i = xs.length - 1 - i by omega, a1] at z
    cases z
    exact dp_mono e1 _ _ b1
  · rw [lr]; exact Nat.le_refl _
theorem wi_seq (h : W K tl as M fun d M' => ∃ xs, (d = .list xs ∨ d = .tuple xs) ∧ P xs M') : WI K (iSeq K tl) as M P := fun S H0 σ H k r R q =>
  h S H0 σ H k r _ fun v H1 d M1 k1 e1 b1 ⟨xs, hd, p⟩ => by
    rcases hd with rfl | rfl
    · cases b1 with
      | lst hs ha => exact ⟨_, rfl, .inl ⟨⟨_, same_hide.seq hs⟩, q _ H1 xs M1 k1 e1 (itl_ok hs ha) p⟩⟩
    · cases b1 with
      | tup hs ha => exact ⟨_, rfl, .inr ⟨⟨_, seqT same_hide hs⟩, q _ H1 xs M1 k1 e1 (itt_ok hs ha) p⟩⟩
theorem wi_list (h : W K tl as M fun d M' => ∃ xs, d = .list xs ∧ P xs M') : WI K (iList K tl) as M P := fun S H0 σ H k r R q =>
  h S H0 σ H k r _ fun v H1 d M1 k1 e1 b1 ⟨xs, hd, p⟩ => by
    subst hd
    cases b1 with
    | lst hs ha => exact ⟨_, rfl, ⟨_, same_hide.seq hs⟩, q _ H1 xs M1 k1 e1 (itl_ok hs ha) p⟩
theorem wi_rev (h : W K tl as M fun d M' => ∃ xs, (d = .list xs ∨ d = .tuple xs) ∧ P xs.reverse M') : WI K (RT.iRevA K tl) as M P := fun S H0 σ H k r R q =>
  h S H0 σ H k r _ fun v H1 d M1 k1 e1 b1 ⟨xs, hd, p⟩ => by
    rcases hd with rfl | rfl
    · cases b1 with
      | lst hs ha => exact ⟨_, _, rfl, .inl ⟨same_hide.seq hs, q _ H1 _ M1 k1 e1 (itv_ok hs ha) p⟩⟩
    · cases b1 with
      | tup hs ha => exact ⟨_, _, rfl, .inr ⟨seqT same_hide hs, q _ H1 _ M1 k1 e1 (itvt_ok hs ha) p⟩⟩
theorem wi_rng {ta : TA} (h : WA K ta as M fun ss M' => ∃ n : Int, ss = [.dat (.int n)] ∧ n ≤ 1000000 ∧ -1000000 ≤ n ∧ P ((List.range n.toNat).map fun (i : Nat) => PyData.int (i : Int)) M') : WI K (iRng1 ta) as M P := fun S H0 σ H k r R q =>
  h S H0 σ H k r _ fun vs H1 ss M1 k1 e1 b1 ⟨n, es, h1, h2, p⟩ => by
    subst es
    match vs, b1 with
    | [v], ⟨⟨w, ew, dw⟩, _⟩ =>
      cases ew
      cases dw
      refine ⟨n, rfl, by omega, by omega, q _ H1 _ M1 k1 e1 ⟨fun G H i e1 e2 hi => ?_, fun G H i v H' e1 e2 y => ?_, fun G H e1 e2 => ?_⟩ p⟩
      · rw [List.length_map, List.length_range] at hi
        exact hi
      · refine ⟨y.1, fun d hx => ?_⟩
        have hi : i < n.toNat := by
          have := (List.getElem?_eq_some_iff.mp hx).1
          simpa using this
        rw [List.getElem?_map, List.getElem?_range hi] at hx
        cases hx
        rw [y.2, Int.zero_add]
        exact .int _
      · show n.toNat ≤ _
        simp
def signs (x : Str) : List PyData := x.cps.toList.map fun c => .str ⟨#[c]⟩
theorem wi_str (h : W K tl as M fun d M' => ∃ x, d = .str x ∧ P (signs x) M') : WI K (iStr tl) as M P := fun S H0 σ H k r R q =>
  h S H0 σ H k r _ fun v H1 d M1 k1 e1 b1 ⟨x, hd, p⟩ => by
    subst hd
    cases b1
    refine ⟨x, rfl, q _ H1 _ M1 k1 e1 ⟨fun G H i e1 e2 hi => ?_, fun G H i v H' e1 e2 y => ?_, fun G H e1 e2 => ?_⟩ p⟩
    · simpa [signs, Its] using hi
    · refine ⟨y.1, fun d hx => ?_⟩
      obtain ⟨c, hc, ev⟩ := y.2
      subst ev
      unfold signs at hx
      rw [List.getElem?_map, Array.getElem?_toList, hc] at hx
      cases hx
      exact .str _
    · simp [signs, Its]
end

/-! ### targets -/
/-- a, b = a tuple or a list of two -/
def gSeq (K : PySem.W.Frag) (n : Nat) (t : TGs) : TG := fun v σ H Q => gTup K n t v σ H Q ∨ gLst K n t v σ H Q
theorem pg_seq {X : Cx} {es : List Expr} {k : Nat} {t : TGs} {n : Nat} {pos : Pos} (hc : X.calm = true) (h : PGs X es t) (hn : (assignEach es X.env).length = n) (hst : (assignEach es X.env).findIdx? (·.1) = none) : PG X (.Tuple es k pos) (gSeq X.K n t) :=
  ⟨fun pins s σ H v u Q I r hw => hw.elim (fun q => (pg_tup hc h hn hst).run pins s σ H v u Q I r q) (fun q => (pg_lst hc h hn hst).run pins s σ H v u Q I r q)⟩
def awipe (as : List Sv) : List Nat → List Sv
  | [] => as
  | v :: vs => (awipe as vs).set v .no
def GA (K : PySem.W.Frag) (g : TG) (ts : List Nat) (f : PyData → List Sv → (List Sv → Prop) → Prop) : Prop := ∀ (G H : Hp) (v : V) (d : PyData) (σ : L2.St) (as : List Sv) (P : List Sv → Prop), Same G H → Dp K G v d → Rs K G σ as → f d as P →
  ∀ Q : L2.St → Hp → Prop, (∀ σ' as', Rs K G σ' as' → (∀ vs, (∀ t ∈ ts, t ∈ vs) → wipe σ' vs = wipe σ vs) → P as' → Q σ' H) → g v σ H Q
section
variable {K : PySem.W.Frag} {as : List Sv} {M : Mm}
theorem wipe_at (σ : L2.St) : ∀ (vs : List Nat) (i : Nat), (wipe σ vs)[i]? = if i ∈ vs ∧ i < σ.length then some none else σ[i]?
  | [], i => by simp [wipe]
  | v :: vs, i => by
    unfold wipe
    by_cases e : v = i
    · subst e
      by_cases hl : v < σ.length
      · rw [List.getElem?_set_self (by rw [wipe_length]; exact hl), if_pos ⟨List.mem_cons_self, hl⟩]
      · rw [if_neg (fun z => hl z.2), List.getElem?_eq_none (by rw [List.length_set, wipe_length]; omega), List.getElem?_eq_none (by omega)]
    · rw [List.getElem?_set_ne e, wipe_at σ vs i]
      have : (i ∈ v :: vs) ↔ i ∈ vs := by simp [Ne.symm e]
      simp only [this]
theorem wipe_set {σ : L2.St} {vs : List Nat} {i : Nat} {o : Option V} (h : i ∈ vs) : wipe (σ.set i o) vs = wipe σ vs := by
  apply List.ext_getElem?
  intro j
  rw [wipe_at, wipe_at, List.length_set]
  by_cases hj : j ∈ vs ∧ j < σ.length
  · rw [if_pos hj, if_pos hj]
  · rw [if_neg hj, if_neg hj]
    by_cases e : i = j
    · subst e
      have : ¬ i < σ.length := fun z => hj ⟨h, z⟩
      rw [List.getElem?_eq_none (by rw [List.length_set]; omega), List.getElem?_eq_none (by omega)]
    · rw [List.getElem?_set_ne e]
theorem wipe_wipe {σ : L2.St} {vs : List Nat} : wipe (wipe σ vs) vs = wipe σ vs := by
  apply List.ext_getElem?
  intro j
  rw [wipe_at, wipe_at, wipe_length]
  by_cases hj : j ∈ vs ∧ j < σ.length
  · rw [if_pos hj, if_pos hj]
  · rw [if_neg hj]
theorem awipe_len (as : List Sv) : ∀ vs, (awipe as vs).length = as.length
  | [] => rfl
  | v :: vs => by unfold awipe; rw [List.length_set, awipe_len as vs]
theorem rs_wipe {G : Hp} {σ : L2.St} (r : Rs K G σ as) : ∀ vs, Rs K G (wipe σ vs) (awipe as vs)
  | [] => r
  | v :: vs => by
    have ih := rs_wipe r vs
    unfold wipe awipe
    refine ⟨by rw [List.length_set, List.length_set, ih.len], fun i s q => ?_⟩
    by_cases e : v = i
    · subst e
      have hl : v < (awipe as vs).length := by
        have := (List.getElem?_eq_some_iff.mp q).1
        simpa using this
      rw [List.getElem?_set_self hl] at q
      cases q
      exact ⟨none, List.getElem?_set_self (by rw [ih.len]; exact hl), trivial⟩
    · rw [List.getElem?_set_ne e] at q
      obtain ⟨o, a, b⟩ := ih.at_ i s q
      exact ⟨o, by rw [List.getElem?_set_ne e]; exact a, b⟩
theorem ga_name {i : Nat} : GA K (gName i) [i] (fun d as P => P (as.set i (.dat d))) := fun G H v d σ as P e hd r p Q q =>
  q _ _ (r.set i (s := .dat d) ⟨v, rfl, hd⟩) (fun vs hv => wipe_set (hv i List.mem_cons_self)) p
theorem ga_pair {i j : Nat} : GA K (gSeq K 2 (gCons (gName i) (gCons (gName j) gNil))) [i, j] (fun d as P => ∃ a b, (d = .tuple [a, b] ∨ d = .list [a, b]) ∧ P ((as.set i (.dat a)).set j (.dat b))) := fun G H v d σ as P e hd r ⟨a, b, ed, p⟩ Q q => by
  have fin : ∀ {v1 v2 : V}, Dp K G v1 a → Dp K G v2 b → Q ((σ.set i (some v1)).set j (some v2)) H := fun h1 h2 =>
    q _ _ ((r.set i (s := .dat a) ⟨_, rfl, h1⟩).set j (s := .dat b) ⟨_, rfl, h2⟩) (fun vs hv => by rw [wipe_set (hv j (by simp)), wipe_set (hv i (by simp))]) p
  rcases ed with rfl | rfl
  · cases hd with
    | tup hs ha =>
      cases ha with
      | cons h1 h2 =>
        cases h2 with
        | cons h2 h3 =>
          cases h3
          exact .inl ⟨_, _, rfl, seqT e hs, rfl, _, _, rfl, _, _, rfl, rfl, fin h1 h2⟩
  · cases hd with
    | lst hs ha =>
      cases ha with
      | cons h1 h2 =>
        cases h2 with
        | cons h2 h3 =>
          cases h3
          exact .inr ⟨_, _, rfl, e.seq hs, rfl, _, _, rfl, _, _, rfl, rfl, fin h1 h2⟩

/-! ### for, while -/
variable {A : AE} {wi : TI} {g : TG} {tb : TS} {ts : List Nat} {f : PyData → List Sv → (List Sv → Prop) → Prop}
theorem ws_for (hg : GA K g ts f) (h : WI K wi as M fun xs M1 => ∃ IV : Nat → List Sv → Mm → Prop, IV 0 as M1 ∧
    (∀ i x as' M', xs[i]? = some x → IV i as' M' → f x as' fun as2 => WS K tb as2 M' { A with nx := IV (i + 1), ct := IV (i + 1), bk := A.nx }) ∧ (∀ as' M', IV xs.length as' M' → A.nx as' M')) : WS K (tFor wi g tb) as M A := fun S H0 σ H D k r n rt b c =>
  h S H0 σ H k r _ fun J H1 xs M1 k1 e1 hJ ⟨IV, i0, step, fin⟩ => by
    refine ⟨fun i m σ' H' => m = xs.length - i ∧ i ≤ xs.length ∧ ∃ as' M', IV i as' M' ∧ Ok0 K S H0 H' M' ∧ Rs K (Gh S M' H') σ' as' ∧ Same (Gh S M1 H1) (Gh S M' H'), ⟨xs.length, by simp, Nat.zero_le _, as, M1, i0, k1, r.mono e1, Same.refl _⟩, ?_⟩
    rintro i m σ' H' ⟨rfl, hi, as', M', hI, k', r', e'⟩
    by_cases hlt : i < xs.length
    · refine .inr ⟨hJ.go _ _ i e' same_hide hlt, fun σ'' H'' => ∃ as' M', IV (i + 1) as' M' ∧ Ok0 K S H0 H'' M' ∧ Rs K (Gh S M' H'') σ'' as' ∧ Same (Gh S M1 H1) (Gh S M' H''), fun σ'' H'' ⟨as'', M'', q⟩ => ⟨xs.length - (i + 1), by omega, rfl, hlt, as'', M'', q⟩, fun v H2 y => ?_⟩
      obtain ⟨eh, yd⟩ := hJ.yld _ _ i v H2 e' same_hide y
      subst eh
      have hx : xs[i]? = some xs[i] := List.getElem?_eq_getElem hlt
      refine hg (Gh S M' H2) H2 v xs[i] σ' as' _ same_hide (yd _ hx) r' (step i _ as' M' hx hI) _ fun σ2 as2 r2 _ p => ?_
      exact p S H0 σ2 H2 _ k' r2 (fun σ3 H3 as3 M3 k3 r3 e3 p3 => ⟨as3, M3, p3, k3, r3, e'.trans e3⟩) rt (fun σ3 H3 as3 M3 k3 r3 e3 p3 => n σ3 H3 as3 M3 k3 r3 ((e1.trans e').trans e3) p3) (fun σ3 H3 as3 M3 k3 r3 e3 p3 => ⟨as3, M3, p3, k3, r3, e'.trans e3⟩)
    · have e : i = xs.length := by omega
      subst e
      exact .inl ⟨hJ.stop _ _ e' same_hide, n σ' H' as' M' k' r' (e1.trans e') (fin as' M' hI)⟩
theorem ws_while {tc : TT} (IV : Nat → List Sv → Mm → Prop) (m0 : Nat) (h0 : IV m0 as M) (h : ∀ m as' M', IV m as' M' → WT K tc as' M' fun b M1 => if b = true then WS K tb as' M1 { A with nx := fun a' m' => ∃ j, j < m ∧ IV j a' m', ct := fun a' m' => ∃ j, j < m ∧ IV j a' m', bk := A.nx } else A.nx as' M1) :
    WS K (tWhile tc tb) as M A := fun S H0 σ H D k r n rt b c => by
  refine ⟨fun m σ' H' => ∃ as' M', IV m as' M' ∧ Ok0 K S H0 H' M' ∧ Rs K (Gh S M' H') σ' as' ∧ Same (Gh S M H) (Gh S M' H'), ⟨m0, as, M, h0, k, r, Same.refl _⟩, ?_⟩
  rintro m σ' H' ⟨as', M', hI, k', r', e'⟩
  refine h m as' M' hI S H0 σ' H' k' r' _ fun b1 H1 M1 k1 e1 p => ?_
  cases b1 with
  | false =>
    exact n σ' H1 as' M1 k1 (r'.mono e1) (e'.trans e1) p
  | true =>
    refine ⟨fun σ'' H'' => ∃ j, j < m ∧ ∃ as' M', IV j as' M' ∧ Ok0 K S H0 H'' M' ∧ Rs K (Gh S M' H'') σ'' as' ∧ Same (Gh S M H) (Gh S M' H''), fun σ'' H'' q => q, ?_⟩
    exact (show WS K tb as' M1 _ from p) S H0 σ' H1 _ k1 (r'.mono e1) (fun σ3 H3 as3 M3 k3 r3 e3 ⟨j, hj, p3⟩ => ⟨j, hj, as3, M3, p3, k3, r3, (e'.trans e1).trans e3⟩) rt (fun σ3 H3 as3 M3 k3 r3 e3 p3 => n σ3 H3 as3 M3 k3 r3 ((e'.trans e1).trans e3) p3)
      (fun σ3 H3 as3 M3 k3 r3 e3 ⟨j, hj, p3⟩ => ⟨j, hj, as3, M3, p3, k3, r3, (e'.trans e1).trans e3⟩)
end

/-! ### comprehensions -/
def syD (S : Sy) (D : Addr) (va : List V) : Sy where
  B := fun a => S.B a || a == D
  I := fun H => S.I H ∧ H D = some (.lst va)
  mono := fun H H' e i => ⟨S.mono H H' (fun a o e1 e2 => e a o (by rw [e1]; rfl) e2) i.1, e D _ (by simp) i.2⟩
  trk := fun H a i e => by
    rcases (Bool.or_eq_true _ _).mp e with e | e
    · exact S.trk H a i.1 e
    · have e : a = D := by simpa using e
      rw [e, i.2]; simp
section
variable {K : PySem.W.Frag} {S : Sy} {H0 H H1 : Hp} {M M1 : Mm} {D : Addr} {va vb : List V}
theorem syd_bm : Bm (syD S D va) M = Bm (syD S D vb) M := rfl
theorem bm_D : Bm (syD S D va) M D = true := by
  unfold Bm syD
  simp
theorem syd_f {a : Addr} (h : (syD S D va).B a = false) : S.B a = false ∧ a ≠ D := by
  have h : (S.B a || a == D) = false := h
  rw [Bool.or_eq_false_iff] at h
  exact ⟨h.1, by simpa using h.2⟩
theorem syd_mk {a : Addr} (h : S.B a = false) (n : a ≠ D) : (syD S D va).B a = false := by
  show (S.B a || a == D) = false
  rw [h]
  simpa using n
theorem gd_upd {o : HO} : Gh (syD S D va) M (upd H D o) = Gh (syD S D vb) M H := by
  unfold Gh
  rw [syd_bm (vb := vb)]
  funext a
  by_cases e : Bm (syD S D vb) M a = true
  · rw [hide_t e, hide_t e]
  · have e' : Bm (syD S D vb) M a = false := by simpa using e
    rw [hide_f e', hide_f e', upd_ne (fun z => by rw [z, bm_D] at e'; cases e')]
theorem same_D (k : Ok0 K S H0 H1 M1) (hD : H1 D = none) {o : HO} : Same (Gh S M1 H1) (Gh (syD S D va) M1 (upd H1 D o)) := fun a u e => by
  obtain ⟨e1, e2⟩ := hide_some e
  have ne : a ≠ D := ne_of_none e2 hD
  unfold Gh
  rw [bm_false] at e1
  rw [hide_f (bm_false.mpr ⟨syd_mk e1.1 ne, e1.2⟩), upd_ne ne]
  exact e2
theorem ok_D (k : Ok0 K S H0 H1 M1) (hD : H1 D = none) : Ok0 K (syD S D []) H0 (upd H1 D (.lst [])) M1 := by
  have k2 := ok_new (o := .lst []) k hD
  have sD : S.B D = false := (bm_false.mp (new_hid k hD)).1
  refine ⟨fun a o e1 e2 => k2.xt a o (syd_f e1).1 e2, ⟨k2.inv, upd_same⟩, k.nd, fun q hq => ?_, fun q hq => ?_⟩
  · obtain ⟨vs, hv, _⟩ := k.mem q hq
    have ne : q.1 ≠ D := ne_of_none hv hD
    have lc := k.loc q hq
    refine ⟨fun z => ⟨syd_mk (lc.1 z).1 ne, (lc.1 z).2⟩, fun z => ⟨?_, fun H l l' i hl => ⟨(lc.2 z).2 H l l' i.1 hl, by rw [upd_ne (Ne.symm ne)]; exact i.2⟩⟩⟩
    show (S.B q.1 || q.1 == D) = true
    rw [(lc.2 z).1]; rfl
  · obtain ⟨vs, hv, hd⟩ := k.mem q hq
    exact ⟨vs, by rw [upd_ne (ne_of_none hv hD)]; exact hv, dps_mono (same_D k hD) _ _ hd⟩
theorem ok_D_ne (k : Ok0 K (syD S D va) H0 H M) : ∀ q ∈ M, q.1 ≠ D := fun q hq z => by
  have lc := k.loc q hq
  cases e : q.2.1 with
  | true => exact (syd_f (lc.1 e).1).2 z
  | false =>
    have st := (lc.2 e).2
    rw [z] at st
    have i := st H va (va ++ [.non]) k.inv k.inv.2
    have w := i.2
    rw [upd_same] at w
    have w2 := HO.lst.inj (Option.some.inj w)
    have := congrArg List.length w2
    simp at this
theorem ok_Dset (k : Ok0 K (syD S D va) H0 H M) (sD : S.B D = false) : Ok0 K (syD S D vb) H0 (upd H D (.lst vb)) M := by
  have nes := ok_D_ne k
  refine ⟨fun a o e1 e2 => by rw [upd_ne (syd_f e1).2]; exact k.xt a o e1 e2, ⟨S.mono H _ (fun a o e1 e2 => by rw [upd_ne (fun z => by rw [z, sD] at e1; cases e1)]; exact e2) k.inv.1, upd_same⟩, k.nd, fun q hq => ?_, fun q hq => ?_⟩
  · have lc := k.loc q hq
    refine ⟨fun z => lc.1 z, fun z => ⟨(lc.2 z).1, fun H2 l l' i hl => ?_⟩⟩
    have ne := nes q hq
    have i2 : (syD S D va).I (upd H2 D (.lst va)) := ⟨S.mono H2 _ (fun a o e1 e2 => by rw [upd_ne (fun z => by rw [z, sD] at e1; cases e1)]; exact e2) i.1, upd_same⟩
    have i3 := (lc.2 z).2 _ l l' i2 (by rw [upd_ne ne]; exact hl)
    refine ⟨S.mono _ _ (fun a o e1 e2 => ?_) i3.1, by rw [upd_ne (Ne.symm ne)]; exact i.2⟩
    by_cases e : a = q.1
    · rw [e, upd_same] at e2 ⊢; exact e2
    · rw [upd_ne e, upd_ne (fun z => by rw [z, sD] at e1; cases e1)] at e2
      rw [upd_ne e]; exact e2
  · obtain ⟨vs, hv, hd⟩ := k.mem q hq
    refine ⟨vs, by rw [upd_ne (nes q hq)]; exact hv, ?_⟩
    have : Hide (Bm (syD S D vb) M) (upd H D (.lst vb)) = Hide (Bm (syD S D va) M) H := gd_upd
    rw [this]; exact hd
theorem same_Dout : Same (Gh (syD S D va) M H) (Gh S M H) := fun a o e => by
  obtain ⟨e1, e2⟩ := hide_some e
  rw [bm_false] at e1
  unfold Gh
  rw [hide_f (bm_false.mpr ⟨(syd_f e1.1).1, e1.2⟩)]
  exact e2
theorem ok_Dout (k : Ok0 K (syD S D va) H0 H M) (sD : S.B D = false) (h0 : H0 D = none) : Ok0 K S H0 H M := by
  have nes := ok_D_ne k
  refine ⟨fun a o e1 e2 => ?_, k.inv.1, k.nd, fun q hq => ?_, fun q hq => ?_⟩
  · have ne : a ≠ D := fun z => by rw [z, h0] at e2; cases e2
    exact k.xt a o (syd_mk e1 ne) e2
  · have lc := k.loc q hq
    have ne := nes q hq
    refine ⟨fun z => ⟨(syd_f (lc.1 z).1).1, (lc.1 z).2⟩, fun z => ⟨?_, fun H2 l l' i hl => ?_⟩⟩
    · have w : (S.B q.1 || q.1 == D) = true := (lc.2 z).1
      rcases (Bool.or_eq_true _ _).mp w with w | w
      · exact w
      · exact absurd (by simpa using w) ne
    · have i2 : (syD S D va).I (upd H2 D (.lst va)) := ⟨S.mono H2 _ (fun a o e1 e2 => by rw [upd_ne (fun z => by rw [z, sD] at e1; cases e1)]; exact e2) i, upd_same⟩
      have i3 := (lc.2 z).2 _ l l' i2 (by rw [upd_ne ne]; exact hl)
      refine S.mono _ _ (fun a o e1 e2 => ?_) i3.1
      by_cases e : a = q.1
      · rw [e, upd_same] at e2 ⊢; exact e2
      · rw [upd_ne e, upd_ne (fun z => by rw [z, sD] at e1; cases e1)] at e2
        rw [upd_ne e]; exact e2
  · obtain ⟨vs, hv, hd⟩ := k.mem q hq
    exact ⟨vs, hv, dps_mono same_Dout _ _ hd⟩
variable {as : List Sv} {wi : TI} {g : TG} {tt : TT} {te : TE} {vs ts : List Nat} {f : PyData → List Sv → (List Sv → Prop) → Prop} {P : PyData → Mm → Prop}
theorem w_lc (hg : GA K g ts f) (ht : ∀ t ∈ ts, t ∈ vs) (h : WI K wi as M fun xs M1 => ∃ IV : Nat → List PyData → Mm → Prop, IV 0 [] M1 ∧
    (∀ i x acc Mi, xs[i]? = some x → IV i acc Mi → f x (awipe as vs) fun as2 => WT K tt as2 Mi fun b M2 => if b = true then W K te as2 M2 fun y M3 => acc.length < 100000 ∧ IV (i + 1) (acc ++ [y]) M3 else IV (i + 1) acc M2) ∧
    (∀ acc M', IV xs.length acc M' → P (.list acc) M')) : W K (tLc wi g tt te vs) as M P := fun S H0 σ H k r Q q =>
  h S H0 σ H k r _ fun J H1 xs M1 k1 e1 hJ ⟨IV, i0, step, fin⟩ => fun D hD => by
    have sD : S.B D = false := (bm_false.mp (new_hid k1 hD)).1
    have h0 : H0 D = none := by
      cases e : H0 D with
      | none => rfl
      | some o => have z := k1.xt D o sD e; rw [hD] at z; cases z
    let Nw : Nat → Hp → Prop := fun i Hc => ∃ acc va Mi, IV i acc Mi ∧ Ok0 K (syD S D va) H0 Hc Mi ∧ DpAll K (Gh (syD S D va) Mi Hc) va acc ∧ Rs K (Gh (syD S D va) Mi Hc) σ as ∧ Same (Gh S M1 H1) (Gh (syD S D va) Mi Hc)
    have n0 : Nw 0 (upd H1 D (.lst [])) := ⟨[], [], M1, i0, ok_D k1 hD, .nil, (r.mono e1).mono (same_D k1 hD), same_D k1 hD⟩
    refine ⟨fun i m Hc => m = xs.length - i ∧ i ≤ xs.length ∧ Nw i Hc, ⟨xs.length, by simp, Nat.zero_le _, n0⟩, ?_⟩
    rintro i m Hc ⟨rfl, hi, acc, va, Mi, hI, kc, da, rc, ec⟩
    by_cases hlt : i < xs.length
    · refine .inr ⟨hJ.go _ _ i ec same_hide hlt, Nw (i + 1), fun H' p' => ⟨xs.length - (i + 1), by omega, rfl, hlt, p'⟩, fun v H2 y => ?_⟩
      obtain ⟨eh, yd⟩ := hJ.yld _ _ i v H2 ec same_hide y
      subst eh
      have hx : xs[i]? = some xs[i] := List.getElem?_eq_getElem hlt
      refine hg (Gh (syD S D va) Mi H2) H2 v xs[i] (wipe σ vs) (awipe as vs) _ same_hide (yd _ hx) (rs_wipe rc vs) (step i _ acc Mi hx hI) _ fun σ2 as2 r2 wp p => ?_
      refine ⟨by rw [wp vs ht, wipe_wipe], ?_⟩
      refine p (syD S D va) H0 σ2 H2 kc r2 _ fun b H3 M3 k3 e3 p3 => ?_
      cases b with
      | false => exact ⟨acc, va, M3, p3, k3, dps_mono e3 _ _ da, rc.mono e3, ec.trans e3⟩
      | true =>
        refine (show W K te as2 M3 _ from p3) (syD S D va) H0 σ2 H3 k3 (r2.mono e3) _ fun w H4 y M4 k4 e4 b4 ⟨hl, p4⟩ => ?_
        refine ⟨va, k4.inv.2, Nat.lt_of_lt_of_le (by rw [dps_len da]; exact hl) (by decide), acc ++ [y], va ++ [w], M4, p4, ok_Dset k4 sD, ?_, ?_, ?_⟩
        · rw [gd_upd (vb := va)]
          exact dps_app (dps_mono (e3.trans e4) _ _ da) (.cons b4 .nil)
        · rw [gd_upd (vb := va)]
          exact rc.mono (e3.trans e4)
        · rw [gd_upd (vb := va)]
          exact ec.trans (e3.trans e4)
    · have e : i = xs.length := by omega
      subst e
      refine .inl ⟨hJ.stop _ _ ec same_hide, q _ Hc (.list acc) Mi (ok_Dout kc sD h0) (e1.trans (ec.trans same_Dout)) ?_ (fin acc Mi hI)⟩
      have gD : Gh S Mi Hc D = some (.lst va) := by
        unfold Gh
        rw [hide_f (bm_false.mpr ⟨sD, ok_D_ne kc⟩)]
        exact kc.inv.2
      exact .lst (SqL.of gD) (dps_mono same_Dout _ _ da)
end
end Ab

set_option Elab.async false
set_option linter.all false
set_option maxRecDepth 100000
set_option maxHeartbeats 4000000
namespace Ab
open PySem PySem.Spec PyProof.Rows L2

section
variable {X : Cx}
/-- two lists, wherever they stand -/
def rCatL (K : PySem.W.Frag) : R2 := fun x y H Q => ∃ l b xs zs, x = .ref l ∧ y = .ref b ∧ SqL K H l xs ∧ SqL K H b zs ∧ xs.length + zs.length ≤ sizeLine ∧ ∀ p, H p = none → Q (.ref p) (upd H p (.lst (xs ++ zs)))
theorem op_catL : OpR X (binaryOp .Add) (rCatL X.K) := by
  intro pins s σ H x y v u Q I rx ry h
  obtain ⟨l, b, xs, zs, rfl, rfl, hH, hB, hz, q⟩ := h
  cases rx
  cases ry
  obtain ⟨its, r, ⟨o, n, e, hc, hd, hdt⟩, hl⟩ := I.list hH
  obtain ⟨its2, r2, ⟨o2, n2, e2, hc2, hd2, hdt2⟩, hl2⟩ := I.list hB
  obtain ⟨c1, d1, dt1, sl1⟩ := o
  obtain ⟨c2, d2, dt2, sl2⟩ := o2
  simp only at hc hd hdt hc2 hd2 hdt2
  subst hc hd hdt hc2 hd2 hdt2
  have z1 := r.length
  have z2 := r2.length
  have ea : its.toArray ++ its2.toArray = (its ++ its2).toArray := by simp
  refine concat_meets ⟨_, e, rfl⟩ ⟨_, e2, rfl⟩ noFill_list_add seq_list_add PySem.F.slot_list_add PySem.F.entry_list_add (PySem.F.args_list_add_2 _ _) (list_addW l b its.toArray its2.toArray n n2 none none sl1 sl2 (by simp; omega)) ⟨e, e2, ?_⟩
  rw [ea]
  exact ⟨.ref _, _, I.lnew (t' := s.toks) (r.append r2) (by rw [List.length_append]; omega), rfl, q _ I.fresh⟩
def rAddI : R2 := rI0 fun i j => .int (i + j)
def rAddStr : R2 := fun x y H Q => ∃ i j, x = .str i ∧ y = .str j ∧ i.length + j.length ≤ sizeLine ∧ Q (.str (i ++ j)) H
def rPlus (K : PySem.W.Frag) : R2 := fun x y H Q => rAddI x y H Q ∨ rAddStr x y H Q ∨ rCatA K x y H Q ∨ rCatL K x y H Q
theorem op_plus : OpR X (binaryOp .Add) (rPlus X.K) := OpR.or (r := rAddI) op_add (OpR.or (r := rAddStr) op_add_str (OpR.or op_catA op_catL))
def rLtI : R2 := rI0 fun i j => .bl (decide (i < j))
def rLtS : R2 := fun x y H Q => ∃ i j, x = .str i ∧ y = .str j ∧ Q (.bl (decide (i.cps.toList < j.cps.toList))) H
def rLess : R2 := fun x y H Q => rLtI x y H Q ∨ rLtS x y H Q
theorem op_less : OpR X (compareOp .Lt) rLess := OpR.or (r := rLtI) (r' := rLtS) op_lt op_lt_str
def rLeI : R2 := rI0 fun i j => .bl (decide (i ≤ j))
theorem op_leI : OpR X (compareOp .LtE) rLeI := op_le
def rGtI : R2 := rI0 fun i j => .bl (decide (j < i))
theorem op_gtI : OpR X (compareOp .Gt) rGtI := op_gt
def rGeI : R2 := rI0 fun i j => .bl (decide (j ≤ i))
theorem op_geI : OpR X (compareOp .GtE) rGeI := op_ge
def rSubI : R2 := rI0 fun i j => .int (i - j)
theorem op_subI : OpR X (binaryOp .Sub) rSubI := op_sub
def rMulI : R2 := rI CMul fun i j => .int (i * j)
theorem op_mulI : OpR X (binaryOp .Mult) rMulI := op_mul
def rModI : R2 := rI (fun _ j => 0 < j) fun i j => .int (i % j)
theorem op_modI : OpR X (binaryOp .Mod) rModI := op_mod
def rDivW : R2 := rI CDivW fun i j => .int (i / j)
theorem op_divW : OpR X (binaryOp .FloorDiv) rDivW := op_fdivW
def rIsNo : R2 := fun x y H Q => y = .non ∧ Q (.bl (decide (x = .non))) H
theorem op_isNo : OpR X (compareOp .Is) rIsNo := op_isN
def rPowI : R2 := rI CPow fun i j => .int (i ^ j.toNat)
theorem op_powI : OpR X (binaryOp .Pow) rPowI := op_pow
/-- one sign in a text -/
def rInSg : R2 := fun x y H Q => ∃ (c : Nat) (z : Str), x = .str ⟨#[c]⟩ ∧ y = .str z ∧ Q (.bl (decide (c ∈ z.cps.toList))) H
theorem op_inSg : OpR X (compareOp .In) rInSg := op_in_sign
/-- in, of any data, in a tuple or a list -/
def rInSeq (K : PySem.W.Frag) : R2 := fun x y H Q => ∃ d ds, Dp K H x d ∧ (Dp K H y (.list ds) ∨ Dp K H y (.tuple ds)) ∧ SeqAt.shaped d = true ∧ SeqAt.shaped (.list ds) = true ∧ Q (.bl (ds.any fun z => PyData.eqv z d)) H
theorem op_inSeq (hu : X.A.units + 65 < cLine) : OpR X (compareOp .In) (rInSeq X.K) := by
  intro pins s σ H x y v u Q I rx ry h
  obtain ⟨d, ds, hd, he, sd, se, q⟩ := h
  obtain ⟨as, r1⟩ := Dp.reads I d x v hd rx
  rcases he with he | he
  · obtain ⟨bs, r2⟩ := Dp.reads I (.list ds) y u he ry
    exact SeqAt.in_list_reads r2 r1 (SeqAt.canLay_of_shaped se) (SeqAt.canLay_of_shaped sd) (room_in_shaped sd hu) ⟨.bl _, H, I, rfl, q⟩
  · obtain ⟨bs, r2⟩ := Dp.reads I (.tuple ds) y u he ry
    exact SeqAt.in_tuple_reads r2 r1 (SeqAt.canLay_of_shaped se) (SeqAt.canLay_of_shaped sd) (room_in_shaped sd hu) ⟨.bl _, H, I, rfl, q⟩
def rNinSeq (K : PySem.W.Frag) : R2 := fun x y H Q => ∃ d ds, Dp K H x d ∧ (Dp K H y (.list ds) ∨ Dp K H y (.tuple ds)) ∧ SeqAt.shaped d = true ∧ SeqAt.shaped (.list ds) = true ∧ Q (.bl (!ds.any fun z => PyData.eqv z d)) H
theorem op_ninSeq (hu : X.A.units + 65 < cLine) : OpR X (compareOp .NotIn) (rNinSeq X.K) := by
  intro pins s σ H x y v u Q I rx ry h
  obtain ⟨d, ds, hd, he, sd, se, q⟩ := h
  obtain ⟨as, r1⟩ := Dp.reads I d x v hd rx
  rcases he with he | he
  · obtain ⟨bs, r2⟩ := Dp.reads I (.list ds) y u he ry
    exact SeqAt.notIn_list_reads r2 r1 (SeqAt.canLay_of_shaped se) (SeqAt.canLay_of_shaped sd) (room_in_shaped sd hu) ⟨.bl _, H, I, rfl, q⟩
  · obtain ⟨bs, r2⟩ := Dp.reads I (.tuple ds) y u he ry
    exact SeqAt.notIn_tuple_reads r2 r1 (SeqAt.canLay_of_shaped se) (SeqAt.canLay_of_shaped sd) (room_in_shaped sd hu) ⟨.bl _, H, I, rfl, q⟩
def rSl (K : PySem.W.Frag) : V → Option Int → Option Int → Hp → VK → Prop := fun x lo hi H Q => rSlL K x lo hi H Q ∨ rSlA K x lo hi H Q ∨ rSlS x lo hi H Q
theorem sl_any : SlR X (rSl X.K) := SlR.or sl_list (SlR.or sl_tupA sl_str)
def rTupleOf (K : PySem.W.Frag) : List V → Hp → VK → Prop := fun xs H Q => ∃ p ys, xs = [.ref p] ∧ ((SqL K H p ys ∧ ∀ l, H l = none → Q (.ref l) (upd H l (.tup ys))) ∨ (SqT K H p ys ∧ Q (.ref p) H))
theorem call_tupleOf : CallR X (.type "tuple") (rTupleOf X.K) := call_tuple_of
def rLenA (K : PySem.W.Frag) : List V → Hp → VK → Prop := fun xs H Q => ∃ x n, xs = [x] ∧ LenV K x H n ∧ Q (.int n) H
theorem call_lenA : CallR X (.builtin "len") (rLenA X.K) := call_len
def rIntOf : List V → Hp → VK → Prop := fun xs H Q => (∃ i, xs = [.int i] ∧ Q (.int i) H) ∨ ∃ k, xs = [.bl k] ∧ Q (.int (if k then 1 else 0)) H
theorem call_intOf : CallR X (.type "int") rIntOf := call_int1
theorem pt_tru {a : Expr} {ta : TE} (ha : PE X a ta) (he : ∀ whole, isTrue a X.env whole = (do let v ← whole; standAt a.pos; holding [v] (truthy v)) := by intro _; rfl) : PT X a (tTru X.K ta) := pt_truth ha he
end

/-! ### what these do to data -/
def fPlus : PyData → PyData → (PyData → Prop) → Prop
  | .int i, .int j, P => P (.int (i + j))
  | .str i, .str j, P => i.length + j.length ≤ 100000 ∧ P (.str (i ++ j))
  | .tuple xs, .tuple ys, P => xs.length + ys.length ≤ 100000 ∧ P (.tuple (xs ++ ys))
  | .list xs, .list ys, P => xs.length + ys.length ≤ 100000 ∧ P (.list (xs ++ ys))
  | _, _, _ => False
def fEq (a b : PyData) (P : PyData → Prop) : Prop := SeqAt.shaped a = true ∧ SeqAt.shaped b = true ∧ P (.bool (PyData.eqv a b))
def fNe (a b : PyData) (P : PyData → Prop) : Prop := SeqAt.shaped a = true ∧ SeqAt.shaped b = true ∧ P (.bool (!PyData.eqv a b))
def fLess : PyData → PyData → (PyData → Prop) → Prop
  | .int i, .int j, P => P (.bool (decide (i < j)))
  | .str i, .str j, P => P (.bool (decide (i.cps.toList < j.cps.toList)))
  | _, _, _ => False
def fI (C : Int → Int → Prop) (g : Int → Int → PyData) : PyData → PyData → (PyData → Prop) → Prop
  | .int i, .int j, P => C i j ∧ P (g i j)
  | _, _, _ => False
def fIsNo : PyData → PyData → (PyData → Prop) → Prop
  | .none, .none, P => P (.bool true)
  | _, .none, P => P (.bool false)
  | _, _, _ => False
def fInSg : PyData → PyData → (PyData → Prop) → Prop
  | .str x, .str z, P => ∃ c, x = ⟨#[c]⟩ ∧ P (.bool (decide (c ∈ z.cps.toList)))
  | _, _, _ => False
def fInSeq (a : PyData) : PyData → (PyData → Prop) → Prop
  | .list ds, P | .tuple ds, P => SeqAt.shaped a = true ∧ SeqAt.shaped (.list ds) = true ∧ P (.bool (ds.any fun z => PyData.eqv z a))
  | _, _ => False
def fNinSeq (a : PyData) : PyData → (PyData → Prop) → Prop
  | .list ds, P | .tuple ds, P => SeqAt.shaped a = true ∧ SeqAt.shaped (.list ds) = true ∧ P (.bool (!ds.any fun z => PyData.eqv z a))
  | _, _ => False
def fIx : PyData → PyData → (PyData → Prop) → Prop
  | .list ds, .int i, P | .tuple ds, .int i, P => ∃ d, atI ds i = some d ∧ P d
  | .str z, .int i, P => z.length ≤ 100000 ∧ ∃ c, atI z.cps.toList i = some c ∧ P (.str ⟨#[c]⟩)
  | _, _, _ => False
def cutD (xs : List PyData) (lo hi : Option Int) : List PyData := (xs.drop (HT.sIx xs.length 0 lo)).take (HT.sIx xs.length xs.length hi - HT.sIx xs.length 0 lo)
def fSl : PyData → Option Int → Option Int → (PyData → Prop) → Prop
  | .list ds, lo, hi, P => P (.list (cutD ds lo hi))
  | .tuple ds, lo, hi, P => P (.tuple (cutD ds lo hi))
  | .str z, lo, hi, P => z.length ≤ 100000 ∧ P (.str (cutS z lo hi))
  | _, _, _, _ => False
def fTupleOf : List PyData → (PyData → Prop) → Prop
  | [.list ds], P | [.tuple ds], P => P (.tuple ds)
  | _, _ => False
def fLenA : List PyData → (PyData → Prop) → Prop
  | [.list ds], P | [.tuple ds], P => P (.int ds.length)
  | [.str z], P => z.length ≤ 100000 ∧ P (.int z.length)
  | _, _ => False
def fIntOf : List PyData → (PyData → Prop) → Prop
  | [.int i], P => P (.int i)
  | _, _ => False
def fAll : List PyData → (PyData → Prop) → Prop
  | [.list ds], P => ∃ bs : List Bool, ds = bs.map .bool ∧ P (.bool (bs.all id))
  | _, _ => False
def fAny : List PyData → (PyData → Prop) → Prop
  | [.list ds], P => ∃ bs : List Bool, ds = bs.map .bool ∧ P (.bool (bs.any id))
  | _, _ => False
section
variable {K : PySem.W.Frag}
theorem szl {n : Nat} (h : n ≤ 100000) : n ≤ sizeLine := Nat.le_trans h (by decide)
theorem lstAt {B : Addr → Bool} {H : Hp} {p : Addr} {ds : List PyData} (h : Dp K (Hide B H) (.ref p) (.list ds)) : ∃ vs, SqL K H p vs ∧ SqL K (Hide B H) p vs ∧ DpAll K (Hide B H) vs ds := by
  cases h with
  | lst hs ha => exact ⟨_, same_hide.seq hs, hs, ha⟩
theorem tupAt {B : Addr → Bool} {H : Hp} {p : Addr} {ds : List PyData} (h : Dp K (Hide B H) (.ref p) (.tuple ds)) : ∃ vs, SqT K H p vs ∧ SqT K (Hide B H) p vs ∧ DpAll K (Hide B H) vs ds := by
  cases h with
  | tup hs ha => exact ⟨_, seqT same_hide hs, hs, ha⟩
theorem isl {G : Hp} {v : V} {ds : List PyData} (h : Dp K G v (.list ds)) : ∃ p, v = .ref p := by
  cases h with
  | lst hs ha => exact ⟨_, rfl⟩
theorem ist {G : Hp} {v : V} {ds : List PyData} (h : Dp K G v (.tuple ds)) : ∃ p, v = .ref p := by
  cases h with
  | tup hs ha => exact ⟨_, rfl⟩
theorem newL {B : Addr → Bool} {H : Hp} {p : Addr} {vs : List V} {ds : List PyData} (hp : H p = none) (hb : ∀ c, B c = true → H c ≠ none) (hd : DpAll K (Hide B H) vs ds) : Dp K (Hide B (upd H p (.lst vs))) (.ref p) (.list ds) := by
  have nb : B p = false := by
    cases e : B p with
    | false => rfl
    | true => exact absurd hp (hb p e)
  have hg : Hide B (upd H p (.lst vs)) p = some (.lst vs) := by rw [hide_f nb, upd_same]
  exact .lst (SqL.of hg) (dps_mono (new_same hp) _ _ hd)
theorem newT {B : Addr → Bool} {H : Hp} {p : Addr} {vs : List V} {ds : List PyData} (hp : H p = none) (hb : ∀ c, B c = true → H c ≠ none) (hd : DpAll K (Hide B H) vs ds) : Dp K (Hide B (upd H p (.tup vs))) (.ref p) (.tuple ds) := by
  have nb : B p = false := by
    cases e : B p with
    | false => rfl
    | true => exact absurd hp (hb p e)
  have hg : Hide B (upd H p (.tup vs)) p = some (.tup vs) := by rw [hide_f nb, upd_same]
  exact .tup (SqT.of hg) (dps_mono (new_same hp) _ _ hd)
theorem ao_plus : AO K (rPlus K) fPlus := fun B H x y a b P hb hx hy p Q q => by
  cases a <;> cases b <;> first | exact p.elim | skip
  case int.int i j => cases hx; cases hy; exact .inl ⟨i, j, rfl, rfl, q _ _ H (.inl rfl) (.int _) p⟩
  case str.str i j => cases hx; cases hy; exact .inr (.inl ⟨i, j, rfl, rfl, szl p.1, q _ _ H (.inl rfl) (.str _) p.2⟩)
  case list.list xs ys =>
    obtain ⟨c, rfl⟩ := isl hx
    obtain ⟨c', rfl⟩ := isl hy
    obtain ⟨vs, s1, _, d1⟩ := lstAt hx
    obtain ⟨ws, s2, _, d2⟩ := lstAt hy
    exact .inr (.inr (.inr ⟨c, c', vs, ws, rfl, rfl, s1, s2, szl (by rw [dps_len d1, dps_len d2]; exact p.1), fun l hl => q _ (.list (xs ++ ys)) _ (.inr ⟨l, _, hl, rfl⟩) (newL hl hb (dps_app d1 d2)) p.2⟩))
  case tuple.tuple xs ys =>
    obtain ⟨c, rfl⟩ := ist hx
    obtain ⟨c', rfl⟩ := ist hy
    obtain ⟨vs, s1, _, d1⟩ := tupAt hx
    obtain ⟨ws, s2, _, d2⟩ := tupAt hy
    refine .inr (.inr (.inl ⟨c, c', vs, ws, rfl, rfl, s1, s2, szl (by rw [dps_len d1, dps_len d2]; exact p.1), fun e => ?_, fun _ e => ?_, fun _ _ l hl => q _ (.tuple (xs ++ ys)) _ (.inr ⟨l, _, hl, rfl⟩) (newT hl hb (dps_app d1 d2)) p.2⟩))
    · have e1 : xs = [] := by have := dps_len d1; rw [e] at this; exact List.length_eq_zero_iff.mp this.symm
      subst e1
      exact q _ (.tuple ys) H (.inl rfl) hy p.2
    · have e1 : ys = [] := by have := dps_len d2; rw [e] at this; exact List.length_eq_zero_iff.mp this.symm
      subst e1
      exact q _ (.tuple xs) H (.inl rfl) hx (by simpa using p.2)
theorem ao_eq : AO K (rEqD K) fEq := fun B H x y a b P hb hx hy p Q q => ⟨a, b, dp_mono same_hide _ _ hx, dp_mono same_hide _ _ hy, p.1, p.2.1, q _ _ H (.inl rfl) (.bl _) p.2.2⟩
theorem ao_ne : AO K (rNeD K) fNe := fun B H x y a b P hb hx hy p Q q => ⟨a, b, dp_mono same_hide _ _ hx, dp_mono same_hide _ _ hy, p.1, p.2.1, q _ _ H (.inl rfl) (.bl _) p.2.2⟩
theorem ao_less : AO K rLess fLess := fun B H x y a b P hb hx hy p Q q => by
  cases a <;> cases b <;> first | exact p.elim | skip
  case int.int i j => cases hx; cases hy; exact .inl ⟨i, j, rfl, rfl, q _ _ H (.inl rfl) (.bl _) p⟩
  case str.str i j => cases hx; cases hy; exact .inr ⟨i, j, rfl, rfl, q _ _ H (.inl rfl) (.bl _) p⟩
theorem ao_I {C : Int → Int → Prop} {g : Int → Int → V} {g' : Int → Int → PyData} (hg : ∀ G i j, Dp K G (g i j) (g' i j)) : AO K (rI C g) (fI C g') := fun B H x y a b P hb hx hy p Q q => by
  cases a <;> cases b <;> first | exact p.elim | skip
  case int.int i j => cases hx; cases hy; exact ⟨i, j, rfl, rfl, p.1, q _ _ H (.inl rfl) (hg _ _ _) p.2⟩
theorem ao_I0 {g : Int → Int → V} {g' : Int → Int → PyData} (hg : ∀ G i j, Dp K G (g i j) (g' i j)) : AO K (rI0 g) (fI (fun _ _ => True) g') := fun B H x y a b P hb hx hy p Q q => by
  cases a <;> cases b <;> first | exact p.elim | skip
  case int.int i j => cases hx; cases hy; exact ⟨i, j, rfl, rfl, q _ _ H (.inl rfl) (hg _ _ _) p.2⟩
theorem ao_le : AO K rLeI (fI (fun _ _ => True) fun i j => .bool (decide (i ≤ j))) := ao_I0 fun _ _ _ => .bl _
theorem ao_gt : AO K rGtI (fI (fun _ _ => True) fun i j => .bool (decide (j < i))) := ao_I0 fun _ _ _ => .bl _
theorem ao_ge : AO K rGeI (fI (fun _ _ => True) fun i j => .bool (decide (j ≤ i))) := ao_I0 fun _ _ _ => .bl _
theorem ao_sub : AO K rSubI (fI (fun _ _ => True) fun i j => .int (i - j)) := ao_I0 fun _ _ _ => .int _
theorem ao_mul : AO K rMulI (fI CMul fun i j => .int (i * j)) := ao_I fun _ _ _ => .int _
theorem ao_mod : AO K rModI (fI (fun _ j => 0 < j) fun i j => .int (i % j)) := ao_I fun _ _ _ => .int _
theorem ao_div : AO K rDivW (fI CDivW fun i j => .int (i / j)) := ao_I fun _ _ _ => .int _
theorem ao_pow : AO K rPowI (fI CPow fun i j => .int (i ^ j.toNat)) := ao_I fun _ _ _ => .int _
theorem ao_isNo : AO K rIsNo fIsNo := fun B H x y a b P hb hx hy p Q q => by
  cases b <;> first | (exfalso; cases a <;> exact p) | skip
  cases hy
  refine ⟨rfl, ?_⟩
  cases a with
  | none => cases hx; exact q _ (.bool true) H (.inl rfl) (.bl _) p
  | bool b => cases hx; exact q _ (.bool false) H (.inl rfl) (.bl _) p
  | int b => cases hx; exact q _ (.bool false) H (.inl rfl) (.bl _) p
  | str b => cases hx; exact q _ (.bool false) H (.inl rfl) (.bl _) p
  | list b => cases hx; exact q _ (.bool false) H (.inl rfl) (.bl _) p
  | tuple b => cases hx; exact q _ (.bool false) H (.inl rfl) (.bl _) p
  | dict b => cases hx
theorem ao_inSg : AO K rInSg fInSg := fun B H x y a b P hb hx hy p Q q => by
  cases a <;> cases b <;> first | exact p.elim | skip
  case str.str i j => cases hx; cases hy; obtain ⟨c, e, p⟩ := p; subst e; exact ⟨c, j, rfl, rfl, q _ _ H (.inl rfl) (.bl _) p⟩
theorem ao_inSeq : AO K (rInSeq K) fInSeq := fun B H x y a b P hb hx hy p Q q => by
  cases b <;> first | exact p.elim | skip
  case list ds => exact ⟨a, ds, dp_mono same_hide _ _ hx, .inl (dp_mono same_hide _ _ hy), p.1, p.2.1, q _ _ H (.inl rfl) (.bl _) p.2.2⟩
  case tuple ds => exact ⟨a, ds, dp_mono same_hide _ _ hx, .inr (dp_mono same_hide _ _ hy), p.1, p.2.1, q _ _ H (.inl rfl) (.bl _) p.2.2⟩
theorem ao_ninSeq : AO K (rNinSeq K) fNinSeq := fun B H x y a b P hb hx hy p Q q => by
  cases b <;> first | exact p.elim | skip
  case list ds => exact ⟨a, ds, dp_mono same_hide _ _ hx, .inl (dp_mono same_hide _ _ hy), p.1, p.2.1, q _ _ H (.inl rfl) (.bl _) p.2.2⟩
  case tuple ds => exact ⟨a, ds, dp_mono same_hide _ _ hx, .inr (dp_mono same_hide _ _ hy), p.1, p.2.1, q _ _ H (.inl rfl) (.bl _) p.2.2⟩
theorem atI_dps {G : Hp} {vs : List V} {ds : List PyData} {i : Int} {d : PyData} (h : DpAll K G vs ds) (e : atI ds i = some d) : ∃ v, atI vs i = some v ∧ Dp K G v d := by
  unfold atI at e ⊢
  rw [dps_len h]
  cases x : ixN ds.length i with
  | none => rw [x] at e; cases e
  | some j => rw [x] at e; exact dps_at h e
theorem ao_ix : AO K (rIx K) fIx := fun B H x y a b P hb hx hy p Q q => by
  cases a <;> cases b <;> first | exact p.elim | skip
  case list.int ds i =>
    cases hy
    obtain ⟨c, rfl⟩ := isl hx
    obtain ⟨vs, s1, _, d1⟩ := lstAt hx
    obtain ⟨d, e, p⟩ := p
    obtain ⟨v, e2, hv⟩ := atI_dps d1 e
    exact .inl ⟨c, vs, i, v, rfl, rfl, s1, e2, q _ d H (.inl rfl) hv p⟩
  case tuple.int ds i =>
    cases hy
    obtain ⟨c, rfl⟩ := ist hx
    obtain ⟨vs, s1, _, d1⟩ := tupAt hx
    obtain ⟨d, e, p⟩ := p
    obtain ⟨v, e2, hv⟩ := atI_dps d1 e
    exact .inr (.inl ⟨c, vs, i, v, rfl, rfl, s1, e2, q _ d H (.inl rfl) hv p⟩)
  case str.int z i =>
    cases hy
    cases hx
    obtain ⟨hl, c, e, p⟩ := p
    exact .inr (.inr ⟨z, i, c, rfl, rfl, szl hl, e, q _ _ H (.inl rfl) (.str _) p⟩)
theorem dps_cut {G : Hp} {vs : List V} {ds : List PyData} (h : DpAll K G vs ds) (lo hi : Option Int) : DpAll K G (cutV vs lo hi) (cutD ds lo hi) := by
  unfold cutV cutD
  rw [dps_len h]
  exact dps_take _ (dps_drop _ h)
variable {as : List Sv} {M : Mm} {te : TE} {tl th : TO} {P : PyData → Mm → Prop}
theorem w_sl (h : W K te as M fun d M1 => WO K tl as M1 fun lo M2 => WO K th as M2 fun hi M3 => fSl d lo hi fun r => P r M3) : W K (tSl (rSl K) te tl th) as M P := fun S H0 σ H k r Q q =>
  h S H0 σ H k r _ fun v H1 d M1 k1 e1 b1 h2 => h2 S H0 σ H1 k1 (r.mono e1) _ fun lo H2 M2 k2 e2 h3 => h3 S H0 σ H2 k2 (r.mono (e1.trans e2)) _ fun hi H3 M3 k3 e3 p => by
    have b3 := dp_mono (e2.trans e3) _ _ b1
    have e4 := e1.trans (e2.trans e3)
    cases d <;> first | exact p.elim | skip
    case list ds =>
      obtain ⟨c, rfl⟩ := isl b3
      obtain ⟨vs, s1, _, d1⟩ := lstAt b3
      exact .inl ⟨c, vs, rfl, s1, fun l hl => q _ _ (.list (cutD ds lo hi)) M3 (ok_new k3 hl) (e4.trans (new_same hl)) (newL hl (bm_trk k3) (dps_cut d1 lo hi)) p⟩
    case tuple ds =>
      obtain ⟨c, rfl⟩ := ist b3
      obtain ⟨vs, s1, _, d1⟩ := tupAt b3
      refine .inr (.inl ⟨c, vs, rfl, s1, fun e => ?_, fun _ l hl => q _ _ (.tuple (cutD ds lo hi)) M3 (ok_new k3 hl) (e4.trans (new_same hl)) (newT hl (bm_trk k3) (dps_cut d1 lo hi)) p⟩)
      have ec : cutD ds lo hi = ds := by
        unfold cutD
        rw [dps_len d1] at e
        rw [e.1, e.2]
        simp
      have p : P (.tuple (cutD ds lo hi)) M3 := p
      rw [ec] at p
      exact q _ H3 (.tuple ds) M3 k3 e4 b3 p
    case str z =>
      cases b3
      exact .inr (.inr ⟨z, rfl, szl p.1, q _ H3 _ M3 k3 e4 (.str _) p.2⟩)
theorem ac_tupleOf : AC K (rTupleOf K) fTupleOf := fun B H xs ds P hb hd p Q q => by
  match ds, hd, p with
  | [.list es], .cons h1 .nil, p =>
    obtain ⟨c, rfl⟩ := isl h1
    obtain ⟨vs, s1, _, d1⟩ := lstAt h1
    exact ⟨c, vs, rfl, .inl ⟨s1, fun l hl => q _ (.tuple es) _ (.inr ⟨l, _, hl, rfl⟩) (newT hl hb d1) p⟩⟩
  | [.tuple es], .cons h1 .nil, p =>
    obtain ⟨c, rfl⟩ := ist h1
    obtain ⟨vs, s1, _, d1⟩ := tupAt h1
    exact ⟨c, vs, rfl, .inr ⟨s1, q _ (.tuple es) H (.inl rfl) h1 p⟩⟩
theorem ac_len : AC K (rLenA K) fLenA := fun B H xs ds P hb hd p Q q => by
  match ds, hd, p with
  | [.list es], .cons h1 .nil, p =>
    obtain ⟨c, rfl⟩ := isl h1
    obtain ⟨vs, s1, _, d1⟩ := lstAt h1
    exact ⟨.ref c, es.length, rfl, .inl ⟨vs, s1, (dps_len d1).symm⟩, q _ _ H (.inl rfl) (.int _) p⟩
  | [.tuple es], .cons h1 .nil, p =>
    obtain ⟨c, rfl⟩ := ist h1
    obtain ⟨vs, s1, _, d1⟩ := tupAt h1
    exact ⟨.ref c, es.length, rfl, .inr ⟨vs, s1, (dps_len d1).symm⟩, q _ _ H (.inl rfl) (.int _) p⟩
  | [.str z], .cons h1 .nil, p =>
    cases h1
    exact ⟨.str z, z.length, rfl, ⟨szl p.1, rfl⟩, q _ _ H (.inl rfl) (.int _) p.2⟩
theorem ac_intOf : AC K rIntOf fIntOf := fun B H xs ds P hb hd p Q q => by
  match ds, hd, p with
  | [.int i], .cons h1 .nil, p =>
    cases h1
    exact .inl ⟨i, rfl, q _ _ H (.inl rfl) (.int _) p⟩
theorem dps_bls {G : Hp} : ∀ {vs : List V} {bs : List Bool}, DpAll K G vs (bs.map .bool) → vs = bs.map .bl
  | [], [], _ => rfl
  | _ :: _, _ :: _, h => by
    cases h with
    | cons h1 h2 => cases h1; rw [dps_bls h2]; rfl
  | [], _ :: _, h => by cases h
  | _ :: _, [], h => by cases h
theorem ac_all : AC K (rAll K) fAll := fun B H xs ds P hb hd p Q q => by
  match ds, hd, p with
  | [.list es], .cons h1 .nil, p =>
    obtain ⟨c, rfl⟩ := isl h1
    obtain ⟨vs, s1, _, d1⟩ := lstAt h1
    obtain ⟨bs, e, p⟩ := p
    subst e
    rw [dps_bls d1] at s1
    exact ⟨c, bs, rfl, s1, q _ _ H (.inl rfl) (.bl _) p⟩
theorem ac_any : AC K (rAny K) fAny := fun B H xs ds P hb hd p Q q => by
  match ds, hd, p with
  | [.list es], .cons h1 .nil, p =>
    obtain ⟨c, rfl⟩ := isl h1
    obtain ⟨vs, s1, _, d1⟩ := lstAt h1
    obtain ⟨bs, e, p⟩ := p
    subst e
    rw [dps_bls d1] at s1
    exact ⟨c, bs, rfl, s1, q _ _ H (.inl rfl) (.bl _) p⟩
/-! isinstance -/
def tyD : PyData → String
  | .none => "NoneType"
  | .bool _ => "bool"
  | .int _ => "int"
  | .str _ => "str"
  | .list _ => "list"
  | .tuple _ => "tuple"
  | .dict _ => "dict"
def isD (d : PyData) (n : String) : Bool := tyD d == n || (n == "int" && tyD d == "bool")
theorem kit_tbl : (["NoneType", "bool", "int", "str", "list", "tuple", "dict"].all fun a => ["int", "bool", "str", "list", "tuple"].all fun b => kitB a b == some (a == b || (b == "int" && a == "bool"))) = true := by decide +kernel
theorem kit_isD (d : PyData) (n : String) (hn : n ∈ ["int", "bool", "str", "list", "tuple"]) : kitB (tyD d) n = some (isD d n) := by
  have h := List.all_eq_true.mp kit_tbl (tyD d) (by cases d <;> simp [tyD])
  have h2 := List.all_eq_true.mp h n hn
  exact eq_of_beq h2
theorem tyx {B : Addr → Bool} {H : Hp} {v : V} {d : PyData} (h : Dp K (Hide B H) v d) : TyX K H v (.type (tyD d)) := by
  cases h with
  | non => exact .base .non
  | bl b => exact .base (.bl b)
  | int i => exact .base (.int i)
  | str x => exact .base (.str x)
  | lst hs ha =>
    rcases same_hide.seq hs with (h | ⟨o, h⟩) | ⟨o, its, n, hk, hc, _⟩
    · exact .base (.lst h)
    · exact .base (.frz h)
    · exact .kList hk hc
  | tup hs ha =>
    rcases seqT same_hide hs with (h | ⟨o, h⟩) | ⟨o, its, n, hk, hc, _⟩
    · exact .base (.tup h)
    · exact .fTuple h
    · exact .kTuple hk hc
theorem w_isi {n : String} (hn : n ∈ ["int", "bool", "str", "list", "tuple"]) (h : W K te as M fun d M' => P (.bool (isD d n)) M') : W K (tCB (rIsi K) (tCons te (tCons (tC (.ty n)) tNil))) as M P := fun S H0 σ H k r Q q =>
  h S H0 σ H k r _ fun v H1 d M1 k1 e1 b1 p => ⟨v, .ty n, .type (tyD d), .type n, isD d n, rfl, .ty n, tyx b1, kit_ty (kit_isD d n hn), q _ H1 _ M1 k1 e1 (.bl _) p⟩
theorem w_isi2 {n m : String} (hn : n ∈ ["int", "bool", "str", "list", "tuple"]) (hm : m ∈ ["int", "bool", "str", "list", "tuple"]) (h : W K te as M fun d M' => P (.bool (isD d n || isD d m)) M') :
    W K (tCB (rIsiT K) (tCons te (tCons (tTup (tCons (tC (.ty n)) (tCons (tC (.ty m)) tNil))) tNil))) as M P := fun S H0 σ H k r Q q =>
  h S H0 σ H k r _ fun v H1 d M1 k1 e1 b1 p => by
    refine ⟨by show 2 ≤ sizeLine; decide, fun a ha => ?_⟩
    have b2 : Dp K (Hide (Bm S M1) (upd H1 a (.tup [.ty n, .ty m]))) v d := dp_mono (new_same ha) _ _ b1
    refine ⟨v, a, [.ty n, .ty m], .type (tyD d), [.type n, .type m], isD d n || isD d m, rfl, upd_same, .cons (.ty n) (.cons (.ty m) .nil), tyx b2, ?_, q _ _ _ M1 (ok_new k1 ha) (e1.trans (new_same ha)) (.bl _) p⟩
    refine kitAny_cons (kit_ty (kit_isD d n hn)) (fun e => ?_) (fun e => by rw [e]; rfl)
    rw [e, Bool.false_or]
    exact kitAny_cons (kit_ty (kit_isD d m hm)) (fun e => by rw [e]; exact kitAny_nil) (fun e => e)
/-! chains of comparisons -/
variable {ta tb tc : TE}
theorem w_chain {r r' : R2} {f f' : PyData → PyData → (PyData → Prop) → Prop} (ho : AO K r f) (ho' : AO K r' f') (h : W K ta as M fun a M1 => W K tb as M1 fun b M2 => f a b fun c => ∃ k, c = .bool k ∧ if k = true then W K tc as M2 fun e M3 => f' b e fun z => P z M3 else P (.bool false) M2) :
    W K (tChain r r' ta tb tc) as M P := fun S H0 σ H k rs Q q =>
  h S H0 σ H k rs _ fun x H1 a M1 k1 e1 b1 h2 => h2 S H0 σ H1 k1 (rs.mono e1) _ fun y H2 b M2 k2 e2 b2 p => ho _ H2 x y a b _ (bm_trk k2) (dp_mono e2 _ _ b1) b2 p _ fun v d H3 hc hd ⟨kk, ek, pk⟩ => by
    subst ek
    cases hd
    refine ⟨kk, rfl, ?_⟩
    have k3 : Ok0 K S H0 H3 M2 ∧ Same (Gh S M2 H2) (Gh S M2 H3) := by
      rcases hc with rfl | ⟨c, o, hn, rfl⟩
      · exact ⟨k2, Same.refl _⟩
      · exact ⟨ok_new k2 hn, new_same hn⟩
    cases kk with
    | false => exact q _ H3 _ M2 k3.1 ((e1.trans e2).trans k3.2) (.bl _) pk
    | true =>
      refine (show W K tc as M2 _ from pk) S H0 σ H3 k3.1 (rs.mono ((e1.trans e2).trans k3.2)) _ fun w H4 e M3 k4 e4 b4 p4 => ?_
      have e5 := ((e1.trans e2).trans k3.2).trans e4
      exact ho' _ H4 y w b e _ (bm_trk k4) (dp_mono (k3.2.trans e4) _ _ b2) b4 p4 _ fun v d H5 hc hd pd => by
        rcases hc with rfl | ⟨c, o, hn, rfl⟩
        · exact q v _ d M3 k4 e5 hd pd
        · exact q v _ d M3 (ok_new k4 hn) (e5.trans (new_same hn)) hd pd
end
end Ab

set_option Elab.async false
set_option linter.all false
set_option maxRecDepth 100000
set_option maxHeartbeats 4000000
namespace Ab
open PySem PySem.Spec PyProof.Rows L2
section
variable {K : PySem.W.Frag} {as : List Sv} {M : Mm} {te tb : TE} {ta : TA} {P : PyData → Mm → Prop} {A : AE} {p : Addr} {fl : Bool} {xs : List PyData}
/-- an item of an own list -/
theorem w_ixown {i : Nat} (hi : as[i]? = some (.own p)) (h : W K tb as M fun b M1 => ∃ fl ys, (p, fl, ys) ∈ M1 ∧ fIx (.list ys) b fun d => P d M1) : W K (tOp (rIx K) (tVar i) tb) as M P := fun S H0 σ H k r Q q => by
  obtain ⟨o, e1, e2⟩ := r.at_ i _ hi
  cases (show o = some (V.ref p) from e2)
  refine ⟨.ref p, e1, h S H0 σ H k r _ fun v H1 b M1 k1 e1 b1 ⟨fl, ys, hm, p1⟩ => ?_⟩
  obtain ⟨us, hp, hu⟩ := k1.mem _ hm
  cases b with
  | int j =>
    cases b1
    obtain ⟨d, e, p1⟩ := p1
    obtain ⟨w, e2, hw⟩ := atI_dps hu e
    exact .inl ⟨p, us, j, w, rfl, rfl, SqL.of hp, e2, q w H1 d M1 k1 e1 hw p1⟩
  | none => exact p1.elim
  | bool _ => exact p1.elim
  | str _ => exact p1.elim
  | list _ => exact p1.elim
  | tuple _ => exact p1.elim
  | dict _ => exact p1.elim
/-- own[k] = e -/
theorem ws_setown {i k : Nat} (hi : as[i]? = some (.own p)) (h : W K te as M fun d M' => ∃ fl ys, (p, fl, ys) ∈ M' ∧ k < ys.length ∧ A.nx as (mset M' p (ys.set k d))) : WS K (tAsg te (gSub (tVar i) (tC (.int (k : Int))) rSetL)) as M A := fun S H0 σ H D ok r n _ _ _ =>
  h S H0 σ H ok r _ fun v H1 d M1 k1 e1 b1 ⟨fl, ys, hm, hk, p1⟩ => by
    obtain ⟨o, e3, e2⟩ := r.at_ i _ hi
    cases (show o = some (V.ref p) from e2)
    obtain ⟨us, hp, hu⟩ := k1.mem _ hm
    have ln := dps_len hu
    refine ⟨.ref p, e3, p, us, (k : Int), k, rfl, rfl, hp, ?_, ?_⟩
    · unfold ixN
      rw [if_pos (by omega), if_pos (by show (k : Int) < (us.length : Nat); rw [ln]; exact Int.ofNat_lt.mpr hk)]
      simp
    · have ge : Gh S (mset M1 p (ys.set k d)) (upd H1 p (.lst (us.set k v))) = Gh S M1 H1 := gh_write hm
      have hset : DpAll K (Gh S M1 H1) (us.set k v) (ys.set k d) := by
        have h1 := dps_take k hu
        have h2 := dps_drop (k + 1) hu
        rw [List.set_eq_take_append_cons_drop, List.set_eq_take_append_cons_drop, if_pos (by rw [ln]; exact hk), if_pos hk]
        exact dps_app h1 (.cons b1 h2)
      exact n σ _ as _ (ok_write k1 hm hset) (by rw [ge]; exact r.mono e1) (by rw [ge]; exact e1) p1
/-- target = value -/
theorem ws_asg {g : TG} {ts : List Nat} {f : PyData → List Sv → (List Sv → Prop) → Prop} (hg : GA K g ts f) (h : W K te as M fun d M' => f d as fun as' => A.nx as' M') : WS K (tAsg te g) as M A := fun S H0 σ H D k r n _ _ _ =>
  h S H0 σ H k r _ fun v H1 d M1 k1 e1 b1 p => hg _ H1 v d σ as _ same_hide b1 (r.mono e1) p _ fun σ' as' r' _ p' => n σ' H1 as' M1 k1 r' e1 p'
theorem ws_popG {i : Nat} {d : PyData} {g : TG} {ts : List Nat} {f : PyData → List Sv → (List Sv → Prop) → Prop} (hg : GA K g ts f) (hi : as[i]? = some (.own p)) (hm : (p, fl, xs) ∈ M) (hl : xs[xs.length - 1]? = some d) (h : f d as fun as' => A.nx as' (mset M p xs.dropLast)) :
    WS K (tAsg (tBM0 K "list" rPop (tVar i)) g) as M A := fun S H0 σ H D k r n _ _ _ => by
  obtain ⟨o, e1, e2⟩ := r.at_ i _ hi
  cases (show o = some (V.ref p) from e2)
  obtain ⟨us, hp, hu⟩ := k.mem _ hm
  have hp : H p = some (.lst us) := hp
  obtain ⟨v, hv, hvd⟩ := dps_at hu hl
  have ge : Gh S (mset M p xs.dropLast) (upd H p (.lst us.dropLast)) = Gh S M H := gh_write hm
  have k2 := ok_write (ws := us.dropLast) (ys := xs.dropLast) k hm (dps_dropLast hu)
  refine ⟨.ref p, e1, tyl k hm, p, us, v, rfl, rfl, hp, by rw [dps_len hu]; exact hv, ?_⟩
  refine hg (Gh S (mset M p xs.dropLast) (upd H p (.lst us.dropLast))) _ v d σ as _ same_hide (by rw [ge]; exact hvd) (by rw [ge]; exact r) h _ fun σ' as' r' _ p' => ?_
  exact n σ' _ as' _ k2 r' (by rw [ge]; exact Same.refl _) p'
/-! a def that hands back a new list -/
def spN (pre : List PyData → Prop) (post : List PyData → List PyData → Prop) (K : PySem.W.Frag) : Sp := fun vs H Q _ => ∃ (S : Sy) (ds : List PyData), S.I H ∧ pre ds ∧ DpAll K (Hide S.B H) vs ds ∧
  ∀ (c : Addr) H' l pl, H c = none → (∀ a o, S.B a = false → H a = some o → H' a = some o) → S.I H' → H' c = some (.lst l) → DpAll K (Hide (fun a => S.B a || a == c) H') l pl → post ds pl → Q (.ref c) H'
def WN (K : PySem.W.Frag) (ts : TS) (as : List Sv) (M : Mm) (R : List PyData → Prop) : Prop := ∀ S H0 σ H (D : Ends), Ok0 K S H0 H M → Rs K (Gh S M H) σ as →
  (∀ c H' l pl M', H0 c = none → Ok0 K S H0 H' M' → H' c = some (.lst l) → DpAll K (Hide (fun a => Bm S M' a || a == c) H') l pl → R pl → D.rt (.ref c) H') → ts D σ H
theorem wn_seq {s1 s2 : TS} {R : List PyData → Prop} (h : WS K s1 as M { nx := fun as' M' => WN K s2 as' M' R, rt := fun _ _ => False, bk := fun _ _ => False, ct := fun _ _ => False }) : WN K (tSeq s1 s2) as M R := fun S H0 σ H D k r q =>
  h S H0 σ H { D with nx := s2 D } k r (fun σ' H' as' M' k' r' _ p => p S H0 σ' H' D k' r' q) (fun _ _ _ _ _ _ p => p.elim) (fun _ _ _ _ _ _ _ p => p.elim) (fun _ _ _ _ _ _ _ p => p.elim)
theorem wn_ret {R : List PyData → Prop} (h : WA K ta as M fun ss _ => ∃ ds : List PyData, ss = ds.map .dat ∧ ds.length ≤ 100000 ∧ R ds) : WN K (tRet (tLst ta)) as M R := fun S H0 σ H D k r q =>
  h S H0 σ H k r _ fun vs H1 ss M1 k1 e1 b1 ⟨ds, es, hl, p⟩ => by
    subst es
    have bd := ra_dat b1
    refine ⟨szl (by rw [dps_len bd]; exact hl), fun c hc => q c _ vs ds M1 ?_ (ok_new k1 hc) upd_same ?_ p⟩
    · cases e : H0 c with
      | none => rfl
      | some o => have z := k1.xt c o (bm_false.mp (new_hid k1 hc)).1 e; rw [hc] at z; cases z
    · refine dps_mono (fun a o e => ?_) _ _ bd
      obtain ⟨e1, e2⟩ := hide_some e
      have ne : a ≠ c := ne_of_none e2 hc
      rw [hide_f (by rw [e1, Bool.false_or]; simpa using ne), upd_ne ne]
      exact e2
variable {pre : List PyData → Prop} {postN : List PyData → List PyData → Prop} {E : XK}
theorem to_spN {t : TS} {N : List Str} {vs : List V} {H : Hp} {Q : VK} {nx : L2.St → Hp → Prop} {n : Nat} (hn : ∀ ds, pre ds → ds.length = n) (hb : ∀ ds, pre ds → WN K t (ds.map .dat ++ List.replicate (N.length - n) .no) [] (postN ds))
    (h : spN pre postN K vs H Q E) : t { nx := nx, rt := Q } (L2.start N vs) H := by
  obtain ⟨S, ds, iv, hp, hd, q⟩ := h
  have ln : vs.length = n := by rw [dps_len hd]; exact hn ds hp
  have k0 : Ok0 K S H H [] := ⟨fun _ _ _ e => e, iv, List.nodup_nil, (fun z hz => by cases hz), (fun z hz => by cases hz)⟩
  have hg : Gh S [] H = Hide S.B H := by unfold Gh; rw [bm_nil]
  have r0 : Rs K (Gh S [] H) (L2.start N vs) (ds.map .dat ++ List.replicate (N.length - n) .no) := by
    unfold L2.start
    rw [ln, hg]
    exact ra_start _ (dat_ra hd)
  refine hb ds hp S H (L2.start N vs) H _ k0 r0 fun c H' l pl M' hc k' hl hd' p => q c H' l pl hc k'.xt k'.inv hl (dps_mono (fun a o e => ?_) _ _ hd') p
  obtain ⟨e1, e2⟩ := hide_some e
  rw [Bool.or_eq_false_iff] at e1
  rw [hide_f (by rw [(bm_false.mp e1.1).1, e1.2]; rfl)]
  exact e2
theorem ws_setN {i : Nat} (h : WA K ta as M fun ss M1 => ∃ ds : List PyData, ss = ds.map .dat ∧ pre ds ∧ ∀ c pl, (∀ q ∈ M1, q.1 ≠ c) → postN ds pl → A.nx (as.set i (.own c)) ((c, true, pl) :: M1)) : WS K (tAsg (tCall (spN pre postN K) [] E ta) (gName i)) as M A := fun S H0 σ H D k r n _ _ _ =>
  h S H0 σ H k r _ fun vs H1 ss M1 k1 e1 b1 ⟨ds, es, hp, cont⟩ => by
    subst es
    rw [List.append_nil]
    refine ⟨syAt S M1 H1 fun z hz => by obtain ⟨us, a, _⟩ := k1.mem z hz; rw [a]; simp, ds, ⟨k1.inv, fun _ _ => rfl⟩, hp, ra_dat b1, fun c H' l pl hc xt iv hl hd pd => ?_⟩
    have nb := bm_false.mp (new_hid k1 hc)
    have hbm : Bm S ((c, true, pl) :: M1) = fun a => Bm S M1 a || a == c := by
      funext a
      unfold Bm
      rw [List.any_cons]
      have : ((c, true, pl).1 == a) = (a == c) := by
        show (c == a) = (a == c)
        rw [Bool.eq_iff_iff]; simp; exact ⟨fun e => e.symm, fun e => e.symm⟩
      rw [this]
      cases S.B a <;> cases (a == c) <;> simp
    have sm : Same (Gh S M1 H1) (Gh S ((c, true, pl) :: M1) H') := fun a o e => by
      obtain ⟨e1, e2⟩ := hide_some e
      have ne : a ≠ c := ne_of_none e2 hc
      unfold Gh
      rw [hbm, hide_f (by rw [e1, Bool.false_or]; simpa using ne)]
      exact xt a o e1 e2
    have k2 : Ok0 K S H0 H' ((c, true, pl) :: M1) := by
      refine ⟨fun a o e3 e4 => ?_, iv.1, ?_, fun z hz => ?_, fun z hz => ?_⟩
      · have e5 := k1.xt a o e3 e4
        by_cases e6 : Bm S M1 a = false
        · exact xt a o e6 e5
        · have e7 : Bm S M1 a = true := by simpa using e6
          rcases (Bool.or_eq_true _ _).mp e7 with e | e
          · rw [e3] at e; cases e
          · obtain ⟨z, hz, y⟩ := List.any_eq_true.mp e
            have y : z.1 = a := by simpa using y
            rw [← y, iv.2 z hz, y]
            exact e5
      · rw [List.map_cons, List.nodup_cons]
        refine ⟨fun z => ?_, k1.nd⟩
        obtain ⟨q, hq, e⟩ := List.mem_map.mp z
        exact nb.2 q hq e
      · rcases List.mem_cons.mp hz with rfl | hz
        · refine ⟨fun _ => ⟨nb.1, ?_⟩, fun z => by cases z⟩
          cases e : H0 c with
          | none => rfl
          | some o => have z := k1.xt c o nb.1 e; rw [hc] at z; cases z
        · exact k1.loc z hz
      · rcases List.mem_cons.mp hz with rfl | hz
        · exact ⟨l, hl, by rw [hbm]; exact hd⟩
        · obtain ⟨us, a, b⟩ := k1.mem z hz
          exact ⟨us, by rw [iv.2 z hz]; exact a, dps_mono sm _ _ b⟩
    exact n _ H' (as.set i (.own c)) _ k2 (((r.mono e1).mono sm).set i (s := .own c) rfl) (e1.trans sm) (cont c pl nb.2 pd)
theorem spN_len {vs : List V} {H : Hp} {Q : VK} {n : Nat} (hn : ∀ ds, pre ds → ds.length = n) (h : spN pre postN K vs H Q E) : vs.length = n := by
  obtain ⟨S, ds, _, hp, hd, _⟩ := h
  rw [dps_len hd]; exact hn ds hp
end

/-! ### a def that may be called -/
structure Cal (P : Program) (w : World) (K : PySem.W.Frag) (mg : Str → Option Value) (base : Heap) (k : Nat) (x : Str) (ps : List Str) (sp : Sp) : Prop where
  ex : ∃ f fd, FnOk P w K mg base CX0 k f fd ps sp ∧ mg x = some (.ref f) ∧ PySem.W.keepIn K (.ref f) = true ∧ Binds K fd ps []
/-- a def's text that stands behind the top -/
structure Dfn (K : PySem.W.Frag) (mg : Str → Option Value) (x : Str) (st : Stmt) (ps : List Str) : Prop where
  ex : ∃ f fd, Fun K x x st f fd ∧ mg x = some (.ref f) ∧ Binds K fd ps []
section
variable {P : Program} {w : World} {K : PySem.W.Frag} {mg : Str → Option Value} {base : Heap}
theorem Cal.mono {j k : Nat} {x : Str} {ps : List Str} {sp : Sp} (c : Cal P w K mg base j x ps sp) (h : j ≤ k) : Cal P w K mg base k x ps sp := by
  obtain ⟨f, fd, a, b, d, e⟩ := c.ex
  exact ⟨f, fd, a.mono h, b, d, e⟩
theorem pe_cal {X : Cx} {k : Nat} {x : Str} {ps : List Str} {sp : Sp} {p pos : Pos} {e : Expr} {es : List Expr} {t : TA} (c : Cal X.prog X.w X.K X.mg X.base k x ps sp) (hr : Room k X.A) (ha : PA X (e :: es) t) (hg : Gl X x := by rfl) (hdb : (x == ("__debug__" : Str)) = false := by decide)
    (he : starEach (e :: es) X.env = (false, eval e X.env) :: starEach es X.env := by rfl) (hpl : (backTo pos (starEach es X.env)).any (·.1) = false := by rfl) : PE X (.Call (.Name x p) (e :: es) [] pos) (tCall sp [] E0 t) := by
  obtain ⟨f, fd, F, hm, hk, hb⟩ := c.ex
  exact pe_call F hr hg hm hk hb .nil pass0 ha hdb he hpl
/-- the rule for a def -/
theorem Dfn.ok {x : Str} {st : Stmt} {N ps : List Str} {k : Nat} {sp : Sp} (F : Dfn K mg x st ps) (S : FnScope N ps (defScope st)) (len : ∀ vs H Q E, sp vs H Q E → vs.length = ps.length)
    (hbody : ∀ (f : Addr) (cdv : Value) (A : Around) (outer : List Env) (s : Shared) (H : Hp) (vs : List V) (Q : VK) (E : XK), Room k (A.deeper (envOfC x (defScope st) s.heap.objs.size f cdv)) → sp vs H Q E →
      ∃ t, PSs (cxOf CX0 P w K mg base N x (defScope st) f cdv A outer s H E).nox (defBody st) t ∧ t { nx := fun _ H' => Q .non H', rt := Q } (L2.start N vs) H) : Cal P w K mg base (k + 1) x ps sp := by
  obtain ⟨f, fd, a, b, c⟩ := F.ex
  exact ⟨f, fd, a.ok S len (fun cdv A outer s H vs Q E hr h => hbody f cdv A outer s H vs Q E hr h), b, a.kp, c⟩
end
end Ab

set_option Elab.async false
set_option linter.all false
set_option maxRecDepth 100000
set_option maxHeartbeats 4000000
namespace Ab
open PySem PySem.Spec PyProof.Rows L2
section
variable {α : Type} {Q : List PyData → Prop} {a b c : PyData}
theorem m0 (h : Q []) : ∃ ds : List PyData, ([] : List Sv) = ds.map .dat ∧ Q ds := ⟨[], rfl, h⟩
theorem m1 (h : Q [a]) : ∃ ds : List PyData, [Sv.dat a] = ds.map .dat ∧ Q ds := ⟨[a], rfl, h⟩
theorem m2 (h : Q [a, b]) : ∃ ds : List PyData, [Sv.dat a, .dat b] = ds.map .dat ∧ Q ds := ⟨[a, b], rfl, h⟩
theorem m3 (h : Q [a, b, c]) : ∃ ds : List PyData, [Sv.dat a, .dat b, .dat c] = ds.map .dat ∧ Q ds := ⟨[a, b, c], rfl, h⟩
theorem m5 {d e : PyData} (h : Q [a, b, c, d, e]) : ∃ ds : List PyData, [Sv.dat a, .dat b, .dat c, .dat d, .dat e] = ds.map .dat ∧ Q ds := ⟨[a, b, c, d, e], rfl, h⟩
theorem exb {x : Bool} {R : Bool → Prop} (h : R x) : ∃ b, PyData.bool x = .bool b ∧ R b := ⟨x, rfl, h⟩
theorem exi {x : Int} {R : Int → Prop} (h : R x) : ∃ b, PyData.int x = .int b ∧ R b := ⟨x, rfl, h⟩
theorem exs {x : Str} {R : Str → Prop} (h : R x) : ∃ b, PyData.str x = .str b ∧ R b := ⟨x, rfl, h⟩
theorem exl {xs : List PyData} {R : List PyData → Prop} (h : R xs) : ∃ ys, PyData.list xs = .list ys ∧ R ys := ⟨xs, rfl, h⟩
theorem exql {xs : List PyData} {R : List PyData → Prop} (h : R xs) : ∃ ys, (PyData.list xs = .list ys ∨ PyData.list xs = .tuple ys) ∧ R ys := ⟨xs, .inl rfl, h⟩
theorem exqt {xs : List PyData} {R : List PyData → Prop} (h : R xs) : ∃ ys, (PyData.tuple xs = .list ys ∨ PyData.tuple xs = .tuple ys) ∧ R ys := ⟨xs, .inr rfl, h⟩
theorem callF {f : List PyData → Option PyData} {ds : List PyData} {v : PyData} {R : PyData → Prop} (e : f ds = some v) (h : R v) : (∃ d, f ds = some d) ∧ ∀ d, f ds = some d → R d := ⟨⟨v, e⟩, fun d e2 => by rw [e] at e2; cases e2; exact h⟩
theorem iteK {c : Bool} {A B : Prop} (e : c = true) (h : A) : if c = true then A else B := by rw [if_pos e]; exact h
theorem iteN {c : Bool} {A B : Prop} (e : c = false) (h : B) : if c = true then A else B := by rw [e]; exact h
theorem iteB {c : Bool} {A B : Prop} (h1 : c = true → A) (h2 : c = false → B) : if c = true then A else B := by
  cases c with
  | true => exact h1 rfl
  | false => exact h2 rfl
theorem feq {P : PyData → Prop} (x : SeqAt.shaped a = true) (y : SeqAt.shaped b = true) (z : P (.bool (PyData.eqv a b))) : fEq a b P := ⟨x, y, z⟩
theorem fne {P : PyData → Prop} (x : SeqAt.shaped a = true) (y : SeqAt.shaped b = true) (z : P (.bool (!PyData.eqv a b))) : fNe a b P := ⟨x, y, z⟩
theorem fixt {ds : List PyData} {i : Int} {P : PyData → Prop} (e : atI ds i = some a) (h : P a) : fIx (.tuple ds) (.int i) P := ⟨a, e, h⟩
theorem fixl {ds : List PyData} {i : Int} {P : PyData → Prop} (e : atI ds i = some a) (h : P a) : fIx (.list ds) (.int i) P := ⟨a, e, h⟩
theorem fslt {ds es : List PyData} {lo hi : Option Int} {P : PyData → Prop} (e : cutD ds lo hi = es) (h : P (.tuple es)) : fSl (.tuple ds) lo hi P := by subst e; exact h
theorem fsll {ds es : List PyData} {lo hi : Option Int} {P : PyData → Prop} (e : cutD ds lo hi = es) (h : P (.list es)) : fSl (.list ds) lo hi P := by subst e; exact h
theorem flent {ds : List PyData} {P : PyData → Prop} (h : P (.int ds.length)) : fLenA [.tuple ds] P := h
theorem flenl {ds : List PyData} {P : PyData → Prop} (h : P (.int ds.length)) : fLenA [.list ds] P := h
theorem flens {z : Str} {P : PyData → Prop} (hz : z.length ≤ 100000) (h : P (.int z.length)) : fLenA [.str z] P := ⟨hz, h⟩
theorem fii {C : Int → Int → Prop} {g : Int → Int → PyData} {i j : Int} {P : PyData → Prop} (c : C i j) (h : P (g i j)) : fI C g (.int i) (.int j) P := ⟨c, h⟩
theorem fpi {i j : Int} {P : PyData → Prop} (h : P (.int (i + j))) : fPlus (.int i) (.int j) P := h
theorem fpt {xs ys : List PyData} {P : PyData → Prop} (l : xs.length + ys.length ≤ 100000) (h : P (.tuple (xs ++ ys))) : fPlus (.tuple xs) (.tuple ys) P := ⟨l, h⟩
theorem fpl {xs ys : List PyData} {P : PyData → Prop} (l : xs.length + ys.length ≤ 100000) (h : P (.list (xs ++ ys))) : fPlus (.list xs) (.list ys) P := ⟨l, h⟩
theorem flti {i j : Int} {P : PyData → Prop} (h : P (.bool (decide (i < j)))) : fLess (.int i) (.int j) P := h
theorem fint {i : Int} {P : PyData → Prop} (h : P (.int i)) : fIntOf [.int i] P := h
theorem ftupl {ds : List PyData} {P : PyData → Prop} (h : P (.tuple ds)) : fTupleOf [.list ds] P := h
theorem ftupt {ds : List PyData} {P : PyData → Prop} (h : P (.tuple ds)) : fTupleOf [.tuple ds] P := h
theorem fall {bs : List Bool} {ds : List PyData} {P : PyData → Prop} (e : ds = bs.map .bool) (h : P (.bool (bs.all id))) : fAll [.list ds] P := ⟨bs, e, h⟩
theorem fany {bs : List Bool} {ds : List PyData} {P : PyData → Prop} (e : ds = bs.map .bool) (h : P (.bool (bs.any id))) : fAny [.list ds] P := ⟨bs, e, h⟩
/-- a comprehension without tests over one name: each item's value by a function -/
theorem w_map {K : PySem.W.Frag} {wi : TI} {te : TE} {i : Nat} {vs : List Nat} {as : List Sv} {M : Mm} {P : PyData → Mm → Prop} (hi : i ∈ vs) (h : WI K wi as M fun xs M1 => ∃ g : PyData → PyData, xs.length ≤ 100000 ∧
    (∀ x ∈ xs, W K te ((awipe as vs).set i (.dat x)) M1 fun y M2 => y = g x ∧ M2 = M1) ∧ P (.list (xs.map g)) M1) : W K (tLc wi (gName i) tYes te vs) as M P := by
  refine w_lc ga_name (by simpa using hi) fun S H0 σ H k r R q => h S H0 σ H k r R fun J H' xs M' k' e' it ⟨g, hl, hx, hp⟩ => q J H' xs M' k' e' it ⟨fun n acc M2 => acc = (xs.take n).map g ∧ M2 = M', ⟨rfl, rfl⟩, fun n x acc Mi hn ⟨ea, em⟩ => ?_, fun acc M2 ⟨ea, em⟩ => by rw [ea, em, List.take_length]; exact hp⟩
  subst ea em
  intro S2 H02 σ2 H2 k2 r2 Q2 q2
  refine q2 true H2 Mi k2 (Same.refl _) ?_
  show W K te _ Mi _
  refine (hx x (List.mem_of_getElem? hn)).imp fun y M3 ⟨ey, em⟩ => ?_
  subst ey em
  have hlt := (List.getElem?_eq_some_iff.mp hn).1
  refine ⟨by rw [List.length_map, List.length_take]; omega, ?_, rfl⟩
  rw [List.take_add_one, hn, List.map_append]
  rfl
/-- .. over a couple of names -/
theorem w_map2 {K : PySem.W.Frag} {wi : TI} {te : TE} {i j : Nat} {vs : List Nat} {as : List Sv} {M : Mm} {P : PyData → Mm → Prop} (hi : i ∈ vs) (hj : j ∈ vs) (h : WI K wi as M fun xs M1 => ∃ g : PyData → PyData, xs.length ≤ 100000 ∧
    (∀ x ∈ xs, ∃ a b, (x = .tuple [a, b] ∨ x = .list [a, b]) ∧ W K te (((awipe as vs).set i (.dat a)).set j (.dat b)) M1 fun y M2 => y = g x ∧ M2 = M1) ∧ P (.list (xs.map g)) M1) : W K (tLc wi (gSeq K 2 (gCons (gName i) (gCons (gName j) gNil))) tYes te vs) as M P := by
  refine w_lc ga_pair (by intro t ht; simp at ht; rcases ht with rfl | rfl <;> assumption) fun S H0 σ H k r R q => h S H0 σ H k r R fun J H' xs M' k' e' it ⟨g, hl, hx, hp⟩ => q J H' xs M' k' e' it ⟨fun n acc M2 => acc = (xs.take n).map g ∧ M2 = M', ⟨rfl, rfl⟩, fun n x acc Mi hn ⟨ea, em⟩ => ?_, fun acc M2 ⟨ea, em⟩ => by rw [ea, em, List.take_length]; exact hp⟩
  subst ea em
  obtain ⟨a, b, ex, hw⟩ := hx x (List.mem_of_getElem? hn)
  refine ⟨a, b, ex, ?_⟩
  intro S2 H02 σ2 H2 k2 r2 Q2 q2
  refine q2 true H2 Mi k2 (Same.refl _) ?_
  show W K te _ Mi _
  refine hw.imp fun y M3 ⟨ey, em⟩ => ?_
  subst ey em
  have hlt := (List.getElem?_eq_some_iff.mp hn).1
  refine ⟨by rw [List.length_map, List.length_take]; omega, ?_, rfl⟩
  rw [List.take_add_one, hn, List.map_append]
  rfl
end
end Ab
namespace Ab
open PySem PySem.Spec PyProof.Rows L2
section
variable {X : Cx} {K : PySem.W.Frag} {k : Nat}
theorem k_plus (e : X.K = K) : OpR X (binaryOp .Add) (rPlus K) := e ▸ op_plus
theorem k_eq (e : X.K = K) (hr : Room k X.A) : OpR X (compareOp .Eq) (rEqD K) := e ▸ op_eqD hr.units
theorem k_ne (e : X.K = K) (hr : Room k X.A) : OpR X (compareOp .NotEq) (rNeD K) := e ▸ op_neD hr.units
theorem hu65 {A : Around} (hr : Room k A) : A.units + 65 < cLine := by have := hr.un; omega
theorem k_in (e : X.K = K) (hr : Room k X.A) : OpR X (compareOp .In) (rInSeq K) := e ▸ op_inSeq (hu65 hr)
theorem k_nin (e : X.K = K) (hr : Room k X.A) : OpR X (compareOp .NotIn) (rNinSeq K) := e ▸ op_ninSeq (hu65 hr)
theorem k_ix (e : X.K = K) : IxR X (rIx K) := e ▸ ix_seq
theorem k_sl (e : X.K = K) : SlR X (rSl K) := e ▸ sl_any
theorem k_tuple (e : X.K = K) : CallR X (.type "tuple") (rTupleOf K) := e ▸ call_tupleOf
theorem k_len (e : X.K = K) : CallR X (.builtin "len") (rLenA K) := e ▸ call_lenA
theorem k_all (e : X.K = K) (hc : X.calm = true) : CallR X (.builtin "all") (rAll K) := e ▸ cr_all hc
theorem k_any (e : X.K = K) (hc : X.calm = true) : CallR X (.builtin "any") (rAny K) := e ▸ cr_any hc
theorem k_isi (e : X.K = K) : CallR X (.builtin "isinstance") (rIsi K) := e ▸ call_isi
theorem k_isiT (e : X.K = K) : CallR X (.builtin "isinstance") (rIsiT K) := e ▸ call_isiT
theorem k_seq {tg l : Expr} {tl : TE} (e : X.K = K) (h : PE X l tl) : PI X tg l (iSeq K tl) := e ▸ pi_seq h
theorem k_rev {tg l : Expr} {te : TE} {p pos : Pos} (e : X.K = K) (hg : Gl X "reversed") (hm : X.mg "reversed" = none) (h : PE X l te) (hs : starEach [l] X.env = (false, eval l X.env) :: starEach [] X.env := by rfl) : PI X tg (.Call (.Name "reversed" p) [l] [] pos) (RT.iRevA K te) := e ▸ RT.pi_revA hg hm h hs
theorem k_tru {a : Expr} {ta : TE} (e : X.K = K) (ha : PE X a ta) (he : ∀ whole, isTrue a X.env whole = (do let v ← whole; standAt a.pos; holding [v] (truthy v)) := by intro _; rfl) : PT X a (tTru K ta) := e ▸ pt_tru ha he
theorem k_tup {es : List Expr} {kk : Nat} {t : TGs} {n : Nat} {pos : Pos} (e : X.K = K) (hc : X.calm = true) (h : PGs X es t) (hn : (assignEach es X.env).length = n := by rfl) (hst : (assignEach es X.env).findIdx? (·.1) = none := by rfl) : PG X (.Tuple es kk pos) (gSeq K n t) := e ▸ pg_seq hc h hn hst
theorem pe_gstr {x z : Str} {pos : Pos} (hg : Gl X x) (h : ∃ t, X.mg x = some (.str z t)) (hd : (x == ("__debug__" : Str)) = false := by decide) : PE X (.Name x pos) (tC (.str z)) := by
  obtain ⟨t, h⟩ := h
  exact pe_glob hg h ⟨t, rfl⟩ hd
theorem pe_gint {x : Str} {z : Int} {pos : Pos} (hg : Gl X x) (h : ∃ t, X.mg x = some (.int z t)) (hd : (x == ("__debug__" : Str)) = false := by decide) : PE X (.Name x pos) (tC (.int z)) := by
  obtain ⟨t, h⟩ := h
  exact pe_glob hg h ⟨t, rfl⟩ hd
theorem pe_gref {x : Str} {a : Addr} {pos : Pos} (hg : Gl X x) (h : X.mg x = some (.ref a)) (hd : (x == ("__debug__" : Str)) = false := by decide) : PE X (.Name x pos) (tC (.ref a)) := pe_glob (v := .ref a) hg h rfl hd
end
abbrev spF (f : List PyData → Option PyData) (K : PySem.W.Frag) : Sp := spP (fun ds => ∃ d, f ds = some d) (fun ds d => f ds = some d) K
end Ab
namespace Ab
open PySem PySem.Spec PyProof.Rows L2
section
variable {K : PySem.W.Frag} {wi : TI} {te : TE} {tt : TT} {i j : Nat} {vs : List Nat} {as : List Sv} {M : Mm} {P : PyData → Mm → Prop}
/-- a comprehension with a test, over one name -/
theorem w_filt (hi : i ∈ vs) (h : WI K wi as M fun xs M1 => ∃ (b : PyData → Bool) (g : PyData → PyData), xs.length ≤ 100000 ∧
    (∀ x ∈ xs, WT K tt ((awipe as vs).set i (.dat x)) M1 fun c M2 => c = b x ∧ M2 = M1 ∧ (b x = true → W K te ((awipe as vs).set i (.dat x)) M1 fun y M3 => y = g x ∧ M3 = M1)) ∧ P (.list ((xs.filter b).map g)) M1) : W K (tLc wi (gName i) tt te vs) as M P := by
  refine w_lc ga_name (by simpa using hi) fun S H0 σ H k r R q => h S H0 σ H k r R fun J H' xs M' k' e' it ⟨b, g, hl, hx, hp⟩ => q J H' xs M' k' e' it ⟨fun n acc M2 => acc = ((xs.take n).filter b).map g ∧ M2 = M', ⟨rfl, rfl⟩, fun n x acc Mi hn ⟨ea, em⟩ => ?_, fun acc M2 ⟨ea, em⟩ => by rw [ea, em, List.take_length]; exact hp⟩
  subst ea em
  intro S2 H02 σ2 H2 k2 r2 Q2 q2
  refine hx x (List.mem_of_getElem? hn) S2 H02 σ2 H2 k2 r2 Q2 fun c H3 M3 k3 e3 ⟨ec, em, hw⟩ => q2 c H3 M3 k3 e3 ?_
  subst ec em
  have hlt := (List.getElem?_eq_some_iff.mp hn).1
  have hfl : ((xs.take n).filter b).length ≤ n := Nat.le_trans (List.length_filter_le _ _) (by rw [List.length_take]; omega)
  have ht : xs.take (n + 1) = xs.take n ++ [x] := by rw [List.take_add_one, hn]; rfl
  cases hb : b x with
  | true =>
    refine iteT ?_
    refine (hw hb).imp fun y M4 ⟨ey, em⟩ => ?_
    subst ey em
    refine ⟨by rw [List.length_map]; omega, ?_, rfl⟩
    rw [ht, List.filter_append, List.map_append]
    simp [hb]
  | false =>
    refine iteF ?_
    refine ⟨?_, rfl⟩
    rw [ht, List.filter_append, List.map_append]
    simp [hb]
theorem w_filt2 (hi : i ∈ vs) (hj : j ∈ vs) (h : WI K wi as M fun xs M1 => ∃ (b : PyData → Bool) (g : PyData → PyData), xs.length ≤ 100000 ∧
    (∀ x ∈ xs, ∃ u v, (x = .tuple [u, v] ∨ x = .list [u, v]) ∧ WT K tt (((awipe as vs).set i (.dat u)).set j (.dat v)) M1 fun c M2 => c = b x ∧ M2 = M1 ∧ (b x = true → W K te (((awipe as vs).set i (.dat u)).set j (.dat v)) M1 fun y M3 => y = g x ∧ M3 = M1)) ∧
    P (.list ((xs.filter b).map g)) M1) : W K (tLc wi (gSeq K 2 (gCons (gName i) (gCons (gName j) gNil))) tt te vs) as M P := by
  refine w_lc ga_pair (by intro t ht; simp at ht; rcases ht with rfl | rfl <;> assumption) fun S H0 σ H k r R q => h S H0 σ H k r R fun J H' xs M' k' e' it ⟨b, g, hl, hx, hp⟩ => q J H' xs M' k' e' it ⟨fun n acc M2 => acc = ((xs.take n).filter b).map g ∧ M2 = M', ⟨rfl, rfl⟩, fun n x acc Mi hn ⟨ea, em⟩ => ?_, fun acc M2 ⟨ea, em⟩ => by rw [ea, em, List.take_length]; exact hp⟩
  subst ea em
  obtain ⟨u, v, ex, hxx⟩ := hx x (List.mem_of_getElem? hn)
  refine ⟨u, v, ex, ?_⟩
  intro S2 H02 σ2 H2 k2 r2 Q2 q2
  refine hxx S2 H02 σ2 H2 k2 r2 Q2 fun c H3 M3 k3 e3 ⟨ec, em, hw⟩ => q2 c H3 M3 k3 e3 ?_
  subst ec em
  have hlt := (List.getElem?_eq_some_iff.mp hn).1
  have hfl : ((xs.take n).filter b).length ≤ n := Nat.le_trans (List.length_filter_le _ _) (by rw [List.length_take]; omega)
  have ht : xs.take (n + 1) = xs.take n ++ [x] := by rw [List.take_add_one, hn]; rfl
  cases hb : b x with
  | true =>
    refine iteT ?_
    refine (hw hb).imp fun y M4 ⟨ey, em⟩ => ?_
    subst ey em
    refine ⟨by rw [List.length_map]; omega, ?_, rfl⟩
    rw [ht, List.filter_append, List.map_append]
    simp [hb]
  | false =>
    refine iteF ?_
    refine ⟨?_, rfl⟩
    rw [ht, List.filter_append, List.map_append]
    simp [hb]
end
end Ab

set_option Elab.async false
set_option linter.all false
set_option maxRecDepth 100000
set_option maxHeartbeats 4000000
/-! An exception that leaves from inside a list comprehension. -/
namespace Ab
open PySem PySem.Spec PyProof.Rows L2
/-- what is asked at a comprehension's end, its frame being known -/
def cPost (M : Model) (A : Around) (E : Value → Shared → Prop) (Q : Value → Shared → Prop) (acc : Value) (C : Addr) (fr : Option Addr) : Result → Shared → Prop
  | .ok _, s' => ∃ m, s'.heap.Ns C m ∧ ∀ h', Heap.SameBut C s'.heap h' → Q acc { s' with heap := h' }
  | .error x, s' => (∃ m, s'.heap.Ns C m) ∧ ∀ h', Heap.SameBut C s'.heap h' → ∀ ce : Env, ce.frame = fr → wpAny M A (passOn "comprehension.variables-let-go" x ce : Sem Value) (fun _ _ => False) E { s' with heap := h' }
section
variable {M : Model} {A : Around} {E : Value → Shared → Prop} {s : Shared} {env : Env}
theorem comp_freeX {e : Expr} {scope : Scope} {pos : Pos} {newAcc first : Sem Value} {g : Comprehension} {gs : List Comprehension} {cl : List (Str × Addr)} {Q : Value → Shared → Prop} (h1 : clausesOf e = g :: gs) (h2 : ∀ x, foldedSetIterable g.iter env x = pure x) (h3 : closureFor scope env = pure cl)
    (h4 : scope.kind = .function) (h5 : ∀ x ∈ scope.names, x.2 = .local → scope.names.lookup x.1 = some .local)
    (h : wpAny M A first (fun x sa => wpAny M A (pyIter x) (fun it sb => wpAny M A newAcc (fun acc sc => wpAny M A (newFunctionEnv scope env.globals cl [] env.qual none .none (some env)) (fun ce sd =>
      codeAny M A (.compStart e 0 it acc { ce with scope := relabel scope env }) (cPost M A E Q acc ce.locals ce.frame) sd) E sc) E sb) E sa) E s) : wpAny M A (comprehension e scope env pos newAcc false first none) Q E s := by
  unfold comprehension
  rw [h3, h1]
  refine wpAny_bind (wpAny_mono h (fun x sa ha => wpAny_bind (wpAny_standAt (wpAny_bind (wpAny_of_eq (h2 x) (wpAny_bind (wpAny_holding (wpAny_mono ha (fun it sb hb =>
    wpAny_standIf (wpAny_bind (wpAny_mono hb (fun acc sc hc => wpAny_bind (wpAny_pure (wpAny_bind (wpAny_mono hc (fun ce sd hd => ?_) fun _ _ z => z)))) fun _ _ z => z)))
      fun _ _ z => z))))))) fun _ _ z => z)
  dsimp only
  have hv : ∀ x ∈ (scope.names.filter fun x => (x.2 == .local || x.2 == .cell) && x.1 != (".0" : Str)).reverse, x.2 = .local → Env.kindOf { ce with scope := relabel scope env } x.1 = some .local := fun x hx hl => lookup_relabel_local (h5 x (List.mem_filter.mp (List.mem_reverse.mp hx)).1 hl)
  refine wpAny_holding (wpAny_bind (wpAny_attempt (wpAny_holding (wpAny_run (codeAny_mono hd fun r s' hr => ?_)))))
  cases r with
  | ok f =>
    obtain ⟨m, hn, hr⟩ := (show ∃ m, s'.heap.Ns ce.locals m ∧ ∀ h', Heap.SameBut ce.locals s'.heap h' → Q acc { s' with heap := h' } from hr)
    exact wpAny_bind (wpAny_holding (wpAny_comp_letGo (cenv := { ce with scope := relabel scope env }) h4 _ s' m hv hn fun h' m' _ hs' => wpAny_pure (hr h' hs')))
  | error x =>
    obtain ⟨⟨m, hn⟩, hr⟩ := (show (∃ m, s'.heap.Ns ce.locals m) ∧ ∀ h', Heap.SameBut ce.locals s'.heap h' → ∀ c : Env, c.frame = ce.frame → wpAny M A (passOn "comprehension.variables-let-go" x c : Sem Value) (fun _ _ => False) E { s' with heap := h' } from hr)
    exact wpAny_bind (wpAny_holding (wpAny_comp_letGo (cenv := { ce with scope := relabel scope env }) h4 _ s' m hv hn fun h' m' _ hs' => wpAny_mono (hr h' hs' _ rfl) (fun _ _ f => f.elim) fun _ _ y => y))
end
theorem noteFrame_fr {e : Value} {a b : Env} (h : a.frame = b.frame) : noteFrame e a = noteFrame e b := by
  unfold noteFrame PySem.frameOf
  rw [h]
theorem ff_but {base B h h' : Heap} {C : Addr} : ∀ {l : List Env}, h.FunFrames base l → (∀ L ∈ frs l, L ≠ C ∧ B.get? L = none) → (∀ b, b ≠ C → h'.get? b = h.get? b) → h'.FunFrames B l
  | [], _, _, _ => trivial
  | env :: l, x, hn, k => by
    obtain ⟨hk, ⟨L, o, hf, _, ho, hd⟩, hr⟩ := x
    have hL := hn L (List.mem_filterMap.mpr ⟨env, List.mem_cons_self, hf⟩)
    exact ⟨hk, ⟨L, o, hf, hL.2, (k L hL.1).trans ho, hd⟩, ff_but hr (fun b hb => by
      obtain ⟨e, he, q⟩ := List.mem_filterMap.mp hb
      exact hn b (List.mem_filterMap.mpr ⟨e, List.mem_cons_of_mem _ he, q⟩)) k⟩
theorem hide1 {h : Heap} {C b : Addr} {o : Obj} (e : (PySem.W.hideAll h [C]).get? b = some o) : b ≠ C ∧ h.get? b = some o := by
  refine ⟨fun z => ?_, PySem.W.of_hideAll _ e⟩
  rw [PySem.W.hideAll_none [C] (b := b) (by rw [z]; exact List.mem_singleton.mpr rfl)] at e
  cases e
theorem hide1_none {h : Heap} {C b : Addr} (e : h.get? b = none) : (PySem.W.hideAll h [C]).get? b = none := by
  cases q : (PySem.W.hideAll h [C]).get? b with
  | none => rfl
  | some o => rw [(hide1 q).2] at e; cases e
/-- an exception of a call within the block goes on to the def's own wish -/
theorem pass_comp {X : Cx} {pins : List (Addr × Obj)} {σ : L2.St} {H : Hp} {s s' : Shared} {C : Addr} {m : Str → Option Value} {Ex : XK} {u : Value} {E1 : Value → Shared → Prop} {ce : Env} (hst : X.stack = X.env :: X.outer) (hf : X.env.frame = some X.env.locals) (tk : Takes X (fun cls d _ H => Ex cls d H))
    (I : Inv X pins σ H s) (fc : FpOk X pins H C) (hn : s.heap.Ns C m) (cx : L2.CX X.prog X.w X.stack H s Ex u s') (hce : ce.frame = X.env.frame) :
    wpAny (model X.prog X.w) X.A (noteFrame u ce) (fun _ s2 => (∃ m, s2.heap.Ns C m) ∧ ∀ h', Heap.SameBut C s2.heap h' → ∀ c : Env, c.frame = ce.frame → wpAny (model X.prog X.w) X.A (passOn "comprehension.variables-let-go" u c : Sem Value) (fun _ _ => False) X.xe { s2 with heap := h' }) E1 s' := by
  obtain ⟨oC, es, ep, hC, hCd, hr⟩ := hn
  have nst : C ∉ frs X.stack := fun z => (List.mem_cons.mp (I.stkSub C z)).elim fc.2.1 fc.2.2.1
  obtain ⟨a, B0, H', cls0, d0, rfl, fl, hok, ub, na, os, ag, hE⟩ := cx
  have sC : s'.heap.get? C = some oC := fl.1 C oC (ub.keep C oC hC fc.1 nst)
  have x := XE.of_call (W := fun c d _ K => Ex c d K ∧ K C = none) I (fun _ _ _ h => h) ⟨a, B0, H', cls0, d0, rfl, fl, hok, ub, na, os, ag, hE, ub.free C oC hC fc.1⟩
  obtain ⟨a2, B, sI, pins2, σ2, H2, cls, d, e2, I2, nb, up, sky, na2, os2, ag2, w2, wC⟩ := x
  injection e2 with e2
  subst e2
  have sNs : s'.heap.Ns C m := ⟨oC, es, ep, sC, hCd, hr⟩
  have key : ∀ h1, HandSPX.HeldZ B X.stack a (Zc cls d) X.env.locals h1 → s'.heap.UpToSlots h1 → (∃ m, h1.Ns C m) ∧ ∀ h', Heap.SameBut C h1 h' → ∀ c : Env, c.frame = ce.frame → wpAny (model X.prog X.w) X.A (passOn "comprehension.variables-let-go" (.ref a) c : Sem Value) (fun _ _ => False) X.xe { s' with heap := h' } := fun h1 hh up1 => by
    refine ⟨⟨m, up1.ns sNs⟩, fun h2 sb c hc => ?_⟩
    obtain ⟨sl, h1C⟩ := up1 C oC sC fun vs q => by rw [hCd] at q; cases q
    obtain ⟨k1, k2, k3, oe, vs, T, oT, ts, he, hz, hd, hv1, hnT, hTe, hT, hdT, h3⟩ := hh
    have notC : ∀ {b : Addr} {o : Obj} {ws : Array Value}, h1.get? b = some o → o.data = .fields ws → b ≠ C := fun {b o ws} e1 e2 z => by
      rw [z, h1C] at e1
      cases e1
      have e2 : oC.data = .fields ws := e2
      rw [hCd] at e2; cases e2
    have aC := notC he hd
    have tC := notC hT hdT
    have he2 : h2.get? a = some oe := (sb.2 a aC).trans he
    have hT2 : h2.get? T = some oT := (sb.2 T tC).trans hT
    have held : HandSPX.HeldZ (PySem.W.hideAll B [C]) X.stack a (Zc cls d) X.env.locals h2 := by
      refine ⟨fun b o e => ?_, hide1_none k2, ff_but k3 (fun L hL => ⟨fun z => nst (by rw [← z]; exact hL), hide1_none (k3.mem hL).1⟩) fun b hb => sb.2 b hb, oe, vs, T, oT, ts, he2, hz, hd, hv1, hide1_none hnT, hTe, hT2, hdT, h3⟩
      obtain ⟨n, e⟩ := hide1 e
      exact (sb.2 b n).trans (k1 b o e)
    unfold PySem.passOn
    refine wpAny_bind (wpAny_field (s := { s' with heap := h2 }) he2 hd hv1 ?_)
    rw [if_neg (by simp)]
    rw [hc, hce, hf]
    refine wpAny_bind (HandSPX.setFlight_onZ (s := { s' with heap := h2 }) held fun h3 hh3 up3 => wpAny_throw (tk _ _ ?_))
    have J := Inv.turned (it := C) (h' := PySem.W.hideAll sI.heap [C]) (t' := sI.toks) (Inv.unpinned (pins := []) (pl := pins2) I2) (fun b o hb e => PySem.W.hideAll_get _ e (by simpa using hb)) wC fc.2.1 fc.2.2.2.1 fc.2.2.2.2.1 (fun p hp => fc.2.2.2.2.2 p (List.mem_append_left _ (by simpa using hp)))
    refine ⟨a, _, _, [], σ2, H2, cls, d, rfl, J, fun b o e hb => ?_, fun b o e hnf => ?_, .inr (.inr hh3), na2, os2, ag2, w2⟩
    · obtain ⟨n, e⟩ := hide1 e
      exact PySem.W.hideAll_get _ (nb b o e hb) (by simpa using n)
    · obtain ⟨n, e⟩ := hide1 e
      obtain ⟨sl1, q1⟩ := up b o e hnf
      obtain ⟨sl2, q2⟩ := up1 b _ q1 hnf
      have q3 : h2.get? b = some { o with slots := sl2 } := (sb.2 b n).trans q2
      obtain ⟨sl3, q4⟩ := up3 b _ q3 hnf
      exact ⟨sl3, q4⟩
  rw [noteFrame_fr hce]
  have hfr : X.A.frames = some (X.env :: X.outer) := by rw [I.ok.frames, hst]
  rw [hst] at sky key
  rcases sky with ⟨hB, hn, hl, oe, vs, he, hz, hd, h1⟩ | fl2 | hd
  · exact HandSPX.look_newZ Zc.steady hfr hl hf he hB hn hd h1 hz fun h' hh up => key h' hh up
  · exact HandSPX.looks_onZ Zc.steady hfr hf fl2 fun h' hh up => key h' hh up
  · exact HandSPX.againZ hf hd.2.2.2 (key s'.heap hd (Heap.UpToSlots.refl _))
/-- [elt for target in iter if ..], where a call within elt may let an exception out -/
theorem pe_lcX {X : Cx} {elt tg iter : Expr} {ifs : List Expr} {scope : Scope} {own : List (Str × Nat)} {pos : Pos} {wi : TI} {g : TG} {tt : TT} {te : TE} {Ex : XK} (hst : X.stack = X.env :: X.outer) (hf : X.env.frame = some X.env.locals) (tk : Takes X (fun cls d _ H => Ex cls d H))
    (hc : X.calm = true) (hN : X.N.Nodup) (hi : PI X tg iter wi) (ok : BlkOk X.N X.env.scope scope own) (hg : ∀ (s : Shared) (H : Hp) (C : Addr) (cl : List (Str × Addr)) (fp : List Addr), PG (X.blk s H scope (compEnvC scope cl C X.env) fp) tg g)
    (ht : ∀ (s : Shared) (H : Hp) (C : Addr) (cl : List (Str × Addr)) (fp : List Addr), PTs (X.blk s H scope (compEnvC scope cl C X.env) fp) ifs tt)
    (he : ∀ (s : Shared) (H : Hp) (C : Addr) (cl : List (Str × Addr)) (fp : List Addr) (xe : Value → Shared → Prop), Passes (L2.CX X.prog X.w) ((X.blk s H scope (compEnvC scope cl C X.env) fp).wish xe) Ex → PE ((X.blk s H scope (compEnvC scope cl C X.env) fp).wish xe) elt te)
    (hs : ∀ x, foldedSetIterable iter X.env x = pure x := by intro _; rfl) : PE X (.ListComp elt [⟨tg, iter, ifs, 0⟩] scope pos) (tLc wi g tt te (own.map (·.2))) := by
  refine ⟨fun pins s σ H Q I h => ?_⟩
  rw [eval_ListComp]
  have hfree : ∀ y ∈ scope.names, y.2 = .free → ∃ c, X.env.cells.lookup y.1 = some c := fun y hy e => I.ok.has _ (ok.free y hy e)
  refine comp_freeX rfl hs (closure_ok hfree) ok.kind (fun y hy e => by rw [ok.uniq y hy, e]) (thn (hi.run pins s σ H _ I h) fun xv s1 hx => thn hx fun itv s2 h2 => ?_)
  obtain ⟨it, fp, tn, J, H2, rfl, I2, T, st2, f2, q⟩ := h2
  refine wpAny_newObj_type (newEnv_comp ?_) (show 0 ≤ sizeLine by decide)
  generalize hD : s2.heap.objs.size = D
  have hDn : H2 D = none := I2.hok.fresh (Nat.le_of_eq hD)
  obtain ⟨W, ⟨m0, w0⟩, turn⟩ := q D hDn
  generalize hs3 : ({ s2 with heap := s2.heap.push { cls := .type "list", data := .seq ([] : List Value).toArray } } : Shared) = s3
  have h3 : s3.heap = s2.heap.push { cls := .type "list", data := .seq ([] : List Value).toArray } := by rw [← hs3]
  have I3 : Inv X pins σ (upd H2 D (.lst [])) s3 := by
    rw [← hs3]
    exact I2.laid (t' := s2.toks) (fun b o e => Heap.get?_push_of_some _ e) (Nat.le_of_eq hD) ⟨Nat.zero_le _, [], 0, .nil, by rw [← hD]; exact Heap.get?_push_size _ rfl⟩
  have f3 : ∀ b ∈ fp, FpOk X pins (upd H2 D (.lst [])) b ∧ b < s3.heap.objs.size := fun b hb => by
    obtain ⟨o, e, _⟩ := T.obj _ _ st2 b hb
    have hlt := Heap.lt_size e
    exact ⟨⟨by rw [upd_ne (by rw [← hD]; exact Nat.ne_of_lt hlt)]; exact (f2 b hb).1, (f2 b hb).2⟩, by rw [h3, Heap.size_push]; exact Nat.lt_succ_of_lt hlt⟩
  have st3 : tn 0 s3.heap := T.keep _ _ _ st2 fun b _ o e => by rw [h3]; exact Heap.get?_push_of_some _ e
  have I4 := block_start I3 ok hN f3
  have pg := hg s3 (upd H2 D (.lst [])) s3.heap.objs.size (cellsFrom (s3.heap.objs.size + 1) scope.names (cloFrom X.env.cells scope.names [])) fp
  have pt := ht s3 (upd H2 D (.lst [])) s3.heap.objs.size (cellsFrom (s3.heap.objs.size + 1) scope.names (cloFrom X.env.cells scope.names [])) fp
  have pe := he s3 (upd H2 D (.lst [])) s3.heap.objs.size (cellsFrom (s3.heap.objs.size + 1) scope.names (cloFrom X.env.cells scope.names [])) fp
  show codeAny _ _ (.compStart (.ListComp elt [⟨tg, iter, ifs, 0⟩] scope pos) 0 (.ref it) (.ref D) (compEnvC scope (cellsFrom (s3.heap.objs.size + 1) scope.names (cloFrom X.env.cells scope.names [])) s3.heap.objs.size X.env)) (cPost (model X.prog X.w) X.A X.xe _ (.ref D) s3.heap.objs.size X.env.frame) { s3 with heap := pushCells (s3.heap.push { cls := .type "dict", data := .dict #[] }) scope.names }
  have nfp : ∀ b ∈ fp, (upd H2 D (.lst [])) b = none := fun b hb => (f3 b hb).1.1
  generalize hce : compEnvC scope (cellsFrom (s3.heap.objs.size + 1) scope.names (cloFrom X.env.cells scope.names [])) s3.heap.objs.size X.env = ce at I4 pg pt pe ⊢
  have cL : ce.locals = s3.heap.objs.size := by subst hce; rfl
  have cF : ce.frame = X.env.frame := by subst hce; rfl
  generalize hH3 : upd H2 D (.lst []) = H3 at I3 I4 pg pt pe w0 nfp f3
  generalize hs4 : ({ s3 with heap := pushCells (s3.heap.push { cls := .type "dict", data := .dict #[] }) scope.names } : Shared) = s4 at I4 ⊢
  have st4 : tn 0 s4.heap := T.keep _ _ _ st3 fun b _ o e => by rw [← hs4]; exact pushCells_keeps _ _ _ _ (Heap.get?_push_of_some _ e)
  have stat : ∀ {σ' : L2.St} {H' : Hp} {s' : Shared}, Inv (X.blk s3 H3 scope ce fp) [] σ' H' s' → (∀ b ∈ fp, H' b = none) → ∀ b ∈ fp, FpOk (X.blk s3 H3 scope ce fp) [] H' b := fun {σ' H' s'} I' hn b hb =>
    ⟨hn b hb, (I'.ok.exf b hb).1, I'.ok.exfs b hb, .inl hb, fun x c e => (I'.ok.exf b hb).2 x c e, fun p hp => by simp at hp⟩
  -- what a block's state says of the def's
  have out : ∀ {xe : Value → Shared → Prop} {pinsB : List (Addr × Obj)} {σ' : L2.St} {H' : Hp} {s' : Shared}, Inv ((X.blk s3 H3 scope ce fp).wish xe) pinsB σ' H' s' → Inv X pins σ H' s' ∧ FpOk X pins H' s3.heap.objs.size ∧ ∃ m, s'.heap.Ns s3.heap.objs.size m := fun {xe pinsB σ' H' s'} I' => by
    have nC : H' s3.heap.objs.size = none := by rw [← cL]; exact I'.free
    obtain ⟨m, hn, _⟩ := I'.loc
    exact ⟨I3.call' (ch := fp) I'.os I'.base I'.hok I'.bare fun b hb => ⟨(f3 b hb).1.2.2.2.1, (f3 b hb).1.2.1, (f3 b hb).1.2.2.2.2.1, (f3 b hb).1.2.2.2.2.2⟩, I3.fpOk (Nat.le_refl _) nC, m, by rw [← cL]; exact hn⟩
  generalize hPO : cPost (model X.prog X.w) X.A X.xe (EP X pins σ Q) (.ref D) s3.heap.objs.size X.env.frame = PO
  have pxe := pe (notedBy (model X.prog X.w) X.A ce fun e s' => PO (.error e) s') fun pinsB σB HB sB e s' IB cx => by
    obtain ⟨IX, fc, m, hn⟩ := out IB
    rw [← hPO]
    have z := pass_comp (E1 := fun e s'' => cPost (model X.prog X.w) X.A X.xe (EP X pins σ Q) (.ref D) s3.heap.objs.size X.env.frame (.error e) s'') hst hf tk IX fc hn cx cF
    rw [cF] at z
    exact z
  have loop : codeAny (model X.prog X.w) X.A (.compLoop (.ListComp elt [⟨tg, iter, ifs, 0⟩] scope pos) 0 (.ref it) (.ref D) ce) PO s4 := by
    refine compLoop_any (fun n s' => ∃ i H', Inv (X.blk s3 H3 scope ce fp) [] (wipe σ (own.map (·.2))) H' s' ∧ tn i s'.heap ∧ (∀ b ∈ fp, H' b = none) ∧ W i n H') ?_ m0 ⟨0, H3, I4, st4, nfp, w0⟩
    rintro n s5 ⟨i, H5, I5, st5, n5, w5⟩
    rcases turn i n H5 w5 with ⟨stop, qq⟩ | ⟨go, Nx, hNx, step⟩
    · refine thnF (T.done (X.blk s3 H3 scope ce fp) rfl rfl rfl hc i [] s5 _ H5 (fun _ _ => False) I5 (stat I5 n5) st5 stop) fun r s6 ⟨hr, I6⟩ => ?_
      subst hr
      obtain ⟨I7, f, m, hn⟩ := out (I6.wish fun _ _ => False)
      rw [← hPO]
      obtain ⟨f0, f1, f2, f3, f4, f5⟩ := f
      exact ⟨m, hn, fun h'' sb => ⟨.ref D, H5, I7.turned (t' := s6.toks) (fun b o hb e => (sb.2 b hb).trans e) f0 f1 f3 f4 f5, rfl, qq⟩⟩
    · refine thnF (T.item (X.blk s3 H3 scope ce fp) rfl rfl rfl hc i [] s5 _ H5 (fun _ _ => False) I5 (stat I5 n5) st5 go) fun r s6 ⟨u, hr, h6⟩ => ?_
      subst hr
      refine thnF h6 fun _ s7 ⟨x, H7, I7, r7, y7, st7, n7⟩ => ?_
      have I7' := I7.pinned (stat I7 n7) (T.obj _ _ st7)
      refine thnF (pg.run _ s7 _ H7 x u _ I7' r7 (step x H7 y7)) fun _ s8 ⟨σ8, H8, I8, hw8, q8⟩ => ?_
      refine thnF (pt.run _ s8 σ8 H8 _ I8 q8) fun b s9 ⟨H9, I9, q9⟩ => ?_
      have fin : ∀ {s' : Shared} {H' : Hp}, Inv (X.blk s3 H3 scope ce fp) ([] ++ pinsAt fp s7.heap) σ8 H' s' → Nx H' → ∃ m, m < n ∧ ∃ i H', Inv (X.blk s3 H3 scope ce fp) [] (wipe σ (own.map (·.2))) H' s' ∧ tn i s'.heap ∧ (∀ b ∈ fp, H' b = none) ∧ W i m H' := fun {s' H'} I' nx => by
        obtain ⟨m', hm, w'⟩ := hNx H' nx
        have pin' : ∀ b ∈ fp, ∀ o, s7.heap.get? b = some o → s'.heap.get? b = some o ∧ H' b = none := fun b hb o e =>
          let z := I'.pin (b, o) (List.mem_append_right _ (List.mem_append_right _ (mem_pinsAt hb e)))
          ⟨z.1, z.2.1⟩
        have hl : (wipe σ (own.map (·.2))).length = σ8.length := by rw [← hw8, wipe_length]
        refine ⟨m', hm, i + 1, H', (I'.unpinned (pins := [])).weak hl (fun j v e => by rw [← hw8] at e; exact (wipe_some e).1), T.keep _ _ _ st7 fun b hb o e => (pin' b hb o e).1, fun b hb => ?_, w'⟩
        obtain ⟨o, e, _⟩ := T.obj _ _ st7 b hb
        exact (pin' b hb o e).2
      cases b with
      | false =>
        simp only [Bool.false_eq_true, if_false] at q9 ⊢
        exact fin I9 q9
      | true =>
        simp only [if_true] at q9 ⊢
        refine wpAny_mono (pxe.run _ s9 σ8 H9 _ (I9.wish _) q9) (fun z s10 ⟨yv, H10, I10, r10, acc, hD10, hz10, nx⟩ => ?_) fun _ _ z => z
        exact app_ok (X := X.blk s3 H3 scope ce fp) I10.unwish hD10 hz10 r10 fun s11 I11 => fin I11 nx
  exact codeAny_compStart_list loop (T.self X.A 0 _ _ _ st4 loop)
end Ab

set_option Elab.async false
set_option linter.all false
set_option maxRecDepth 100000
set_option maxHeartbeats 4000000
/-! The logic where something may be raised: a frame S, H0 and a wish E about the class C. -/
namespace Ab
open PySem PySem.Spec PyProof.Rows L2
/-! ### equality, in: only the shallower side's depth counts -/
def rEqW (K : PySem.W.Frag) : R2 := fun x y H Q => ∃ d e, Dp K H x d ∧ Dp K H y e ∧ d.canLay0 = true ∧ e.canLay0 = true ∧ min d.depth e.depth ≤ 64 ∧ Q (.bl (PyData.eqv d e)) H
def rNeW (K : PySem.W.Frag) : R2 := fun x y H Q => ∃ d e, Dp K H x d ∧ Dp K H y e ∧ d.canLay0 = true ∧ e.canLay0 = true ∧ min d.depth e.depth ≤ 64 ∧ Q (.bl (!PyData.eqv d e)) H
def rInW (K : PySem.W.Frag) : R2 := fun x y H Q => ∃ d ds, Dp K H x d ∧ (Dp K H y (.list ds) ∨ Dp K H y (.tuple ds)) ∧ d.canLay0 = true ∧ PyData.canLayAll0 ds = true ∧ min (PyData.depthAll ds) d.depth ≤ 64 ∧ Q (.bl (ds.any fun z => PyData.eqv z d)) H
def rNinW (K : PySem.W.Frag) : R2 := fun x y H Q => ∃ d ds, Dp K H x d ∧ (Dp K H y (.list ds) ∨ Dp K H y (.tuple ds)) ∧ d.canLay0 = true ∧ PyData.canLayAll0 ds = true ∧ min (PyData.depthAll ds) d.depth ≤ 64 ∧ Q (.bl (!ds.any fun z => PyData.eqv z d)) H
section
variable {X : Cx}
theorem op_inW (hu : X.A.units + 65 < cLine) : OpR X (compareOp .In) (rInW X.K) := by
  intro pins s σ H x y v u Q I rx ry h
  obtain ⟨d, ds, hd, he, sd, se, hm, q⟩ := h
  obtain ⟨as, r1⟩ := Dp.reads I d x v hd rx
  rcases he with he | he
  · obtain ⟨bs, r2⟩ := Dp.reads I (.list ds) y u he ry
    exact SeqAt.in_list_reads r2 r1 se sd (by omega) ⟨.bl _, H, I, rfl, q⟩
  · obtain ⟨bs, r2⟩ := Dp.reads I (.tuple ds) y u he ry
    exact SeqAt.in_tuple_reads r2 r1 se sd (by omega) ⟨.bl _, H, I, rfl, q⟩
theorem op_ninW (hu : X.A.units + 65 < cLine) : OpR X (compareOp .NotIn) (rNinW X.K) := by
  intro pins s σ H x y v u Q I rx ry h
  obtain ⟨d, ds, hd, he, sd, se, hm, q⟩ := h
  obtain ⟨as, r1⟩ := Dp.reads I d x v hd rx
  rcases he with he | he
  · obtain ⟨bs, r2⟩ := Dp.reads I (.list ds) y u he ry
    exact SeqAt.notIn_list_reads r2 r1 se sd (by omega) ⟨.bl _, H, I, rfl, q⟩
  · obtain ⟨bs, r2⟩ := Dp.reads I (.tuple ds) y u he ry
    exact SeqAt.notIn_tuple_reads r2 r1 se sd (by omega) ⟨.bl _, H, I, rfl, q⟩
theorem op_eqW (hu : X.A.units + 64 < cLine) : OpR X (compareOp .Eq) (rEqW X.K) := by
  intro pins s σ H x y v u Q I rx ry h
  obtain ⟨d, e, hd, he, sd, se, hm, q⟩ := h
  obtain ⟨as, r1⟩ := Dp.reads I d x v hd rx
  obtain ⟨bs, r2⟩ := Dp.reads I e y u he ry
  exact SeqAt.compareEq_reads r1 r2 sd se (by omega) ⟨.bl _, H, I, rfl, q⟩
theorem op_neW (hu : X.A.units + 64 < cLine) : OpR X (compareOp .NotEq) (rNeW X.K) := by
  intro pins s σ H x y v u Q I rx ry h
  obtain ⟨d, e, hd, he, sd, se, hm, q⟩ := h
  obtain ⟨as, r1⟩ := Dp.reads I d x v hd rx
  obtain ⟨bs, r2⟩ := Dp.reads I e y u he ry
  exact SeqAt.compareNe_reads r1 r2 sd se (by omega) ⟨.bl _, H, I, rfl, q⟩
def rLeS : R2 := fun x y H Q => ∃ i j, x = .str i ∧ y = .str j ∧ Q (.bl (!decide (j.cps.toList < i.cps.toList))) H
theorem op_leS : OpR X (compareOp .LtE) rLeS := op_le_str
def rAbs : List V → Hp → VK → Prop := fun xs H Q => ∃ i, xs = [.int i] ∧ Q (.int (if i < 0 then -i else i)) H
theorem call_absI : CallR X (.builtin "abs") rAbs := call_abs
def rOrd : List V → Hp → VK → Prop := fun xs H Q => ∃ x, xs = [.str x] ∧ x.length = 1 ∧ Q (.int (x.cps.getD 0 0 : Nat)) H
theorem call_ordS : CallR X (.builtin "ord") rOrd := call_ord
def rJoin (K : PySem.W.Frag) : V → List V → Hp → VK → Prop := fun x xs H Q => ∃ a p, ∃ ys : List Str, x = .str a ∧ xs = [.ref p] ∧ (SqL K H p (ys.map V.str) ∨ SqT K H p (ys.map V.str)) ∧ (ys.map (·.length)).sum + ys.length * a.length ≤ 16777216 ∧ Q (.str (Txt.join a ys)) H
theorem pe_joinW {o e : Expr} {to te : TE} {apos pos : Pos} (ho : PE X o to) (he : PE X e te) (hs : starEach [e] X.env = (false, eval e X.env) :: starEach [] X.env := by rfl) (hbase : attributeBase o "join" X.env (eval o X.env) = eval o X.env := by rfl) (hline : (apos.endLine == pos.line) = true := by rfl) :
    PE X (.Call (.Attribute o "join" apos) [e] [] pos) (tM1 (rJoin X.K) to te) := pe_join ho he hs hbase hline
/-- raise C(), C an own class without __init__ -/
theorem pmk_own0 {C : Addr} {bmB : List Value} {B newId initId : String} {x : Str} {p pos : Pos} (F : ExcBaseFacts B newId initId bmB) (q : PySem.W.excIn X.K C bmB newId = true) (gC : X.mg x = some (.ref C)) (kC : PySem.W.keepIn X.K (.ref C) = true) (r : Raises X (.ref C)) (hg : Gl X x)
    (hdb : (x == ("__debug__" : Str)) = false := by decide) : PMk X (.Call (.Name x p) [] [] pos) (fun _ H Q => Q (.ref C) none H) := by
  intro pins s σ H Q I h
  refine wpAny_Call_Name_kw (ld_glob I hg gC ?_ hdb)
  refine PySem.W.callWith_K0 I.kIn kC ?_
  obtain ⟨bm, N, nm, qn, bs, hdct, sn, sub, ab, col, dd, k0, k1, k2, k3, k5, mN, hC, hN, hni, T⟩ := exc_obj I.kIn q
  exact wpAny_call_exc_subT F T hC hN hni (fun h' e hm => mk_of I hm r h (I.hok.gone hm.new)) (by show 0 ≤ sizeLine; rw [sizeLine_eq]; omega)
end
section
variable {X : Cx} {K : PySem.W.Frag} {k : Nat}
theorem k_eqW (e : X.K = K) (hr : Room k X.A) : OpR X (compareOp .Eq) (rEqW K) := e ▸ op_eqW hr.units
theorem k_neW (e : X.K = K) (hr : Room k X.A) : OpR X (compareOp .NotEq) (rNeW K) := e ▸ op_neW hr.units
theorem k_inW (e : X.K = K) (hr : Room k X.A) : OpR X (compareOp .In) (rInW K) := e ▸ op_inW (hu65 hr)
theorem k_ninW (e : X.K = K) (hr : Room k X.A) : OpR X (compareOp .NotIn) (rNinW K) := e ▸ op_ninW (hu65 hr)
theorem k_join {o el : Expr} {to te : TE} {apos pos : Pos} (e : X.K = K) (ho : PE X o to) (he : PE X el te) (hs : starEach [el] X.env = (false, eval el X.env) :: starEach [] X.env := by rfl) (hbase : attributeBase o "join" X.env (eval o X.env) = eval o X.env := by rfl) (hline : (apos.endLine == pos.line) = true := by rfl) :
    PE X (.Call (.Attribute o "join" apos) [el] [] pos) (tM1 (rJoin K) to te) := e ▸ pe_joinW ho he hs hbase hline
end
/-! ### what these do to data -/
def fEqW (a b : PyData) (P : PyData → Prop) : Prop := a.canLay0 = true ∧ b.canLay0 = true ∧ min a.depth b.depth ≤ 64 ∧ P (.bool (PyData.eqv a b))
def fNeW (a b : PyData) (P : PyData → Prop) : Prop := a.canLay0 = true ∧ b.canLay0 = true ∧ min a.depth b.depth ≤ 64 ∧ P (.bool (!PyData.eqv a b))
def fInW (a : PyData) : PyData → (PyData → Prop) → Prop
  | .list ds, P | .tuple ds, P => a.canLay0 = true ∧ PyData.canLayAll0 ds = true ∧ min (PyData.depthAll ds) a.depth ≤ 64 ∧ P (.bool (ds.any fun z => PyData.eqv z a))
  | _, _ => False
def fNinW (a : PyData) : PyData → (PyData → Prop) → Prop
  | .list ds, P | .tuple ds, P => a.canLay0 = true ∧ PyData.canLayAll0 ds = true ∧ min (PyData.depthAll ds) a.depth ≤ 64 ∧ P (.bool (!ds.any fun z => PyData.eqv z a))
  | _, _ => False
def fLeS : PyData → PyData → (PyData → Prop) → Prop
  | .str i, .str j, P => P (.bool (!decide (j.cps.toList < i.cps.toList)))
  | _, _, _ => False
def fIsB (g : Bool → Bool → Bool) : PyData → PyData → (PyData → Prop) → Prop
  | .bool a, .bool b, P => P (.bool (g a b))
  | _, _, _ => False
def fAbs : List PyData → (PyData → Prop) → Prop
  | [.int i], P => P (.int (if i < 0 then -i else i))
  | _, _ => False
def fOrd : List PyData → (PyData → Prop) → Prop
  | [.str z], P => z.length = 1 ∧ P (.int (z.cps.getD 0 0 : Nat))
  | _, _ => False
section
variable {K : PySem.W.Frag}
theorem ao_eqW : AO K (rEqW K) fEqW := fun B H x y a b P hb hx hy p Q q => ⟨a, b, dp_mono same_hide _ _ hx, dp_mono same_hide _ _ hy, p.1, p.2.1, p.2.2.1, q _ _ H (.inl rfl) (.bl _) p.2.2.2⟩
theorem ao_neW : AO K (rNeW K) fNeW := fun B H x y a b P hb hx hy p Q q => ⟨a, b, dp_mono same_hide _ _ hx, dp_mono same_hide _ _ hy, p.1, p.2.1, p.2.2.1, q _ _ H (.inl rfl) (.bl _) p.2.2.2⟩
theorem ao_inW : AO K (rInW K) fInW := fun B H x y a b P hb hx hy p Q q => by
  cases b <;> first | exact p.elim | skip
  case list ds => exact ⟨a, ds, dp_mono same_hide _ _ hx, .inl (dp_mono same_hide _ _ hy), p.1, p.2.1, p.2.2.1, q _ _ H (.inl rfl) (.bl _) p.2.2.2⟩
  case tuple ds => exact ⟨a, ds, dp_mono same_hide _ _ hx, .inr (dp_mono same_hide _ _ hy), p.1, p.2.1, p.2.2.1, q _ _ H (.inl rfl) (.bl _) p.2.2.2⟩
theorem ao_ninW : AO K (rNinW K) fNinW := fun B H x y a b P hb hx hy p Q q => by
  cases b <;> first | exact p.elim | skip
  case list ds => exact ⟨a, ds, dp_mono same_hide _ _ hx, .inl (dp_mono same_hide _ _ hy), p.1, p.2.1, p.2.2.1, q _ _ H (.inl rfl) (.bl _) p.2.2.2⟩
  case tuple ds => exact ⟨a, ds, dp_mono same_hide _ _ hx, .inr (dp_mono same_hide _ _ hy), p.1, p.2.1, p.2.2.1, q _ _ H (.inl rfl) (.bl _) p.2.2.2⟩
theorem ao_leS : AO K rLeS fLeS := fun B H x y a b P hb hx hy p Q q => by
  cases a <;> cases b <;> first | exact p.elim | skip
  case str.str i j => cases hx; cases hy; exact ⟨i, j, rfl, rfl, q _ _ H (.inl rfl) (.bl _) p⟩
theorem ao_isB : AO K rIsB (fIsB fun a b => decide (a = b)) := fun B H x y a b P hb hx hy p Q q => by
  cases a <;> cases b <;> first | exact p.elim | skip
  case bool.bool i j => cases hx; cases hy; exact ⟨i, j, rfl, rfl, q _ _ H (.inl rfl) (.bl _) p⟩
theorem ao_notB : AO K rNotB (fIsB fun a b => !decide (a = b)) := fun B H x y a b P hb hx hy p Q q => by
  cases a <;> cases b <;> first | exact p.elim | skip
  case bool.bool i j => cases hx; cases hy; exact ⟨i, j, rfl, rfl, q _ _ H (.inl rfl) (.bl _) p⟩
theorem ac_abs : AC K rAbs fAbs := fun B H xs ds P hb hd p Q q => by
  match ds, hd, p with
  | [.int i], .cons h1 .nil, p =>
    cases h1
    exact ⟨i, rfl, q _ _ H (.inl rfl) (.int _) p⟩
theorem ac_ord : AC K rOrd fOrd := fun B H xs ds P hb hd p Q q => by
  match ds, hd, p with
  | [.str z], .cons h1 .nil, p =>
    cases h1
    exact ⟨z, rfl, p.1, q _ _ H (.inl rfl) (.int _) p.2⟩
theorem dps_strs {G : Hp} : ∀ {vs : List V} {bs : List Str}, DpAll K G vs (bs.map .str) → vs = bs.map .str
  | [], [], _ => rfl
  | _ :: _, _ :: _, h => by
    cases h with
    | cons h1 h2 => cases h1; rw [dps_strs h2]; rfl
  | [], _ :: _, h => by cases h
  | _ :: _, [], h => by cases h
variable {as : List Sv} {M : Mm} {ta te : TE} {P : PyData → Mm → Prop}
theorem w_join (h : W K ta as M fun a M1 => ∃ z, a = .str z ∧ W K te as M1 fun d M2 => ∃ ys : List Str, d = .list (ys.map .str) ∧ (ys.map (·.length)).sum + ys.length * z.length ≤ 16777216 ∧ P (.str (Txt.join z ys)) M2) : W K (tM1 (rJoin K) ta te) as M P := fun S H0 σ H k r Q q =>
  h S H0 σ H k r _ fun v H1 a M1 k1 e1 b1 ⟨z, ea, h2⟩ => by
    subst ea
    cases b1
    refine ⟨⟨z, rfl⟩, h2 S H0 σ H1 k1 (r.mono e1) _ fun y H2 d M2 k2 e2 b2 ⟨ys, ed, hl, p⟩ => ?_⟩
    subst ed
    obtain ⟨c, rfl⟩ := isl b2
    obtain ⟨vs, s1, _, d1⟩ := lstAt b2
    rw [dps_strs d1] at s1
    exact ⟨z, c, ys, rfl, rfl, .inl s1, hl, q _ H2 _ M2 k2 (e1.trans e2) (.str _) p⟩
end
section
variable {a b : PyData} {P : PyData → Prop}
theorem feqW (x : a.canLay0 = true) (y : b.canLay0 = true) (m : min a.depth b.depth ≤ 64) (z : P (.bool (PyData.eqv a b))) : fEqW a b P := ⟨x, y, m, z⟩
theorem fneW (x : a.canLay0 = true) (y : b.canLay0 = true) (m : min a.depth b.depth ≤ 64) (z : P (.bool (!PyData.eqv a b))) : fNeW a b P := ⟨x, y, m, z⟩
end
/-! ### a wider frame over a frame -/
structure Ext (S : Sy) (H0 : Hp) (S' : Sy) : Prop where
  b : ∀ a, S'.B a = true → S.B a = true ∨ H0 a = none
  i : ∀ H, S'.I H → S.I H
/-- the wish about raising C() holds wherever the frame's word does -/
def Bad (S : Sy) (H0 : Hp) (E : XK) (C : Addr) : Prop := ∀ H', (∀ a o, S.B a = false → H0 a = some o → H' a = some o) → S.I H' → E (.ref C) none H'
/-- a def of data that gives a value where it is good, and raises C() where it is not -/
def spR (C : Addr) (pre : List PyData → Prop) (good : List PyData → Bool) (val : List PyData → PyData) (K : PySem.W.Frag) : Sp := fun vs H Q E => ∃ (S : Sy) (ds : List PyData), S.I H ∧ pre ds ∧ DpAll K (Hide S.B H) vs ds ∧
  (good ds = true → ∀ v H', (∀ a o, S.B a = false → H a = some o → H' a = some o) → S.I H' → Dp K (Hide S.B H') v (val ds) → Q v H') ∧ (good ds = false → Bad S H E C)
section
variable {K : PySem.W.Frag} {S : Sy} {H0 : Hp} {E : XK} {C : Addr} {as : List Sv} {M : Mm} {te tb : TE} {ta tr : TA} {t : TT} {P : PyData → Mm → Prop} {PA : List Sv → Mm → Prop} {pre : List PyData → Prop} {good : List PyData → Bool} {val : List PyData → PyData}
theorem Ext.refl : Ext S H0 S := ⟨fun _ h => .inl h, fun _ h => h⟩
def WR (K : PySem.W.Frag) (S : Sy) (H0 : Hp) (te : TE) (as : List Sv) (M : Mm) (P : PyData → Mm → Prop) : Prop := ∀ S', Ext S H0 S' → ∀ σ H, Ok0 K S' H0 H M → Rs K (Gh S' M H) σ as → ∀ Q : VK,
  (∀ v H' d M', Ok0 K S' H0 H' M' → Same (Gh S' M H) (Gh S' M' H') → Dp K (Gh S' M' H') v d → P d M' → Q v H') → te σ H Q
def WAR (K : PySem.W.Frag) (S : Sy) (H0 : Hp) (ta : TA) (as : List Sv) (M : Mm) (P : List Sv → Mm → Prop) : Prop := ∀ S', Ext S H0 S' → ∀ σ H, Ok0 K S' H0 H M → Rs K (Gh S' M H) σ as → ∀ Q : List V → Hp → Prop,
  (∀ vs H' ss M', Ok0 K S' H0 H' M' → Same (Gh S' M H) (Gh S' M' H') → RA K (Gh S' M' H') vs ss → P ss M' → Q vs H') → ta σ H Q
theorem wr_of (h : W K te as M P) : WR K S H0 te as M P := fun S' _ σ H k r Q q => h S' H0 σ H k r Q q
theorem war_of (h : WA K ta as M PA) : WAR K S H0 ta as M PA := fun S' _ σ H k r Q q => h S' H0 σ H k r Q q
theorem war_nil (p : PA [] M) : WAR K S H0 tNil as M PA := war_of (wa_nil p)
theorem war_cons (h : WR K S H0 te as M fun d M1 => WAR K S H0 tr as M1 fun ss M2 => PA (.dat d :: ss) M2) : WAR K S H0 (tCons te tr) as M PA := fun S' x σ H k r Q q =>
  h S' x σ H k r _ fun v H1 d M1 k1 e1 b1 hr => hr S' x σ H1 k1 (r.mono e1) _ fun vs H2 ss M2 k2 e2 b2 p => q _ H2 (.dat d :: ss) M2 k2 (e1.trans e2) ⟨⟨v, rfl, dp_mono e2 _ _ b1⟩, b2⟩ p
theorem wr_tup (h : WAR K S H0 ta as M fun ss M' => ∃ ds : List PyData, ss = ds.map .dat ∧ ds.length ≤ 100000 ∧ P (.tuple ds) M') : WR K S H0 (tTup ta) as M P := fun S' x σ H k r Q q =>
  h S' x σ H k r _ fun vs H1 ss M1 k1 e1 b1 ⟨ds, es, hl, p⟩ => by
    subst es
    have bd := ra_dat b1
    refine ⟨sz_of (by rw [dps_len bd]; exact hl), fun a ha => q _ _ (.tuple ds) M1 (ok_new k1 ha) (e1.trans (new_same ha)) ?_ p⟩
    exact .tup (.of (show Gh S' M1 (upd H1 a (.tup vs)) a = some (.tup vs) by unfold Gh; rw [hide_f (new_hid k1 ha), upd_same])) (dps_mono (new_same ha) _ _ bd)
theorem wr_cb {r : List V → Hp → VK → Prop} {f : List PyData → (PyData → Prop) → Prop} (ho : AC K r f) (h : WAR K S H0 ta as M fun ss M1 => ∃ ds : List PyData, ss = ds.map .dat ∧ f ds fun d => P d M1) : WR K S H0 (tCB r ta) as M P := fun S' x σ H k rs Q q =>
  h S' x σ H k rs _ fun xs H1 ss M1 k1 e1 b1 ⟨ds, es, p⟩ => by
    subst es
    refine ho _ H1 xs ds _ (bm_trk k1) (ra_dat b1) p Q fun v d H3 hc hd pd => ?_
    rcases hc with rfl | ⟨c, o, hn, rfl⟩
    · exact q v _ d M1 k1 e1 hd pd
    · exact q v _ d M1 (ok_new k1 hn) (e1.trans (new_same hn)) hd pd
/-- a call of a def that may raise -/
theorem wr_call (h : WAR K S H0 ta as M fun ss M1 => ∃ ds : List PyData, ss = ds.map .dat ∧ pre ds ∧ (good ds = true → P (val ds) M1) ∧ (good ds = false → Bad S H0 E C)) : WR K S H0 (tCall (spR C pre good val K) [] E ta) as M P := fun S' x σ H k r Q q =>
  h S' x σ H k r _ fun vs H1 ss M1 k1 e1 b1 ⟨ds, es, hp, p, bad⟩ => by
    subst es
    rw [List.append_nil]
    have low : ∀ {H' : Hp}, (∀ a o, Bm S' M1 a = false → H1 a = some o → H' a = some o) → (∀ z ∈ M1, H' z.1 = H1 z.1) → ∀ a o, S'.B a = false → H0 a = some o → H' a = some o := fun {H'} xt iv a o e3 e4 => by
      have e5 := k1.xt a o e3 e4
      by_cases e6 : Bm S' M1 a = false
      · exact xt a o e6 e5
      · rcases (Bool.or_eq_true _ _).mp (show Bm S' M1 a = true by simpa using e6) with e | e
        · rw [e3] at e; cases e
        · obtain ⟨z, hz, y⟩ := List.any_eq_true.mp e
          have y : z.1 = a := by simpa using y
          rw [← y, iv z hz, y]
          exact e5
    refine ⟨syAt S' M1 H1 fun z hz => by obtain ⟨us, a, _⟩ := k1.mem z hz; rw [a]; simp, ds, ⟨k1.inv, fun _ _ => rfl⟩, hp, ra_dat b1, fun hg v H' xt iv dp => ?_, fun hg H' xt iv => bad hg H' (fun a o e3 e4 => low xt iv.2 a o ?_ e4) (x.i _ iv.1)⟩
    · have sm : Same (Gh S' M1 H1) (Gh S' M1 H') := gh_any xt
      refine q v H' _ M1 ⟨low xt iv.2, iv.1, k1.nd, k1.loc, fun z hz => ?_⟩ (e1.trans sm) dp (p hg)
      obtain ⟨us, a, b⟩ := k1.mem z hz
      exact ⟨us, by rw [iv.2 z hz]; exact a, dps_mono sm _ _ b⟩
    · cases e6 : S'.B a with
      | false => rfl
      | true =>
        rcases x.b a e6 with z | z
        · rw [e3] at z; cases z
        · rw [e4] at z; cases z
/-- a comprehension a turn of which may raise -/
theorem wr_lc {wi : TI} {g : TG} {vs ts : List Nat} {f : PyData → List Sv → (List Sv → Prop) → Prop} (hg : GA K g ts f) (ht : ∀ t ∈ ts, t ∈ vs) (h : WI K wi as M fun xs M1 => ∃ IV : Nat → List PyData → Mm → Prop, IV 0 [] M1 ∧
    (∀ i x acc Mi, xs[i]? = some x → IV i acc Mi → f x (awipe as vs) fun as2 => WT K t as2 Mi fun b M2 => if b = true then WR K S H0 te as2 M2 fun y M3 => acc.length < 100000 ∧ IV (i + 1) (acc ++ [y]) M3 else IV (i + 1) acc M2) ∧
    (∀ acc M', IV xs.length acc M' → P (.list acc) M')) : WR K S H0 (tLc wi g t te vs) as M P := fun S1 x σ H k r Q q =>
  h S1 H0 σ H k r _ fun J H1 xs M1 k1 e1 hJ ⟨IV, i0, step, fin⟩ => fun D hD => by
    have sD : S1.B D = false := (bm_false.mp (new_hid k1 hD)).1
    have h0 : H0 D = none := by
      cases e : H0 D with
      | none => rfl
      | some o => have z := k1.xt D o sD e; rw [hD] at z; cases z
    have xD : ∀ va, Ext S H0 (syD S1 D va) := fun va => by
      refine ⟨fun a ha => ?_, fun H' i => x.i _ i.1⟩
      by_cases e : a = D
      · exact .inr (by rw [e]; exact h0)
      · cases e1 : S1.B a with
        | true => exact x.b a e1
        | false => rw [syd_mk e1 e] at ha; cases ha
    let Nw : Nat → Hp → Prop := fun i Hc => ∃ acc va Mi, IV i acc Mi ∧ Ok0 K (syD S1 D va) H0 Hc Mi ∧ DpAll K (Gh (syD S1 D va) Mi Hc) va acc ∧ Rs K (Gh (syD S1 D va) Mi Hc) σ as ∧ Same (Gh S1 M1 H1) (Gh (syD S1 D va) Mi Hc)
    have n0 : Nw 0 (upd H1 D (.lst [])) := ⟨[], [], M1, i0, ok_D k1 hD, .nil, (r.mono e1).mono (same_D k1 hD), same_D k1 hD⟩
    refine ⟨fun i m Hc => m = xs.length - i ∧ i ≤ xs.length ∧ Nw i Hc, ⟨xs.length, by simp, Nat.zero_le _, n0⟩, ?_⟩
    rintro i m Hc ⟨rfl, hi, acc, va, Mi, hI, kc, da, rc, ec⟩
    by_cases hlt : i < xs.length
    · refine .inr ⟨hJ.go _ _ i ec same_hide hlt, Nw (i + 1), fun H' p' => ⟨xs.length - (i + 1), by omega, rfl, hlt, p'⟩, fun v H2 y => ?_⟩
      obtain ⟨eh, yd⟩ := hJ.yld _ _ i v H2 ec same_hide y
      subst eh
      have hx : xs[i]? = some xs[i] := List.getElem?_eq_getElem hlt
      refine hg (Gh (syD S1 D va) Mi H2) H2 v xs[i] (wipe σ vs) (awipe as vs) _ same_hide (yd _ hx) (rs_wipe rc vs) (step i _ acc Mi hx hI) _ fun σ2 as2 r2 wp p => ?_
      refine ⟨by rw [wp vs ht, wipe_wipe], ?_⟩
      refine p (syD S1 D va) H0 σ2 H2 kc r2 _ fun b H3 M3 k3 e3 p3 => ?_
      cases b with
      | false => exact ⟨acc, va, M3, p3, k3, dps_mono e3 _ _ da, rc.mono e3, ec.trans e3⟩
      | true =>
        refine (show WR K S H0 te as2 M3 _ from p3) (syD S1 D va) (xD va) σ2 H3 k3 (r2.mono e3) _ fun w H4 y M4 k4 e4 b4 ⟨hl, p4⟩ => ?_
        refine ⟨va, k4.inv.2, Nat.lt_of_lt_of_le (by rw [dps_len da]; exact hl) (by decide), acc ++ [y], va ++ [w], M4, p4, ok_Dset k4 sD, ?_, ?_, ?_⟩
        · rw [gd_upd (vb := va)]
          exact dps_app (dps_mono (e3.trans e4) _ _ da) (.cons b4 .nil)
        · rw [gd_upd (vb := va)]
          exact rc.mono (e3.trans e4)
        · rw [gd_upd (vb := va)]
          exact ec.trans (e3.trans e4)
    · have e : i = xs.length := by omega
      subst e
      refine .inl ⟨hJ.stop _ _ ec same_hide, q _ Hc (.list acc) Mi (ok_Dout kc sD h0) (e1.trans (ec.trans same_Dout)) ?_ (fin acc Mi hI)⟩
      exact .lst (SqL.of (show Gh S1 Mi Hc D = some (.lst va) by unfold Gh; rw [hide_f (bm_false.mpr ⟨sD, ok_D_ne kc⟩)]; exact kc.inv.2)) (dps_mono same_Dout _ _ da)
/-- .. over a couple of names, each item's value by a function -/
theorem wr_map2 {wi : TI} {i j : Nat} {vs : List Nat} (hi : i ∈ vs) (hj : j ∈ vs) (h : WI K wi as M fun xs M1 => ∃ g : PyData → PyData, xs.length ≤ 100000 ∧
    (∀ x ∈ xs, ∃ a b, (x = .tuple [a, b] ∨ x = .list [a, b]) ∧ WR K S H0 te (((awipe as vs).set i (.dat a)).set j (.dat b)) M1 fun y M2 => y = g x ∧ M2 = M1) ∧ P (.list (xs.map g)) M1) : WR K S H0 (tLc wi (gSeq K 2 (gCons (gName i) (gCons (gName j) gNil))) tYes te vs) as M P := by
  refine wr_lc ga_pair (by intro t ht; simp at ht; rcases ht with rfl | rfl <;> assumption) fun S H0 σ H k r R q => h S H0 σ H k r R fun J H' xs M' k' e' it ⟨g, hl, hx, hp⟩ => q J H' xs M' k' e' it ⟨fun n acc M2 => acc = (xs.take n).map g ∧ M2 = M', ⟨rfl, rfl⟩, fun n x acc Mi hn ⟨ea, em⟩ => ?_, fun acc M2 ⟨ea, em⟩ => by rw [ea, em, List.take_length]; exact hp⟩
  subst ea em
  obtain ⟨a, b, ex, hw⟩ := hx x (List.mem_of_getElem? hn)
  refine ⟨a, b, ex, ?_⟩
  intro S2 H02 σ2 H2 k2 r2 Q2 q2
  refine q2 true H2 Mi k2 (Same.refl _) ?_
  show WR K _ _ te _ Mi _
  intro S3 x3 σ3 H3 k3 r3 Q3 q3
  refine hw S3 x3 σ3 H3 k3 r3 Q3 fun v H4 y M4 k4 e4 b4 ⟨ey, em⟩ => q3 v H4 y M4 k4 e4 b4 ?_
  subst ey em
  have hlt := (List.getElem?_eq_some_iff.mp hn).1
  refine ⟨by rw [List.length_map, List.length_take]; omega, ?_, rfl⟩
  rw [List.take_add_one, hn, List.map_append]
  rfl
/-! ### statements at a frame of its own -/
def WX (K : PySem.W.Frag) (S : Sy) (H0 : Hp) (ts : TS) (as : List Sv) (M : Mm) (A : AE) : Prop := ∀ σ H (D : Ends), Ok0 K S H0 H M → Rs K (Gh S M H) σ as →
  (∀ σ' H' as' M', Ok0 K S H0 H' M' → Rs K (Gh S M' H') σ' as' → Same (Gh S M H) (Gh S M' H') → A.nx as' M' → D.nx σ' H') → (∀ v H' d M', Ok0 K S H0 H' M' → Dp K (Gh S M' H') v d → A.rt d M' → D.rt v H') → ts D σ H
variable {A : AE} {s1 s2 ts : TS}
theorem wx_ws (h : WS K ts as M ⟨A.nx, A.rt, fun _ _ => False, fun _ _ => False⟩) : WX K S H0 ts as M A := fun σ H D k r n rt => h S H0 σ H D k r n rt (fun _ _ _ _ _ _ _ z => z.elim) (fun _ _ _ _ _ _ _ z => z.elim)
theorem wx_seq (h : WX K S H0 s1 as M { A with nx := fun as' M' => WX K S H0 s2 as' M' A }) : WX K S H0 (tSeq s1 s2) as M A := fun σ H D k r n rt =>
  h σ H { D with nx := s2 D } k r (fun σ' H' as' M' k' r' e' p => p σ' H' D k' r' (fun σ'' H'' as'' M'' k'' r'' e'' => n σ'' H'' as'' M'' k'' r'' (e'.trans e'')) rt) rt
theorem wx_set {i : Nat} (h : WR K S H0 te as M fun d M' => A.nx (as.set i (.dat d)) M') : WX K S H0 (tAsg te (gName i)) as M A := fun σ H D k r n _ =>
  h S Ext.refl σ H k r _ fun v H1 d M1 k1 e1 b1 p => n _ H1 (as.set i (.dat d)) M1 k1 ((r.mono e1).set i (s := .dat d) ⟨v, rfl, b1⟩) e1 p
theorem wx_ret (h : WR K S H0 te as M A.rt) : WX K S H0 (tRet te) as M A := fun σ H D k r _ rt => h S Ext.refl σ H k r _ fun v H1 d M1 k1 e1 b1 p => rt v H1 d M1 k1 b1 p
theorem wx_drop (h : WR K S H0 te as M fun _ M' => A.nx as M') : WX K S H0 (tDrop te) as M A := fun σ H D k r n _ =>
  h S Ext.refl σ H k r _ fun v H1 d M1 k1 e1 b1 p => n σ H1 as M1 k1 (r.mono e1) e1 p
theorem wx_next (p : A.nx as M) : WX K S H0 tNext as M A := fun σ H D k r n _ => n σ H as M k r (Same.refl _) p
theorem wx_if (h : WT K t as M fun b M' => if b = true then WX K S H0 s1 as M' A else WX K S H0 s2 as M' A) : WX K S H0 (tIfS t s1 s2) as M A := fun σ H D k r n rt => h S H0 σ H k r _ fun b H1 M1 k1 e1 p => by
  have go : ∀ s, WX K S H0 s as M1 A → s D σ H1 := fun s hs => hs σ H1 D k1 (r.mono e1) (fun σ'' H'' as'' M'' k'' r'' e'' => n σ'' H'' as'' M'' k'' r'' (e1.trans e'')) rt
  cases b with
  | true => exact go s1 p
  | false => exact go s2 p
/-- raise C() -/
theorem wx_raise (h : Bad S H0 E C) : WX K S H0 (fun _ _ H => E (.ref C) none H) as M A := fun σ H D k r _ _ => h H k.xt k.inv
/-- a def that may raise keeps its word -/
theorem to_spR {N : List Str} {vs : List V} {H : Hp} {Q : VK} {n : Nat} (hn : ∀ ds, pre ds → ds.length = n) (hb : ∀ (S : Sy) ds, pre ds → (good ds = false → Bad S H E C) → WX K S H ts (ds.map .dat ++ List.replicate (N.length - n) .no) [] ⟨fun _ _ => good ds = true ∧ val ds = .none, fun d _ => good ds = true ∧ d = val ds, fun _ _ => False, fun _ _ => False⟩)
    (h : spR C pre good val K vs H Q E) : ts { nx := fun _ H' => Q .non H', rt := Q } (L2.start N vs) H := by
  obtain ⟨S, ds, iv, hp, hd, q, bad⟩ := h
  have ln : vs.length = n := by rw [dps_len hd]; exact hn ds hp
  have k0 : Ok0 K S H H [] := ⟨fun _ _ _ e => e, iv, List.nodup_nil, (fun z hz => by cases hz), (fun z hz => by cases hz)⟩
  have hg : Gh S [] H = Hide S.B H := by unfold Gh; rw [bm_nil]
  have r0 : Rs K (Gh S [] H) (L2.start N vs) (ds.map .dat ++ List.replicate (N.length - n) .no) := by
    unfold L2.start
    rw [ln, hg]
    exact ra_start _ (dat_ra hd)
  have fin : ∀ v H' d M', Ok0 K S H H' M' → Dp K (Gh S M' H') v d → good ds = true ∧ d = val ds → Q v H' := fun v H' d M' k' dp ⟨g1, g2⟩ => by
    subst g2
    refine q g1 v H' k'.xt k'.inv (dp_mono (fun a o e => ?_) _ _ dp)
    obtain ⟨e1, e2⟩ := hide_some e
    rw [hide_f (bm_false.mp e1).1]
    exact e2
  exact hb S ds hp bad (L2.start N vs) H _ k0 r0 (fun σ' H' as' M' k' _ _ p => fin .non H' .none M' k' .non ⟨p.1, p.2.symm⟩) (fun v H' d M' k' dp p => fin v H' d M' k' dp p)
theorem spR_len {vs : List V} {H : Hp} {Q : VK} {n : Nat} (hn : ∀ ds, pre ds → ds.length = n) (h : spR C pre good val K vs H Q E) : vs.length = n := by
  obtain ⟨S, ds, _, hp, hd, _⟩ := h
  rw [dps_len hd]; exact hn ds hp
end
/-! ### a def that may be called and may raise -/
structure CalX (P : Program) (w : World) (K : PySem.W.Frag) (mg : Str → Option Value) (base : Heap) (k : Nat) (x : Str) (ps : List Str) (sp : Sp) : Prop where
  ex : ∃ f fd, FnOk P w K mg base (L2.CX P w) k f fd ps sp ∧ mg x = some (.ref f) ∧ PySem.W.keepIn K (.ref f) = true ∧ Binds K fd ps []
section
variable {P : Program} {w : World} {K : PySem.W.Frag} {mg : Str → Option Value} {base : Heap}
theorem CalX.mono {j k : Nat} {x : Str} {ps : List Str} {sp : Sp} (c : CalX P w K mg base j x ps sp) (h : j ≤ k) : CalX P w K mg base k x ps sp := by
  obtain ⟨f, fd, a, b, d, e⟩ := c.ex
  exact ⟨f, fd, a.mono h, b, d, e⟩
theorem CalX.void {k : Nat} {x : Str} {st : Stmt} {ps : List Str} {sp : Sp} (F : Dfn K mg x st ps) (h : ∀ vs H Q E, ¬ sp vs H Q E) : CalX P w K mg base k x ps sp := by
  obtain ⟨f, fd, a, b, c⟩ := F.ex
  exact ⟨f, fd, ⟨fun vs H Q E q => absurd q (h _ _ _ _), fun A outer s H args us vs Q E hr he hb hv q => absurd q (h _ _ _ _)⟩, b, a.kp, c⟩
theorem pe_calP {X : Cx} {k : Nat} {x : Str} {ps : List Str} {sp : Sp} {p pos : Pos} {e : Expr} {es : List Expr} {t : TA} {E : XK} (c : CalX X.prog X.w X.K X.mg X.base k x ps sp) (hp : Passes (L2.CX X.prog X.w) X E) (hr : Room k X.A) (ha : PA X (e :: es) t) (hg : Gl X x := by rfl)
    (hdb : (x == ("__debug__" : Str)) = false := by decide) (he : starEach (e :: es) X.env = (false, eval e X.env) :: starEach es X.env := by rfl) (hpl : (backTo pos (starEach es X.env)).any (·.1) = false := by rfl) : PE X (.Call (.Name x p) (e :: es) [] pos) (tCall sp [] E t) := by
  obtain ⟨f, fd, F, hm, hk, hb⟩ := c.ex
  exact pe_call F hr hg hm hk hb .nil hp ha hdb he hpl
theorem Dfn.okX {x : Str} {st : Stmt} {N ps : List Str} {k : Nat} {sp : Sp} (F : Dfn K mg x st ps) (S : FnScope N ps (defScope st)) (len : ∀ vs H Q E, sp vs H Q E → vs.length = ps.length)
    (hbody : ∀ (f : Addr) (cdv : Value) (A : Around) (outer : List Env) (s : Shared) (H : Hp) (vs : List V) (Q : VK) (E : XK), Room k (A.deeper (envOfC x (defScope st) s.heap.objs.size f cdv)) → sp vs H Q E →
      ∃ t, PSs (cxOf (L2.CX P w) P w K mg base N x (defScope st) f cdv A outer s H E) (defBody st) t ∧ t { nx := fun _ H' => Q .non H', rt := Q } (L2.start N vs) H) : CalX P w K mg base (k + 1) x ps sp := by
  obtain ⟨f, fd, a, b, c⟩ := F.ex
  exact ⟨f, fd, a.okX S len (fun cdv A outer s H vs Q E hr h => hbody f cdv A outer s H vs Q E hr h), b, a.kp, c⟩
end
end Ab

set_option Elab.async false
set_option linter.all false
set_option maxRecDepth 100000
set_option maxHeartbeats 4000000
namespace K1
open PySem PySem.Spec PyProof.Rows L2 Ab

/-! ### the text -/
def topS (i : Nat) : Stmt := PySem.Challenge.pw_listasks_k01_kinds_and_values_let_by_or.main.body.getD i (.Pass ⟨0, 0, 0, 0⟩)
abbrev s_is_integer : Stmt := topS 11
theorem sc_is_integer : FnScope ["thing"] ["thing"] (defScope s_is_integer) := ⟨rfl, rfl, rfl, by decide +kernel, rfl, by decide +kernel, by decide +kernel⟩
abbrev s_is_sequence : Stmt := topS 12
theorem sc_is_sequence : FnScope ["thing"] ["thing"] (defScope s_is_sequence) := ⟨rfl, rfl, rfl, by decide +kernel, rfl, by decide +kernel, by decide +kernel⟩
abbrev s_is_couple : Stmt := topS 13
theorem sc_is_couple : FnScope ["thing"] ["thing"] (defScope s_is_couple) := ⟨rfl, rfl, rfl, by decide +kernel, rfl, by decide +kernel, by decide +kernel⟩
abbrev s_is_ascending : Stmt := topS 14
theorem sc_is_ascending : FnScope ["things", "k"] ["things"] (defScope s_is_ascending) := ⟨rfl, rfl, rfl, by decide +kernel, rfl, by decide +kernel, by decide +kernel⟩
abbrev s_is_name : Stmt := topS 15
theorem sc_is_name : FnScope ["thing", "sign"] ["thing"] (defScope s_is_name) := ⟨rfl, rfl, rfl, by decide +kernel, rfl, by decide +kernel, by decide +kernel⟩
abbrev s_is_text_sign : Stmt := topS 16
theorem sc_is_text_sign : FnScope ["sign"] ["sign"] (defScope s_is_text_sign) := ⟨rfl, rfl, rfl, by decide +kernel, rfl, by decide +kernel, by decide +kernel⟩
abbrev s_fits_base : Stmt := topS 17
theorem sc_fits_base : FnScope ["value", "kind", "sign"] ["value", "kind"] (defScope s_fits_base) := ⟨rfl, rfl, rfl, by decide +kernel, rfl, by decide +kernel, by decide +kernel⟩
abbrev s_is_base : Stmt := topS 18
theorem sc_is_base : FnScope ["kind"] ["kind"] (defScope s_is_base) := ⟨rfl, rfl, rfl, by decide +kernel, rfl, by decide +kernel, by decide +kernel⟩
abbrev s_check_kind : Stmt := topS 19
theorem sc_check_kind : FnScope ["kind"] ["kind"] (defScope s_check_kind) := ⟨rfl, rfl, rfl, by decide +kernel, rfl, by decide +kernel, by decide +kernel⟩
abbrev s_checked_kind : Stmt := topS 20
theorem sc_checked_kind : FnScope ["kind", "room", "word", "rest"] ["kind", "room"] (defScope s_checked_kind) := ⟨rfl, rfl, rfl, by decide +kernel, rfl, by decide +kernel, by decide +kernel⟩
abbrev s_checked_couples : Stmt := topS 21
theorem sc_checked_couples : FnScope ["couples", "room", "label", "kind", "couple", "_"] ["couples", "room"] (defScope s_checked_couples) := ⟨rfl, rfl, rfl, by decide +kernel, rfl, by decide +kernel, by decide +kernel⟩
abbrev s_law_pool : Stmt := topS 23
theorem sc_law_pool : FnScope ["_law_script", "_law_at", "_law_cell", "_law_size", "_law_start"] ["_law_script", "_law_at"] (defScope s_law_pool) := ⟨rfl, rfl, rfl, by decide +kernel, rfl, by decide +kernel, by decide +kernel⟩
abbrev s_law_draw : Stmt := topS 24
theorem sc_law_draw : FnScope ["_law_pool_here", "_law_many", "_law_drawn"] ["_law_pool_here", "_law_many"] (defScope s_law_draw) := ⟨rfl, rfl, rfl, by decide +kernel, rfl, by decide +kernel, by decide +kernel⟩
abbrev s_law_exact : Stmt := topS 25
theorem sc_law_exact : FnScope ["_law_told", "_law_due", "_law_k"] ["_law_told", "_law_due"] (defScope s_law_exact) := ⟨rfl, rfl, rfl, by decide +kernel, rfl, by decide +kernel, by decide +kernel⟩
abbrev s_law_base_value : Stmt := topS 26
theorem sc_law_base_value : FnScope ["_law_pool_here", "_law_kind", "_law_drawn", "_law_size", "_law_signs", "_law_k"] ["_law_pool_here", "_law_kind"] (defScope s_law_base_value) := ⟨rfl, rfl, rfl, by decide +kernel, rfl, by decide +kernel, by decide +kernel⟩
abbrev s_law_bad_kinds : Stmt := topS 27
theorem sc_law_bad_kinds : FnScope ["_law_six", "_law_label"] [] (defScope s_law_bad_kinds) := ⟨rfl, rfl, rfl, by decide +kernel, rfl, by decide +kernel, by decide +kernel⟩
abbrev s_law_good_kinds : Stmt := topS 28
theorem sc_law_good_kinds : FnScope ["_law_five", "_law_flat", "_law_deeper", "_law_label"] [] (defScope s_law_good_kinds) := ⟨rfl, rfl, rfl, by decide +kernel, rfl, by decide +kernel, by decide +kernel⟩
abbrev s_law_around : Stmt := topS 29
theorem sc_law_around : FnScope ["_law_pool_here", "_law_kind", "_law_turns", "_law_out", "_law_k", "_law_way"] ["_law_pool_here", "_law_kind", "_law_turns"] (defScope s_law_around) := ⟨rfl, rfl, rfl, by decide +kernel, rfl, by decide +kernel, by decide +kernel⟩
abbrev s_law_let_by : Stmt := topS 30
theorem sc_law_let_by : FnScope ["_law_kind", "e"] ["_law_kind"] (defScope s_law_let_by) := ⟨rfl, rfl, rfl, by decide +kernel, rfl, by decide +kernel, by decide +kernel⟩
abbrev s_law : Stmt := topS 31
theorem sc_law : FnScope ["_law_script", "_law_pool_here", "_law_flat", "_law_deeper", "_law_turns", "_law_good", "_law_bad", "_law_inner", "_law_name", "_law_due", "_law_kind", "_law_value", "_law_own", "_law_far", "_law_short", "_law_odd", "_law_k"] ["_law_script"] (defScope s_law) := ⟨rfl, rfl, rfl, by decide +kernel, rfl, by decide +kernel, by decide +kernel⟩
/-- what the top has written -/
structure Txt (K : PySem.W.Frag) (mg : Str → Option Value) (aB : Addr) : Prop where
  n_abs : mg "abs" = none
  n_all : mg "all" = none
  n_bool : mg "bool" = none
  n_int : mg "int" = none
  n_isinstance : mg "isinstance" = none
  n_len : mg "len" = none
  n_list : mg "list" = none
  n_ord : mg "ord" = none
  n_range : mg "range" = none
  n_str : mg "str" = none
  n_tuple : mg "tuple" = none
  g_LETTERS : ∃ t, mg "LETTERS" = some (.str "abcdefghijklmnopqrstuvwxyz" t)
  g_NAME_SIGNS : ∃ t, mg "NAME_SIGNS" = some (.str "abcdefghijklmnopqrstuvwxyz0123456789" t)
  g_MOST_NAME_SIGNS : ∃ t, mg "MOST_NAME_SIGNS" = some (.int 8 t)
  g_MOST_TEXT_SIGNS : ∃ t, mg "MOST_TEXT_SIGNS" = some (.int 12 t)
  g_MOST_FIELDS : ∃ t, mg "MOST_FIELDS" = some (.int 5 t)
  g_MOST_DEEP : ∃ t, mg "MOST_DEEP" = some (.int 12 t)
  g_BASE_KINDS : mg "BASE_KINDS" = some (.ref aB)
  k_BASE_KINDS : ∀ H, Dp K H (.ref aB) (.tuple [.str "int", .str "text", .str "truth"])
/-- one step of the reading -/
local macro_rules | `(tactic| walk_at "w") => `(tactic| first
  | (with_reducible refine ws_seq ?_) | (with_reducible refine ws_next ?_) | (with_reducible refine ws_set ?_) | (with_reducible refine ws_par ?_) | (with_reducible refine ws_ret ?_) | (with_reducible refine ws_if ?_) | (with_reducible refine ws_drop ?_)
  | (refine w_var rfl ?_) | (with_reducible refine w_int ?_) | (with_reducible refine w_str ?_) | (with_reducible refine w_bl ?_) | (with_reducible refine w_non ?_)
  | (with_reducible refine wa_nil ?_) | (with_reducible refine wa_cons ?_) | (with_reducible refine w_tup ?_) | (with_reducible refine w_lst ?_)
  | (with_reducible refine wt_test ?_) | (with_reducible refine wt_B ?_) | (with_reducible refine wt_not ?_) | (with_reducible refine wt_and ?_) | (with_reducible refine wt_or ?_)
  | (with_reducible refine w_andV ?_) | (with_reducible refine w_orV ?_) | (with_reducible refine w_notV ?_) | (with_reducible refine w_ite ?_)
  | (with_reducible refine w_op ao_eqW ?_) | (with_reducible refine w_op ao_neW ?_) | (with_reducible refine w_op ao_eq ?_) | (with_reducible refine w_op ao_ne ?_) | (with_reducible refine w_op ao_isB ?_) | (with_reducible refine w_op ao_notB ?_) | (with_reducible refine w_op ao_ix ?_) | (with_reducible refine w_op ao_plus ?_) | (with_reducible refine w_op ao_less ?_) | (with_reducible refine w_op ao_le ?_) | (with_reducible refine w_op ao_gt ?_) | (with_reducible refine w_op ao_ge ?_)
  | (with_reducible refine w_op ao_sub ?_) | (with_reducible refine w_op ao_mul ?_) | (with_reducible refine w_op ao_mod ?_) | (with_reducible refine w_op ao_div ?_) | (with_reducible refine w_op ao_pow ?_) | (with_reducible refine w_op ao_isNo ?_) | (with_reducible refine w_op ao_inSg ?_) | (with_reducible refine w_op ao_inW ?_) | (with_reducible refine w_op ao_ninW ?_) | (with_reducible refine w_op ao_inSeq ?_) | (with_reducible refine w_op ao_ninSeq ?_)
  | (with_reducible refine w_cb ac_len ?_) | (with_reducible refine w_cb ac_tupleOf ?_) | (with_reducible refine w_cb ac_intOf ?_) | (with_reducible refine w_cb ac_abs ?_) | (with_reducible refine w_cb ac_ord ?_) | (with_reducible refine w_cb ac_all ?_) | (with_reducible refine w_cb ac_any ?_)
  | (with_reducible refine w_isi (by decide) ?_) | (with_reducible refine w_isi2 (by decide) (by decide) ?_) | (with_reducible refine w_sl ?_) | (with_reducible refine wo_none ?_) | (with_reducible refine wo_some ?_)
  | (with_reducible refine w_chain ao_le ao_le ?_) | (with_reducible refine w_chain ao_leS ao_leS ?_) | (with_reducible refine w_call ?_))
local macro_rules | `(tactic| walk_at "v") => `(tactic| first
  | (with_reducible refine m0 ?_) | (with_reducible refine m1 ?_) | (with_reducible refine m2 ?_) | (with_reducible refine m3 ?_) | (with_reducible refine m5 ?_)
  | (with_reducible refine exb ?_) | (with_reducible refine exi ?_) | (with_reducible refine exl ?_) | (with_reducible refine exql ?_) | (with_reducible refine exqt ?_)
  | (refine fixt rfl ?_) | (refine fixl rfl ?_) | (refine fslt rfl ?_) | (refine fsll rfl ?_)
  | (with_reducible refine flent ?_; dsimp only [List.length_cons, List.length_nil]) | (with_reducible refine flenl ?_; dsimp only [List.length_cons, List.length_nil])
  | (with_reducible refine fii (by first | trivial | decide) ?_) | (with_reducible refine fpi ?_) | (with_reducible refine flti ?_) | (with_reducible refine fint ?_) | (with_reducible refine ftupl ?_) | (with_reducible refine ftupt ?_)
  | (with_reducible refine feqW (by decide +kernel) (by decide +kernel) (by decide +kernel) ?_) | (with_reducible refine fneW (by decide +kernel) (by decide +kernel) (by decide +kernel) ?_)
  | (with_reducible refine feq (by decide +kernel) (by decide +kernel) ?_) | (with_reducible refine fne (by decide +kernel) (by decide +kernel) ?_)
  | (with_reducible refine iteK rfl ?_) | (with_reducible refine iteN rfl ?_) | (with_reducible refine iteK (by decide +kernel) ?_) | (with_reducible refine iteN (by decide +kernel) ?_))
local macro_rules | `(tactic| walk_at "x") => `(tactic| first | (with_reducible refine wx_seq ?_) | (with_reducible refine wx_if ?_) | (with_reducible refine wx_next ?_) | (with_reducible refine wx_ret ?_) | (with_reducible refine wr_tup ?_) | (with_reducible refine war_cons ?_) | (with_reducible refine war_nil ?_))
local macro_rules | `(tactic| walk_at "ww") => `(tactic| repeat (first | walk_at "w" | walk_at "v" | walk_at "x"))

section
variable {P : Program} {w : World} {K : PySem.W.Frag} {mg : Str → Option Value} {base : Heap} {aB : Addr} (T : Txt K mg aB)
/-! ### shapes -/
def itemsD : PyData → Option (List PyData)
  | .list xs => some xs
  | .tuple xs => some xs
  | _ => none
def fIsInt : List PyData → Option PyData
  | [a] => some (.bool (isD a "int" && !isD a "bool"))
  | _ => none
def fIsSeq : List PyData → Option PyData
  | [a] => some (.bool (isD a "list" || isD a "tuple"))
  | _ => none
def cplB (a : PyData) : Bool := match itemsD a with
  | some xs => decide (xs.length = 2)
  | none => false
def fIsCouple : List PyData → Option PyData
  | [a] => some (.bool (cplB a))
  | _ => none
theorem lenE (n m : Nat) : PyData.eqv (.int (n : Int)) (.int (m : Int)) = decide (n = m) := by
  show ((n : Int) == (m : Int)) = decide (n = m)
  rw [Bool.eq_iff_iff]; simp; omega
include T in
theorem ok_is_integer (F : Dfn K mg "is_integer" s_is_integer ["thing"]) : Cal P w K mg base 1 "is_integer" ["thing"] (spF fIsInt K) := by
  have hn : ∀ ds, (∃ d, fIsInt ds = some d) → ds.length = 1 := by rintro ds ⟨d, h⟩; unfold fIsInt at h; split at h <;> simp_all
  refine F.ok sc_is_integer (fun vs H Q E h => spP_len hn h) (fun f cdv A outer s H vs Q E hr h => ⟨_, (pss_one (ps_ret (pe_and (pe_callB (k_isi (K := K) rfl) (by rfl) T.n_isinstance (by decide +kernel) (pa_cons (pv 0) (pa_cons (pe_bltn (v := .ty "int") (u := .type "int") (by rfl) T.n_int (by decide +kernel) rfl) pa_nil))) (pe_one (pe_not (pe_callB (k_isi (K := K) rfl) (by rfl) T.n_isinstance (by decide +kernel) (pa_cons (pv 0) (pa_cons (pe_bltn (v := .ty "bool") (u := .type "bool") (by rfl) T.n_bool (by decide +kernel) rfl) pa_nil)))))))), to_spP hn (fun ds hp => ?_) h⟩)
  match ds, hp with
  | [a], _ =>
    change WS K _ [.dat a] [] _
    walk_at "ww"
    cases e : isD a "int" with
    | true =>
      walk_at "ww"
      show some _ = some _
      rw [e]; rfl
    | false =>
      walk_at "ww"
      show some _ = some _
      rw [e]; rfl
include T in
theorem ok_is_sequence (F : Dfn K mg "is_sequence" s_is_sequence ["thing"]) : Cal P w K mg base 1 "is_sequence" ["thing"] (spF fIsSeq K) := by
  have hn : ∀ ds, (∃ d, fIsSeq ds = some d) → ds.length = 1 := by rintro ds ⟨d, h⟩; unfold fIsSeq at h; split at h <;> simp_all
  refine F.ok sc_is_sequence (fun vs H Q E h => spP_len hn h) (fun f cdv A outer s H vs Q E hr h => ⟨_, (pss_one (ps_ret (pe_callB (k_isiT (K := K) rfl) (by rfl) T.n_isinstance (by decide +kernel) (pa_cons (pv 0) (pa_cons (pe_tup (pa_cons (pe_bltn (v := .ty "list") (u := .type "list") (by rfl) T.n_list (by decide +kernel) rfl) (pa_cons (pe_bltn (v := .ty "tuple") (u := .type "tuple") (by rfl) T.n_tuple (by decide +kernel) rfl) pa_nil))) pa_nil))))), to_spP hn (fun ds hp => ?_) h⟩)
  match ds, hp with
  | [a], _ =>
    change WS K _ [.dat a] [] _
    walk_at "ww"
    rfl
theorem seqD {a : PyData} : (isD a "list" || isD a "tuple") = (itemsD a).isSome := by cases a <;> rfl
include T in
theorem ok_is_couple (F : Dfn K mg "is_couple" s_is_couple ["thing"]) (c_is_sequence : Cal P w K mg base 1 "is_sequence" ["thing"] (spF fIsSeq K)) : Cal P w K mg base 2 "is_couple" ["thing"] (spF fIsCouple K) := by
  have hn : ∀ ds, (∃ d, fIsCouple ds = some d) → ds.length = 1 := by rintro ds ⟨d, h⟩; unfold fIsCouple at h; split at h <;> simp_all
  refine F.ok sc_is_couple (fun vs H Q E h => spP_len hn h) (fun f cdv A outer s H vs Q E hr h => ⟨_, (pss_one (ps_ret (pe_and (pe_cal c_is_sequence hr (pa_cons (pv 0) pa_nil)) (pe_one (pe_cmpR (k_eqW (K := K) rfl hr) (pe_callB (k_len (K := K) rfl) (by rfl) T.n_len (by decide +kernel) (pa_cons (pv 0) pa_nil)) pe_int (nomark _)))))), to_spP hn (fun ds hp => ?_) h⟩)
  match ds, hp with
  | [a], _ =>
    change WS K _ [.dat a] [] _
    walk_at "ww"
    refine callF rfl ?_
    rw [seqD]
    refine exb ?_
    cases a with
    | list xs =>
      walk_at "ww"
      refine feqW rfl rfl (by simp [PyData.depth]) ?_
      show some _ = some _
      rw [show (2 : Int) = ((2 : Nat) : Int) from rfl, lenE]; rfl
    | tuple xs =>
      walk_at "ww"
      refine feqW rfl rfl (by simp [PyData.depth]) ?_
      show some _ = some _
      rw [show (2 : Int) = ((2 : Nat) : Int) from rfl, lenE]; rfl
    | _ => exact iteN rfl rfl
/-! ### is_ascending, is_name, is_base -/
def ascB : List Str → Bool
  | x :: y :: r => decide (x.cps.toList < y.cps.toList) && ascB (y :: r)
  | _ => true
def nameB (z : Str) : Bool := decide (1 ≤ z.length) && decide (z.length ≤ 8) && (match z.cps.toList with | c :: _ => decide (c ∈ ("abcdefghijklmnopqrstuvwxyz" : Str).cps.toList) | [] => false) && z.cps.toList.all fun c => decide (c ∈ ("abcdefghijklmnopqrstuvwxyz0123456789" : Str).cps.toList)
def nameD : PyData → Bool
  | .str z => nameB z
  | _ => false
def unS : PyData → Str
  | .str s => s
  | _ => ""
theorem unS_map (ss : List Str) : (ss.map PyData.str).map unS = ss := by
  rw [List.map_map]
  exact List.map_id _
theorem strs_inj {ss ts : List Str} (h : ss.map PyData.str = ts.map PyData.str) : ss = ts := by rw [← unS_map ss, h, unS_map]
def gSign : PyData → PyData
  | .str s => .bool (match s.cps.toList with | [c] => decide (c ∈ ("abcdefghijklmnopqrstuvwxyz0123456789" : Str).cps.toList) | _ => false)
  | _ => .none
def lessAt (ss : List Str) (k : Nat) : Bool := match ss[k]?, ss[k + 1]? with
  | some a, some b => decide (a.cps.toList < b.cps.toList)
  | _, _ => false
theorem asc_all : ∀ ss : List Str, ((List.range (ss.length - 1)).map (lessAt ss)).all id = ascB ss
  | [] => rfl
  | [_] => rfl
  | x :: y :: r => by
    have ih := asc_all (y :: r)
    have e1 : (x :: y :: r).length - 1 = ((y :: r).length - 1) + 1 := by simp
    rw [e1, List.range_succ_eq_map, List.map_cons, List.all_cons, List.map_map]
    have e2 : (lessAt (x :: y :: r) ∘ Nat.succ) = lessAt (y :: r) := by
      funext k
      show lessAt (x :: y :: r) (k + 1) = _
      unfold lessAt
      simp
    rw [e2, ih]
    rfl
def gLess (ss : List Str) : PyData → PyData
  | .int k => .bool (lessAt ss k.toNat)
  | _ => .none
def bases : List PyData := [.str "int", .str "text", .str "truth"]
def baseB (a : PyData) : Bool := bases.any fun z => PyData.eqv z a
def fIsBase : List PyData → Option PyData
  | [a] => if a.canLay0 = true then some (.bool (baseB a)) else none
  | _ => none
include T in
theorem ok_is_base (F : Dfn K mg "is_base" s_is_base ["kind"]) : Cal P w K mg base 1 "is_base" ["kind"] (spF fIsBase K) := by
  have hn : ∀ ds, (∃ d, fIsBase ds = some d) → ds.length = 1 := by rintro ds ⟨d, h⟩; unfold fIsBase at h; split at h <;> simp_all
  refine F.ok sc_is_base (fun vs H Q E h => spP_len hn h) (fun f cdv A outer s H vs Q E hr h => ⟨_, (pss_one (ps_ret (pe_cmpR (k_inW (K := K) rfl hr) (pv 0) (pe_gref (by rfl) T.g_BASE_KINDS) (by rfl)))), to_spP hn (fun ds hp => ?_) h⟩)
  match ds, hp with
  | [a], hp =>
    obtain ⟨d, hp⟩ := hp
    change WS K _ [.dat a] [] _
    walk_at "ww"
    refine w_cT T.k_BASE_KINDS ?_
    by_cases hs : a.canLay0 = true
    · refine ⟨hs, by decide +kernel, by simp [PyData.depthAll, PyData.depth], ?_⟩
      show (if a.canLay0 = true then some (PyData.bool (baseB a)) else none) = some _
      rw [if_pos hs]
      rfl
    · have hp : (if a.canLay0 = true then some (PyData.bool (baseB a)) else none) = some d := hp
      rw [if_neg hs] at hp
      cases hp
abbrev spAsc (K : PySem.W.Frag) : Sp := spP (fun ds => ∃ ss : List Str, ds = [PyData.list (ss.map PyData.str)] ∧ ss.length ≤ 1000) (fun ds d => ∀ ss : List Str, ds = [PyData.list (ss.map PyData.str)] → d = .bool (ascB ss)) K
include T in
theorem ok_is_ascending (F : Dfn K mg "is_ascending" s_is_ascending ["things"]) : Cal P w K mg base 1 "is_ascending" ["things"] (spAsc K) := by
  have hn : ∀ ds, (∃ ss : List Str, ds = [PyData.list (ss.map PyData.str)] ∧ ss.length ≤ 1000) → ds.length = 1 := by rintro ds ⟨ss, rfl, _⟩; rfl
  refine F.ok sc_is_ascending (fun vs H Q E h => spP_len hn h) (fun f cdv A outer s H vs Q E hr h => ⟨_, (pss_one (ps_ret (pe_callB (k_all (K := K) rfl rfl) (by rfl) T.n_all (by decide +kernel) (pa_cons (pe_lc (own := [("k", 1)]) (by rfl) sc_is_ascending.nd (pi_range1 (by rfl) T.n_range (pa_cons (pe_op op_subI (pe_callB (k_len (K := K) rfl) (by rfl) T.n_len (by decide +kernel) (pa_cons (pv 0) pa_nil)) pe_int) pa_nil)) (blkOk_by (N := ["things", "k"]) (sc := defScope s_is_ascending) (by decide +kernel)) (fun _ _ _ _ _ => (pg_name (i := 1) sc_is_ascending.nd rfl (by first | exact .inl rfl | exact .inr rfl))) (fun _ _ _ _ _ => pts_nil) (fun _ _ _ _ _ => (pe_cmpR op_less (pe_ix (k_ix (K := K) rfl) (pv 0) (pv 1) (fun _ _ => rfl)) (pe_ix (k_ix (K := K) rfl) (pv 0) (pe_op (k_plus (K := K) rfl) (pv 1) pe_int) (fun _ _ => rfl)) (nomark _)))) pa_nil)))), to_spP hn (fun ds hp => ?_) h⟩)
  obtain ⟨ss, rfl, hl⟩ := hp
  change WS K _ [.dat (.list (ss.map .str)), .no] [] _
  walk_at "ww"
  refine w_map (by decide) (wi_rng ?_)
  walk_at "ww"
  refine ⟨_, rfl, ?_, ?_, gLess ss, ?_, ?_, ?_⟩
  · rw [List.length_map]; omega
  · rw [List.length_map]; omega
  · rw [List.length_map, List.length_range, List.length_map]; omega
  · intro x hx
    obtain ⟨k, hk, rfl⟩ := List.mem_map.mp hx
    have hk : k < (((ss.map PyData.str).length : Int) - 1).toNat := List.mem_range.mp hk
    rw [List.length_map] at hk
    have h1 : k < ss.length := by omega
    have h2 : k + 1 < ss.length := by omega
    change W K _ [.dat (.list (ss.map .str)), .dat (.int (k : Int))] [] _
    walk_at "ww"
    refine fixl (a := .str ss[k]) (atI_nat (by rw [List.getElem?_map, List.getElem?_eq_getElem h1]; rfl)) ?_
    walk_at "ww"
    refine fixl (a := .str ss[k + 1]) (i := (k : Int) + 1) (atI_nat (j := k + 1) (by rw [List.getElem?_map, List.getElem?_eq_getElem h2]; rfl)) ?_
    refine ⟨?_, rfl⟩
    show _ = PyData.bool (lessAt ss ((k : Int)).toNat)
    unfold lessAt
    rw [Int.toNat_natCast, List.getElem?_eq_getElem h1, List.getElem?_eq_getElem h2]
  · walk_at "ww"
    refine fall (bs := (List.range (ss.length - 1)).map (lessAt ss)) ?_ ?_
    · rw [List.map_map, List.map_map, List.length_map]
      have e : ((ss.length : Int) - 1).toNat = ss.length - 1 := by omega
      rw [e]
      apply List.map_congr_left
      intro k _
      rfl
    · intro ss' e
      have e' : ss.map PyData.str = ss'.map PyData.str := by injection e with e; injection e
      have : ss = ss' := strs_inj e'
      rw [asc_all, this]
/-- its texts are not too long -/
def shortD : PyData → Prop
  | .str z => z.length ≤ 1000
  | _ => True
abbrev spName (K : PySem.W.Frag) : Sp := spP (fun ds => ∃ a, ds = [a] ∧ shortD a) (fun ds d => ∀ a, ds = [a] → d = .bool (nameD a)) K
include T in
theorem ok_is_name (F : Dfn K mg "is_name" s_is_name ["thing"]) : Cal P w K mg base 1 "is_name" ["thing"] (spName K) := by
  have hn : ∀ ds, (∃ a, ds = [a] ∧ shortD a) → ds.length = 1 := by rintro ds ⟨ss, rfl, _⟩; rfl
  refine F.ok sc_is_name (fun vs H Q E h => spP_len hn h) (fun f cdv A outer s H vs Q E hr h => ⟨_, (pss_cons (ps_if (PW.pt (pw_or (pt_not (pt_val (pe_callB (k_isi (K := K) rfl) (by rfl) T.n_isinstance (by decide +kernel) (pa_cons (pv 0) (pa_cons (pe_bltn (v := .ty "str") (u := .type "str") (by rfl) T.n_str (by decide +kernel) rfl) pa_nil))))) (pw_or1 (pt_not (pt_chain op_leI op_leI pe_int (pe_callB (k_len (K := K) rfl) (by rfl) T.n_len (by decide +kernel) (pa_cons (pv 0) pa_nil)) (pe_gint (by rfl) T.g_MOST_NAME_SIGNS)))))) (pss_one (ps_ret pe_bl)) pss_nil)
      (pss_one (ps_ret (pe_and (pe_cmpR op_inSg (pe_ix (k_ix (K := K) rfl) (pv 0) pe_int (fun _ _ => rfl)) (pe_gstr (by rfl) T.g_LETTERS) (by rfl)) (pe_one (pe_callB (k_all (K := K) rfl rfl) (by rfl) T.n_all (by decide +kernel) (pa_cons (pe_lc (own := [("sign", 1)]) (by rfl) sc_is_name.nd (pi_str (pv 0)) (blkOk_by (N := ["thing", "sign"]) (sc := defScope s_is_name) (by decide +kernel)) (fun _ _ _ _ _ => (pg_name (i := 1) sc_is_name.nd rfl (by first | exact .inl rfl | exact .inr rfl))) (fun _ _ _ _ _ => pts_nil) (fun _ _ _ _ _ => (pe_cmpR op_inSg (pv 1) (pe_gstr (by rfl) T.g_NAME_SIGNS) (by rfl)))) pa_nil))))))), to_spP hn (fun ds hp => ?_) h⟩)
  obtain ⟨a, rfl, hl⟩ := hp
  change WS K _ [.dat a, .no] [] _
  have fin : ∀ b, b = nameD a → ∀ z', [a] = [z'] → PyData.bool b = .bool (nameD z') := fun b e z' h => by
    injection h with h; rw [e, h]
  cases a with
  | str z =>
    have hl : z.length ≤ 1000 := hl
    have fin : ∀ b, b = nameB z → ∀ z', [PyData.str z] = [z'] → PyData.bool b = .bool (nameD z') := fin
    have len_c : z.length = z.cps.toList.length := by rw [Array.length_toList]; rfl
    walk_at "ww"
    refine flens (by omega) ?_
    walk_at "ww"
    refine iteB (fun h1 => ?_) (fun h1 => ?_)
    · have h1 : 1 ≤ z.length := by have := of_decide_eq_true h1; omega
      walk_at "ww"
      refine iteB (fun h2 => ?_) (fun h2 => ?_)
      · have h2 : ¬ z.length ≤ 8 := by
          intro x
          rw [decide_eq_true (by omega)] at h2
          cases h2
        walk_at "ww"
        refine fin _ ?_
        unfold nameB
        rw [decide_eq_false h2, Bool.and_false, Bool.false_and, Bool.false_and]
      · have h2 : z.length ≤ 8 := by
          by_cases x : z.length ≤ 8
          · exact x
          · rw [decide_eq_false (by omega)] at h2
            cases h2
        walk_at "ww"
        obtain ⟨c, r, hz⟩ : ∃ c r, z.cps.toList = c :: r := by
          cases e : z.cps.toList with
          | nil => rw [e] at len_c; simp at len_c; omega
          | cons c r => exact ⟨c, r, rfl⟩
        refine ⟨by omega, c, atI_nat (j := 0) (by rw [hz]; rfl), ?_⟩
        walk_at "ww"
        refine ⟨c, rfl, exb ?_⟩
        have nb : nameB z = (decide (c ∈ ("abcdefghijklmnopqrstuvwxyz" : Str).cps.toList) && z.cps.toList.all fun c => decide (c ∈ ("abcdefghijklmnopqrstuvwxyz0123456789" : Str).cps.toList)) := by
          unfold nameB
          rw [decide_eq_true h1, decide_eq_true h2, hz]
          rfl
        refine iteB (fun h3 => ?_) (fun h3 => ?_)
        · walk_at "ww"
          refine w_map (by decide) (wi_str ?_)
          walk_at "ww"
          refine ⟨_, rfl, gSign, ?_, ?_, ?_⟩
          · unfold Ab.signs
            rw [List.length_map, ← len_c]; omega
          · intro x hx
            obtain ⟨k, hk, rfl⟩ := List.mem_map.mp hx
            change W K _ [.dat (.str z), .dat (.str ⟨#[k]⟩)] [] _
            walk_at "ww"
            exact ⟨k, rfl, rfl, rfl⟩
          · walk_at "ww"
            refine fall (bs := z.cps.toList.map fun c => decide (c ∈ ("abcdefghijklmnopqrstuvwxyz0123456789" : Str).cps.toList)) ?_ ?_
            · unfold Ab.signs
              rw [List.map_map, List.map_map]
              rfl
            · refine fin _ ?_
              rw [nb, h3, Bool.true_and, List.all_map]
              rfl
        · refine fin _ ?_
          rw [nb, h3, Bool.false_and]
    · walk_at "ww"
      refine fin _ ?_
      have h1 : ¬ 1 ≤ z.length := by
        intro x
        rw [decide_eq_true (by omega)] at h1
        cases h1
      unfold nameB
      rw [decide_eq_false h1, Bool.false_and, Bool.false_and, Bool.false_and]
  | _ =>
    walk_at "ww"
    exact fin _ rfl
end
end K1

set_option Elab.async false
set_option linter.all false
set_option maxRecDepth 100000
set_option maxHeartbeats 4000000
namespace K1
open PySem PySem.Spec PyProof.Rows L2 Ab

/-- one step of the reading -/
local macro_rules | `(tactic| walk_at "w") => `(tactic| first
  | (with_reducible refine ws_seq ?_) | (with_reducible refine ws_next ?_) | (with_reducible refine ws_set ?_) | (with_reducible refine ws_par ?_) | (with_reducible refine ws_ret ?_) | (with_reducible refine ws_if ?_) | (with_reducible refine ws_drop ?_)
  | (refine w_var rfl ?_) | (with_reducible refine w_int ?_) | (with_reducible refine w_str ?_) | (with_reducible refine w_bl ?_) | (with_reducible refine w_non ?_)
  | (with_reducible refine wa_nil ?_) | (with_reducible refine wa_cons ?_) | (with_reducible refine w_tup ?_) | (with_reducible refine w_lst ?_)
  | (with_reducible refine wt_test ?_) | (with_reducible refine wt_B ?_) | (with_reducible refine wt_not ?_) | (with_reducible refine wt_and ?_) | (with_reducible refine wt_or ?_)
  | (with_reducible refine w_andV ?_) | (with_reducible refine w_orV ?_) | (with_reducible refine w_notV ?_) | (with_reducible refine w_ite ?_)
  | (with_reducible refine w_op ao_eqW ?_) | (with_reducible refine w_op ao_neW ?_) | (with_reducible refine w_op ao_eq ?_) | (with_reducible refine w_op ao_ne ?_) | (with_reducible refine w_op ao_isB ?_) | (with_reducible refine w_op ao_notB ?_) | (with_reducible refine w_op ao_ix ?_) | (with_reducible refine w_op ao_plus ?_) | (with_reducible refine w_op ao_less ?_) | (with_reducible refine w_op ao_le ?_) | (with_reducible refine w_op ao_gt ?_) | (with_reducible refine w_op ao_ge ?_)
  | (with_reducible refine w_op ao_sub ?_) | (with_reducible refine w_op ao_mul ?_) | (with_reducible refine w_op ao_mod ?_) | (with_reducible refine w_op ao_div ?_) | (with_reducible refine w_op ao_pow ?_) | (with_reducible refine w_op ao_isNo ?_) | (with_reducible refine w_op ao_inSg ?_) | (with_reducible refine w_op ao_inW ?_) | (with_reducible refine w_op ao_ninW ?_) | (with_reducible refine w_op ao_inSeq ?_) | (with_reducible refine w_op ao_ninSeq ?_)
  | (with_reducible refine w_cb ac_len ?_) | (with_reducible refine w_cb ac_tupleOf ?_) | (with_reducible refine w_cb ac_intOf ?_) | (with_reducible refine w_cb ac_abs ?_) | (with_reducible refine w_cb ac_ord ?_) | (with_reducible refine w_cb ac_all ?_) | (with_reducible refine w_cb ac_any ?_)
  | (with_reducible refine w_isi (by decide) ?_) | (with_reducible refine w_isi2 (by decide) (by decide) ?_) | (with_reducible refine w_sl ?_) | (with_reducible refine wo_none ?_) | (with_reducible refine wo_some ?_)
  | (with_reducible refine w_chain ao_le ao_le ?_) | (with_reducible refine w_chain ao_leS ao_leS ?_) | (with_reducible refine w_call ?_))
local macro_rules | `(tactic| walk_at "v") => `(tactic| first
  | (with_reducible refine m0 ?_) | (with_reducible refine m1 ?_) | (with_reducible refine m2 ?_) | (with_reducible refine m3 ?_) | (with_reducible refine m5 ?_)
  | (with_reducible refine exb ?_) | (with_reducible refine exi ?_) | (with_reducible refine exl ?_) | (with_reducible refine exql ?_) | (with_reducible refine exqt ?_)
  | (refine fixt rfl ?_) | (refine fixl rfl ?_) | (refine fslt rfl ?_) | (refine fsll rfl ?_)
  | (with_reducible refine flent ?_; dsimp only [List.length_cons, List.length_nil]) | (with_reducible refine flenl ?_; dsimp only [List.length_cons, List.length_nil])
  | (with_reducible refine fii (by first | trivial | decide) ?_) | (with_reducible refine fpi ?_) | (with_reducible refine flti ?_) | (with_reducible refine fint ?_) | (with_reducible refine ftupl ?_) | (with_reducible refine ftupt ?_)
  | (with_reducible refine feqW (by decide +kernel) (by decide +kernel) (by decide +kernel) ?_) | (with_reducible refine fneW (by decide +kernel) (by decide +kernel) (by decide +kernel) ?_)
  | (with_reducible refine feq (by decide +kernel) (by decide +kernel) ?_) | (with_reducible refine fne (by decide +kernel) (by decide +kernel) ?_)
  | (with_reducible refine iteK rfl ?_) | (with_reducible refine iteN rfl ?_) | (with_reducible refine iteK (by decide +kernel) ?_) | (with_reducible refine iteN (by decide +kernel) ?_))
local macro_rules | `(tactic| walk_at "x") => `(tactic| first | (with_reducible refine wx_seq ?_) | (with_reducible refine wx_if ?_) | (with_reducible refine wx_next ?_) | (with_reducible refine wx_ret ?_) | (with_reducible refine wr_tup ?_) | (with_reducible refine war_cons ?_) | (with_reducible refine war_nil ?_))
local macro_rules | `(tactic| walk_at "ww") => `(tactic| repeat (first | walk_at "w" | walk_at "v" | walk_at "x"))

section
variable {P : Program} {w : World} {K : PySem.W.Frag} {mg : Str → Option Value} {base : Heap} {aB : Addr} (T : Txt K mg aB)
/-! ### is_text_sign, fits_base -/
def signB (c : Nat) : Bool := (!decide ([c] < [32])) && ((!decide ([126] < [c])) && !([PyData.int 34, .int 37, .int 92].any fun z => PyData.eqv z (.int (c : Int))))
abbrev spSign (K : PySem.W.Frag) : Sp := spP (fun ds => ∃ c : Nat, ds = [PyData.str ⟨#[c]⟩]) (fun ds d => ∀ c : Nat, ds = [PyData.str ⟨#[c]⟩] → d = .bool (signB c)) K
include T in
theorem ok_is_text_sign (F : Dfn K mg "is_text_sign" s_is_text_sign ["sign"]) : Cal P w K mg base 1 "is_text_sign" ["sign"] (spSign K) := by
  have hn : ∀ ds, (∃ c : Nat, ds = [PyData.str ⟨#[c]⟩]) → ds.length = 1 := by rintro ds ⟨ss, rfl⟩; rfl
  refine F.ok sc_is_text_sign (fun vs H Q E h => spP_len hn h) (fun f cdv A outer s H vs Q E hr h => ⟨_, (pss_one (ps_ret (pe_and (pe_chain op_leS op_leS pe_str (pv 0) pe_str) (pe_one (pe_cmpR (k_ninW (K := K) rfl hr) (pe_callB call_ordS (by rfl) T.n_ord (by decide +kernel) (pa_cons (pv 0) pa_nil)) (pe_tup (pa_cons pe_int (pa_cons pe_int (pa_cons pe_int pa_nil)))) (by rfl)))))), to_spP hn (fun ds hp => ?_) h⟩)
  obtain ⟨c, rfl⟩ := hp
  have fin : ∀ b, b = signB c → ∀ z' : Nat, [PyData.str ⟨#[c]⟩] = [PyData.str ⟨#[z']⟩] → PyData.bool b = .bool (signB z') := fun b e z' h => by
    injection h with h; injection h with h; injection h with h
    have h : ([c] : List Nat) = [z'] := by injection h
    injection h with h
    rw [e, h]
  change WS K _ [.dat (.str ⟨#[c]⟩)] [] _
  walk_at "ww"
  refine ⟨_, rfl, ?_⟩
  show if (!decide ([c] < [32])) = true then _ else _
  refine iteB (fun h1 => ?_) (fun h1 => ?_)
  · refine w_str ?_
    refine ⟨_, rfl, ?_⟩
    show if (!decide ([126] < [c])) = true then _ else _
    refine iteB (fun h2 => ?_) (fun h2 => ?_)
    · refine w_op ao_ninW (w_cb ac_ord (wa_cons (w_var rfl (wa_nil (m1 ⟨rfl, ?_⟩)))))
      refine w_tup (wa_cons (w_int (wa_cons (w_int (wa_cons (w_int (wa_nil (m3 ⟨by simp, rfl, rfl, by simp [PyData.depth], ?_⟩))))))))
      refine fin _ ?_
      show _ = (!decide ([c] < [32]) && (!decide ([126] < [c]) && _))
      rw [h1, h2]; rfl
    · refine fin _ ?_
      show _ = (!decide ([c] < [32]) && (!decide ([126] < [c]) && _))
      rw [h1, h2]; rfl
  · refine exb (iteN rfl (fin _ ?_))
    show _ = (!decide ([c] < [32]) && (!decide ([126] < [c]) && _))
    rw [h1]; rfl
theorem fabsI {i : Int} {P : PyData → Prop} (h : P (.int (if i < 0 then -i else i))) : fAbs [.int i] P := h
def fitInt : PyData → Bool
  | .int i => decide ((if i < 0 then -i else i) < 10 ^ 30)
  | _ => false
def fitText : PyData → Bool
  | .str z => decide (z.length ≤ 12) && z.cps.toList.all signB
  | _ => false
def fitB (v : PyData) (k : Str) : Bool := if k = "int" then fitInt v else if k = "text" then fitText v else isD v "bool"
def threeK (k : Str) : Prop := k = "int" ∨ k = "text" ∨ k = "truth"
def gTx : PyData → PyData
  | .str ⟨cs⟩ => .bool (match cs.toList with | [c] => signB c | _ => false)
  | _ => .none
abbrev spFits (K : PySem.W.Frag) : Sp := spP (fun ds => ∃ v k, ds = [v, PyData.str k] ∧ shortD v ∧ threeK k) (fun ds d => ∀ v k, ds = [v, PyData.str k] → d = .bool (fitB v k)) K
include T in
theorem ok_fits_base (F : Dfn K mg "fits_base" s_fits_base ["value", "kind"]) (q_is_integer : Cal P w K mg base 1 "is_integer" ["thing"] (spF fIsInt K)) (q_is_text_sign : Cal P w K mg base 1 "is_text_sign" ["sign"] (spSign K)) : Cal P w K mg base 2 "fits_base" ["value", "kind"] (spFits K) := by
  have hn : ∀ ds, (∃ v k, ds = [v, PyData.str k] ∧ shortD v ∧ threeK k) → ds.length = 2 := by rintro ds ⟨v, k, rfl, _⟩; rfl
  have c_is_integer := q_is_integer
  have c_is_text_sign := q_is_text_sign
  refine F.ok sc_fits_base (fun vs H Q E h => spP_len hn h) (fun f cdv A outer s H vs Q E hr h => ⟨_, (pss_cons (ps_if (pt_cmpR (k_eqW (K := K) rfl hr) (pv 1) pe_str (nomark _)) (pss_one (ps_ret (pe_and (pe_cal c_is_integer hr (pa_cons (pv 0) pa_nil)) (pe_one (pe_cmpR op_less (pe_callB call_absI (by rfl) T.n_abs (by decide +kernel) (pa_cons (pv 0) pa_nil)) (pe_op op_powI pe_int pe_int) (nomark _)))))) pss_nil)
      (pss_cons (ps_if (pt_cmpR (k_eqW (K := K) rfl hr) (pv 1) pe_str (nomark _)) (pss_cons (ps_if (PW.pt (pw_or (pt_not (pt_val (pe_callB (k_isi (K := K) rfl) (by rfl) T.n_isinstance (by decide +kernel) (pa_cons (pv 0) (pa_cons (pe_bltn (v := .ty "str") (u := .type "str") (by rfl) T.n_str (by decide +kernel) rfl) pa_nil))))) (pw_or1 (pt_cmpR op_gtI (pe_callB (k_len (K := K) rfl) (by rfl) T.n_len (by decide +kernel) (pa_cons (pv 0) pa_nil)) (pe_gint (by rfl) T.g_MOST_TEXT_SIGNS) (nomark _))))) (pss_one (ps_ret pe_bl)) pss_nil)
      (pss_one (ps_ret (pe_callB (k_all (K := K) rfl rfl) (by rfl) T.n_all (by decide +kernel) (pa_cons (pe_lc (own := [("sign", 2)]) (by rfl) sc_fits_base.nd (pi_str (pv 0)) (blkOk_by (N := ["value", "kind", "sign"]) (sc := defScope s_fits_base) (by decide +kernel)) (fun _ _ _ _ _ => (pg_name (i := 2) sc_fits_base.nd rfl (by first | exact .inl rfl | exact .inr rfl))) (fun _ _ _ _ _ => pts_nil) (fun _ _ _ _ _ => (pe_cal c_is_text_sign hr (pa_cons (pv 2) pa_nil)))) pa_nil))))) pss_nil)
      (pss_one (ps_ret (pe_and (pe_cmpR (k_eqW (K := K) rfl hr) (pv 1) pe_str (nomark _)) (pe_one (pe_callB (k_isi (K := K) rfl) (by rfl) T.n_isinstance (by decide +kernel) (pa_cons (pv 0) (pa_cons (pe_bltn (v := .ty "bool") (u := .type "bool") (by rfl) T.n_bool (by decide +kernel) rfl) pa_nil))))))))), to_spP hn (fun ds hp => ?_) h⟩)
  obtain ⟨v, k, rfl, hl, hk⟩ := hp
  have fin : ∀ b, b = fitB v k → ∀ v' k', [v, PyData.str k] = [v', PyData.str k'] → PyData.bool b = .bool (fitB v' k') := fun b e v' k' h => by
    injection h with h1 h2; injection h2 with h2; injection h2 with h2
    rw [e, h1, h2]
  change WS K _ [.dat v, .dat (.str k), .no] [] _
  rcases hk with rfl | rfl | rfl
  · have fin : ∀ b, b = fitInt v → ∀ v' k', [v, PyData.str "int"] = [v', PyData.str k'] → PyData.bool b = .bool (fitB v' k') := fin
    walk_at "ww"
    refine callF rfl ?_
    cases v with
    | int i =>
      refine exb (iteK rfl ?_)
      walk_at "ww"
      refine fabsI ?_
      walk_at "ww"
      refine fii (by refine ⟨by decide, by decide, by decide⟩) (flti ?_)
      exact fin _ rfl
    | bool b =>
      cases b <;> exact exb (iteN rfl (fin _ rfl))
    | _ => exact exb (iteN rfl (fin _ rfl))
  · have fin : ∀ b, b = fitText v → ∀ v' k', [v, PyData.str "text"] = [v', PyData.str k'] → PyData.bool b = .bool (fitB v' k') := fin
    walk_at "ww"
    cases v with
    | str z =>
      have hl : z.length ≤ 1000 := hl
      have len_c : z.length = z.cps.toList.length := by rw [Array.length_toList]; rfl
      refine iteN rfl ?_
      walk_at "ww"
      refine flens (by omega) ?_
      walk_at "ww"
      refine iteB (fun h1 => ?_) (fun h1 => ?_)
      · have h1 : (12 : Int) < (z.length : Int) := of_decide_eq_true h1
        walk_at "ww"
        refine fin _ ?_
        show _ = (decide (z.length ≤ 12) && _)
        rw [decide_eq_false (by omega)]; rfl
      · have h1 : ¬ (12 : Int) < (z.length : Int) := of_decide_eq_false h1
        walk_at "ww"
        refine w_map (by decide) (wi_str ?_)
        walk_at "ww"
        refine ⟨_, rfl, gTx, ?_, ?_, ?_⟩
        · unfold Ab.signs
          rw [List.length_map, ← len_c]; omega
        · intro x hx
          obtain ⟨c, hc, rfl⟩ := List.mem_map.mp hx
          change W K _ [.dat (.str z), .dat (.str "text"), .dat (.str ⟨#[c]⟩)] [] _
          walk_at "ww"
          refine ⟨⟨c, rfl⟩, fun d hd => ?_⟩
          rw [hd c rfl]
          exact ⟨rfl, rfl⟩
        · walk_at "ww"
          refine fall (bs := z.cps.toList.map signB) ?_ ?_
          · unfold Ab.signs
            rw [List.map_map, List.map_map]
            rfl
          · refine fin _ ?_
            show _ = (decide (z.length ≤ 12) && _)
            rw [decide_eq_true (by omega), Bool.true_and, List.all_map]
            rfl
    | _ =>
      refine iteK rfl ?_
      walk_at "ww"
      exact fin _ rfl
  · have fin : ∀ b, b = isD v "bool" → ∀ v' k', [v, PyData.str "truth"] = [v', PyData.str k'] → PyData.bool b = .bool (fitB v' k') := fin
    walk_at "ww"
    exact fin _ rfl
end
end K1

set_option Elab.async false
set_option linter.all false
set_option maxRecDepth 100000
set_option maxHeartbeats 4000000
namespace K1
open PySem PySem.Spec PyProof.Rows L2 Ab

/-- one step of the reading -/
local macro_rules | `(tactic| walk_at "w") => `(tactic| first
  | (with_reducible refine ws_seq ?_) | (with_reducible refine ws_next ?_) | (with_reducible refine ws_set ?_) | (with_reducible refine ws_par ?_) | (with_reducible refine ws_ret ?_) | (with_reducible refine ws_if ?_) | (with_reducible refine ws_drop ?_)
  | (refine w_var rfl ?_) | (with_reducible refine w_int ?_) | (with_reducible refine w_str ?_) | (with_reducible refine w_bl ?_) | (with_reducible refine w_non ?_)
  | (with_reducible refine wa_nil ?_) | (with_reducible refine wa_cons ?_) | (with_reducible refine w_tup ?_) | (with_reducible refine w_lst ?_)
  | (with_reducible refine wt_test ?_) | (with_reducible refine wt_B ?_) | (with_reducible refine wt_not ?_) | (with_reducible refine wt_and ?_) | (with_reducible refine wt_or ?_)
  | (with_reducible refine w_andV ?_) | (with_reducible refine w_orV ?_) | (with_reducible refine w_notV ?_) | (with_reducible refine w_ite ?_)
  | (with_reducible refine w_op ao_eqW ?_) | (with_reducible refine w_op ao_neW ?_) | (with_reducible refine w_op ao_eq ?_) | (with_reducible refine w_op ao_ne ?_) | (with_reducible refine w_op ao_isB ?_) | (with_reducible refine w_op ao_notB ?_) | (with_reducible refine w_op ao_ix ?_) | (with_reducible refine w_op ao_plus ?_) | (with_reducible refine w_op ao_less ?_) | (with_reducible refine w_op ao_le ?_) | (with_reducible refine w_op ao_gt ?_) | (with_reducible refine w_op ao_ge ?_)
  | (with_reducible refine w_op ao_sub ?_) | (with_reducible refine w_op ao_mul ?_) | (with_reducible refine w_op ao_mod ?_) | (with_reducible refine w_op ao_div ?_) | (with_reducible refine w_op ao_pow ?_) | (with_reducible refine w_op ao_isNo ?_) | (with_reducible refine w_op ao_inSg ?_) | (with_reducible refine w_op ao_inW ?_) | (with_reducible refine w_op ao_ninW ?_) | (with_reducible refine w_op ao_inSeq ?_) | (with_reducible refine w_op ao_ninSeq ?_)
  | (with_reducible refine w_cb ac_len ?_) | (with_reducible refine w_cb ac_tupleOf ?_) | (with_reducible refine w_cb ac_intOf ?_) | (with_reducible refine w_cb ac_abs ?_) | (with_reducible refine w_cb ac_ord ?_) | (with_reducible refine w_cb ac_all ?_) | (with_reducible refine w_cb ac_any ?_)
  | (with_reducible refine w_isi (by decide) ?_) | (with_reducible refine w_isi2 (by decide) (by decide) ?_) | (with_reducible refine w_sl ?_) | (with_reducible refine wo_none ?_) | (with_reducible refine wo_some ?_)
  | (with_reducible refine w_chain ao_le ao_le ?_) | (with_reducible refine w_chain ao_leS ao_leS ?_) | (with_reducible refine w_call ?_))
local macro_rules | `(tactic| walk_at "v") => `(tactic| first
  | (with_reducible refine m0 ?_) | (with_reducible refine m1 ?_) | (with_reducible refine m2 ?_) | (with_reducible refine m3 ?_) | (with_reducible refine m5 ?_)
  | (with_reducible refine exb ?_) | (with_reducible refine exi ?_) | (with_reducible refine exl ?_) | (with_reducible refine exql ?_) | (with_reducible refine exqt ?_)
  | (refine fixt rfl ?_) | (refine fixl rfl ?_) | (refine fslt rfl ?_) | (refine fsll rfl ?_)
  | (with_reducible refine flent ?_; dsimp only [List.length_cons, List.length_nil]) | (with_reducible refine flenl ?_; dsimp only [List.length_cons, List.length_nil])
  | (with_reducible refine fii (by first | trivial | decide) ?_) | (with_reducible refine fpi ?_) | (with_reducible refine flti ?_) | (with_reducible refine fint ?_) | (with_reducible refine ftupl ?_) | (with_reducible refine ftupt ?_)
  | (with_reducible refine feqW (by decide +kernel) (by decide +kernel) (by decide +kernel) ?_) | (with_reducible refine fneW (by decide +kernel) (by decide +kernel) (by decide +kernel) ?_)
  | (with_reducible refine feq (by decide +kernel) (by decide +kernel) ?_) | (with_reducible refine fne (by decide +kernel) (by decide +kernel) ?_)
  | (with_reducible refine iteK rfl ?_) | (with_reducible refine iteN rfl ?_) | (with_reducible refine iteK (by decide +kernel) ?_) | (with_reducible refine iteN (by decide +kernel) ?_))
local macro_rules | `(tactic| walk_at "x") => `(tactic| first | (with_reducible refine wx_seq ?_) | (with_reducible refine wx_if ?_) | (with_reducible refine wx_next ?_) | (with_reducible refine wx_ret ?_) | (with_reducible refine wr_tup ?_) | (with_reducible refine war_cons ?_) | (with_reducible refine war_nil ?_))
local macro_rules | `(tactic| walk_at "ww") => `(tactic| repeat (first | walk_at "w" | walk_at "v" | walk_at "x"))

/-! ### kinds as data, good and bad -/
mutual
def tn : PyData → PyData
  | .list xs => .tuple (tns xs)
  | .tuple xs => .tuple (tns xs)
  | d => d
def tns : List PyData → List PyData
  | [] => []
  | x :: xs => tn x :: tns xs
end
theorem tns_map : ∀ xs, tns xs = xs.map tn
  | [] => rfl
  | x :: xs => by
    show tn x :: tns xs = _
    rw [tns_map xs]; rfl
def Sq (s : PyData) (xs : List PyData) : Prop := s = .list xs ∨ s = .tuple xs
theorem sq_tn {s : PyData} {xs : List PyData} (h : Sq s xs) : tn s = .tuple (xs.map tn) := by
  rcases h with rfl | rfl
  · show PyData.tuple (tns xs) = _
    rw [tns_map]
  · show PyData.tuple (tns xs) = _
    rw [tns_map]
mutual
/-- no dict, no long text, no text that cannot be laid -/
def okD : PyData → Bool
  | .str z => decide (z.length ≤ 1000) && (PyData.str z).canLay0
  | .list xs => okAll xs
  | .tuple xs => okAll xs
  | .dict _ => false
  | _ => true
def okAll : List PyData → Bool
  | [] => true
  | x :: xs => okD x && okAll xs
end
theorem okAll_mem : ∀ {xs : List PyData}, okAll xs = true → ∀ x ∈ xs, okD x = true
  | y :: ys, h, x, hx => by
    have h : (okD y && okAll ys) = true := h
    rw [Bool.and_eq_true] at h
    rcases List.mem_cons.mp hx with rfl | hx
    · exact h.1
    · exact okAll_mem h.2 x hx
mutual
theorem ok_lay : ∀ (d : PyData), okD d = true → d.canLay0 = true
  | .str z, h => by
    have h : (decide (z.length ≤ 1000) && (PyData.str z).canLay0) = true := h
    rw [Bool.and_eq_true] at h
    exact h.2
  | .list xs, h => by rw [PyData.canLay0]; exact ok_layAll xs h
  | .tuple xs, h => by rw [PyData.canLay0]; exact ok_layAll xs h
  | .dict _, h => by cases h
  | .none, _ => rfl
  | .bool _, _ => rfl
  | .int _, _ => rfl
theorem ok_layAll : ∀ (xs : List PyData), okAll xs = true → PyData.canLayAll0 xs = true
  | [], _ => rfl
  | x :: xs, h => by
    have h : (okD x && okAll xs) = true := h
    rw [Bool.and_eq_true] at h
    rw [PyData.canLayAll0, ok_lay x h.1, ok_layAll xs h.2]; rfl
end
theorem ok_short {d : PyData} (h : okD d = true) : shortD d := by
  cases d with
  | str z =>
    have h : (decide (z.length ≤ 1000) && (PyData.str z).canLay0) = true := h
    rw [Bool.and_eq_true] at h
    exact (of_decide_eq_true h.1 : z.length ≤ 1000)
  | _ => trivial
theorem sq_ok {s : PyData} {xs : List PyData} (h : Sq s xs) (o : okD s = true) : ∀ x ∈ xs, okD x = true := by
  rcases h with rfl | rfl <;> exact okAll_mem o
theorem sq_it {s : PyData} {xs : List PyData} (h : Sq s xs) : itemsD s = some xs := by
  rcases h with rfl | rfl <;> rfl
theorem it_sq {s : PyData} {xs : List PyData} (h : itemsD s = some xs) : Sq s xs := by
  cases s <;> first | (cases h; done) | skip
  · cases h; exact .inl rfl
  · cases h; exact .inr rfl
def itemAt (c : PyData) (i : Nat) : PyData := match itemsD c with
  | some xs => xs.getD i .none
  | none => .none
def labS (c : PyData) : Str := unS (itemAt c 0)
def nmC (c : PyData) : Bool := cplB c && nameD (itemAt c 0)
def ccB (ck : PyData → Bool) (d : PyData) : Bool := match itemsD d with
  | none => false
  | some cl => decide (cl.length ≤ 5) && (cl.all nmC && (ascB (cl.map labS) && cl.all fun c => ck (itemAt c 1)))
def natB : PyData → Bool
  | .int i => decide (0 ≤ i)
  | _ => false
def ckB : Nat → PyData → Bool
  | 0, _ => false
  | r + 1, d => baseB d || match itemsD d with
    | some [w, e] => (PyData.eqv w (.str "list") && ckB r e) || ((PyData.eqv w (.str "record") && ccB (ckB r) e) || (PyData.eqv w (.str "any") && natB e))
    | some [w, e, f] => PyData.eqv w (.str "function") && (ckB r e && ckB r f)
    | _ => false
theorem couple_is {c : PyData} (h : cplB c = true) : ∃ a b, Sq c [a, b] := by
  unfold cplB at h
  cases e : itemsD c with
  | none => rw [e] at h; cases h
  | some xs =>
    rw [e] at h
    have hl : xs.length = 2 := of_decide_eq_true h
    match xs, hl, e with
    | [a, b], _, e => exact ⟨a, b, it_sq e⟩
theorem sq_at {c a b : PyData} (h : Sq c [a, b]) : itemAt c 0 = a ∧ itemAt c 1 = b := by
  unfold itemAt
  rw [sq_it h]
  exact ⟨rfl, rfl⟩
theorem ix_sq {c a : PyData} {xs : List PyData} {j : Nat} {P : PyData → Prop} (h : Sq c xs) (e : xs[j]? = some a) (p : P a) : fIx c (.int (j : Int)) P := by
  rcases h with rfl | rfl
  · exact ⟨a, atI_nat e, p⟩
  · exact ⟨a, atI_nat e, p⟩
theorem len_sq {c : PyData} {xs : List PyData} {P : PyData → Prop} (h : Sq c xs) (p : P (.int xs.length)) : fLenA [c] P := by
  rcases h with rfl | rfl
  · exact p
  · exact p
theorem walk_sq {c : PyData} {xs : List PyData} {P : List PyData → Prop} (h : Sq c xs) (p : P xs) : ∃ ys, (c = .list ys ∨ c = .tuple ys) ∧ P ys := ⟨xs, h, p⟩
theorem eqv_str {w : PyData} {s : Str} (h : PyData.eqv w (.str s) = true) : w = .str s := by
  cases w <;> first | (simp [PyData.eqv] at h; done) | skip
  rename_i z
  have h : (z == s) = true := h
  rw [eq_of_beq h]
/-- .. and each item was good -/
theorem wr_map2g {K : PySem.W.Frag} {S : Sy} {H0 : Hp} {te : TE} {as : List Sv} {M : Mm} {P : PyData → Mm → Prop} {wi : TI} {i j : Nat} {vs : List Nat} (hi : i ∈ vs) (hj : j ∈ vs) (h : WI K wi as M fun xs M1 => ∃ (g : PyData → PyData) (gd : PyData → Bool), xs.length ≤ 100000 ∧
    (∀ x ∈ xs, ∃ a b, (x = .tuple [a, b] ∨ x = .list [a, b]) ∧ WR K S H0 te (((awipe as vs).set i (.dat a)).set j (.dat b)) M1 fun y M2 => gd x = true ∧ y = g x ∧ M2 = M1) ∧ (xs.all gd = true → P (.list (xs.map g)) M1)) : WR K S H0 (tLc wi (gSeq K 2 (gCons (gName i) (gCons (gName j) gNil))) tYes te vs) as M P := by
  refine wr_lc ga_pair (by intro t ht; simp at ht; rcases ht with rfl | rfl <;> assumption) fun S H0 σ H k r R q => h S H0 σ H k r R fun J H' xs M' k' e' it ⟨g, gd, hl, hx, hp⟩ => q J H' xs M' k' e' it
    ⟨fun n acc M2 => acc = (xs.take n).map g ∧ M2 = M' ∧ (xs.take n).all gd = true, ⟨rfl, rfl, rfl⟩, fun n x acc Mi hn ⟨ea, em, eg⟩ => ?_, fun acc M2 ⟨ea, em, eg⟩ => by rw [List.take_length] at eg; rw [ea, em, List.take_length]; exact hp eg⟩
  subst ea em
  obtain ⟨a, b, ex, hw⟩ := hx x (List.mem_of_getElem? hn)
  refine ⟨a, b, ex, ?_⟩
  intro S2 H02 σ2 H2 k2 r2 Q2 q2
  refine q2 true H2 Mi k2 (Same.refl _) ?_
  show WR K _ _ te _ Mi _
  intro S3 x3 σ3 H3 k3 r3 Q3 q3
  refine hw S3 x3 σ3 H3 k3 r3 Q3 fun v H4 y M4 k4 e4 b4 ⟨gy, ey, em⟩ => q3 v H4 y M4 k4 e4 b4 ?_
  subst ey em
  have hlt := (List.getElem?_eq_some_iff.mp hn).1
  refine ⟨by rw [List.length_map, List.length_take]; omega, ?_, rfl, ?_⟩
  · rw [List.take_add_one, hn, List.map_append]
    rfl
  · rw [List.take_add_one, hn, List.all_append, eg]
    show (true && (gd x && true)) = true
    rw [gy]; rfl
/-- what the top has written of BadKind -/
structure BkT (K : PySem.W.Frag) (mg : Str → Option Value) (C : Addr) : Prop where
  gC : mg "BadKind" = some (.ref C)
  xP : PySem.W.excIn K C [.type "ValueError", .type "Exception", .type "BaseException", .type "object"] "ValueError.__new__" = true
  kP : PySem.W.keepIn K (.ref C) = true
  bP : PySem.W.subIn K (.ref C) (.type "BaseException") = some true
  tP : PySem.W.typeIn K (.ref C) = some (.type "type")
  te : PySem.W.exmOne K (.ref C) (.ref C) = some true
  ec : ExcC K C
  ki : PySem.W.kitOne K (.ref C) (.ref C) = some true
def preK (r : Nat) (ds : List PyData) : Prop := ∃ d, ds = [d, PyData.int (r : Int)] ∧ okD d = true
def fst1 : List PyData → PyData
  | d :: _ => d
  | _ => .none
abbrev spCK (C : Addr) (r : Nat) (K : PySem.W.Frag) : Sp := spR C (preK r) (fun ds => ckB r (fst1 ds)) (fun ds => tn (fst1 ds)) K
abbrev spCC (C : Addr) (r : Nat) (K : PySem.W.Frag) : Sp := spR C (preK r) (fun ds => ccB (ckB r) (fst1 ds)) (fun ds => tn (fst1 ds)) K
section
variable {P : Program} {w : World} {K : PySem.W.Frag} {mg : Str → Option Value} {base : Heap} {aB C : Addr} (T : Txt K mg aB) (N : BkT K mg C)
include T N in
theorem ok_checked_couples (r k : Nat) (hk : 2 ≤ k) (F : Dfn K mg "_checked_couples" s_checked_couples ["couples", "room"]) (q_is_sequence : Cal P w K mg base 1 "is_sequence" ["thing"] (spF fIsSeq K)) (q_is_couple : Cal P w K mg base 2 "is_couple" ["thing"] (spF fIsCouple K))
    (q_is_name : Cal P w K mg base 1 "is_name" ["thing"] (spName K)) (q_is_ascending : Cal P w K mg base 1 "is_ascending" ["things"] (spAsc K)) (c_checked_kind : CalX P w K mg base k "_checked_kind" ["kind", "room"] (spCK C r K)) :
    CalX P w K mg base (k + 1) "_checked_couples" ["couples", "room"] (spCC C r K) := by
  have hn : ∀ ds, preK r ds → ds.length = 2 := by rintro ds ⟨d, rfl, _⟩; rfl
  have c_is_sequence := q_is_sequence.mono (show 1 ≤ k by omega)
  have c_is_couple := q_is_couple.mono hk
  have c_is_name := q_is_name.mono (show 1 ≤ k by omega)
  have c_is_ascending := q_is_ascending.mono (show 1 ≤ k by omega)
  refine F.okX sc_checked_couples (fun vs H Q E h => spR_len hn h) (fun f cdv A outer s H vs Q E hr h => ⟨_, (pss_cons (ps_if (PW.pt (pw_or (pt_not (pt_val (pe_cal c_is_sequence hr (pa_cons (pv 0) pa_nil)))) (pw_or1 (pt_cmpR op_gtI (pe_callB (k_len (K := K) rfl) (by rfl) T.n_len (by decide +kernel) (pa_cons (pv 0) pa_nil)) (pe_gint (by rfl) T.g_MOST_FIELDS) (nomark _))))) (pss_one (ps_raise rfl (takes_of rfl rfl rfl rfl) (pmk_own0 PySem.F.excBase_ValueError N.xP N.gC N.kP (raises_own N.bP N.tP) (by rfl)))) pss_nil)
      (pss_cons (ps_if (pt_not (pt_val (pe_callB (k_all (K := K) rfl rfl) (by rfl) T.n_all (by decide +kernel) (pa_cons (pe_lc (own := [("couple", 4)]) (by rfl) sc_checked_couples.nd (k_seq (K := K) rfl (pv 0)) (blkOk_by (N := ["couples", "room", "label", "kind", "couple", "_"]) (sc := defScope s_checked_couples) (by decide +kernel)) (fun _ _ _ _ _ => (pg_name (i := 4) sc_checked_couples.nd rfl (by first | exact .inl rfl | exact .inr rfl))) (fun _ _ _ _ _ => pts_nil) (fun _ _ _ _ _ => (pe_and (pe_cal c_is_couple hr (pa_cons (pv 4) pa_nil)) (pe_one (pe_cal c_is_name hr (pa_cons (pe_ix (k_ix (K := K) rfl) (pv 4) pe_int (fun _ _ => rfl)) pa_nil)))))) pa_nil)))) (pss_one (ps_raise rfl (takes_of rfl rfl rfl rfl) (pmk_own0 PySem.F.excBase_ValueError N.xP N.gC N.kP (raises_own N.bP N.tP) (by rfl)))) pss_nil)
      (pss_cons (ps_if (pt_not (pt_val (pe_cal c_is_ascending hr (pa_cons (pe_lc (own := [("label", 2), ("_", 5)]) (by rfl) sc_checked_couples.nd (k_seq (K := K) rfl (pv 0)) (blkOk_by (N := ["couples", "room", "label", "kind", "couple", "_"]) (sc := defScope s_checked_couples) (by decide +kernel)) (fun _ _ _ _ _ => (k_tup (K := K) (n := 2) rfl rfl (pgs_cons (pg_name (i := 2) sc_checked_couples.nd rfl (by first | exact .inl rfl | exact .inr rfl)) (pgs_cons (pg_name (i := 5) sc_checked_couples.nd rfl (by first | exact .inl rfl | exact .inr rfl)) pgs_nil)))) (fun _ _ _ _ _ => pts_nil) (fun _ _ _ _ _ => (pv 2))) pa_nil)))) (pss_one (ps_raise rfl (takes_of rfl rfl rfl rfl) (pmk_own0 PySem.F.excBase_ValueError N.xP N.gC N.kP (raises_own N.bP N.tP) (by rfl)))) pss_nil)
      (pss_one (ps_ret (pe_callTy (k_tuple (K := K) rfl) (by rfl) T.n_tuple (by decide +kernel) (pa_cons (pe_lcX (own := [("label", 2), ("kind", 3)]) rfl rfl (takes_of rfl rfl rfl rfl) (by rfl) sc_checked_couples.nd (k_seq (K := K) rfl (pv 0)) (blkOk_by (N := ["couples", "room", "label", "kind", "couple", "_"]) (sc := defScope s_checked_couples) (by decide +kernel)) (fun _ _ _ _ _ => (k_tup (K := K) (n := 2) rfl rfl (pgs_cons (pg_name (i := 2) sc_checked_couples.nd rfl (by first | exact .inl rfl | exact .inr rfl)) (pgs_cons (pg_name (i := 3) sc_checked_couples.nd rfl (by first | exact .inl rfl | exact .inr rfl)) pgs_nil)))) (fun _ _ _ _ _ => pts_nil) (fun _ _ _ _ _ _ hpass => (pe_tup (pa_cons (pv 2) (pa_cons (pe_calP c_checked_kind hpass hr (pa_cons (pv 3) (pa_cons (pv 1) pa_nil))) pa_nil))))) pa_nil))))))), to_spR hn (fun S ds hp bad => ?_) h⟩)
  obtain ⟨cs, rfl, hok⟩ := hp
  have bad : ccB (ckB r) cs = false → Bad S H E C := bad
  change WX K S H _ [.dat cs, .dat (.int r), .no, .no, .no, .no] [] ⟨fun _ _ => ccB (ckB r) cs = true ∧ tn cs = .none, fun d _ => ccB (ckB r) cs = true ∧ d = tn cs, fun _ _ => False, fun _ _ => False⟩
  walk_at "ww"
  refine callF rfl ?_
  rw [seqD]
  cases hit : itemsD cs with
  | none =>
    walk_at "ww"
    refine wx_raise (bad ?_)
    unfold ccB
    rw [hit]
  | some cl =>
    have hc := it_sq hit
    have cE : ccB (ckB r) cs = (decide (cl.length ≤ 5) && (cl.all nmC && (ascB (cl.map labS) && cl.all fun c => ckB r (itemAt c 1)))) := by
      unfold ccB
      rw [hit]
    rw [cE] at bad ⊢
    walk_at "ww"
    refine len_sq hc ?_
    walk_at "ww"
    refine iteB (fun h5 => ?_) (fun h5 => ?_)
    · have h5 : (5 : Int) < (cl.length : Int) := of_decide_eq_true h5
      exact wx_raise (bad (by rw [decide_eq_false (by omega)]; rfl))
    have h5 : ¬ (5 : Int) < (cl.length : Int) := of_decide_eq_false h5
    have h5 : cl.length ≤ 5 := by omega
    rw [decide_eq_true h5, Bool.true_and] at bad ⊢
    walk_at "ww"
    -- all([is_couple(c) and is_name(c[0]) for c in couples])
    refine w_map (by decide) (wi_seq ?_)
    walk_at "ww"
    refine walk_sq hc ⟨fun c => .bool (nmC c), by omega, fun c hcm => ?_, ?_⟩
    · change W K _ [.dat cs, .dat (.int r), .no, .no, .dat c, .no] [] _
      have oc := sq_ok hc hok c hcm
      walk_at "ww"
      refine callF rfl (exb ?_)
      cases hcp : cplB c with
      | false =>
        refine iteN rfl ⟨?_, rfl⟩
        show _ = PyData.bool (cplB c && _)
        rw [hcp]; rfl
      | true =>
        obtain ⟨a, b, sq⟩ := couple_is hcp
        refine iteK rfl ?_
        walk_at "ww"
        refine ix_sq (j := 0) sq rfl ?_
        walk_at "ww"
        refine ⟨⟨a, rfl, ok_short (sq_ok sq oc a List.mem_cons_self)⟩, fun d hd => ?_⟩
        rw [hd a rfl]
        refine ⟨?_, rfl⟩
        show _ = PyData.bool (cplB c && nameD (itemAt c 0))
        rw [hcp, (sq_at sq).1]; rfl
    walk_at "ww"
    refine fall (bs := cl.map nmC) (by rw [List.map_map]; rfl) ?_
    walk_at "ww"
    rw [show (cl.map nmC).all id = cl.all nmC by rw [List.all_map]; rfl]
    cases hall : cl.all nmC with
    | false =>
      walk_at "ww"
      exact wx_raise (bad (by rw [hall]; rfl))
    | true =>
      rw [hall, Bool.true_and] at bad
      rw [Bool.true_and]
      have each : ∀ c ∈ cl, ∃ z k, Sq c [.str z, k] ∧ okD k = true := fun c hcm => by
        have h := List.all_eq_true.mp hall c hcm
        have h : (cplB c && nameD (itemAt c 0)) = true := h
        rw [Bool.and_eq_true] at h
        obtain ⟨a, b, sq⟩ := couple_is h.1
        rw [(sq_at sq).1] at h
        have ob := sq_ok sq (sq_ok hc hok c hcm) b (by simp)
        cases a <;> first | (cases h.2; done) | skip
        exact ⟨_, b, sq, ob⟩
      walk_at "ww"
      -- is_ascending([label for label, _ in couples])
      refine w_map2 (by decide) (by decide) (wi_seq ?_)
      walk_at "ww"
      refine walk_sq hc ⟨fun c => .str (labS c), by omega, fun c hcm => ?_, ?_⟩
      · obtain ⟨z, b, sq, _⟩ := each c hcm
        refine ⟨.str z, b, sq.symm, ?_⟩
        change W K _ [.dat cs, .dat (.int r), .dat (.str z), .no, .no, .dat b] [] _
        walk_at "ww"
        refine ⟨?_, rfl⟩
        show _ = PyData.str (unS (itemAt c 0))
        rw [(sq_at sq).1]; rfl
      rw [show (cl.map fun c => PyData.str (labS c)) = (cl.map labS).map PyData.str by rw [List.map_map]; rfl]
      walk_at "ww"
      refine ⟨⟨cl.map labS, rfl, by rw [List.length_map]; omega⟩, fun d hd => ?_⟩
      rw [hd _ rfl]
      cases hasc : ascB (cl.map labS) with
      | false =>
        walk_at "ww"
        exact wx_raise (bad (by rw [hasc]; rfl))
      | true =>
        rw [hasc, Bool.true_and] at bad
        rw [Bool.true_and]
        walk_at "ww"
        -- tuple([(label, _checked_kind(kind, room)) for label, kind in couples])
        refine wr_cb ac_tupleOf (war_cons (wr_map2g (by decide) (by decide) (wi_seq ?_)))
        walk_at "ww"
        refine walk_sq hc ⟨tn, fun c => ckB r (itemAt c 1), by omega, fun c hcm => ?_, fun hgd => ?_⟩
        · obtain ⟨z, b, sq, ob⟩ := each c hcm
          refine ⟨.str z, b, sq.symm, ?_⟩
          change WR K S H _ [.dat cs, .dat (.int r), .dat (.str z), .dat b, .no, .no] [] _
          refine wr_tup (war_cons (wr_of (w_var rfl (war_cons (wr_call (war_of (wa_cons (w_var rfl (wa_cons (w_var rfl (wa_nil (m2 ⟨⟨b, rfl, ob⟩, fun hg => ?_, fun hg => ?_⟩)))))))))))) 
          · have hg : ckB r b = true := hg
            refine war_nil (m2 ⟨by simp, ?_, ?_, rfl⟩)
            · show ckB r (itemAt c 1) = true
              rw [(sq_at sq).2]; exact hg
            · rw [sq_tn sq]; rfl
          · have hg : ckB r b = false := hg
            refine bad ?_
            cases hz : cl.all fun c => ckB r (itemAt c 1) with
            | false => rfl
            | true =>
              have z1 := List.all_eq_true.mp hz c hcm
              rw [(sq_at sq).2, hg] at z1
              cases z1
        · refine war_nil (m1 (ftupl ⟨hgd, ?_⟩))
          rw [sq_tn hc]
end
end K1

set_option Elab.async false
set_option linter.all false
set_option maxRecDepth 100000
set_option maxHeartbeats 4000000
namespace K1
open PySem PySem.Spec PyProof.Rows L2 Ab

/-- one step of the reading -/
local macro_rules | `(tactic| walk_at "w") => `(tactic| first
  | (with_reducible refine ws_seq ?_) | (with_reducible refine ws_next ?_) | (with_reducible refine ws_set ?_) | (with_reducible refine ws_par ?_) | (with_reducible refine ws_ret ?_) | (with_reducible refine ws_if ?_) | (with_reducible refine ws_drop ?_)
  | (refine w_var rfl ?_) | (with_reducible refine w_int ?_) | (with_reducible refine w_str ?_) | (with_reducible refine w_bl ?_) | (with_reducible refine w_non ?_)
  | (with_reducible refine wa_nil ?_) | (with_reducible refine wa_cons ?_) | (with_reducible refine w_tup ?_) | (with_reducible refine w_lst ?_)
  | (with_reducible refine wt_test ?_) | (with_reducible refine wt_B ?_) | (with_reducible refine wt_not ?_) | (with_reducible refine wt_and ?_) | (with_reducible refine wt_or ?_)
  | (with_reducible refine w_andV ?_) | (with_reducible refine w_orV ?_) | (with_reducible refine w_notV ?_) | (with_reducible refine w_ite ?_)
  | (with_reducible refine w_op ao_eqW ?_) | (with_reducible refine w_op ao_neW ?_) | (with_reducible refine w_op ao_eq ?_) | (with_reducible refine w_op ao_ne ?_) | (with_reducible refine w_op ao_isB ?_) | (with_reducible refine w_op ao_notB ?_) | (with_reducible refine w_op ao_ix ?_) | (with_reducible refine w_op ao_plus ?_) | (with_reducible refine w_op ao_less ?_) | (with_reducible refine w_op ao_le ?_) | (with_reducible refine w_op ao_gt ?_) | (with_reducible refine w_op ao_ge ?_)
  | (with_reducible refine w_op ao_sub ?_) | (with_reducible refine w_op ao_mul ?_) | (with_reducible refine w_op ao_mod ?_) | (with_reducible refine w_op ao_div ?_) | (with_reducible refine w_op ao_pow ?_) | (with_reducible refine w_op ao_isNo ?_) | (with_reducible refine w_op ao_inSg ?_) | (with_reducible refine w_op ao_inW ?_) | (with_reducible refine w_op ao_ninW ?_) | (with_reducible refine w_op ao_inSeq ?_) | (with_reducible refine w_op ao_ninSeq ?_)
  | (with_reducible refine w_cb ac_len ?_) | (with_reducible refine w_cb ac_tupleOf ?_) | (with_reducible refine w_cb ac_intOf ?_) | (with_reducible refine w_cb ac_abs ?_) | (with_reducible refine w_cb ac_ord ?_) | (with_reducible refine w_cb ac_all ?_) | (with_reducible refine w_cb ac_any ?_)
  | (with_reducible refine w_isi (by decide) ?_) | (with_reducible refine w_isi2 (by decide) (by decide) ?_) | (with_reducible refine w_sl ?_) | (with_reducible refine wo_none ?_) | (with_reducible refine wo_some ?_)
  | (with_reducible refine w_chain ao_le ao_le ?_) | (with_reducible refine w_chain ao_leS ao_leS ?_) | (with_reducible refine w_call ?_))
local macro_rules | `(tactic| walk_at "v") => `(tactic| first
  | (with_reducible refine m0 ?_) | (with_reducible refine m1 ?_) | (with_reducible refine m2 ?_) | (with_reducible refine m3 ?_) | (with_reducible refine m5 ?_)
  | (with_reducible refine exb ?_) | (with_reducible refine exi ?_) | (with_reducible refine exl ?_) | (with_reducible refine exql ?_) | (with_reducible refine exqt ?_)
  | (refine fixt rfl ?_) | (refine fixl rfl ?_) | (refine fslt rfl ?_) | (refine fsll rfl ?_)
  | (with_reducible refine flent ?_; dsimp only [List.length_cons, List.length_nil]) | (with_reducible refine flenl ?_; dsimp only [List.length_cons, List.length_nil])
  | (with_reducible refine fii (by first | trivial | decide) ?_) | (with_reducible refine fpi ?_) | (with_reducible refine flti ?_) | (with_reducible refine fint ?_) | (with_reducible refine ftupl ?_) | (with_reducible refine ftupt ?_)
  | (with_reducible refine feqW (by decide +kernel) (by decide +kernel) (by decide +kernel) ?_) | (with_reducible refine fneW (by decide +kernel) (by decide +kernel) (by decide +kernel) ?_)
  | (with_reducible refine feq (by decide +kernel) (by decide +kernel) ?_) | (with_reducible refine fne (by decide +kernel) (by decide +kernel) ?_)
  | (with_reducible refine iteK rfl ?_) | (with_reducible refine iteN rfl ?_) | (with_reducible refine iteK (by decide +kernel) ?_) | (with_reducible refine iteN (by decide +kernel) ?_))
local macro_rules | `(tactic| walk_at "x") => `(tactic| first | (with_reducible refine wx_seq ?_) | (with_reducible refine wx_if ?_) | (with_reducible refine wx_next ?_) | (with_reducible refine wx_ret ?_) | (with_reducible refine wr_tup ?_) | (with_reducible refine war_cons ?_) | (with_reducible refine war_nil ?_))
local macro_rules | `(tactic| walk_at "ww") => `(tactic| repeat (first | walk_at "w" | walk_at "v" | walk_at "x"))

theorem cut1 {c a : PyData} {xs : List PyData} {Q : PyData → Prop} (h : Sq c (a :: xs)) (p : ∀ c', Sq c' xs → Q c') : fSl c (some 1) none Q := by
  have e : Ab.cutD (a :: xs) (some 1) none = xs := by
    unfold Ab.cutD
    rw [HT.sIx_none, show HT.sIx (a :: xs).length 0 (some 1) = min 1 (a :: xs).length from HT.sIx_nat _ 0 1]
    rw [show min 1 (a :: xs).length = 1 by simp]
    simp
  rcases h with rfl | rfl
  · exact fsll e (p _ (.inl rfl))
  · exact fslt e (p _ (.inr rfl))
theorem base_tn {d : PyData} (h : baseB d = true) : tn d = d := by
  obtain ⟨z, hz, e⟩ := List.any_eq_true.mp h
  simp only [bases, List.mem_cons, List.mem_nil_iff, or_false] at hz
  cases d <;> first | rfl | skip
  all_goals (rcases hz with rfl | rfl | rfl <;> cases e)
theorem base_sq {d : PyData} {xs : List PyData} (h : Sq d xs) : baseB d = false := by
  rcases h with rfl | rfl <;> rfl
/-- the word is one of four, or none of them -/
theorem word_cases (w : PyData) : w = .str "list" ∨ w = .str "function" ∨ w = .str "record" ∨ w = .str "any" ∨ (PyData.eqv w (.str "list") = false ∧ PyData.eqv w (.str "function") = false ∧ PyData.eqv w (.str "record") = false ∧ PyData.eqv w (.str "any") = false) := by
  cases h1 : PyData.eqv w (.str "list") with
  | true => exact .inl (eqv_str h1)
  | false =>
    cases h2 : PyData.eqv w (.str "function") with
    | true => exact .inr (.inl (eqv_str h2))
    | false =>
      cases h3 : PyData.eqv w (.str "record") with
      | true => exact .inr (.inr (.inl (eqv_str h3)))
      | false =>
        cases h4 : PyData.eqv w (.str "any") with
        | true => exact .inr (.inr (.inr (.inl (eqv_str h4))))
        | false => exact .inr (.inr (.inr (.inr ⟨rfl, rfl, rfl, rfl⟩)))
theorem feqS {w : PyData} {s : Str} {P : PyData → Prop} (hw : okD w = true) (hs : (PyData.str s).canLay0 = true) (z : P (.bool (PyData.eqv w (.str s)))) : fEqW w (.str s) P := ⟨ok_lay w hw, hs, by simp [PyData.depth], z⟩
theorem len_eq (n m : Nat) {i : Int} (hi : i = (m : Int)) {P : PyData → Prop} (z : P (.bool (decide (n = m)))) : fEqW (.int (n : Int)) (.int i) P := by
  subst hi
  exact ⟨rfl, rfl, by simp [PyData.depth], by rw [lenE]; exact z⟩
section
variable {P : Program} {w : World} {K : PySem.W.Frag} {mg : Str → Option Value} {base : Heap} {aB C : Addr} (T : Txt K mg aB) (N : BkT K mg C)
include T N in
theorem ok_checked_kind1 (r k : Nat) (hk : 2 ≤ k) (F : Dfn K mg "_checked_kind" s_checked_kind ["kind", "room"]) (q_is_sequence : Cal P w K mg base 1 "is_sequence" ["thing"] (spF fIsSeq K)) (q_is_integer : Cal P w K mg base 1 "is_integer" ["thing"] (spF fIsInt K))
    (q_is_base : Cal P w K mg base 1 "is_base" ["kind"] (spF fIsBase K)) (q_checked_kind : CalX P w K mg base k "_checked_kind" ["kind", "room"] (spCK C r K)) (c_checked_couples : CalX P w K mg base (k + 1) "_checked_couples" ["couples", "room"] (spCC C r K)) :
    CalX P w K mg base (k + 2) "_checked_kind" ["kind", "room"] (spCK C (r + 1) K) := by
  have hn : ∀ ds, preK (r + 1) ds → ds.length = 2 := by rintro ds ⟨d, rfl, _⟩; rfl
  have c_is_sequence := q_is_sequence.mono (show 1 ≤ k + 1 by omega)
  have c_is_integer := q_is_integer.mono (show 1 ≤ k + 1 by omega)
  have c_is_base := q_is_base.mono (show 1 ≤ k + 1 by omega)
  have c_checked_kind := q_checked_kind.mono (show k ≤ k + 1 by omega)
  refine F.okX sc_checked_kind (fun vs H Q E h => spR_len hn h) (fun f cdv A outer s H vs Q E hr h => ⟨_, (pss_cons (ps_if (pt_cmpR (k_eqW (K := K) rfl hr) (pv 1) pe_int (nomark _)) (pss_one (ps_raise rfl (takes_of rfl rfl rfl rfl) (pmk_own0 PySem.F.excBase_ValueError N.xP N.gC N.kP (raises_own N.bP N.tP) (by rfl)))) pss_nil)
      (pss_cons (ps_if (pt_val (pe_cal c_is_base hr (pa_cons (pv 0) pa_nil))) (pss_one (ps_ret (pv 0))) pss_nil)
      (pss_cons (ps_if (PW.pt (pw_or (pt_not (pt_val (pe_cal c_is_sequence hr (pa_cons (pv 0) pa_nil)))) (pw_or1 (pt_cmpR op_less (pe_callB (k_len (K := K) rfl) (by rfl) T.n_len (by decide +kernel) (pa_cons (pv 0) pa_nil)) pe_int (nomark _))))) (pss_one (ps_raise rfl (takes_of rfl rfl rfl rfl) (pmk_own0 PySem.F.excBase_ValueError N.xP N.gC N.kP (raises_own N.bP N.tP) (by rfl)))) pss_nil)
      (pss_cons (ps_par (i := 2) (j := 3) rfl sc_checked_kind.nd rfl rfl (by decide) rfl rfl (pa_cons (pe_ix (k_ix (K := K) rfl) (pv 0) pe_int (fun _ _ => rfl)) (pa_cons (pe_slice (k_sl (K := K) rfl) (pv 0) (po_some pe_int) po_none) pa_nil)) (by rfl))
      (pss_cons (ps_if (PW.pt (pw_and (pt_cmpR (k_eqW (K := K) rfl hr) (pv 2) pe_str (nomark _)) (pw_and1 (pt_cmpR (k_eqW (K := K) rfl hr) (pe_callB (k_len (K := K) rfl) (by rfl) T.n_len (by decide +kernel) (pa_cons (pv 3) pa_nil)) pe_int (nomark _))))) (pss_one (ps_ret (pe_tup (pa_cons pe_str (pa_cons (pe_calP c_checked_kind (passes_call (takes_of rfl rfl rfl rfl) fun _ _ _ _ h => h) hr (pa_cons (pe_ix (k_ix (K := K) rfl) (pv 3) pe_int (fun _ _ => rfl)) (pa_cons (pe_op op_subI (pv 1) pe_int) pa_nil))) pa_nil))))) pss_nil)
      (pss_cons (ps_if (PW.pt (pw_and (pt_cmpR (k_eqW (K := K) rfl hr) (pv 2) pe_str (nomark _)) (pw_and1 (pt_cmpR (k_eqW (K := K) rfl hr) (pe_callB (k_len (K := K) rfl) (by rfl) T.n_len (by decide +kernel) (pa_cons (pv 3) pa_nil)) pe_int (nomark _))))) (pss_one (ps_ret (pe_tup (pa_cons pe_str (pa_cons (pe_calP c_checked_kind (passes_call (takes_of rfl rfl rfl rfl) fun _ _ _ _ h => h) hr (pa_cons (pe_ix (k_ix (K := K) rfl) (pv 3) pe_int (fun _ _ => rfl)) (pa_cons (pe_op op_subI (pv 1) pe_int) pa_nil))) (pa_cons (pe_calP c_checked_kind (passes_call (takes_of rfl rfl rfl rfl) fun _ _ _ _ h => h) hr (pa_cons (pe_ix (k_ix (K := K) rfl) (pv 3) pe_int (fun _ _ => rfl)) (pa_cons (pe_op op_subI (pv 1) pe_int) pa_nil))) pa_nil)))))) pss_nil)
      (pss_cons (ps_if (PW.pt (pw_and (pt_cmpR (k_eqW (K := K) rfl hr) (pv 2) pe_str (nomark _)) (pw_and1 (pt_cmpR (k_eqW (K := K) rfl hr) (pe_callB (k_len (K := K) rfl) (by rfl) T.n_len (by decide +kernel) (pa_cons (pv 3) pa_nil)) pe_int (nomark _))))) (pss_one (ps_ret (pe_tup (pa_cons pe_str (pa_cons (pe_calP c_checked_couples (passes_call (takes_of rfl rfl rfl rfl) fun _ _ _ _ h => h) hr (pa_cons (pe_ix (k_ix (K := K) rfl) (pv 3) pe_int (fun _ _ => rfl)) (pa_cons (pe_op op_subI (pv 1) pe_int) pa_nil))) pa_nil))))) pss_nil)
      (pss_cons (ps_if (PW.pt (pw_and (pt_cmpR (k_eqW (K := K) rfl hr) (pv 2) pe_str (nomark _)) (pw_and (pt_cmpR (k_eqW (K := K) rfl hr) (pe_callB (k_len (K := K) rfl) (by rfl) T.n_len (by decide +kernel) (pa_cons (pv 3) pa_nil)) pe_int (nomark _)) (pw_and (pt_val (pe_cal c_is_integer hr (pa_cons (pe_ix (k_ix (K := K) rfl) (pv 3) pe_int (fun _ _ => rfl)) pa_nil))) (pw_and1 (pt_cmpR op_geI (pe_ix (k_ix (K := K) rfl) (pv 3) pe_int (fun _ _ => rfl)) pe_int (nomark _))))))) (pss_one (ps_ret (pe_tup (pa_cons pe_str (pa_cons (pe_ix (k_ix (K := K) rfl) (pv 3) pe_int (fun _ _ => rfl)) pa_nil))))) pss_nil)
      (pss_one (ps_raise rfl (takes_of rfl rfl rfl rfl) (pmk_own0 PySem.F.excBase_ValueError N.xP N.gC N.kP (raises_own N.bP N.tP) (by rfl)))))))))))), to_spR hn (fun S ds hp bad => ?_) h⟩)
  obtain ⟨d, rfl, hok⟩ := hp
  have bad : ckB (r + 1) d = false → Bad S H E C := bad
  change WX K S H _ [.dat d, .dat (.int ((r + 1 : Nat) : Int)), .no, .no] [] ⟨fun _ _ => ckB (r + 1) d = true ∧ tn d = .none, fun x _ => ckB (r + 1) d = true ∧ x = tn d, fun _ _ => False, fun _ _ => False⟩
  have h0 : PyData.eqv (.int ((r + 1 : Nat) : Int)) (.int 0) = false := by
    show (((r + 1 : Nat) : Int) == 0) = false
    rw [beq_eq_false_iff_ne]; omega
  have hm : ((r + 1 : Nat) : Int) - 1 = (r : Int) := by omega
  walk_at "ww"
  refine feqW rfl rfl (by simp [PyData.depth]) ?_
  rw [h0]
  walk_at "ww"
  refine callF (show (if d.canLay0 = true then some (PyData.bool (baseB d)) else none) = _ by rw [if_pos (ok_lay d hok)]) ?_
  cases hb : baseB d with
  | true =>
    walk_at "ww"
    refine wr_of (w_var rfl ⟨?_, (base_tn hb).symm⟩)
    show (baseB d || _) = true
    rw [hb]; rfl
  | false =>
    walk_at "ww"
    refine callF rfl ?_
    rw [seqD]
    have cE : ckB (r + 1) d = (match itemsD d with
      | some [w, e] => (PyData.eqv w (.str "list") && ckB r e) || ((PyData.eqv w (.str "record") && ccB (ckB r) e) || (PyData.eqv w (.str "any") && natB e))
      | some [w, e, f] => PyData.eqv w (.str "function") && (ckB r e && ckB r f)
      | _ => false) := by
      show (baseB d || _) = _
      rw [hb]; rfl
    rw [cE] at bad ⊢
    cases hit : itemsD d with
    | none =>
      rw [hit] at bad
      walk_at "ww"
      exact wx_raise (bad rfl)
    | some xs =>
      rw [hit] at bad
      have q := it_sq hit
      have oks := sq_ok q hok
      walk_at "ww"
      refine len_sq q ?_
      walk_at "ww"
      match xs, q, oks, bad with
      | [], q, oks, bad =>
        refine iteK rfl ?_
        exact wx_raise (bad rfl)
      | [w], q, oks, bad =>
        refine iteK rfl ?_
        exact wx_raise (bad rfl)
      | w :: e :: xs, q, oks, bad =>
        have ow := oks w List.mem_cons_self
        have oe := oks e (List.mem_cons_of_mem _ List.mem_cons_self)
        refine iteN (decide_eq_false (by simp; omega)) ?_
        refine wx_next (wx_seq (wx_ws (ws_par ?_)))
        walk_at "ww"
        refine ix_sq (j := 0) q rfl ?_
        walk_at "ww"
        refine cut1 q fun c' q' => ?_
        walk_at "ww"
        refine ⟨_, _, rfl, ?_⟩
        change WX K S H _ [.dat d, .dat (.int ((r + 1 : Nat) : Int)), .dat w, .dat c'] [] _
        rcases word_cases w with rfl | rfl | rfl | rfl | ⟨n1, n2, n3, n4⟩
        · -- list
          walk_at "ww"
          refine len_sq q' (w_int (len_eq _ 1 rfl (exb ?_)))
          match xs, q, q', oks, bad with
          | [], q, q', oks, bad =>
            have bad : ckB r e = false → Bad S H E C := fun h => bad (by show ((true && ckB r e) || ((false && _) || (false && _))) = false; rw [h]; rfl)
            refine iteK rfl ?_
            walk_at "ww"
            refine wr_of (w_str (war_cons (wr_call (war_of ?_))))
            walk_at "ww"
            refine ix_sq (j := 0) q' rfl ?_
            walk_at "ww"
            refine ⟨⟨e, by rw [hm], oe⟩, fun hg => ?_, fun hg => bad hg⟩
            have hg : ckB r e = true := hg
            refine war_nil (m2 ⟨by simp, ?_, ?_⟩)
            · show ((true && ckB r e) || ((false && _) || (false && _))) = true
              rw [hg]; rfl
            · rw [sq_tn q]; rfl
          | [f], q, q', oks, bad =>
            refine iteN rfl ?_
            walk_at "ww"
            exact wx_raise (bad rfl)
          | f :: g :: xs, q, q', oks, bad =>
            refine iteN (decide_eq_false (by simp)) ?_
            walk_at "ww"
            exact wx_raise (bad rfl)
        · -- function
          walk_at "ww"
          refine len_sq q' (w_int (len_eq _ 2 rfl (exb ?_)))
          match xs, q, q', oks, bad with
          | [], q, q', oks, bad =>
            refine iteN rfl ?_
            walk_at "ww"
            exact wx_raise (bad rfl)
          | [f], q, q', oks, bad =>
            have of := oks f (by simp)
            have bad : (ckB r e && ckB r f) = false → Bad S H E C := fun h => bad (by show (true && (ckB r e && ckB r f)) = false; rw [h]; rfl)
            refine iteK rfl ?_
            walk_at "ww"
            refine wr_of (w_str (war_cons (wr_call (war_of ?_))))
            walk_at "ww"
            refine ix_sq (j := 0) q' rfl ?_
            walk_at "ww"
            refine ⟨⟨e, by rw [hm], oe⟩, fun hg => ?_, fun hg => bad (by rw [show ckB r e = false from hg]; rfl)⟩
            have hg : ckB r e = true := hg
            refine war_cons (wr_call (war_of ?_))
            walk_at "ww"
            refine ix_sq (j := 1) q' rfl ?_
            walk_at "ww"
            refine ⟨⟨f, by rw [hm], of⟩, fun hg2 => ?_, fun hg2 => bad (by rw [show ckB r f = false from hg2, Bool.and_false])⟩
            have hg2 : ckB r f = true := hg2
            refine war_nil (m3 ⟨by simp, ?_, ?_⟩)
            · show (true && (ckB r e && ckB r f)) = true
              rw [hg, hg2]; rfl
            · rw [sq_tn q]; rfl
          | f :: g :: xs, q, q', oks, bad =>
            refine iteN (decide_eq_false (by simp)) ?_
            walk_at "ww"
            exact wx_raise (bad rfl)
        · -- record
          walk_at "ww"
          refine len_sq q' (w_int (len_eq _ 1 rfl (exb ?_)))
          match xs, q, q', oks, bad with
          | [], q, q', oks, bad =>
            have bad : ccB (ckB r) e = false → Bad S H E C := fun h => bad (by show ((false && _) || ((true && ccB (ckB r) e) || (false && _))) = false; rw [h]; rfl)
            refine iteK rfl ?_
            walk_at "ww"
            refine wr_of (w_str (war_cons (wr_call (war_of ?_))))
            walk_at "ww"
            refine ix_sq (j := 0) q' rfl ?_
            walk_at "ww"
            refine ⟨⟨e, by rw [hm], oe⟩, fun hg => ?_, fun hg => bad hg⟩
            have hg : ccB (ckB r) e = true := hg
            refine war_nil (m2 ⟨by simp, ?_, ?_⟩)
            · show ((false && _) || ((true && ccB (ckB r) e) || (false && _))) = true
              rw [hg]; rfl
            · rw [sq_tn q]; rfl
          | [f], q, q', oks, bad =>
            refine iteN rfl ?_
            walk_at "ww"
            exact wx_raise (bad rfl)
          | f :: g :: xs, q, q', oks, bad =>
            refine iteN (decide_eq_false (by simp)) ?_
            walk_at "ww"
            exact wx_raise (bad rfl)
        · -- any
          walk_at "ww"
          refine len_sq q' (w_int (len_eq _ 1 rfl (exb ?_)))
          match xs, q, q', oks, bad with
          | [], q, q', oks, bad =>
            have bad : natB e = false → Bad S H E C := fun h => bad (by show ((false && _) || ((false && _) || (true && natB e))) = false; rw [h]; rfl)
            refine iteK rfl ?_
            walk_at "ww"
            refine ix_sq (j := 0) q' rfl ?_
            walk_at "ww"
            refine callF rfl ?_
            cases e with
            | int i =>
              refine exb (iteK rfl ?_)
              walk_at "ww"
              refine ix_sq (j := 0) q' rfl ?_
              walk_at "ww"
              refine iteB (fun h => ?_) (fun h => ?_)
              · refine wx_ret (wr_of ?_)
                walk_at "ww"
                refine ix_sq (j := 0) q' rfl ?_
                walk_at "ww"
                refine ⟨by simp, ?_, ?_⟩
                · show ((false && _) || ((false && _) || (true && natB (.int i)))) = true
                  show ((false && _) || ((false && _) || (true && decide (0 ≤ i)))) = true
                  rw [h]; rfl
                · rw [sq_tn q]; rfl
              · refine wx_next (wx_raise (bad h))
            | bool b =>
              cases b <;> (refine exb (iteN rfl ?_); walk_at "ww"; exact wx_raise (bad rfl))
            | _ =>
              refine exb (iteN rfl ?_)
              walk_at "ww"
              exact wx_raise (bad rfl)
          | [f], q, q', oks, bad =>
            refine iteN rfl ?_
            walk_at "ww"
            exact wx_raise (bad rfl)
          | f :: g :: xs, q, q', oks, bad =>
            refine iteN (decide_eq_false (by simp)) ?_
            walk_at "ww"
            exact wx_raise (bad rfl)
        · -- none of them
          have bad : Bad S H E C := by
            refine bad ?_
            match xs with
            | [] => show ((PyData.eqv w (.str "list") && _) || ((PyData.eqv w (.str "record") && _) || (PyData.eqv w (.str "any") && _))) = false; rw [n1, n3, n4]; rfl
            | [f] => show (PyData.eqv w (.str "function") && _) = false; rw [n2]; rfl
            | _ :: _ :: _ => rfl
          walk_at "ww"
          refine feqS ow (by decide +kernel) (exb (iteN n1 ?_))
          walk_at "ww"
          refine feqS ow (by decide +kernel) (exb (iteN n2 ?_))
          walk_at "ww"
          refine feqS ow (by decide +kernel) (exb (iteN n3 ?_))
          walk_at "ww"
          refine feqS ow (by decide +kernel) (exb (iteN n4 ?_))
          walk_at "ww"
          exact wx_raise bad
end
end K1

set_option Elab.async false
set_option linter.all false
set_option maxRecDepth 100000
set_option maxHeartbeats 4000000
namespace K1
open PySem PySem.Spec PyProof.Rows L2 Ab

/-- one step of the reading -/
local macro_rules | `(tactic| walk_at "w") => `(tactic| first
  | (with_reducible refine ws_seq ?_) | (with_reducible refine ws_next ?_) | (with_reducible refine ws_set ?_) | (with_reducible refine ws_par ?_) | (with_reducible refine ws_ret ?_) | (with_reducible refine ws_if ?_) | (with_reducible refine ws_drop ?_)
  | (refine w_var rfl ?_) | (with_reducible refine w_int ?_) | (with_reducible refine w_str ?_) | (with_reducible refine w_bl ?_) | (with_reducible refine w_non ?_)
  | (with_reducible refine wa_nil ?_) | (with_reducible refine wa_cons ?_) | (with_reducible refine w_tup ?_) | (with_reducible refine w_lst ?_)
  | (with_reducible refine wt_test ?_) | (with_reducible refine wt_B ?_) | (with_reducible refine wt_not ?_) | (with_reducible refine wt_and ?_) | (with_reducible refine wt_or ?_)
  | (with_reducible refine w_andV ?_) | (with_reducible refine w_orV ?_) | (with_reducible refine w_notV ?_) | (with_reducible refine w_ite ?_)
  | (with_reducible refine w_op ao_eqW ?_) | (with_reducible refine w_op ao_neW ?_) | (with_reducible refine w_op ao_eq ?_) | (with_reducible refine w_op ao_ne ?_) | (with_reducible refine w_op ao_isB ?_) | (with_reducible refine w_op ao_notB ?_) | (with_reducible refine w_op ao_ix ?_) | (with_reducible refine w_op ao_plus ?_) | (with_reducible refine w_op ao_less ?_) | (with_reducible refine w_op ao_le ?_) | (with_reducible refine w_op ao_gt ?_) | (with_reducible refine w_op ao_ge ?_)
  | (with_reducible refine w_op ao_sub ?_) | (with_reducible refine w_op ao_mul ?_) | (with_reducible refine w_op ao_mod ?_) | (with_reducible refine w_op ao_div ?_) | (with_reducible refine w_op ao_pow ?_) | (with_reducible refine w_op ao_isNo ?_) | (with_reducible refine w_op ao_inSg ?_) | (with_reducible refine w_op ao_inW ?_) | (with_reducible refine w_op ao_ninW ?_) | (with_reducible refine w_op ao_inSeq ?_) | (with_reducible refine w_op ao_ninSeq ?_)
  | (with_reducible refine w_cb ac_len ?_) | (with_reducible refine w_cb ac_tupleOf ?_) | (with_reducible refine w_cb ac_intOf ?_) | (with_reducible refine w_cb ac_abs ?_) | (with_reducible refine w_cb ac_ord ?_) | (with_reducible refine w_cb ac_all ?_) | (with_reducible refine w_cb ac_any ?_)
  | (with_reducible refine w_isi (by decide) ?_) | (with_reducible refine w_isi2 (by decide) (by decide) ?_) | (with_reducible refine w_sl ?_) | (with_reducible refine wo_none ?_) | (with_reducible refine wo_some ?_)
  | (with_reducible refine w_chain ao_le ao_le ?_) | (with_reducible refine w_chain ao_leS ao_leS ?_) | (with_reducible refine w_call ?_))
local macro_rules | `(tactic| walk_at "v") => `(tactic| first
  | (with_reducible refine m0 ?_) | (with_reducible refine m1 ?_) | (with_reducible refine m2 ?_) | (with_reducible refine m3 ?_) | (with_reducible refine m5 ?_)
  | (with_reducible refine exb ?_) | (with_reducible refine exi ?_) | (with_reducible refine exl ?_) | (with_reducible refine exql ?_) | (with_reducible refine exqt ?_)
  | (refine fixt rfl ?_) | (refine fixl rfl ?_) | (refine fslt rfl ?_) | (refine fsll rfl ?_)
  | (with_reducible refine flent ?_; dsimp only [List.length_cons, List.length_nil]) | (with_reducible refine flenl ?_; dsimp only [List.length_cons, List.length_nil])
  | (with_reducible refine fii (by first | trivial | decide) ?_) | (with_reducible refine fpi ?_) | (with_reducible refine flti ?_) | (with_reducible refine fint ?_) | (with_reducible refine ftupl ?_) | (with_reducible refine ftupt ?_)
  | (with_reducible refine feqW (by decide +kernel) (by decide +kernel) (by decide +kernel) ?_) | (with_reducible refine fneW (by decide +kernel) (by decide +kernel) (by decide +kernel) ?_)
  | (with_reducible refine feq (by decide +kernel) (by decide +kernel) ?_) | (with_reducible refine fne (by decide +kernel) (by decide +kernel) ?_)
  | (with_reducible refine iteK rfl ?_) | (with_reducible refine iteN rfl ?_) | (with_reducible refine iteK (by decide +kernel) ?_) | (with_reducible refine iteN (by decide +kernel) ?_))
local macro_rules | `(tactic| walk_at "x") => `(tactic| first | (with_reducible refine wx_seq ?_) | (with_reducible refine wx_if ?_) | (with_reducible refine wx_next ?_) | (with_reducible refine wx_ret ?_) | (with_reducible refine wr_tup ?_) | (with_reducible refine war_cons ?_) | (with_reducible refine war_nil ?_))
local macro_rules | `(tactic| walk_at "ww") => `(tactic| repeat (first | walk_at "w" | walk_at "v" | walk_at "x"))

theorem cal_void {P : Program} {w : World} {K : PySem.W.Frag} {mg : Str → Option Value} {base : Heap} {k : Nat} {x : Str} {st : Stmt} {ps : List Str} {sp : Sp} (F : Dfn K mg x st ps) (h : ∀ vs H Q E, ¬ sp vs H Q E) : Cal P w K mg base k x ps sp := by
  obtain ⟨f, fd, a, b, c⟩ := F.ex
  exact ⟨f, fd, ⟨fun vs H Q E q => absurd q (h _ _ _ _), fun A outer s H args us vs Q E hr he hb hv q => absurd q (h _ _ _ _)⟩, b, a.kp, c⟩
abbrev spChk (C : Addr) (K : PySem.W.Frag) : Sp := spR C (fun ds => ∃ d, ds = [d] ∧ okD d = true) (fun ds => ckB 12 (fst1 ds)) (fun ds => tn (fst1 ds)) K
section
variable {P : Program} {w : World} {K : PySem.W.Frag} {mg : Str → Option Value} {base : Heap} {aB C : Addr} (T : Txt K mg aB) (N : BkT K mg C)
include T N in
theorem ok_checked_kind (FK : Dfn K mg "_checked_kind" s_checked_kind ["kind", "room"]) (FC : Dfn K mg "_checked_couples" s_checked_couples ["couples", "room"]) (q_is_sequence : Cal P w K mg base 1 "is_sequence" ["thing"] (spF fIsSeq K)) (q_is_integer : Cal P w K mg base 1 "is_integer" ["thing"] (spF fIsInt K))
    (q_is_couple : Cal P w K mg base 2 "is_couple" ["thing"] (spF fIsCouple K)) (q_is_name : Cal P w K mg base 1 "is_name" ["thing"] (spName K)) (q_is_ascending : Cal P w K mg base 1 "is_ascending" ["things"] (spAsc K)) (q_is_base : Cal P w K mg base 1 "is_base" ["kind"] (spF fIsBase K)) :
    ∀ r, CalX P w K mg base (2 * r + 2) "_checked_kind" ["kind", "room"] (spCK C r K)
  | 0 => by
    have hn : ∀ ds, preK 0 ds → ds.length = 2 := by rintro ds ⟨d, rfl, _⟩; rfl
    have c_is_sequence := q_is_sequence
    have c_is_integer := q_is_integer
    have c_is_base := q_is_base
    have c_checked_kind : CalX P w K mg base 1 "_checked_kind" ["kind", "room"] (spR C (fun _ => False) (fun _ => true) (fun _ => .none) K) := CalX.void FK fun vs H Q E h => by
      obtain ⟨S, ds, _, z, _⟩ := h
      exact z
    have c_checked_couples : CalX P w K mg base 1 "_checked_couples" ["couples", "room"] (spR C (fun _ => False) (fun _ => true) (fun _ => .none) K) := CalX.void FC fun vs H Q E h => by
      obtain ⟨S, ds, _, z, _⟩ := h
      exact z
    refine FK.okX sc_checked_kind (fun vs H Q E h => spR_len hn h) (fun f cdv A outer s H vs Q E hr h => ⟨_, (pss_cons (ps_if (pt_cmpR (k_eqW (K := K) rfl hr) (pv 1) pe_int (nomark _)) (pss_one (ps_raise rfl (takes_of rfl rfl rfl rfl) (pmk_own0 PySem.F.excBase_ValueError N.xP N.gC N.kP (raises_own N.bP N.tP) (by rfl)))) pss_nil)
      (pss_cons (ps_if (pt_val (pe_cal c_is_base hr (pa_cons (pv 0) pa_nil))) (pss_one (ps_ret (pv 0))) pss_nil)
      (pss_cons (ps_if (PW.pt (pw_or (pt_not (pt_val (pe_cal c_is_sequence hr (pa_cons (pv 0) pa_nil)))) (pw_or1 (pt_cmpR op_less (pe_callB (k_len (K := K) rfl) (by rfl) T.n_len (by decide +kernel) (pa_cons (pv 0) pa_nil)) pe_int (nomark _))))) (pss_one (ps_raise rfl (takes_of rfl rfl rfl rfl) (pmk_own0 PySem.F.excBase_ValueError N.xP N.gC N.kP (raises_own N.bP N.tP) (by rfl)))) pss_nil)
      (pss_cons (ps_par (i := 2) (j := 3) rfl sc_checked_kind.nd rfl rfl (by decide) rfl rfl (pa_cons (pe_ix (k_ix (K := K) rfl) (pv 0) pe_int (fun _ _ => rfl)) (pa_cons (pe_slice (k_sl (K := K) rfl) (pv 0) (po_some pe_int) po_none) pa_nil)) (by rfl))
      (pss_cons (ps_if (PW.pt (pw_and (pt_cmpR (k_eqW (K := K) rfl hr) (pv 2) pe_str (nomark _)) (pw_and1 (pt_cmpR (k_eqW (K := K) rfl hr) (pe_callB (k_len (K := K) rfl) (by rfl) T.n_len (by decide +kernel) (pa_cons (pv 3) pa_nil)) pe_int (nomark _))))) (pss_one (ps_ret (pe_tup (pa_cons pe_str (pa_cons (pe_calP c_checked_kind (passes_call (takes_of rfl rfl rfl rfl) fun _ _ _ _ h => h) hr (pa_cons (pe_ix (k_ix (K := K) rfl) (pv 3) pe_int (fun _ _ => rfl)) (pa_cons (pe_op op_subI (pv 1) pe_int) pa_nil))) pa_nil))))) pss_nil)
      (pss_cons (ps_if (PW.pt (pw_and (pt_cmpR (k_eqW (K := K) rfl hr) (pv 2) pe_str (nomark _)) (pw_and1 (pt_cmpR (k_eqW (K := K) rfl hr) (pe_callB (k_len (K := K) rfl) (by rfl) T.n_len (by decide +kernel) (pa_cons (pv 3) pa_nil)) pe_int (nomark _))))) (pss_one (ps_ret (pe_tup (pa_cons pe_str (pa_cons (pe_calP c_checked_kind (passes_call (takes_of rfl rfl rfl rfl) fun _ _ _ _ h => h) hr (pa_cons (pe_ix (k_ix (K := K) rfl) (pv 3) pe_int (fun _ _ => rfl)) (pa_cons (pe_op op_subI (pv 1) pe_int) pa_nil))) (pa_cons (pe_calP c_checked_kind (passes_call (takes_of rfl rfl rfl rfl) fun _ _ _ _ h => h) hr (pa_cons (pe_ix (k_ix (K := K) rfl) (pv 3) pe_int (fun _ _ => rfl)) (pa_cons (pe_op op_subI (pv 1) pe_int) pa_nil))) pa_nil)))))) pss_nil)
      (pss_cons (ps_if (PW.pt (pw_and (pt_cmpR (k_eqW (K := K) rfl hr) (pv 2) pe_str (nomark _)) (pw_and1 (pt_cmpR (k_eqW (K := K) rfl hr) (pe_callB (k_len (K := K) rfl) (by rfl) T.n_len (by decide +kernel) (pa_cons (pv 3) pa_nil)) pe_int (nomark _))))) (pss_one (ps_ret (pe_tup (pa_cons pe_str (pa_cons (pe_calP c_checked_couples (passes_call (takes_of rfl rfl rfl rfl) fun _ _ _ _ h => h) hr (pa_cons (pe_ix (k_ix (K := K) rfl) (pv 3) pe_int (fun _ _ => rfl)) (pa_cons (pe_op op_subI (pv 1) pe_int) pa_nil))) pa_nil))))) pss_nil)
      (pss_cons (ps_if (PW.pt (pw_and (pt_cmpR (k_eqW (K := K) rfl hr) (pv 2) pe_str (nomark _)) (pw_and (pt_cmpR (k_eqW (K := K) rfl hr) (pe_callB (k_len (K := K) rfl) (by rfl) T.n_len (by decide +kernel) (pa_cons (pv 3) pa_nil)) pe_int (nomark _)) (pw_and (pt_val (pe_cal c_is_integer hr (pa_cons (pe_ix (k_ix (K := K) rfl) (pv 3) pe_int (fun _ _ => rfl)) pa_nil))) (pw_and1 (pt_cmpR op_geI (pe_ix (k_ix (K := K) rfl) (pv 3) pe_int (fun _ _ => rfl)) pe_int (nomark _))))))) (pss_one (ps_ret (pe_tup (pa_cons pe_str (pa_cons (pe_ix (k_ix (K := K) rfl) (pv 3) pe_int (fun _ _ => rfl)) pa_nil))))) pss_nil)
      (pss_one (ps_raise rfl (takes_of rfl rfl rfl rfl) (pmk_own0 PySem.F.excBase_ValueError N.xP N.gC N.kP (raises_own N.bP N.tP) (by rfl)))))))))))), to_spR hn (fun S ds hp bad => ?_) h⟩)
    obtain ⟨d, rfl, hok⟩ := hp
    have bad : false = false → Bad S H E C := bad
    change WX K S H _ [.dat d, .dat (.int 0), .no, .no] [] ⟨fun _ _ => false = true ∧ tn d = .none, fun x _ => false = true ∧ x = tn d, fun _ _ => False, fun _ _ => False⟩
    walk_at "ww"
    exact wx_raise (bad rfl)
  | r + 1 => by
    have ck := ok_checked_kind FK FC q_is_sequence q_is_integer q_is_couple q_is_name q_is_ascending q_is_base r
    have cc := ok_checked_couples T N r (2 * r + 2) (by omega) FC q_is_sequence q_is_couple q_is_name q_is_ascending ck
    exact ok_checked_kind1 T N r (2 * r + 2) (by omega) FK q_is_sequence q_is_integer q_is_base ck cc
include T N in
theorem ok_check_kind (F : Dfn K mg "check_kind" s_check_kind ["kind"]) (c_checked_kind : CalX P w K mg base 26 "_checked_kind" ["kind", "room"] (spCK C 12 K)) : CalX P w K mg base 27 "check_kind" ["kind"] (spChk C K) := by
  have hn : ∀ ds, (∃ d, ds = [d] ∧ okD d = true) → ds.length = 1 := by rintro ds ⟨d, rfl, _⟩; rfl
  refine F.okX sc_check_kind (fun vs H Q E h => spR_len hn h) (fun f cdv A outer s H vs Q E hr h => ⟨_, (pss_one (ps_ret (pe_calP c_checked_kind (passes_call (takes_of rfl rfl rfl rfl) fun _ _ _ _ h => h) hr (pa_cons (pv 0) (pa_cons (pe_gint (by rfl) T.g_MOST_DEEP) pa_nil))))), to_spR hn (fun S ds hp bad => ?_) h⟩)
  obtain ⟨d, rfl, hok⟩ := hp
  have bad : ckB 12 d = false → Bad S H E C := bad
  change WX K S H _ [.dat d] [] ⟨fun _ _ => ckB 12 d = true ∧ tn d = .none, fun x _ => ckB 12 d = true ∧ x = tn d, fun _ _ => False, fun _ _ => False⟩
  refine wx_ret (wr_call (war_of (wa_cons (w_var rfl (wa_cons (w_int (wa_nil (m2 ⟨⟨d, rfl, hok⟩, fun hg => ⟨hg, rfl⟩, fun hg => bad hg⟩))))))))
end
/-! ### the law's own: pool, draw, exact -/
theorem cmr {i j : Int} (h : -(2 ^ 64) < j ∧ j < 2 ^ 64) : CMul i j := .inr h
theorem ms_one {p : Addr} {fl : Bool} {X Y : List PyData} : mset [(p, fl, X)] p Y = [(p, fl, Y)] := by simp [mset]
def intL (ns : List Int) : PyData := .list (ns.map .int)
section
variable {P : Program} {w : World} {K : PySem.W.Frag} {mg : Str → Option Value} {base : Heap} {aB : Addr} (T : Txt K mg aB)
def prePool (ds : List PyData) : Prop := ∃ (ns : List Int) (n : Nat), ds = [intL ns, .int (n : Int)] ∧ ns.length ≤ 63
include T in
theorem ok_law_pool (F : Dfn K mg "_law_pool" s_law_pool ["_law_script", "_law_at"]) : Cal P w K mg base 1 "_law_pool" ["_law_script", "_law_at"] (spN prePool (fun _ pl => poolD pl) K) := by
  have hn : ∀ ds, prePool ds → ds.length = 2 := by rintro ds ⟨ns, n, rfl, _⟩; rfl
  refine F.ok sc_law_pool (fun vs H Q E h => spN_len hn h) (fun f cdv A outer s H vs Q E hr h => ⟨_, (pss_cons (ps_set (i := 2) sc_law_pool.nd rfl (by first | exact .inl rfl | exact .inr rfl) (pe_ifExp (pt_cmpR op_less (pv 1) (pe_callB (k_len (K := K) rfl) (by rfl) T.n_len (by decide +kernel) (pa_cons (pv 0) pa_nil)) (nomark _)) (pe_ix (k_ix (K := K) rfl) (pv 0) (pv 1) (fun _ _ => rfl)) pe_int))
      (pss_cons (ps_set (i := 3) sc_law_pool.nd rfl (by first | exact .inl rfl | exact .inr rfl) (pe_ifExp (pt_cmpR op_geI (pv 2) pe_int (nomark _)) (pe_op op_mulI (pv 2) pe_int) (pe_op op_subI pe_int (pe_op op_mulI (pv 2) pe_int))))
      (pss_cons (ps_set (i := 4) sc_law_pool.nd rfl (by first | exact .inl rfl | exact .inr rfl) (pe_op op_modI (pe_callTy call_intOf (by rfl) T.n_int (by decide +kernel) (pa_cons (pe_op (k_plus (K := K) rfl) (pe_op (k_plus (K := K) rfl) (pe_op (k_plus (K := K) rfl) (pe_op op_mulI (pv 3) pe_int) (pe_op op_mulI (pv 1) pe_int)) (pe_op op_mulI (pe_callB (k_len (K := K) rfl) (by rfl) T.n_len (by decide +kernel) (pa_cons (pv 0) pa_nil)) pe_int)) pe_int) pa_nil)) pe_int))
      (pss_one (ps_ret (pe_lst (pa_cons (pe_ifExp (pt_cmpR op_geI (pv 3) (pe_op op_powI pe_int pe_int) (nomark _)) (pv 3) pe_int) (pa_cons (pv 4) (pa_cons pe_int pa_nil))))))))), to_spN hn (fun ds hp => ?_) h⟩)
  obtain ⟨ns, n, rfl, hl⟩ := hp
  change WN K _ [.dat (intL ns), .dat (.int (n : Int)), .no, .no, .no] [] _
  -- cell
  have c1 : ∀ (cell : Int), WN K (tSeq (tAsg (tIf (tTest (tOp rGeI (tVar 2) (tC (.int 0)))) (tOp rMulI (tVar 2) (tC (.int 2))) (tOp rSubI (tC (.int 1)) (tOp rMulI (tVar 2) (tC (.int 2))))) (gName 3))
      (tSeq (tAsg (tOp rModI (tCB rIntOf (tCons (tOp (rPlus K) (tOp (rPlus K) (tOp (rPlus K) (tOp rMulI (tVar 3) (tC (.int 48271))) (tOp rMulI (tVar 1) (tC (.int 69621)))) (tOp rMulI (tCB (rLenA K) (tCons (tVar 0) tNil)) (tC (.int 7919)))) (tC (.int 104729))) tNil)) (tC (.int 2147483647))) (gName 4))
        (tRet (tLst (tCons (tIf (tTest (tOp rGeI (tVar 3) (tOp rPowI (tC (.int 10)) (tC (.int 18))))) (tVar 3) (tC (.int 0))) (tCons (tVar 4) (tCons (tC (.int 0)) tNil)))))))
      [.dat (intL ns), .dat (.int (n : Int)), .dat (.int cell), .no, .no] [] poolD := by
    intro cell
    have c2 : ∀ (size : Int), 0 ≤ size → WN K (tSeq (tAsg (tOp rModI (tCB rIntOf (tCons (tOp (rPlus K) (tOp (rPlus K) (tOp (rPlus K) (tOp rMulI (tVar 3) (tC (.int 48271))) (tOp rMulI (tVar 1) (tC (.int 69621)))) (tOp rMulI (tCB (rLenA K) (tCons (tVar 0) tNil)) (tC (.int 7919)))) (tC (.int 104729))) tNil)) (tC (.int 2147483647))) (gName 4))
        (tRet (tLst (tCons (tIf (tTest (tOp rGeI (tVar 3) (tOp rPowI (tC (.int 10)) (tC (.int 18))))) (tVar 3) (tC (.int 0))) (tCons (tVar 4) (tCons (tC (.int 0)) tNil))))))
        [.dat (intL ns), .dat (.int (n : Int)), .dat (.int cell), .dat (.int size), .no] [] poolD := by
      intro size hs
      refine wn_seq (ws_set (w_op ao_mod (w_cb ac_intOf (wa_cons ?_))))
      refine w_op ao_plus (w_op ao_plus (w_op ao_plus (w_op ao_mul (w_var rfl (w_int (fii (cmr (by decide)) ?_))))))
      refine w_op ao_mul (w_var rfl (w_int (fii (cmr (by decide)) (fpi ?_))))
      refine w_op ao_mul (w_cb ac_len (wa_cons (w_var rfl (wa_nil (m1 (flenl (w_int (fii (cmr (by decide)) (fpi ?_)))))))))
      refine w_int (fpi (wa_nil (m1 (fint (w_int (fii (by decide) ?_))))))
      refine wn_ret (wa_cons (w_ite (wt_test (w_op ao_ge (w_var rfl (w_op ao_pow (w_int (w_int (fii (by refine ⟨by decide, by decide, by decide⟩) (fii trivial (exb ?_)))))))))))
      have m := Int.emod_nonneg (size * 48271 + (n : Int) * 69621 + ((ns.map PyData.int).length : Int) * 7919 + 104729) (show (2147483647 : Int) ≠ 0 by decide)
      have m2 := Int.emod_lt_of_pos (size * 48271 + (n : Int) * 69621 + ((ns.map PyData.int).length : Int) * 7919 + 104729) (show (0 : Int) < 2147483647 by decide)
      refine iteB (fun _ => ?_) (fun _ => ?_)
      · exact w_var rfl (wa_cons (w_var rfl (wa_cons (w_int (wa_nil (m3 ⟨by simp, size, _, 0, rfl, hs, m, m2, by decide⟩))))))
      · exact w_int (wa_cons (w_var rfl (wa_cons (w_int (wa_nil (m3 ⟨by simp, 0, _, 0, rfl, by decide, m, m2, by decide⟩))))))
    refine wn_seq (ws_set (w_ite (wt_test (w_op ao_ge (w_var rfl (w_int (fii trivial (exb ?_))))))))
    refine iteB (fun h => ?_) (fun h => ?_)
    · have h : 0 ≤ cell := of_decide_eq_true h
      exact w_op ao_mul (w_var rfl (w_int (fii (cmr (by decide)) (c2 (cell * 2) (by omega)))))
    · have h : ¬ 0 ≤ cell := of_decide_eq_false h
      exact w_op ao_sub (w_int (w_op ao_mul (w_var rfl (w_int (fii (cmr (by decide)) (fii trivial (c2 (1 - cell * 2) (by omega))))))))
  refine wn_seq (ws_set (w_ite (wt_test (w_op ao_less (w_var rfl (w_cb ac_len (wa_cons (w_var rfl (wa_nil (m1 (flenl (flti (exb ?_))))))))))))) 
  refine iteB (fun h => ?_) (fun h => ?_)
  · have h : (n : Int) < ((ns.map PyData.int).length : Int) := of_decide_eq_true h
    have hn2 : n < ns.length := by rw [List.length_map] at h; omega
    refine w_op ao_ix (w_var rfl (w_var rfl (fixl (a := .int ns[n]) (atI_nat (by rw [List.getElem?_map, List.getElem?_eq_getElem hn2]; rfl)) ?_)))
    exact c1 ns[n]
  · exact w_int (c1 0)
def preDraw (ds : List PyData) : Prop := ∃ m : Int, ds = [.int m] ∧ 0 < m ∧ m < 1000000
def postDraw (ds : List PyData) (x : PyData) : Prop := ∀ m : Int, ds = [.int m] → ∃ n : Nat, x = .int (n : Int) ∧ (n : Int) < m
include T in
theorem ok_law_draw (F : Dfn K mg "_law_draw" s_law_draw ["_law_pool_here", "_law_many"]) : Cal P w K mg base 1 "_law_draw" ["_law_pool_here", "_law_many"] (spQ preDraw postDraw K) := by
  have hn : ∀ ds, preDraw ds → ds.length = 1 := by rintro ds ⟨m, rfl, _⟩; rfl
  refine F.ok sc_law_draw (fun vs H Q E h => spQ_len hn h) (fun f cdv A outer s H vs Q E hr h => ⟨_, (pss_cons (ps_if (pt_cmpR op_gtI (pe_ix (k_ix (K := K) rfl) (pv 0) pe_int (fun _ _ => rfl)) pe_int (nomark _)) (pss_cons (ps_set (i := 2) sc_law_draw.nd rfl (by first | exact .inl rfl | exact .inr rfl) (pe_op op_modI (pe_ix (k_ix (K := K) rfl) (pv 0) pe_int (fun _ _ => rfl)) (pv 1)))
      (pss_cons (ps_asg (pe_op op_divW (pe_ix (k_ix (K := K) rfl) (pv 0) pe_int (fun _ _ => rfl)) (pv 1)) (pg_sub (pv 0) pe_int set_list))
      (pss_one (ps_ret (pv 2))))) pss_nil)
      (pss_cons (ps_asg (pe_op (k_plus (K := K) rfl) (pe_ix (k_ix (K := K) rfl) (pv 0) pe_int (fun _ _ => rfl)) pe_int) (pg_sub (pv 0) pe_int set_list))
      (pss_cons (ps_asg (pe_op op_modI (pe_callTy call_intOf (by rfl) T.n_int (by decide +kernel) (pa_cons (pe_op (k_plus (K := K) rfl) (pe_op (k_plus (K := K) rfl) (pe_op op_mulI (pe_ix (k_ix (K := K) rfl) (pv 0) pe_int (fun _ _ => rfl)) pe_int) (pe_op op_mulI (pe_ix (k_ix (K := K) rfl) (pv 0) pe_int (fun _ _ => rfl)) pe_int)) pe_int) pa_nil)) pe_int) (pg_sub (pv 0) pe_int set_list))
      (pss_one (ps_ret (pe_op op_modI (pe_callTy call_intOf (by rfl) T.n_int (by decide +kernel) (pa_cons (pe_op (k_plus (K := K) rfl) (pe_op op_divW (pe_ix (k_ix (K := K) rfl) (pv 0) pe_int (fun _ _ => rfl)) pe_int) (pe_op op_divW (pe_op op_mulI (pe_ix (k_ix (K := K) rfl) (pv 0) pe_int (fun _ _ => rfl)) pe_int) pe_int)) pa_nil)) (pv 1))))))), to_spQ hn (fun p pl ds hpl hp => ?_) h⟩)
  obtain ⟨m, rfl, hm, hm2⟩ := hp
  obtain ⟨b, s0, c, rfl, hb, hs, hs2, hc⟩ := hpl
  change WS K _ [.own p, .dat (.int m), .no] [(p, false, [.int b, .int s0, .int c])] _
  have mem : ∀ X : List PyData, (p, false, X) ∈ [(p, false, X)] := fun X => List.mem_cons_self
  have post : ∀ z : Int, 0 ≤ z → z < m → postDraw [.int m] (.int z) := fun z h1 h2 m' e => by
    injection e with e; injection e with e
    subst e
    exact ⟨z.toNat, by rw [Int.toNat_of_nonneg h1], by rw [Int.toNat_of_nonneg h1]; exact h2⟩
  have hdw : CDivW 0 m := wide_div (b := 20) hm (by omega) (by decide) (by decide)
  refine ws_seq (ws_if (wt_test (w_op ao_gt (w_ixown rfl (w_int ⟨_, _, mem _, fixl rfl (w_int (fii trivial (exb ?_)))⟩)))))
  refine iteB (fun h => ?_) (fun h => ?_)
  · refine ws_seq (ws_set (w_op ao_mod (w_ixown rfl (w_int ⟨_, _, mem _, fixl rfl (w_var rfl (fii hm ?_))⟩))))
    refine ws_seq (ws_setown (k := 0) rfl (w_op ao_div (w_ixown rfl (w_int ⟨_, _, mem _, fixl rfl (w_var rfl (fii hdw ⟨_, _, mem _, by simp, ?_⟩))⟩))))
    rw [ms_one]
    refine ws_ret (w_var rfl ⟨_, rfl, ⟨_, s0, c, rfl, Int.ediv_nonneg hb (by omega), hs, hs2, hc⟩, post _ (Int.emod_nonneg _ (by omega)) (Int.emod_lt_of_pos _ hm)⟩)
  · refine ws_next ?_
    refine ws_seq (ws_setown (k := 2) rfl (w_op ao_plus (w_ixown rfl (w_int ⟨_, _, mem _, fixl rfl (w_int (fpi ⟨_, _, mem _, by simp, ?_⟩))⟩))))
    rw [ms_one]
    refine ws_seq (ws_setown (k := 1) rfl (w_op ao_mod (w_cb ac_intOf (wa_cons (w_op ao_plus (w_op ao_plus (w_op ao_mul (w_ixown rfl (w_int ⟨_, _, mem _, fixl rfl (w_int (fii (cmr (by decide)) ?_))⟩)))))))))
    refine w_op ao_mul (w_ixown rfl (w_int ⟨_, _, mem _, fixl rfl (w_int (fii (cmr (by decide)) (fpi (w_int (fpi (wa_nil (m1 (fint (w_int (fii (by decide) ⟨_, _, mem _, by simp, ?_⟩))))))))))⟩))
    rw [ms_one]
    have z1 := Int.emod_nonneg (s0 * 16807 + (c + 1) * 7919 + 12345) (show (2147483647 : Int) ≠ 0 by decide)
    have z2 := Int.emod_lt_of_pos (s0 * 16807 + (c + 1) * 7919 + 12345) (show (0 : Int) < 2147483647 by decide)
    refine ws_ret (w_op ao_mod (w_cb ac_intOf (wa_cons (w_op ao_plus (w_op ao_div (w_ixown rfl (w_int ⟨_, _, mem _, fixl rfl (w_int (fii (wide_div (b := 4) (by decide) (by decide) (by decide) (by decide)) ?_))⟩)))))))
    refine w_op ao_div (w_op ao_mul (w_ixown rfl (w_int ⟨_, _, mem _, fixl rfl (w_int (fii (cmr (by decide)) (w_int (fii (wide_div (b := 20) (by decide) (by decide) (by decide) (by decide)) (fpi (wa_nil (m1 (fint (w_var rfl (fii hm ?_))))))))))⟩)))
    exact ⟨_, rfl, ⟨b, _, c + 1, rfl, hb, z1, z2, by omega⟩, post _ (Int.emod_nonneg _ (by omega)) (Int.emod_lt_of_pos _ hm)⟩
end
theorem isnb {b : Bool} {P : PyData → Prop} (h : P (.bool false)) : fIsNo (.bool b) .none P := h
abbrev spExB (K : PySem.W.Frag) : Sp := spP (fun ds => ∃ b : Bool, ds = [PyData.bool b, .bool b]) (fun _ x => x = .bool true) K
section
variable {P : Program} {w : World} {K : PySem.W.Frag} {mg : Str → Option Value} {base : Heap} {aB C : Addr} (T : Txt K mg aB)
include T in
theorem ok_law_exact (F : Dfn K mg "_law_exact" s_law_exact ["_law_told", "_law_due"]) : Cal P w K mg base 1 "_law_exact" ["_law_told", "_law_due"] (spExB K) := by
  have hn : ∀ ds, (∃ b : Bool, ds = [PyData.bool b, .bool b]) → ds.length = 2 := by rintro ds ⟨d, rfl⟩; rfl
  have c_law_exact : Cal P w K mg base 0 "_law_exact" ["_law_told", "_law_due"] (spP (fun _ => False) (fun _ _ => True) K) := cal_void F fun vs H Q E h => by
    obtain ⟨S, ds, _, z, _⟩ := h
    exact z
  refine F.ok sc_law_exact (fun vs H Q E h => spP_len hn h) (fun f cdv A outer s H vs Q E hr h => ⟨_, (pss_cons (ps_if (pt_val (pe_callB (k_isiT (K := K) rfl) (by rfl) T.n_isinstance (by decide +kernel) (pa_cons (pv 1) (pa_cons (pe_tup (pa_cons (pe_bltn (v := .ty "list") (u := .type "list") (by rfl) T.n_list (by decide +kernel) rfl) (pa_cons (pe_bltn (v := .ty "tuple") (u := .type "tuple") (by rfl) T.n_tuple (by decide +kernel) rfl) pa_nil))) pa_nil)))) (pss_cons (ps_if (PW.pt (pw_or (pt_cmpR (k_neW (K := K) rfl hr) (pe_callB (k_isi (K := K) rfl) (by rfl) T.n_isinstance (by decide +kernel) (pa_cons (pv 1) (pa_cons (pe_bltn (v := .ty "list") (u := .type "list") (by rfl) T.n_list (by decide +kernel) rfl) pa_nil))) (pe_callB (k_isi (K := K) rfl) (by rfl) T.n_isinstance (by decide +kernel) (pa_cons (pv 0) (pa_cons (pe_bltn (v := .ty "list") (u := .type "list") (by rfl) T.n_list (by decide +kernel) rfl) pa_nil))) (nomark _)) (pw_or1 (pt_cmpR (k_neW (K := K) rfl hr) (pe_callB (k_isi (K := K) rfl) (by rfl) T.n_isinstance (by decide +kernel) (pa_cons (pv 1) (pa_cons (pe_bltn (v := .ty "tuple") (u := .type "tuple") (by rfl) T.n_tuple (by decide +kernel) rfl) pa_nil))) (pe_callB (k_isi (K := K) rfl) (by rfl) T.n_isinstance (by decide +kernel) (pa_cons (pv 0) (pa_cons (pe_bltn (v := .ty "tuple") (u := .type "tuple") (by rfl) T.n_tuple (by decide +kernel) rfl) pa_nil))) (nomark _))))) (pss_one (ps_ret pe_bl)) pss_nil)
      (pss_cons (ps_if (pt_cmpR (k_neW (K := K) rfl hr) (pe_callB (k_len (K := K) rfl) (by rfl) T.n_len (by decide +kernel) (pa_cons (pv 0) pa_nil)) (pe_callB (k_len (K := K) rfl) (by rfl) T.n_len (by decide +kernel) (pa_cons (pv 1) pa_nil)) (nomark _)) (pss_one (ps_ret pe_bl)) pss_nil)
      (pss_one (ps_ret (pe_cmpR (k_eqW (K := K) rfl hr) (pe_lc (own := [("_law_k", 2)]) (by rfl) sc_law_exact.nd (pi_range1 (by rfl) T.n_range (pa_cons (pe_callB (k_len (K := K) rfl) (by rfl) T.n_len (by decide +kernel) (pa_cons (pv 1) pa_nil)) pa_nil)) (blkOk_by (N := ["_law_told", "_law_due", "_law_k"]) (sc := defScope s_law_exact) (by decide +kernel)) (fun _ _ _ _ _ => (pg_name (i := 2) sc_law_exact.nd rfl (by first | exact .inl rfl | exact .inr rfl))) (fun _ _ _ _ _ => (pts_one (pt_not (pt_val (pe_cal c_law_exact hr (pa_cons (pe_ix (k_ix (K := K) rfl) (pv 0) (pv 2) (fun _ _ => rfl)) (pa_cons (pe_ix (k_ix (K := K) rfl) (pv 1) (pv 2) (fun _ _ => rfl)) pa_nil))))))) (fun _ _ _ _ _ => (pv 2))) (pe_lst pa_nil) (nomark _)))))) pss_nil)
      (pss_cons (ps_if (pt_cmpR op_isNo (pv 1) pe_non (nomark _)) (pss_one (ps_ret (pe_cmpR op_isNo (pv 0) pe_non (nomark _)))) pss_nil)
      (pss_cons (ps_if (pt_val (pe_callB (k_isi (K := K) rfl) (by rfl) T.n_isinstance (by decide +kernel) (pa_cons (pv 1) (pa_cons (pe_bltn (v := .ty "bool") (u := .type "bool") (by rfl) T.n_bool (by decide +kernel) rfl) pa_nil)))) (pss_one (ps_ret (pe_and (pe_callB (k_isi (K := K) rfl) (by rfl) T.n_isinstance (by decide +kernel) (pa_cons (pv 0) (pa_cons (pe_bltn (v := .ty "bool") (u := .type "bool") (by rfl) T.n_bool (by decide +kernel) rfl) pa_nil))) (pe_one (pe_cmpR (k_eqW (K := K) rfl hr) (pv 0) (pv 1) (nomark _)))))) pss_nil)
      (pss_cons (ps_if (pt_val (pe_callB (k_isi (K := K) rfl) (by rfl) T.n_isinstance (by decide +kernel) (pa_cons (pv 1) (pa_cons (pe_bltn (v := .ty "str") (u := .type "str") (by rfl) T.n_str (by decide +kernel) rfl) pa_nil)))) (pss_one (ps_ret (pe_and (pe_callB (k_isi (K := K) rfl) (by rfl) T.n_isinstance (by decide +kernel) (pa_cons (pv 0) (pa_cons (pe_bltn (v := .ty "str") (u := .type "str") (by rfl) T.n_str (by decide +kernel) rfl) pa_nil))) (pe_one (pe_cmpR (k_eqW (K := K) rfl hr) (pv 0) (pv 1) (nomark _)))))) pss_nil)
      (pss_one (ps_ret (pe_and (pe_callB (k_isi (K := K) rfl) (by rfl) T.n_isinstance (by decide +kernel) (pa_cons (pv 0) (pa_cons (pe_bltn (v := .ty "int") (u := .type "int") (by rfl) T.n_int (by decide +kernel) rfl) pa_nil))) (pe_and (pe_not (pe_callB (k_isi (K := K) rfl) (by rfl) T.n_isinstance (by decide +kernel) (pa_cons (pv 0) (pa_cons (pe_bltn (v := .ty "bool") (u := .type "bool") (by rfl) T.n_bool (by decide +kernel) rfl) pa_nil)))) (pe_one (pe_cmpR (k_eqW (K := K) rfl hr) (pv 0) (pv 1) (nomark _))))))))))), to_spP hn (fun ds hp => ?_) h⟩)
  obtain ⟨b, rfl⟩ := hp
  change WS K _ [.dat (.bool b), .dat (.bool b), .no] [] _
  walk_at "ww"
  refine isnb ?_
  walk_at "ww"
  refine feqW rfl rfl (by simp [PyData.depth]) ?_
  show PyData.bool (PyData.eqv (.bool b) (.bool b)) = _
  cases b <;> rfl
end
end K1

set_option Elab.async false
set_option linter.all false
set_option maxRecDepth 100000
set_option maxHeartbeats 4000000
namespace K1
open PySem PySem.Spec PyProof.Rows L2 Ab

/-- one step of the reading -/
local macro_rules | `(tactic| walk_at "w") => `(tactic| first
  | (with_reducible refine ws_seq ?_) | (with_reducible refine ws_next ?_) | (with_reducible refine ws_set ?_) | (with_reducible refine ws_par ?_) | (with_reducible refine ws_ret ?_) | (with_reducible refine ws_if ?_) | (with_reducible refine ws_drop ?_)
  | (refine w_var rfl ?_) | (with_reducible refine w_int ?_) | (with_reducible refine w_str ?_) | (with_reducible refine w_bl ?_) | (with_reducible refine w_non ?_)
  | (with_reducible refine wa_nil ?_) | (with_reducible refine wa_cons ?_) | (with_reducible refine w_tup ?_) | (with_reducible refine w_lst ?_)
  | (with_reducible refine wt_test ?_) | (with_reducible refine wt_B ?_) | (with_reducible refine wt_not ?_) | (with_reducible refine wt_and ?_) | (with_reducible refine wt_or ?_)
  | (with_reducible refine w_andV ?_) | (with_reducible refine w_orV ?_) | (with_reducible refine w_notV ?_) | (with_reducible refine w_ite ?_)
  | (with_reducible refine w_op ao_eqW ?_) | (with_reducible refine w_op ao_neW ?_) | (with_reducible refine w_op ao_eq ?_) | (with_reducible refine w_op ao_ne ?_) | (with_reducible refine w_op ao_isB ?_) | (with_reducible refine w_op ao_notB ?_) | (with_reducible refine w_op ao_ix ?_) | (with_reducible refine w_op ao_plus ?_) | (with_reducible refine w_op ao_less ?_) | (with_reducible refine w_op ao_le ?_) | (with_reducible refine w_op ao_gt ?_) | (with_reducible refine w_op ao_ge ?_)
  | (with_reducible refine w_op ao_sub ?_) | (with_reducible refine w_op ao_mul ?_) | (with_reducible refine w_op ao_mod ?_) | (with_reducible refine w_op ao_div ?_) | (with_reducible refine w_op ao_pow ?_) | (with_reducible refine w_op ao_isNo ?_) | (with_reducible refine w_op ao_inSg ?_) | (with_reducible refine w_op ao_inW ?_) | (with_reducible refine w_op ao_ninW ?_) | (with_reducible refine w_op ao_inSeq ?_) | (with_reducible refine w_op ao_ninSeq ?_)
  | (with_reducible refine w_cb ac_len ?_) | (with_reducible refine w_cb ac_tupleOf ?_) | (with_reducible refine w_cb ac_intOf ?_) | (with_reducible refine w_cb ac_abs ?_) | (with_reducible refine w_cb ac_ord ?_) | (with_reducible refine w_cb ac_all ?_) | (with_reducible refine w_cb ac_any ?_)
  | (with_reducible refine w_isi (by decide) ?_) | (with_reducible refine w_isi2 (by decide) (by decide) ?_) | (with_reducible refine w_sl ?_) | (with_reducible refine wo_none ?_) | (with_reducible refine wo_some ?_)
  | (with_reducible refine w_chain ao_le ao_le ?_) | (with_reducible refine w_chain ao_leS ao_leS ?_) | (with_reducible refine w_call ?_))
local macro_rules | `(tactic| walk_at "v") => `(tactic| first
  | (with_reducible refine m0 ?_) | (with_reducible refine m1 ?_) | (with_reducible refine m2 ?_) | (with_reducible refine m3 ?_) | (with_reducible refine m5 ?_)
  | (with_reducible refine exb ?_) | (with_reducible refine exi ?_) | (with_reducible refine exl ?_) | (with_reducible refine exql ?_) | (with_reducible refine exqt ?_)
  | (refine fixt rfl ?_) | (refine fixl rfl ?_) | (refine fslt rfl ?_) | (refine fsll rfl ?_)
  | (with_reducible refine flent ?_; dsimp only [List.length_cons, List.length_nil]) | (with_reducible refine flenl ?_; dsimp only [List.length_cons, List.length_nil])
  | (with_reducible refine fii (by first | trivial | decide) ?_) | (with_reducible refine fpi ?_) | (with_reducible refine flti ?_) | (with_reducible refine fint ?_) | (with_reducible refine ftupl ?_) | (with_reducible refine ftupt ?_)
  | (with_reducible refine feqW (by decide +kernel) (by decide +kernel) (by decide +kernel) ?_) | (with_reducible refine fneW (by decide +kernel) (by decide +kernel) (by decide +kernel) ?_)
  | (with_reducible refine feq (by decide +kernel) (by decide +kernel) ?_) | (with_reducible refine fne (by decide +kernel) (by decide +kernel) ?_)
  | (with_reducible refine iteK rfl ?_) | (with_reducible refine iteN rfl ?_) | (with_reducible refine iteK (by decide +kernel) ?_) | (with_reducible refine iteN (by decide +kernel) ?_))
local macro_rules | `(tactic| walk_at "x") => `(tactic| first | (with_reducible refine wx_seq ?_) | (with_reducible refine wx_if ?_) | (with_reducible refine wx_next ?_) | (with_reducible refine wx_ret ?_) | (with_reducible refine wr_tup ?_) | (with_reducible refine war_cons ?_) | (with_reducible refine war_nil ?_))
local macro_rules | `(tactic| walk_at "ww") => `(tactic| repeat (first | walk_at "w" | walk_at "v" | walk_at "x"))

theorem pe_cal0 {X : Cx} {k : Nat} {x : Str} {sp : Sp} {p pos : Pos} (c : Cal X.prog X.w X.K X.mg X.base k x [] sp) (hr : Room k X.A) (hg : Gl X x := by rfl) (hdb : (x == ("__debug__" : Str)) = false := by decide) : PE X (.Call (.Name x p) [] [] pos) (tCall sp [] E0 tNil) := by
  obtain ⟨f, fd, F, hm, hk, hb⟩ := c.ex
  exact pe_call0 F hr hg hm hk hb .nil pass0 hdb
/-! ### texts of single signs -/
def sg (c : Nat) : Str := ⟨#[c]⟩
def txt (cs : List Nat) : Str := ⟨cs.toArray⟩
theorem fold_sg : ∀ (cs : List Nat) (acc : Array Nat), ((cs.map sg).foldl (fun acc p => acc ++ ("" : Str).cps ++ p.cps) acc) = acc ++ cs.toArray
  | [], acc => by simp
  | c :: cs, acc => by
    rw [List.map_cons, List.foldl_cons, fold_sg cs]
    show acc ++ #[] ++ #[c] ++ cs.toArray = _
    simp
theorem join_sg (cs : List Nat) : Txt.join "" (cs.map sg) = txt cs := by
  cases cs with
  | nil => rfl
  | cons c cs =>
    show (⟨(((c :: cs).map sg).drop 1).foldl (fun acc p => acc ++ ("" : Str).cps ++ p.cps) (((c :: cs).map sg).headD Str.empty).cps⟩ : Str) = _
    rw [List.map_cons, List.drop_one, List.tail_cons, fold_sg]
    show (⟨#[c] ++ cs.toArray⟩ : Str) = ⟨(c :: cs).toArray⟩
    simp
theorem txt_len (cs : List Nat) : (txt cs).length = cs.length := by show cs.toArray.size = _; simp
theorem txt_list (cs : List Nat) : (txt cs).cps.toList = cs := by show cs.toArray.toList = _; simp
theorem sum_sg : ∀ (cs : List Nat), ((cs.map sg).map (·.length)).sum = cs.length
  | [] => rfl
  | c :: cs => by
    rw [List.map_cons, List.map_cons, List.sum_cons, sum_sg cs, List.length_cons]
    show 1 + cs.length = _
    omega
section
variable {P : Program} {w : World} {K : PySem.W.Frag} {mg : Str → Option Value} {base : Heap} {aB C : Addr} (T : Txt K mg aB) (N : BkT K mg C)
/-- a draw -/
theorem w_drawG {p : Addr} {fl : Bool} {i : Nat} {te : TE} {as : List Sv} {M : Mm} {R : PyData → Mm → Prop} (hi : as[i]? = some (.own p)) (h : W K te as M fun d M1 => ∃ (m : Int) (pl : List PyData), d = .int m ∧ M1 = [(p, fl, pl)] ∧ poolD pl ∧ 0 < m ∧ m < 1000000 ∧ ∀ (n : Nat) pl', (n : Int) < m → poolD pl' → R (.int (n : Int)) [(p, fl, pl')]) :
    W K (tCall (spQ preDraw postDraw K) [] E0 (tCons (tVar i) (tCons te tNil))) as M R := by
  refine w_callQ (wa_mut hi (wa_cons ?_))
  refine h.imp fun d M1 ⟨m, pl, ed, em, hpl, h1, h2, q⟩ => ?_
  subst ed em
  refine wa_nil ⟨p, fl, pl, [.int m], rfl, rfl, hpl, ⟨m, rfl, h1, h2⟩, fun d pl' hpl' hd => ?_⟩
  obtain ⟨n, rfl, hn⟩ := hd m rfl
  exact q n pl' hn hpl'
theorem w_draw {p : Addr} {fl : Bool} {pl : List PyData} {i : Nat} {m : Int} {as : List Sv} {R : PyData → Mm → Prop} (hi : as[i]? = some (.own p)) (hpl : poolD pl) (hm : 0 < m) (hm2 : m < 1000000) (h : ∀ (n : Nat) pl', (n : Int) < m → poolD pl' → R (.int (n : Int)) [(p, fl, pl')]) :
    W K (tCall (spQ preDraw postDraw K) [] E0 (tCons (tVar i) (tCons (tC (.int m)) tNil))) as [(p, fl, pl)] R := w_drawG hi (w_int ⟨m, pl, rfl, rfl, hpl, hm, hm2, h⟩)
/-- ''.join([signs[draw] for k in range(n)]): a text of so many of the signs -/
theorem w_signs {p : Addr} {fl : Bool} {i j : Nat} {z : Str} {m : Int} {vs : List Nat} {tz : TE} {ta : TA} {as : List Sv} {M : Mm} {R : PyData → Mm → Prop} (hj : j ∈ vs) (hi : ∀ d, ((awipe as vs).set j (.dat d))[i]? = some (.own p)) (hm : 0 < m) (hm2 : m ≤ z.length) (hz : z.length ≤ 1000)
    (ht : ∀ d M', W K tz ((awipe as vs).set j (.dat d)) M' fun x M1 => x = .str z ∧ M1 = M')
    (h : WA K ta as M fun ss M1 => ∃ (n : Nat) (pl : List PyData), ss = [.dat (.int (n : Int))] ∧ n ≤ 1000 ∧ M1 = [(p, fl, pl)] ∧ poolD pl ∧ ∀ cs pl', cs.length = n → (∀ c ∈ cs, c ∈ z.cps.toList) → poolD pl' → R (.str (txt cs)) [(p, fl, pl')]) :
    W K (tM1 (rJoin K) (tC (.str "")) (tLc (iRng1 ta) (gName j) tYes (tOp (rIx K) tz (tCall (spQ preDraw postDraw K) [] E0 (tCons (tVar i) (tCons (tC (.int m)) tNil)))) vs)) as M R := by
  refine w_join (w_str ⟨_, rfl, ?_⟩)
  refine w_lc ga_name (by simpa using hj) (wi_rng ?_)
  intro S H0 σ H k r Q q
  refine h S H0 σ H k r Q fun vs2 H2 ss M2 k2 e2 b2 ⟨n, pl, es, hn, em, hpl, fin⟩ => q vs2 H2 ss M2 k2 e2 b2 ?_
  subst em
  refine ⟨(n : Int), es, by omega, by omega, fun i acc Mi => ∃ (cs : List Nat) (pl' : List PyData), acc = (cs.map sg).map .str ∧ Mi = [(p, fl, pl')] ∧ poolD pl' ∧ cs.length = i ∧ i ≤ n ∧ ∀ c ∈ cs, c ∈ z.cps.toList, ⟨[], pl, rfl, rfl, hpl, rfl, Nat.zero_le _, fun c h => by cases h⟩, ?_, ?_⟩
  · rintro i2 x acc Mi hx ⟨cs, pl', rfl, rfl, hpl', hl, hi2, hc⟩
    have hlt := (List.getElem?_eq_some_iff.mp hx).1
    have hlt : i2 < n := by simpa using hlt
    intro S2 H02 σ2 H2 k2 r2 Q2 q2
    refine q2 true H2 _ k2 (Same.refl _) ?_
    show W K _ _ _ _
    refine w_op ao_ix ((ht _ _).imp fun d M1 ⟨ed, em⟩ => ?_)
    subst ed em
    refine w_draw (hi _) hpl' hm (by omega) fun u pl2 hu hpl2 => ?_
    have lz : z.length = z.cps.toList.length := by rw [Array.length_toList]; rfl
    have hu2 : u < z.cps.toList.length := by omega
    refine ⟨by omega, z.cps.toList[u], atI_nat (List.getElem?_eq_getElem hu2), ?_, ?_⟩
    · rw [List.length_map, List.length_map]; omega
    · refine ⟨cs ++ [z.cps.toList[u]], pl2, by simp [sg], rfl, hpl2, by simp [hl], by omega, fun c hcm => ?_⟩
      rcases List.mem_append.mp hcm with hcm | hcm
      · exact hc c hcm
      · rw [List.mem_singleton.mp hcm]; exact List.getElem_mem hu2
  · rintro acc M' ⟨cs, pl', rfl, rfl, hpl', hl, _, hc⟩
    have hl : cs.length = n := by rw [hl]; simp
    refine ⟨cs.map sg, rfl, ?_, ?_⟩
    · rw [sum_sg, List.length_map]
      show cs.length + cs.length * 0 ≤ _
      omega
    · rw [join_sg]
      exact fin cs pl' hl hc hpl'
/-! ### base values -/
def postBV (k : Str) (x : PyData) : Prop := shortD x ∧ ∀ k', threeK k' → fitB x k' = decide (k' = k)
theorem bv_int {i : Int} (h1 : -(10 ^ 30) < i) (h2 : i < 10 ^ 30) : postBV "int" (.int i) := by
  refine ⟨trivial, fun k' hk => ?_⟩
  rcases hk with rfl | rfl | rfl
  · show decide ((if i < 0 then -i else i) < 10 ^ 30) = _
    rw [decide_eq_true (by split <;> omega)]; rfl
  · rfl
  · rfl
theorem bv_bool (b : Bool) : postBV "truth" (.bool b) := by
  refine ⟨trivial, fun k' hk => ?_⟩
  rcases hk with rfl | rfl | rfl <;> rfl
theorem all_signs : ∀ c ∈ ("ab9 ~!#(').;" : Str).cps.toList, signB c = true := by decide +kernel
theorem bv_text {cs : List Nat} (h : cs.length ≤ 12) (hc : ∀ c ∈ cs, c ∈ ("ab9 ~!#(').;" : Str).cps.toList) : postBV "text" (.str (txt cs)) := by
  refine ⟨by show (txt cs).length ≤ 1000; rw [txt_len]; omega, fun k' hk => ?_⟩
  rcases hk with rfl | rfl | rfl
  · rfl
  · show (decide ((txt cs).length ≤ 12) && (txt cs).cps.toList.all signB) = _
    rw [txt_len, txt_list, decide_eq_true h, List.all_eq_true.mpr fun c h => all_signs c (hc c h)]; rfl
  · rfl
abbrev spBV (K : PySem.W.Frag) : Sp := spQ (fun ds => ∃ k, ds = [PyData.str k] ∧ threeK k) (fun ds x => ∀ k, ds = [PyData.str k] → postBV k x) K
theorem eq0 {n : Nat} {P : PyData → Prop} (z : P (.bool (decide (n = 0)))) : fEqW (.int (n : Int)) (.int 0) P := len_eq n 0 rfl z
include T in
theorem ok_law_base_value (F : Dfn K mg "_law_base_value" s_law_base_value ["_law_pool_here", "_law_kind"]) (c_law_draw : Cal P w K mg base 1 "_law_draw" ["_law_pool_here", "_law_many"] (spQ preDraw postDraw K)) : Cal P w K mg base 2 "_law_base_value" ["_law_pool_here", "_law_kind"] (spBV K) := by
  have hn : ∀ ds, (∃ k, ds = [PyData.str k] ∧ threeK k) → ds.length = 1 := by rintro ds ⟨k, rfl, _⟩; rfl
  refine F.ok sc_law_base_value (fun vs H Q E h => spQ_len hn h) (fun f cdv A outer s H vs Q E hr h => ⟨_, (pss_cons (ps_if (pt_cmpR (k_eqW (K := K) rfl hr) (pv 1) pe_str (nomark _)) (pss_one (ps_ret (pe_cmpR (k_eqW (K := K) rfl hr) (pe_cal c_law_draw hr (pa_cons (pv 0) (pa_cons pe_int pa_nil))) pe_int (nomark _)))) pss_nil)
      (pss_cons (ps_if (pt_cmpR (k_eqW (K := K) rfl hr) (pv 1) pe_str (nomark _)) (pss_cons (ps_set (i := 2) sc_law_base_value.nd rfl (by first | exact .inl rfl | exact .inr rfl) (pe_cal c_law_draw hr (pa_cons (pv 0) (pa_cons pe_int pa_nil))))
      (pss_cons (ps_if (pt_cmpR (k_eqW (K := K) rfl hr) (pe_cal c_law_draw hr (pa_cons (pv 0) (pa_cons pe_int pa_nil))) pe_int (nomark _)) (pss_one (ps_set (i := 2) sc_law_base_value.nd rfl (by first | exact .inl rfl | exact .inr rfl) (pe_op op_subI (pe_op op_subI (pe_op op_powI pe_int pe_int) pe_int) (pv 2)))) pss_nil)
      (pss_one (ps_ret (pe_ifExp (pt_cmpR (k_eqW (K := K) rfl hr) (pe_cal c_law_draw hr (pa_cons (pv 0) (pa_cons pe_int pa_nil))) pe_int (nomark _)) (pv 2) (pe_op op_subI pe_int (pv 2))))))) pss_nil)
      (pss_cons (ps_set (i := 3) sc_law_base_value.nd rfl (by first | exact .inl rfl | exact .inr rfl) (pe_ifExp (pt_cmpR (k_eqW (K := K) rfl hr) (pe_cal c_law_draw hr (pa_cons (pv 0) (pa_cons pe_int pa_nil))) pe_int (nomark _)) pe_int (pe_cal c_law_draw hr (pa_cons (pv 0) (pa_cons pe_int pa_nil)))))
      (pss_cons (ps_set (i := 4) sc_law_base_value.nd rfl (by first | exact .inl rfl | exact .inr rfl) pe_str)
      (pss_one (ps_ret (k_join (K := K) rfl pe_str (pe_lc (own := [("_law_k", 5)]) (by rfl) sc_law_base_value.nd (pi_range1 (by rfl) T.n_range (pa_cons (pv 3) pa_nil)) (blkOk_by (N := ["_law_pool_here", "_law_kind", "_law_drawn", "_law_size", "_law_signs", "_law_k"]) (sc := defScope s_law_base_value) (by decide +kernel)) (fun _ _ _ _ _ => (pg_name (i := 5) sc_law_base_value.nd rfl (by first | exact .inl rfl | exact .inr rfl))) (fun _ _ _ _ _ => pts_nil) (fun _ _ _ _ _ => (pe_ix (k_ix (K := K) rfl) (pv 4) (pe_cal c_law_draw hr (pa_cons (pv 0) (pa_cons pe_int pa_nil))) (fun _ _ => rfl))))))))))), to_spQ hn (fun p pl ds hpl hp => ?_) h⟩)
  obtain ⟨k, rfl, hk⟩ := hp
  have fin : ∀ x pl', poolD pl' → postBV k x → ∃ pl'', [(p, false, pl')] = [(p, false, pl'')] ∧ poolD pl'' ∧ ∀ k', [PyData.str k] = [PyData.str k'] → postBV k' x := fun x pl' h1 h2 => ⟨pl', rfl, h1, fun k' e => by
    injection e with e; injection e with e; rw [← e]; exact h2⟩
  change WS K _ [.own p, .dat (.str k), .no, .no, .no, .no] [(p, false, pl)] _
  rcases hk with rfl | rfl | rfl
  · walk_at "ww"
    refine w_draw rfl hpl (by decide) (by decide) fun n pl1 h1 hpl1 => ?_
    change WS K _ [.own p, .dat (.str "int"), .dat (.int (n : Int)), .no, .no, .no] [(p, false, pl1)] _
    have rest : ∀ (z : Int) pl2 (A : AE), -(10 ^ 30) < z → z < 10 ^ 30 → poolD pl2 → (∀ d M, (∃ pl', M = [(p, false, pl')] ∧ poolD pl' ∧ ∀ k', [PyData.str "int"] = [PyData.str k'] → postBV k' d) → A.rt d M) → WS K (tRet (tIf (tTest (tOp (rEqW K) (tCall (spQ preDraw postDraw K) [] E0 (tCons (tVar 0) (tCons (tC (.int 2)) tNil))) (tC (.int 0)))) (tVar 2) (tOp rSubI (tC (.int 0)) (tVar 2)))) [.own p, .dat (.str "int"), .dat (.int z), .no, .no, .no] [(p, false, pl2)] A := fun z pl2 A hz1 hz2 hpl2 hA => by
      refine ws_ret (w_ite (wt_test (w_op ao_eqW (w_draw rfl hpl2 (by decide) (by decide) fun n2 pl3 _ hpl3 => w_int (eq0 (exb ?_))))))
      refine iteB (fun _ => ?_) (fun _ => ?_)
      · exact w_var rfl (hA _ _ (fin _ _ hpl3 (bv_int hz1 hz2)))
      · exact w_op ao_sub (w_int (w_var rfl (fii trivial (hA _ _ (fin _ _ hpl3 (bv_int (by omega) (by omega)))))))
    refine ws_seq (ws_if (wt_test (w_op ao_eqW (w_draw rfl hpl1 (by decide) (by decide) fun n2 pl2 _ hpl2 => w_int (eq0 (exb ?_))))))
    refine iteB (fun _ => ?_) (fun _ => ?_)
    · refine ws_set (w_op ao_sub (w_op ao_sub (w_op ao_pow (w_int (w_int (fii (by refine ⟨by decide, by decide, by decide⟩) (w_int (fii trivial (w_var rfl (fii trivial ?_))))))))))
      exact rest ((10 : Int) ^ 30 - 1 - (n : Int)) pl2 _ (by omega) (by omega) hpl2 (fun _ _ h => h)
    · exact ws_next (rest (n : Int) pl2 _ (by omega) (by omega) hpl2 (fun _ _ h => h))
  · walk_at "ww"
    refine w_draw rfl hpl (by decide) (by decide) fun n pl1 h1 hpl1 => w_int (eq0 (exb ?_))
    have rest : ∀ (z : Nat) pl2, z ≤ 12 → poolD pl2 → WS K (tSeq (tAsg (tC (.str "ab9 ~!#(').;")) (gName 4)) (tRet (tM1 (rJoin K) (tC (.str "")) (tLc (iRng1 (tCons (tVar 3) tNil)) (gName 5) tYes (tOp (rIx K) (tVar 4) (tCall (spQ preDraw postDraw K) [] E0 (tCons (tVar 0) (tCons (tC (.int 12)) tNil)))) [5]))))
        [.own p, .dat (.str "text"), .no, .dat (.int (z : Int)), .no, .no] [(p, false, pl2)]
        ⟨fun _ M => ∃ pl', M = [(p, false, pl')] ∧ poolD pl' ∧ ∀ k', [PyData.str "text"] = [PyData.str k'] → postBV k' .none, fun d M => ∃ pl', M = [(p, false, pl')] ∧ poolD pl' ∧ ∀ k', [PyData.str "text"] = [PyData.str k'] → postBV k' d, fun _ _ => False, fun _ _ => False⟩ := fun z pl2 hz hpl2 => by
      refine ws_seq (ws_set (w_str (ws_ret ?_)))
      refine w_signs (p := p) (fl := false) (z := "ab9 ~!#(').;") (by simp) (fun d => rfl) (by decide) (by decide) (by decide) (fun d M' => w_var rfl ⟨rfl, rfl⟩) (wa_cons (w_var rfl (wa_nil ⟨z, pl2, rfl, by omega, rfl, hpl2, fun cs pl' hl hc hpl' => ?_⟩)))
      exact fin _ _ hpl' (bv_text (by omega) hc)
    refine iteB (fun _ => ?_) (fun _ => ?_)
    · exact w_int (rest 12 pl1 (by omega) hpl1)
    · exact w_draw rfl hpl1 (by decide) (by decide) fun n2 pl2 h2 hpl2 => rest n2 pl2 (by omega) hpl2
  · walk_at "ww"
    exact w_draw rfl hpl (by decide) (by decide) fun n pl1 h1 hpl1 => w_int (eq0 (fin _ _ hpl1 (bv_bool _)))
end
end K1

set_option Elab.async false
set_option linter.all false
set_option maxRecDepth 100000
set_option maxHeartbeats 4000000
namespace K1
open PySem PySem.Spec PyProof.Rows L2 Ab

theorem l100w {xs : List PyData} {R : Prop} (h : xs.length ≤ 100000) (r : R) : xs.length ≤ 100000 ∧ R := ⟨h, r⟩
/-- one step of the reading -/
local macro_rules | `(tactic| walk_at "w") => `(tactic| first
  | (with_reducible refine ws_seq ?_) | (with_reducible refine ws_next ?_) | (with_reducible refine ws_set ?_) | (with_reducible refine ws_par ?_) | (with_reducible refine ws_ret ?_) | (with_reducible refine ws_if ?_) | (with_reducible refine ws_drop ?_)
  | (refine w_var rfl ?_) | (with_reducible refine w_int ?_) | (with_reducible refine w_str ?_) | (with_reducible refine w_bl ?_) | (with_reducible refine w_non ?_)
  | (with_reducible refine wa_nil ?_) | (with_reducible refine wa_cons ?_) | (with_reducible refine w_tup ?_) | (with_reducible refine w_lst ?_)
  | (with_reducible refine wt_test ?_) | (with_reducible refine wt_B ?_) | (with_reducible refine wt_not ?_) | (with_reducible refine wt_and ?_) | (with_reducible refine wt_or ?_)
  | (with_reducible refine w_andV ?_) | (with_reducible refine w_orV ?_) | (with_reducible refine w_notV ?_) | (with_reducible refine w_ite ?_)
  | (with_reducible refine w_op ao_eqW ?_) | (with_reducible refine w_op ao_neW ?_) | (with_reducible refine w_op ao_eq ?_) | (with_reducible refine w_op ao_ne ?_) | (with_reducible refine w_op ao_isB ?_) | (with_reducible refine w_op ao_notB ?_) | (with_reducible refine w_op ao_ix ?_) | (with_reducible refine w_op ao_plus ?_) | (with_reducible refine w_op ao_less ?_) | (with_reducible refine w_op ao_le ?_) | (with_reducible refine w_op ao_gt ?_) | (with_reducible refine w_op ao_ge ?_)
  | (with_reducible refine w_op ao_sub ?_) | (with_reducible refine w_op ao_mul ?_) | (with_reducible refine w_op ao_mod ?_) | (with_reducible refine w_op ao_div ?_) | (with_reducible refine w_op ao_pow ?_) | (with_reducible refine w_op ao_isNo ?_) | (with_reducible refine w_op ao_inSg ?_) | (with_reducible refine w_op ao_inW ?_) | (with_reducible refine w_op ao_ninW ?_) | (with_reducible refine w_op ao_inSeq ?_) | (with_reducible refine w_op ao_ninSeq ?_)
  | (with_reducible refine w_cb ac_len ?_) | (with_reducible refine w_cb ac_tupleOf ?_) | (with_reducible refine w_cb ac_intOf ?_) | (with_reducible refine w_cb ac_abs ?_) | (with_reducible refine w_cb ac_ord ?_) | (with_reducible refine w_cb ac_all ?_) | (with_reducible refine w_cb ac_any ?_)
  | (with_reducible refine w_isi (by decide) ?_) | (with_reducible refine w_isi2 (by decide) (by decide) ?_) | (with_reducible refine w_sl ?_) | (with_reducible refine wo_none ?_) | (with_reducible refine wo_some ?_)
  | (with_reducible refine w_chain ao_le ao_le ?_) | (with_reducible refine w_chain ao_leS ao_leS ?_) | (with_reducible refine w_call ?_))
local macro_rules | `(tactic| walk_at "v") => `(tactic| first
  | (with_reducible refine m0 ?_) | (with_reducible refine m1 ?_) | (with_reducible refine m2 ?_) | (with_reducible refine m3 ?_) | (with_reducible refine m5 ?_) | (with_reducible refine l100w (by simp; done) ?_)
  | (with_reducible refine exb ?_) | (with_reducible refine exi ?_) | (with_reducible refine exl ?_) | (with_reducible refine exql ?_) | (with_reducible refine exqt ?_)
  | (refine fixt rfl ?_) | (refine fixl rfl ?_) | (refine fslt rfl ?_) | (refine fsll rfl ?_)
  | (with_reducible refine flent ?_; dsimp only [List.length_cons, List.length_nil]) | (with_reducible refine flenl ?_; dsimp only [List.length_cons, List.length_nil])
  | (with_reducible refine fii (by first | trivial | decide) ?_) | (with_reducible refine fpi ?_) | (with_reducible refine flti ?_) | (with_reducible refine fint ?_) | (with_reducible refine ftupl ?_) | (with_reducible refine ftupt ?_)
  | (with_reducible refine feqW (by decide +kernel) (by decide +kernel) (by decide +kernel) ?_) | (with_reducible refine fneW (by decide +kernel) (by decide +kernel) (by decide +kernel) ?_)
  | (with_reducible refine feq (by decide +kernel) (by decide +kernel) ?_) | (with_reducible refine fne (by decide +kernel) (by decide +kernel) ?_)
  | (with_reducible refine iteK rfl ?_) | (with_reducible refine iteN rfl ?_) | (with_reducible refine iteK (by decide +kernel) ?_) | (with_reducible refine iteN (by decide +kernel) ?_))
local macro_rules | `(tactic| walk_at "x") => `(tactic| first | (with_reducible refine wx_seq ?_) | (with_reducible refine wx_if ?_) | (with_reducible refine wx_next ?_) | (with_reducible refine wx_ret ?_) | (with_reducible refine wr_tup ?_) | (with_reducible refine war_cons ?_) | (with_reducible refine war_nil ?_))
local macro_rules | `(tactic| walk_at "ww") => `(tactic| repeat (first | walk_at "w" | walk_at "v" | walk_at "x"))

abbrev S' (z : Str) : PyData := .str z
abbrev T' (xs : List PyData) : PyData := .tuple xs
def sixD : PyData := T' [T' [S' "a", S' "int"], T' [S' "b", S' "int"], T' [S' "c", S' "int"], T' [S' "d", S' "int"], T' [S' "e", S' "int"], T' [S' "f", S' "int"]]
def badL : List PyData := [.none, .int 5, .bool true, T' [], .list [], S' "integer", S' "list", T' [S' "int"], T' [S' "list"], T' [S' "list", S' "int", S' "int"], T' [S' "any", .int (-1)], T' [S' "any", .bool true], T' [S' "any", S' "x"], T' [S' "function", S' "int"], T' [S' "record", .int 5], T' [S' "record", sixD],
  T' [S' "record", T' [T' [S' "b", S' "int"], T' [S' "a", S' "int"]]], T' [S' "record", T' [T' [S' "a", S' "int"], T' [S' "a", S' "text"]]], T' [S' "record", T' [T' [S' "A", S' "int"]]], T' [S' "record", T' [T' [S' "", S' "int"]]], T' [S' "record", T' [T' [S' "abcdefghi", S' "int"]]],
  T' [S' "record", T' [T' [S' "1a", S' "int"]]], T' [S' "record", T' [T' [.int 5, S' "int"]]], T' [S' "record", T' [T' [S' "a"]]], T' [S' "record", T' [S' "ab"]], T' [S' "record", T' [T' [S' "a", S' "int", S' "int"]]], T' [S' "list", .none], T' [.int 5, S' "int"]]
def flatL : List PyData := [S' "int", S' "text", S' "truth", T' [S' "any", .int 0], T' [S' "any", .int ((10 : Int) ^ (20 : Int).toNat)], T' [S' "record", T' []]]
def fiveD : PyData := T' [T' [S' "a", S' "text"], T' [S' "b", S' "text"], T' [S' "c", S' "text"], T' [S' "d", S' "text"], T' [S' "e", S' "text"]]
def deepL : List PyData := [T' [S' "record", fiveD], T' [S' "record", T' [T' [S' "a", S' "int"], T' [S' "a1", S' "int"], T' [S' "b", S' "truth"]]], T' [S' "list", S' "int"], T' [S' "record", T' [T' [S' "abcdefgh", S' "int"]]], T' [S' "function", S' "int", T' [S' "any", .int 7]]]
theorem bad_ok : ∀ x ∈ badL, okD x = true := List.all_eq_true.mp (show badL.all okD = true by decide +kernel)
theorem flat_ok : ∀ x ∈ flatL, okD x = true := List.all_eq_true.mp (show flatL.all okD = true by decide +kernel)
theorem deep_ok : ∀ x ∈ deepL, okD x = true := List.all_eq_true.mp (show deepL.all okD = true by decide +kernel)
theorem bad_ck : ∀ x ∈ badL, ∀ r, ckB r x = false := by
  intro x hx r
  simp only [badL, List.mem_cons, List.mem_nil_iff, or_false] at hx
  match r with
  | 0 => rfl
  | 1 => rcases hx with rfl | rfl | rfl | rfl | rfl | rfl | rfl | rfl | rfl | rfl | rfl | rfl | rfl | rfl | rfl | rfl | rfl | rfl | rfl | rfl | rfl | rfl | rfl | rfl | rfl | rfl | rfl | rfl <;> rfl
  | r + 2 => rcases hx with rfl | rfl | rfl | rfl | rfl | rfl | rfl | rfl | rfl | rfl | rfl | rfl | rfl | rfl | rfl | rfl | rfl | rfl | rfl | rfl | rfl | rfl | rfl | rfl | rfl | rfl | rfl | rfl <;> rfl
theorem flat_ck : ∀ x ∈ flatL, ∀ r, ckB (r + 1) x = true := by
  intro x hx r
  simp only [flatL, List.mem_cons, List.mem_nil_iff, or_false] at hx
  rcases hx with rfl | rfl | rfl | rfl | rfl | rfl <;> rfl
theorem deep_ck : ∀ x ∈ deepL, ckB 1 x = false ∧ ∀ r, ckB (r + 2) x = true := by
  intro x hx
  simp only [deepL, List.mem_cons, List.mem_nil_iff, or_false] at hx
  rcases hx with rfl | rfl | rfl | rfl | rfl <;> exact ⟨rfl, fun r => rfl⟩
/-- so many kinds around -/
inductive Ar (d : PyData) : Nat → PyData → Prop
  | z : Ar d 0 d
  | l {n : Nat} {x : PyData} : Ar d n x → Ar d (n + 1) (T' [S' "list", x])
  | r {n : Nat} {x : PyData} : Ar d n x → Ar d (n + 1) (T' [S' "record", T' [T' [S' "a", S' "int"], T' [S' "b", x]]])
  | f {n : Nat} {x : PyData} : Ar d n x → Ar d (n + 1) (.list [S' "function", x, S' "text"])
  | g {n : Nat} {x : PyData} : Ar d n x → Ar d (n + 1) (T' [S' "function", S' "text", x])
theorem okS : ∀ z ∈ (["list", "record", "a", "int", "b", "function", "text"] : List Str), okD (S' z) = true := by decide +kernel
theorem ar_ok {d x : PyData} {n : Nat} (hd : okD d = true) (h : Ar d n x) : okD x = true := by
  have k1 := okS "list" (by simp)
  have k2 := okS "record" (by simp)
  have k3 := okS "a" (by simp)
  have k4 := okS "int" (by simp)
  have k5 := okS "b" (by simp)
  have k6 := okS "function" (by simp)
  have k7 := okS "text" (by simp)
  induction h with
  | z => exact hd
  | @l n x _ ih => show (okD (S' "list") && (okD x && true)) = true; rw [ih, k1]; rfl
  | @r n x _ ih => show (okD (S' "record") && ((((okD (S' "a") && (okD (S' "int") && true)) && ((okD (S' "b") && (okD x && true)) && true))) && true)) = true; rw [ih, k2, k3, k4, k5]; rfl
  | @f n x _ ih => show (okD (S' "function") && (okD x && (okD (S' "text") && true))) = true; rw [ih, k6, k7]; rfl
  | @g n x _ ih => show (okD (S' "function") && (okD (S' "text") && (okD x && true))) = true; rw [ih, k6, k7]; rfl
theorem ar_ck {d x : PyData} {n : Nat} (h : Ar d n x) : ∀ r, ckB r x = if n ≤ r then ckB (r - n) d else false := by
  induction h with
  | z => intro r; rw [if_pos (Nat.zero_le _)]; rfl
  | @l n x _ ih =>
    intro r
    cases r with
    | zero => rfl
    | succ r =>
      have e : ckB (r + 1) (T' [S' "list", x]) = ckB r x := by
        show ((true && ckB r x) || ((false && _) || (false && _))) = _
        cases ckB r x <;> rfl
      rw [e, ih r, Nat.add_sub_add_right]
      simp only [Nat.add_le_add_iff_right]
  | @r n x _ ih =>
    intro r
    cases r with
    | zero => rfl
    | succ r =>
      have e : ckB (r + 1) (T' [S' "record", T' [T' [S' "a", S' "int"], T' [S' "b", x]]]) = ckB r x := by
        cases r with
        | zero => rfl
        | succ r =>
          show ((false && ckB (r + 1) (T' [T' [S' "a", S' "int"], T' [S' "b", x]])) || ((true && (true && ((true && (true && true)) && ((true && true) && (true && (ckB (r + 1) x && true)))))) || (false && natB (T' [T' [S' "a", S' "int"], T' [S' "b", x]])))) = _
          cases ckB (r + 1) x <;> rfl
      rw [e, ih r, Nat.add_sub_add_right]
      simp only [Nat.add_le_add_iff_right]
  | @f n x _ ih =>
    intro r
    cases r with
    | zero => rfl
    | succ r =>
      have e : ckB (r + 1) (.list [S' "function", x, S' "text"]) = ckB r x := by
        cases r with
        | zero => rfl
        | succ r =>
          show (true && (ckB (r + 1) x && true)) = _
          cases ckB (r + 1) x <;> rfl
      rw [e, ih r, Nat.add_sub_add_right]
      simp only [Nat.add_le_add_iff_right]
  | @g n x _ ih =>
    intro r
    cases r with
    | zero => rfl
    | succ r =>
      have e : ckB (r + 1) (T' [S' "function", S' "text", x]) = ckB r x := by
        cases r with
        | zero => rfl
        | succ r =>
          show (true && (true && ckB (r + 1) x)) = _
          cases ckB (r + 1) x <;> rfl
      rw [e, ih r, Nat.add_sub_add_right]
      simp only [Nat.add_le_add_iff_right]
theorem w_neg {K : PySem.W.Frag} {as : List Sv} {M : Mm} {te : TE} {P : PyData → Mm → Prop} (h : W K te as M fun d M1 => ∃ i, d = .int i ∧ P (.int (-i)) M1) : W K (tUn (rU fun i => .int (-i)) te) as M P := fun S H0 σ H k r Q q =>
  h S H0 σ H k r _ fun v H1 d M1 k1 e1 b1 ⟨i, ed, p⟩ => by
    subst ed
    cases b1
    exact ⟨i, rfl, q _ H1 _ M1 k1 e1 (.int _) p⟩
local macro_rules | `(tactic| walk_at "v") => `(tactic| first | (with_reducible refine w_neg ?_))
theorem call_isE' {X : Cx} {a D : Addr} {oe : Obj} {cls : Value} {d : Option Addr} {pn : List (Addr × Obj)} (C : ExcC X.K D) (hz : Zc cls d oe) (hf : ∃ vs, oe.data = .fields vs) : CallR (X.suite a ((a, oe) :: pn)) (.builtin "isinstance") (fun xs H Q => cls = .ref D ∧ d = none ∧ rIsE X.K D a xs H Q) := by
  intro pins s σ H xs us Q I r h
  obtain ⟨rfl, rfl, h⟩ := h
  exact call_isE C hz hf pins s σ H xs us Q I r h
section
variable {P : Program} {w : World} {K : PySem.W.Frag} {mg : Str → Option Value} {base : Heap} {aB C : Addr} (T : Txt K mg aB) (N : BkT K mg C)
abbrev spC0 (v : PyData) (K : PySem.W.Frag) : Sp := spP (fun ds => ds = []) (fun _ x => x = v) K
include T in
theorem ok_law_bad_kinds (F : Dfn K mg "_law_bad_kinds" s_law_bad_kinds []) : Cal P w K mg base 1 "_law_bad_kinds" [] (spC0 (.list badL) K) := by
  have hn : ∀ ds : List PyData, ds = [] → ds.length = 0 := by rintro ds rfl; rfl
  refine F.ok sc_law_bad_kinds (fun vs H Q E h => spP_len hn h) (fun f cdv A outer s H vs Q E hr h => ⟨_, (pss_cons (ps_set (i := 0) sc_law_bad_kinds.nd rfl (by first | exact .inl rfl | exact .inr rfl) (pe_callTy (k_tuple (K := K) rfl) (by rfl) T.n_tuple (by decide +kernel) (pa_cons (pe_lc (own := [("_law_label", 1)]) (by rfl) sc_law_bad_kinds.nd (k_seq (K := K) rfl (pe_lst (pa_cons pe_str (pa_cons pe_str (pa_cons pe_str (pa_cons pe_str (pa_cons pe_str (pa_cons pe_str pa_nil)))))))) (blkOk_by (N := ["_law_six", "_law_label"]) (sc := defScope s_law_bad_kinds) (by decide +kernel)) (fun _ _ _ _ _ => (pg_name (i := 1) sc_law_bad_kinds.nd rfl (by first | exact .inl rfl | exact .inr rfl))) (fun _ _ _ _ _ => pts_nil) (fun _ _ _ _ _ => (pe_tup (pa_cons (pv 1) (pa_cons pe_str pa_nil))))) pa_nil)))
      (pss_one (ps_ret (pe_lst (pa_cons pe_non (pa_cons pe_int (pa_cons pe_bl (pa_cons (pe_tup pa_nil) (pa_cons (pe_lst pa_nil) (pa_cons pe_str (pa_cons pe_str (pa_cons (pe_tup (pa_cons pe_str pa_nil)) (pa_cons (pe_tup (pa_cons pe_str pa_nil)) (pa_cons (pe_tup (pa_cons pe_str (pa_cons pe_str (pa_cons pe_str pa_nil)))) (pa_cons (pe_tup (pa_cons pe_str (pa_cons (pe_un un_neg pe_int) pa_nil))) (pa_cons (pe_tup (pa_cons pe_str (pa_cons pe_bl pa_nil))) (pa_cons (pe_tup (pa_cons pe_str (pa_cons pe_str pa_nil))) (pa_cons (pe_tup (pa_cons pe_str (pa_cons pe_str pa_nil))) (pa_cons (pe_tup (pa_cons pe_str (pa_cons pe_int pa_nil))) (pa_cons (pe_tup (pa_cons pe_str (pa_cons (pv 0) pa_nil))) (pa_cons (pe_tup (pa_cons pe_str (pa_cons (pe_tup (pa_cons (pe_tup (pa_cons pe_str (pa_cons pe_str pa_nil))) (pa_cons (pe_tup (pa_cons pe_str (pa_cons pe_str pa_nil))) pa_nil))) pa_nil))) (pa_cons (pe_tup (pa_cons pe_str (pa_cons (pe_tup (pa_cons (pe_tup (pa_cons pe_str (pa_cons pe_str pa_nil))) (pa_cons (pe_tup (pa_cons pe_str (pa_cons pe_str pa_nil))) pa_nil))) pa_nil))) (pa_cons (pe_tup (pa_cons pe_str (pa_cons (pe_tup (pa_cons (pe_tup (pa_cons pe_str (pa_cons pe_str pa_nil))) pa_nil)) pa_nil))) (pa_cons (pe_tup (pa_cons pe_str (pa_cons (pe_tup (pa_cons (pe_tup (pa_cons pe_str (pa_cons pe_str pa_nil))) pa_nil)) pa_nil))) (pa_cons (pe_tup (pa_cons pe_str (pa_cons (pe_tup (pa_cons (pe_tup (pa_cons pe_str (pa_cons pe_str pa_nil))) pa_nil)) pa_nil))) (pa_cons (pe_tup (pa_cons pe_str (pa_cons (pe_tup (pa_cons (pe_tup (pa_cons pe_str (pa_cons pe_str pa_nil))) pa_nil)) pa_nil))) (pa_cons (pe_tup (pa_cons pe_str (pa_cons (pe_tup (pa_cons (pe_tup (pa_cons pe_int (pa_cons pe_str pa_nil))) pa_nil)) pa_nil))) (pa_cons (pe_tup (pa_cons pe_str (pa_cons (pe_tup (pa_cons (pe_tup (pa_cons pe_str pa_nil)) pa_nil)) pa_nil))) (pa_cons (pe_tup (pa_cons pe_str (pa_cons (pe_tup (pa_cons pe_str pa_nil)) pa_nil))) (pa_cons (pe_tup (pa_cons pe_str (pa_cons (pe_tup (pa_cons (pe_tup (pa_cons pe_str (pa_cons pe_str (pa_cons pe_str pa_nil)))) pa_nil)) pa_nil))) (pa_cons (pe_tup (pa_cons pe_str (pa_cons pe_non pa_nil))) (pa_cons (pe_tup (pa_cons pe_int (pa_cons pe_str pa_nil))) pa_nil)))))))))))))))))))))))))))))))), to_spP hn (fun ds hp => ?_) h⟩)
  subst hp
  change WS K _ [.no, .no] [] _
  walk_at "ww"
  refine w_map (by decide) (wi_seq ?_)
  walk_at "ww"
  refine ⟨[S' "a", S' "b", S' "c", S' "d", S' "e", S' "f"], rfl, by simp, ?_⟩
  refine exql ⟨fun x => T' [x, S' "int"], by simp, fun x hx => ?_, ?_⟩
  · change W K _ [.no, .dat x] [] _
    walk_at "ww"
    exact ⟨rfl, rfl⟩
  walk_at "ww"
  exact ⟨badL, rfl, by decide, rfl⟩
include T in
theorem ok_law_good_kinds (F : Dfn K mg "_law_good_kinds" s_law_good_kinds []) : Cal P w K mg base 1 "_law_good_kinds" [] (spC0 (T' [.list flatL, .list deepL]) K) := by
  have hn : ∀ ds : List PyData, ds = [] → ds.length = 0 := by rintro ds rfl; rfl
  refine F.ok sc_law_good_kinds (fun vs H Q E h => spP_len hn h) (fun f cdv A outer s H vs Q E hr h => ⟨_, (pss_cons (ps_set (i := 0) sc_law_good_kinds.nd rfl (by first | exact .inl rfl | exact .inr rfl) (pe_callTy (k_tuple (K := K) rfl) (by rfl) T.n_tuple (by decide +kernel) (pa_cons (pe_lc (own := [("_law_label", 3)]) (by rfl) sc_law_good_kinds.nd (k_seq (K := K) rfl (pe_lst (pa_cons pe_str (pa_cons pe_str (pa_cons pe_str (pa_cons pe_str (pa_cons pe_str pa_nil))))))) (blkOk_by (N := ["_law_five", "_law_flat", "_law_deeper", "_law_label"]) (sc := defScope s_law_good_kinds) (by decide +kernel)) (fun _ _ _ _ _ => (pg_name (i := 3) sc_law_good_kinds.nd rfl (by first | exact .inl rfl | exact .inr rfl))) (fun _ _ _ _ _ => pts_nil) (fun _ _ _ _ _ => (pe_tup (pa_cons (pv 3) (pa_cons pe_str pa_nil))))) pa_nil)))
      (pss_cons (ps_set (i := 1) sc_law_good_kinds.nd rfl (by first | exact .inl rfl | exact .inr rfl) (pe_lst (pa_cons pe_str (pa_cons pe_str (pa_cons pe_str (pa_cons (pe_tup (pa_cons pe_str (pa_cons pe_int pa_nil))) (pa_cons (pe_tup (pa_cons pe_str (pa_cons (pe_op op_powI pe_int pe_int) pa_nil))) (pa_cons (pe_tup (pa_cons pe_str (pa_cons (pe_tup pa_nil) pa_nil))) pa_nil))))))))
      (pss_cons (ps_set (i := 2) sc_law_good_kinds.nd rfl (by first | exact .inl rfl | exact .inr rfl) (pe_lst (pa_cons (pe_tup (pa_cons pe_str (pa_cons (pv 0) pa_nil))) (pa_cons (pe_tup (pa_cons pe_str (pa_cons (pe_tup (pa_cons (pe_tup (pa_cons pe_str (pa_cons pe_str pa_nil))) (pa_cons (pe_tup (pa_cons pe_str (pa_cons pe_str pa_nil))) (pa_cons (pe_tup (pa_cons pe_str (pa_cons pe_str pa_nil))) pa_nil)))) pa_nil))) (pa_cons (pe_tup (pa_cons pe_str (pa_cons pe_str pa_nil))) pa_nil)))))
      (pss_one (ps_ret (pe_tup (pa_cons (pv 1) (pa_cons (pe_op (k_plus (K := K) rfl) (pv 2) (pe_lst (pa_cons (pe_tup (pa_cons pe_str (pa_cons (pe_tup (pa_cons (pe_tup (pa_cons pe_str (pa_cons pe_str pa_nil))) pa_nil)) pa_nil))) (pa_cons (pe_tup (pa_cons pe_str (pa_cons pe_str (pa_cons (pe_tup (pa_cons pe_str (pa_cons pe_int pa_nil))) pa_nil)))) pa_nil)))) pa_nil)))))))), to_spP hn (fun ds hp => ?_) h⟩)
  subst hp
  change WS K _ [.no, .no, .no, .no] [] _
  walk_at "ww"
  refine w_map (by decide) (wi_seq ?_)
  walk_at "ww"
  refine ⟨fun x => T' [x, S' "text"], by simp, fun x hx => ?_, ?_⟩
  · change W K _ [.no, .no, .no, .dat x] [] _
    walk_at "ww"
    exact ⟨rfl, rfl⟩
  walk_at "ww"
  refine fii (by refine ⟨by decide, by decide, by decide⟩) ?_
  walk_at "ww"
  refine ⟨flatL, rfl, by decide, ?_⟩
  walk_at "ww"
  refine fpl (by decide) ?_
  walk_at "ww"
  rfl
abbrev spAr (K : PySem.W.Frag) : Sp := spQ (fun ds => ∃ (d : PyData) (n : Nat), ds = [d, .int (n : Int)] ∧ n ≤ 100) (fun ds x => ∀ (d : PyData) (n : Nat), ds = [d, .int (n : Int)] → Ar d n x) K
include T in
theorem ok_law_around (F : Dfn K mg "_law_around" s_law_around ["_law_pool_here", "_law_kind", "_law_turns"]) (c_law_draw : Cal P w K mg base 1 "_law_draw" ["_law_pool_here", "_law_many"] (spQ preDraw postDraw K)) : Cal P w K mg base 2 "_law_around" ["_law_pool_here", "_law_kind", "_law_turns"] (spAr K) := by
  have hn : ∀ ds, (∃ (d : PyData) (n : Nat), ds = [d, .int (n : Int)] ∧ n ≤ 100) → ds.length = 2 := by rintro ds ⟨d, n, rfl, _⟩; rfl
  refine F.ok sc_law_around (fun vs H Q E h => spQ_len hn h) (fun f cdv A outer s H vs Q E hr h => ⟨_, (pss_cons (ps_set (i := 3) sc_law_around.nd rfl (by first | exact .inl rfl | exact .inr rfl) (pv 1))
      (pss_cons (ps_for PassesOwn.never rfl (pi_range1 (by rfl) T.n_range (pa_cons (pv 2) pa_nil)) (pg_name (i := 4) sc_law_around.nd rfl (by first | exact .inl rfl | exact .inr rfl)) (pss_cons (ps_set (i := 5) sc_law_around.nd rfl (by first | exact .inl rfl | exact .inr rfl) (pe_cal c_law_draw hr (pa_cons (pv 0) (pa_cons pe_int pa_nil))))
      (pss_one (ps_if (pt_cmpR (k_eqW (K := K) rfl hr) (pv 5) pe_int (nomark _)) (pss_one (ps_set (i := 3) sc_law_around.nd rfl (by first | exact .inl rfl | exact .inr rfl) (pe_tup (pa_cons pe_str (pa_cons (pv 3) pa_nil))))) (pss_one (ps_if (pt_cmpR (k_eqW (K := K) rfl hr) (pv 5) pe_int (nomark _)) (pss_one (ps_set (i := 3) sc_law_around.nd rfl (by first | exact .inl rfl | exact .inr rfl) (pe_tup (pa_cons pe_str (pa_cons (pe_tup (pa_cons (pe_tup (pa_cons pe_str (pa_cons pe_str pa_nil))) (pa_cons (pe_tup (pa_cons pe_str (pa_cons (pv 3) pa_nil))) pa_nil))) pa_nil))))) (pss_one (ps_if (pt_cmpR (k_eqW (K := K) rfl hr) (pv 5) pe_int (nomark _)) (pss_one (ps_set (i := 3) sc_law_around.nd rfl (by first | exact .inl rfl | exact .inr rfl) (pe_lst (pa_cons pe_str (pa_cons (pv 3) (pa_cons pe_str pa_nil)))))) (pss_one (ps_set (i := 3) sc_law_around.nd rfl (by first | exact .inl rfl | exact .inr rfl) (pe_tup (pa_cons pe_str (pa_cons pe_str (pa_cons (pv 3) pa_nil))))))))))))))
      (pss_one (ps_ret (pv 3))))), to_spQ hn (fun p pl ds hpl hp => ?_) h⟩)
  obtain ⟨d, n, rfl, hn100⟩ := hp
  change WS K _ [.own p, .dat d, .dat (.int (n : Int)), .no, .no, .no] [(p, false, pl)] _
  walk_at "ww"
  refine ws_for ga_name (wi_rng ?_)
  walk_at "ww"
  refine ⟨(n : Int), rfl, by omega, by omega, fun i as' M' => ∃ x y z pl', as' = [.own p, .dat d, .dat (.int (n : Int)), .dat x, y, z] ∧ M' = [(p, false, pl')] ∧ poolD pl' ∧ Ar d i x, ⟨d, _, _, pl, rfl, rfl, hpl, .z⟩, ?_, ?_⟩
  · rintro i x as' M' hx ⟨x, y, z, pl', rfl, rfl, hpl', har⟩
    have next : ∀ {x' : PyData} {y' z' : Sv} {pl2 : List PyData}, poolD pl2 → Ar d (i + 1) x' → ∃ x y z pl', [.own p, .dat d, .dat (.int (n : Int)), .dat x', y', z'] = [.own p, .dat d, .dat (.int (n : Int)), .dat x, y, z] ∧ [(p, false, pl2)] = [(p, false, pl')] ∧ poolD pl' ∧ Ar d (i + 1) x := fun h1 h2 => ⟨_, _, _, _, rfl, rfl, h1, h2⟩
    change WS K _ [.own p, .dat d, .dat (.int (n : Int)), .dat x, .dat _, z] [(p, false, pl')] _
    refine ws_seq (ws_set (w_draw rfl hpl' (by decide) (by decide) fun u pl2 hu hpl2 => ?_))
    have hu4 : u = 0 ∨ u = 1 ∨ u = 2 ∨ u = 3 := by omega
    rcases hu4 with rfl | rfl | rfl | rfl
    · walk_at "ww"
      exact next hpl2 (.l har)
    · walk_at "ww"
      exact next hpl2 (.r har)
    · walk_at "ww"
      exact next hpl2 (.f har)
    · walk_at "ww"
      exact next hpl2 (.g har)
  · rintro as' M' ⟨x, y, z, pl', rfl, rfl, hpl', har⟩
    refine ws_ret (w_var rfl ⟨pl', rfl, hpl', fun d' n' e => ?_⟩)
    injection e with e1 e2
    injection e2 with e2
    injection e2 with e2
    have e3 : n = n' := by omega
    rw [← e1, ← e3]
    rw [List.length_map, List.length_range] at har
    exact har
abbrev spLet (K : PySem.W.Frag) : Sp := spP (fun ds => ∃ d, ds = [d] ∧ okD d = true) (fun ds x => ∀ d, ds = [d] → x = .bool (ckB 12 d)) K
include T N in
theorem ok_law_let_by (F : Dfn K mg "_law_let_by" s_law_let_by ["_law_kind"]) (c_check_kind : CalX P w K mg base 27 "check_kind" ["kind"] (spChk C K)) : Cal P w K mg base 28 "_law_let_by" ["_law_kind"] (spLet K) := by
  have hn : ∀ ds, (∃ d, ds = [d] ∧ okD d = true) → ds.length = 1 := by rintro ds ⟨d, rfl, _⟩; rfl
  obtain ⟨fA, fdA, GT, gT, kT, bT⟩ := c_check_kind.ex
  refine F.ok sc_law_let_by (fun vs H Q E h => spP_len hn h) (fun f cdv A outer s H vs Q E hr h => ⟨tSeq (fun D σ H => tDrop (tCallS (spChk C K) (WE (wAs K (.ref C) 1 (fun a cls d => tRet (tNotV (tCB (fun xs H Q => cls = .ref C ∧ d = none ∧ rIsE K C a xs H Q) (tCons (tVar 1) (tCons (tC (.ref C)) tNil))))) (fun _ _ _ _ => False) D)) (tCons (tVar 0) tNil)) D σ H) (tRet (tC (.bl true))), ?_, ?_⟩)
  · exact pss_cons (ps_try_as (i := 1) (tb := fun W => tDrop (tCallS (spChk C K) (WE W) (tCons (tVar 0) tNil))) (ts := fun a cls d => tRet (tNotV (tCB (fun xs H Q => cls = .ref C ∧ d = none ∧ rIsE K C a xs H Q) (tCons (tVar 1) (tCons (tC (.ref C)) tNil))))) (Wout := fun _ _ _ _ => False) rfl rfl sc_law_let_by.nd rfl rfl ⟨rfl, by decide, Or.inl N.gC⟩ takes0
      (fun W pn xe tk _ => pss_one (ps_expr (by exact (pe_callS GT hr rfl gT kT bT (fun σ => passAt tk σ) (by exact (pa_cons (pv 0) pa_nil))))))
      (fun a oe cls d pn hz hf => pss_one (ps_ret (by exact (pe_not (pe_callB (call_isE' N.ec hz hf) (by rfl) T.n_isinstance (by decide +kernel) (pa_cons (pv 1) (pa_cons (pe_gref (by rfl) N.gC) pa_nil)))))))) (pss_one (ps_ret pe_bl))
  · obtain ⟨S, ds, iv, ⟨d, rfl, hok⟩, hd, q⟩ := h
    match vs, hd with
    | [v0], hd =>
      refine ⟨v0, rfl, S, [d], iv, ⟨d, rfl, hok⟩, hd, fun hg v H' xt iv' dp => ?_, fun hg H' xt iv' => ?_⟩
      · exact q (.bl true) H' (.bool true) xt iv' (.bl _) fun d' e => by
          injection e with e
          rw [← e, show ckB 12 d = true from hg]
      · refine ⟨true, N.te, fun _ a ha => ?_, fun z => Bool.noConfusion z⟩
        refine ⟨_, rfl, rfl, rfl, .ref C, .ref C, true, rfl, fun u hu => by cases hu; rfl, N.ki, true, rfl, ?_⟩
        exact q (.bl false) H' (.bool false) xt iv' (.bl _) fun d' e => by
          injection e with e
          rw [← e, show ckB 12 d = false from hg]
end
end K1

set_option Elab.async false
set_option linter.all false
set_option maxRecDepth 100000
set_option maxHeartbeats 4000000
namespace K1
open PySem PySem.Spec PyProof.Rows L2 Ab

/-- one step of the reading -/
local macro_rules | `(tactic| walk_at "w") => `(tactic| first
  | (with_reducible refine ws_seq ?_) | (with_reducible refine ws_next ?_) | (with_reducible refine ws_set ?_) | (with_reducible refine ws_par ?_) | (with_reducible refine ws_ret ?_) | (with_reducible refine ws_if ?_) | (with_reducible refine ws_drop ?_)
  | (refine w_var rfl ?_) | (with_reducible refine w_int ?_) | (with_reducible refine w_str ?_) | (with_reducible refine w_bl ?_) | (with_reducible refine w_non ?_)
  | (with_reducible refine wa_nil ?_) | (with_reducible refine wa_cons ?_) | (with_reducible refine w_tup ?_) | (with_reducible refine w_lst ?_)
  | (with_reducible refine wt_test ?_) | (with_reducible refine wt_B ?_) | (with_reducible refine wt_not ?_) | (with_reducible refine wt_and ?_) | (with_reducible refine wt_or ?_)
  | (with_reducible refine w_andV ?_) | (with_reducible refine w_orV ?_) | (with_reducible refine w_notV ?_) | (with_reducible refine w_ite ?_)
  | (with_reducible refine w_op ao_eqW ?_) | (with_reducible refine w_op ao_neW ?_) | (with_reducible refine w_op ao_eq ?_) | (with_reducible refine w_op ao_ne ?_) | (with_reducible refine w_op ao_isB ?_) | (with_reducible refine w_op ao_notB ?_) | (with_reducible refine w_op ao_ix ?_) | (with_reducible refine w_op ao_plus ?_) | (with_reducible refine w_op ao_less ?_) | (with_reducible refine w_op ao_le ?_) | (with_reducible refine w_op ao_gt ?_) | (with_reducible refine w_op ao_ge ?_)
  | (with_reducible refine w_op ao_sub ?_) | (with_reducible refine w_op ao_mul ?_) | (with_reducible refine w_op ao_mod ?_) | (with_reducible refine w_op ao_div ?_) | (with_reducible refine w_op ao_pow ?_) | (with_reducible refine w_op ao_isNo ?_) | (with_reducible refine w_op ao_inSg ?_) | (with_reducible refine w_op ao_inW ?_) | (with_reducible refine w_op ao_ninW ?_) | (with_reducible refine w_op ao_inSeq ?_) | (with_reducible refine w_op ao_ninSeq ?_)
  | (with_reducible refine w_cb ac_len ?_) | (with_reducible refine w_cb ac_tupleOf ?_) | (with_reducible refine w_cb ac_intOf ?_) | (with_reducible refine w_cb ac_abs ?_) | (with_reducible refine w_cb ac_ord ?_) | (with_reducible refine w_cb ac_all ?_) | (with_reducible refine w_cb ac_any ?_)
  | (with_reducible refine w_isi (by decide) ?_) | (with_reducible refine w_isi2 (by decide) (by decide) ?_) | (with_reducible refine w_sl ?_) | (with_reducible refine wo_none ?_) | (with_reducible refine wo_some ?_)
  | (with_reducible refine w_chain ao_le ao_le ?_) | (with_reducible refine w_chain ao_leS ao_leS ?_) | (with_reducible refine w_call ?_))
local macro_rules | `(tactic| walk_at "v") => `(tactic| first
  | (with_reducible refine m0 ?_) | (with_reducible refine m1 ?_) | (with_reducible refine m2 ?_) | (with_reducible refine m3 ?_) | (with_reducible refine m5 ?_) | (with_reducible refine l100w (by simp; done) ?_)
  | (with_reducible refine exb ?_) | (with_reducible refine exi ?_) | (with_reducible refine exl ?_) | (with_reducible refine exql ?_) | (with_reducible refine exqt ?_)
  | (refine fixt rfl ?_) | (refine fixl rfl ?_) | (refine fslt rfl ?_) | (refine fsll rfl ?_)
  | (with_reducible refine flent ?_; dsimp only [List.length_cons, List.length_nil]) | (with_reducible refine flenl ?_; dsimp only [List.length_cons, List.length_nil])
  | (with_reducible refine fii (by first | trivial | decide) ?_) | (with_reducible refine fpi ?_) | (with_reducible refine flti ?_) | (with_reducible refine fint ?_) | (with_reducible refine ftupl ?_) | (with_reducible refine ftupt ?_)
  | (with_reducible refine feqW (by decide +kernel) (by decide +kernel) (by decide +kernel) ?_) | (with_reducible refine fneW (by decide +kernel) (by decide +kernel) (by decide +kernel) ?_)
  | (with_reducible refine feq (by decide +kernel) (by decide +kernel) ?_) | (with_reducible refine fne (by decide +kernel) (by decide +kernel) ?_)
  | (with_reducible refine iteK rfl ?_) | (with_reducible refine iteN rfl ?_) | (with_reducible refine iteK (by decide +kernel) ?_) | (with_reducible refine iteN (by decide +kernel) ?_))
local macro_rules | `(tactic| walk_at "x") => `(tactic| first | (with_reducible refine wx_seq ?_) | (with_reducible refine wx_if ?_) | (with_reducible refine wx_next ?_) | (with_reducible refine wx_ret ?_) | (with_reducible refine wr_tup ?_) | (with_reducible refine war_cons ?_) | (with_reducible refine war_nil ?_))
local macro_rules | `(tactic| walk_at "ww") => `(tactic| repeat (first | walk_at "w" | walk_at "v" | walk_at "x"))

theorem fisb {g : Bool → Bool → Bool} {a b : Bool} {P : PyData → Prop} (h : P (.bool (g a b))) : fIsB g (.bool a) (.bool b) P := h
/-! ### names and texts of drawn signs -/
abbrev sixS : List Nat := ("abz059" : Str).cps.toList
theorem six_name : ∀ c ∈ sixS, c ∈ ("abcdefghijklmnopqrstuvwxyz0123456789" : Str).cps.toList := by decide +kernel
theorem six_let : ∀ c ∈ sixS, decide (c ∈ ("abcdefghijklmnopqrstuvwxyz" : Str).cps.toList) = decide (c ∈ ("abz" : Str).cps.toList) := by decide +kernel
theorem six_sign : ∀ c ∈ sixS, signB c = true := by decide +kernel
theorem six_lay : ∀ c ∈ sixS, decide (c < 0x110000) = true := by decide +kernel
def nmL (l : List Nat) : Bool := decide (1 ≤ l.length) && decide (l.length ≤ 8) && (match l with | c :: _ => decide (c ∈ ("abcdefghijklmnopqrstuvwxyz" : Str).cps.toList) | [] => false) && l.all fun c => decide (c ∈ ("abcdefghijklmnopqrstuvwxyz0123456789" : Str).cps.toList)
theorem nameB_txt (l : List Nat) : nameB (txt l) = nmL l := by
  unfold nameB nmL
  rw [txt_len, txt_list]
  all_goals (cases l <;> rfl)
theorem app_txt (a b : Str) : a ++ b = txt (a.cps.toList ++ b.cps.toList) := by
  show (⟨a.cps ++ b.cps⟩ : Str) = ⟨(a.cps.toList ++ b.cps.toList).toArray⟩
  simp
theorem all_name {l : List Nat} (h : ∀ c ∈ l, c ∈ ("abcdefghijklmnopqrstuvwxyz0123456789" : Str).cps.toList) : (l.all fun c => decide (c ∈ ("abcdefghijklmnopqrstuvwxyz0123456789" : Str).cps.toList)) = true := List.all_eq_true.mpr fun c hc => decide_eq_true (h c hc)
def dueL (cs : List Nat) : Bool := decide (1 ≤ cs.length) && decide (cs.length ≤ 8) && (match cs with | c :: _ => decide (c ∈ ("abz" : Str).cps.toList) | [] => false)
theorem nm_due {cs : List Nat} (h : ∀ c ∈ cs, c ∈ sixS) : nmL cs = dueL cs := by
  unfold nmL dueL
  rw [all_name fun c hc => six_name c (h c hc), Bool.and_true]
  cases cs with
  | nil => rfl
  | cons c r =>
    show (_ && decide (c ∈ ("abcdefghijklmnopqrstuvwxyz" : Str).cps.toList)) = (_ && decide (c ∈ ("abz" : Str).cps.toList))
    rw [six_let c (h c List.mem_cons_self)]
theorem nm_bad {l : List Nat} {x : Nat} (hx : x ∈ l) (hb : decide (x ∈ ("abcdefghijklmnopqrstuvwxyz0123456789" : Str).cps.toList) = false) : nmL l = false := by
  unfold nmL
  have : (l.all fun c => decide (c ∈ ("abcdefghijklmnopqrstuvwxyz0123456789" : Str).cps.toList)) = false := by
    rw [List.all_eq_false]
    exact ⟨x, hx, by rw [hb]; simp⟩
  rw [this, Bool.and_false]
theorem cut5 (cs : List Nat) : (cutS (txt cs) none (some 5)).cps.toList = cs.take 5 := by
  unfold cutS
  rw [HT.sIx_none, show HT.sIx (txt cs).length (txt cs).length (some 5) = min 5 (txt cs).length from HT.sIx_nat _ _ 5, txt_len, txt_list]
  simp
theorem nm9 {cs : List Nat} (h : ∀ c ∈ cs, c ∈ sixS) : nmL (("a" : Str).cps.toList ++ cs.take 5 ++ ("9" : Str).cps.toList) = true := by
  unfold nmL
  rw [all_name]
  · have e : (("a" : Str).cps.toList ++ cs.take 5 ++ ("9" : Str).cps.toList).length = 1 + min 5 cs.length + 1 := by
      rw [List.length_append, List.length_append, List.length_take]; rfl
    rw [e, decide_eq_true (by omega), decide_eq_true (by omega)]
    rfl
  · intro c hc
    rcases List.mem_append.mp hc with hc | hc
    · rcases List.mem_append.mp hc with hc | hc
      · exact (show ∀ c ∈ ("a" : Str).cps.toList, c ∈ ("abcdefghijklmnopqrstuvwxyz0123456789" : Str).cps.toList by decide +kernel) c hc
      · exact six_name c (h c (List.mem_of_mem_take hc))
    · exact (show ∀ c ∈ ("9" : Str).cps.toList, c ∈ ("abcdefghijklmnopqrstuvwxyz0123456789" : Str).cps.toList by decide +kernel) c hc
theorem nmB {l : List Nat} : nmL (("a" : Str).cps.toList ++ l ++ ("B" : Str).cps.toList) = false := nm_bad (x := 66) (by simp; exact .inr (.inr (by decide +kernel))) (by decide +kernel)
theorem nmU {l : List Nat} : nmL (l ++ ("_" : Str).cps.toList) = false := nm_bad (x := 95) (by simp; exact .inr (by decide +kernel)) (by decide +kernel)
theorem fit_txt (l : List Nat) : fitText (.str (txt l)) = (decide (l.length ≤ 12) && l.all signB) := by
  show (decide ((txt l).length ≤ 12) && (txt l).cps.toList.all signB) = _
  rw [txt_len, txt_list]
theorem fit_six {cs : List Nat} (hl : cs.length ≤ 12) (h : ∀ c ∈ cs, c ∈ sixS) : fitText (.str (txt cs)) = true := by
  rw [fit_txt, decide_eq_true hl, List.all_eq_true.mpr fun c hc => six_sign c (h c hc)]; rfl
theorem fit_odd {l : List Nat} {x : Nat} (hx : x ∈ l) (hb : signB x = false) : fitText (.str (txt l)) = false := by
  rw [fit_txt, show l.all signB = false by rw [List.all_eq_false]; exact ⟨x, hx, by rw [hb]; simp⟩, Bool.and_false]
theorem lay_txt {cs : List Nat} (h : ∀ c ∈ cs, c ∈ sixS) : (PyData.str (txt cs)).canLay0 = true := by
  rw [PyData.canLay0]
  show (txt cs).cps.all (· < 0x110000) = true
  rw [← Array.all_toList, txt_list]
  exact List.all_eq_true.mpr fun c hc => six_lay c (h c hc)
theorem fit12 {cs : List Nat} (hl : cs.length ≤ 12) (h : ∀ c ∈ cs, c ∈ sixS) : fitText (.str ("abcdefghijkl" ++ txt cs)) = PyData.eqv (.str (txt cs)) (.str "") := by
  rw [app_txt, txt_list, fit_txt]
  cases cs with
  | nil => decide +kernel
  | cons c r =>
    rw [decide_eq_false (by rw [List.length_append, List.length_cons]; show ¬ 12 + (r.length + 1) ≤ 12; omega)]
    show false = ((txt (c :: r)) == ("" : Str))
    rw [eq_comm, beq_eq_false_iff_ne]
    intro e
    have z : (txt (c :: r)).cps.toList.length = ("" : Str).cps.toList.length := by rw [e]
    rw [txt_list, List.length_cons] at z
    exact Nat.succ_ne_zero _ z
theorem fitB_int (v : PyData) : fitB v "int" = fitInt v := rfl
theorem far_fit {i : Int} (h : 10 ^ 30 ≤ i ∨ i ≤ -(10 ^ 30)) : fitInt (.int i) = false := by
  unfold fitInt
  exact decide_eq_false (by split <;> omega)
abbrev spLaw (K : PySem.W.Frag) : Sp := spP (fun ds => ∃ ns : List Int, ds = [intL ns] ∧ ns.length ≤ 63) (fun _ x => x = .bool true) K
section
variable {P0 : Program} {w : World} {K : PySem.W.Frag} {mg : Str → Option Value} {base : Heap} {aB C : Addr} (T : Txt K mg aB)
theorem w_let {te : TE} {as : List Sv} {M : Mm} {R : PyData → Mm → Prop} (h : W K te as M fun d M1 => okD d = true ∧ R (.bool (ckB 12 d)) M1) : W K (tCall (spLet K) [] E0 (tCons te tNil)) as M R :=
  w_call (wa_cons (h.imp fun d M1 ⟨ho, r⟩ => wa_nil (m1 ⟨⟨d, rfl, ho⟩, fun x hx => by rw [hx d rfl]; exact r⟩)))
theorem w_ar {p : Addr} {fl : Bool} {i : Nat} {ta : TA} {as : List Sv} {M : Mm} {R : PyData → Mm → Prop} (hi : as[i]? = some (.own p)) (h : WA K ta as M fun ss M1 => ∃ (d : PyData) (n : Nat) (pl : List PyData), ss = [.dat d, .dat (.int (n : Int))] ∧ n ≤ 100 ∧ M1 = [(p, fl, pl)] ∧ poolD pl ∧
    ∀ x pl', Ar d n x → poolD pl' → R x [(p, fl, pl')]) : W K (tCall (spAr K) [] E0 (tCons (tVar i) ta)) as M R := by
  refine w_callQ (wa_mut hi fun S H0 σ H k r Q q => h S H0 σ H k r Q fun vs H1 ss M1 k1 e1 b1 ⟨d, n, pl, es, hn, em, hpl, z⟩ => q vs H1 ss M1 k1 e1 b1 ?_)
  subst es em
  exact ⟨p, fl, pl, [d, .int (n : Int)], rfl, rfl, hpl, ⟨d, n, rfl, hn⟩, fun x pl' hpl' hx => z x pl' (hx d n rfl) hpl'⟩
theorem w_exB {ta : TA} {as : List Sv} {M : Mm} {R : PyData → Mm → Prop} (h : WA K ta as M fun ss M1 => ∃ b : Bool, ss = [.dat (.bool b), .dat (.bool b)] ∧ R (.bool true) M1) : W K (tCall (spExB K) [] E0 ta) as M R :=
  w_call fun S H0 σ H k r Q q => h S H0 σ H k r Q fun vs H1 ss M1 k1 e1 b1 p1 => q vs H1 ss M1 k1 e1 b1 (by
    obtain ⟨b, es, hr⟩ := p1
    exact ⟨[.bool b, .bool b], es, ⟨b, rfl⟩, fun x hx => by rw [hx]; exact hr⟩)
theorem w_nm {te : TE} {as : List Sv} {M : Mm} {R : PyData → Mm → Prop} (h : W K te as M fun d M1 => shortD d ∧ R (.bool (nameD d)) M1) : W K (tCall (spName K) [] E0 (tCons te tNil)) as M R :=
  w_call (wa_cons (h.imp fun d M1 ⟨ho, r⟩ => wa_nil (m1 ⟨⟨d, rfl, ho⟩, fun x hx => by rw [hx d rfl]; exact r⟩)))
theorem w_ft {ta : TA} {as : List Sv} {M : Mm} {R : PyData → Mm → Prop} (h : WA K ta as M fun ss M1 => ∃ (v : PyData) (k : Str), ss = [.dat v, .dat (.str k)] ∧ shortD v ∧ threeK k ∧ R (.bool (fitB v k)) M1) : W K (tCall (spFits K) [] E0 ta) as M R :=
  w_call fun S H0 σ H k r Q q => h S H0 σ H k r Q fun vs H1 ss M1 k1 e1 b1 p1 => q vs H1 ss M1 k1 e1 b1 (by
    obtain ⟨v, k, es, h1, h2, hr⟩ := p1
    exact ⟨[v, .str k], es, ⟨v, k, rfl, h1, h2⟩, fun x hx => by rw [hx v k rfl]; exact hr⟩)
theorem short_txt {l : List Nat} (h : l.length ≤ 1000) : shortD (.str (txt l)) := by
  show (txt l).length ≤ 1000
  rw [txt_len]; exact h
include T in
theorem ok_law {f0 : Addr} {fd0 : FuncData} (F : Fun K "law" "law" s_law f0 fd0) (q_law_pool : Cal P0 w K mg base 1 "_law_pool" ["_law_script", "_law_at"] (spN prePool (fun _ pl => poolD pl) K)) (q_law_draw : Cal P0 w K mg base 1 "_law_draw" ["_law_pool_here", "_law_many"] (spQ preDraw postDraw K))
    (q_law_exact : Cal P0 w K mg base 1 "_law_exact" ["_law_told", "_law_due"] (spExB K)) (q_law_base_value : Cal P0 w K mg base 2 "_law_base_value" ["_law_pool_here", "_law_kind"] (spBV K)) (q_law_bad_kinds : Cal P0 w K mg base 1 "_law_bad_kinds" [] (spC0 (.list badL) K))
    (q_law_good_kinds : Cal P0 w K mg base 1 "_law_good_kinds" [] (spC0 (T' [.list flatL, .list deepL]) K)) (q_law_around : Cal P0 w K mg base 2 "_law_around" ["_law_pool_here", "_law_kind", "_law_turns"] (spAr K)) (q_law_let_by : Cal P0 w K mg base 28 "_law_let_by" ["_law_kind"] (spLet K))
    (q_is_name : Cal P0 w K mg base 1 "is_name" ["thing"] (spName K)) (q_fits_base : Cal P0 w K mg base 2 "fits_base" ["value", "kind"] (spFits K)) : FnOk P0 w K mg base CX0 29 f0 fd0 ["_law_script"] (spLaw K) := by
  have hn : ∀ ds, (∃ ns : List Int, ds = [intL ns] ∧ ns.length ≤ 63) → ds.length = 1 := by rintro ds ⟨ns, rfl, _⟩; rfl
  have c_law_pool := q_law_pool.mono (show 1 ≤ 28 by decide)
  have c_law_draw := q_law_draw.mono (show 1 ≤ 28 by decide)
  have c_law_exact := q_law_exact.mono (show 1 ≤ 28 by decide)
  have c_law_base_value := q_law_base_value.mono (show 2 ≤ 28 by decide)
  have c_law_bad_kinds := q_law_bad_kinds.mono (show 1 ≤ 28 by decide)
  have c_law_good_kinds := q_law_good_kinds.mono (show 1 ≤ 28 by decide)
  have c_law_around := q_law_around.mono (show 2 ≤ 28 by decide)
  have c_law_let_by := q_law_let_by
  have c_is_name := q_is_name.mono (show 1 ≤ 28 by decide)
  have c_fits_base := q_fits_base.mono (show 2 ≤ 28 by decide)
  refine F.ok sc_law (fun vs H Q E h => spP_len hn h) (fun cdv A outer s H vs Q E hr h => ⟨_, (pss_cons (ps_set (i := 1) sc_law.nd rfl (by first | exact .inl rfl | exact .inr rfl) (pe_cal c_law_pool hr (pa_cons (pv 0) (pa_cons pe_int pa_nil))))
      (pss_cons (ps_asg (pe_cal0 c_law_good_kinds hr) (k_tup (K := K) (n := 2) rfl rfl (pgs_cons (pg_name (i := 2) sc_law.nd rfl (by first | exact .inl rfl | exact .inr rfl)) (pgs_cons (pg_name (i := 3) sc_law.nd rfl (by first | exact .inl rfl | exact .inr rfl)) pgs_nil))))
      (pss_cons (ps_set (i := 4) sc_law.nd rfl (by first | exact .inl rfl | exact .inr rfl) (pe_cal c_law_draw hr (pa_cons (pv 1) (pa_cons pe_int pa_nil))))
      (pss_cons (ps_set (i := 5) sc_law.nd rfl (by first | exact .inl rfl | exact .inr rfl) (pe_ix (k_ix (K := K) rfl) (pv 2) (pe_cal c_law_draw hr (pa_cons (pv 1) (pa_cons (pe_callB (k_len (K := K) rfl) (by rfl) T.n_len (by decide +kernel) (pa_cons (pv 2) pa_nil)) pa_nil))) (fun _ _ => rfl)))
      (pss_cons (ps_set (i := 6) sc_law.nd rfl (by first | exact .inl rfl | exact .inr rfl) (pe_cal0 c_law_bad_kinds hr))
      (pss_cons (ps_if (PW.pt (pw_or (pt_not (pt_val (pe_cal c_law_let_by hr (pa_cons (pe_cal c_law_around hr (pa_cons (pv 1) (pa_cons (pv 5) (pa_cons (pv 4) pa_nil)))) pa_nil)))) (pw_or1 (pt_not (pt_val (pe_cal c_law_let_by hr (pa_cons (pe_cal c_law_around hr (pa_cons (pv 1) (pa_cons (pv 5) (pa_cons pe_int pa_nil)))) pa_nil))))))) (pss_one (ps_ret pe_bl)) pss_nil)
      (pss_cons (ps_if (PW.pt (pw_or (pt_val (pe_cal c_law_let_by hr (pa_cons (pe_cal c_law_around hr (pa_cons (pv 1) (pa_cons (pv 5) (pa_cons (pe_op (k_plus (K := K) rfl) pe_int (pv 4)) pa_nil)))) pa_nil))) (pw_or1 (pt_val (pe_cal c_law_let_by hr (pa_cons (pe_cal c_law_around hr (pa_cons (pv 1) (pa_cons (pe_ix (k_ix (K := K) rfl) (pv 6) (pe_cal c_law_draw hr (pa_cons (pv 1) (pa_cons (pe_callB (k_len (K := K) rfl) (by rfl) T.n_len (by decide +kernel) (pa_cons (pv 6) pa_nil)) pa_nil))) (fun _ _ => rfl)) (pa_cons (pv 4) pa_nil)))) pa_nil)))))) (pss_one (ps_ret pe_bl)) pss_nil)
      (pss_cons (ps_set (i := 7) sc_law.nd rfl (by first | exact .inl rfl | exact .inr rfl) (pe_ix (k_ix (K := K) rfl) (pv 3) (pe_cal c_law_draw hr (pa_cons (pv 1) (pa_cons (pe_callB (k_len (K := K) rfl) (by rfl) T.n_len (by decide +kernel) (pa_cons (pv 3) pa_nil)) pa_nil))) (fun _ _ => rfl)))
      (pss_cons (ps_if (PW.pt (pw_or (pt_not (pt_val (pe_cal c_law_let_by hr (pa_cons (pe_cal c_law_around hr (pa_cons (pv 1) (pa_cons (pv 7) (pa_cons pe_int pa_nil)))) pa_nil)))) (pw_or1 (pt_val (pe_cal c_law_let_by hr (pa_cons (pe_cal c_law_around hr (pa_cons (pv 1) (pa_cons (pv 7) (pa_cons pe_int pa_nil)))) pa_nil)))))) (pss_one (ps_ret pe_bl)) pss_nil)
      (pss_cons (ps_set (i := 8) sc_law.nd rfl (by first | exact .inl rfl | exact .inr rfl) (k_join (K := K) rfl pe_str (pe_lc (own := [("_law_k", 16)]) (by rfl) sc_law.nd (pi_range1 (by rfl) T.n_range (pa_cons (pe_cal c_law_draw hr (pa_cons (pv 1) (pa_cons pe_int pa_nil))) pa_nil)) (blkOk_by (N := ["_law_script", "_law_pool_here", "_law_flat", "_law_deeper", "_law_turns", "_law_good", "_law_bad", "_law_inner", "_law_name", "_law_due", "_law_kind", "_law_value", "_law_own", "_law_far", "_law_short", "_law_odd", "_law_k"]) (sc := defScope s_law) (by decide +kernel)) (fun _ _ _ _ _ => (pg_name (i := 16) sc_law.nd rfl (by first | exact .inl rfl | exact .inr rfl))) (fun _ _ _ _ _ => pts_nil) (fun _ _ _ _ _ => (pe_ix (k_ix (K := K) rfl) pe_str (pe_cal c_law_draw hr (pa_cons (pv 1) (pa_cons pe_int pa_nil))) (fun _ _ => rfl))))))
      (pss_cons (ps_set (i := 9) sc_law.nd rfl (by first | exact .inl rfl | exact .inr rfl) (pe_and (pe_chain op_leI op_leI pe_int (pe_callB (k_len (K := K) rfl) (by rfl) T.n_len (by decide +kernel) (pa_cons (pv 8) pa_nil)) pe_int) (pe_one (pe_cmpR op_inSg (pe_ix (k_ix (K := K) rfl) (pv 8) pe_int (fun _ _ => rfl)) pe_str (by rfl)))))
      (pss_cons (ps_if (PW.pt (pw_or (pt_not (pt_val (pe_cal c_law_exact hr (pa_cons (pe_cal c_is_name hr (pa_cons (pv 8) pa_nil)) (pa_cons (pv 9) pa_nil))))) (pw_or (pt_cmpR op_notBl (pe_cal c_is_name hr (pa_cons (pe_op (k_plus (K := K) rfl) (pv 8) pe_str) pa_nil)) pe_bl (nomark _)) (pw_or1 (pt_cmpR op_notBl (pe_cal c_is_name hr (pa_cons (pe_lst (pa_cons (pv 8) pa_nil)) pa_nil)) pe_bl (nomark _)))))) (pss_one (ps_ret pe_bl)) pss_nil)
      (pss_cons (ps_if (PW.pt (pw_or (pt_cmpR op_notBl (pe_cal c_is_name hr (pa_cons (pe_op (k_plus (K := K) rfl) (pe_op (k_plus (K := K) rfl) pe_str (pe_slice (k_sl (K := K) rfl) (pv 8) po_none (po_some pe_int))) pe_str) pa_nil)) pe_bl (nomark _)) (pw_or1 (pt_cmpR op_notBl (pe_cal c_is_name hr (pa_cons (pe_op (k_plus (K := K) rfl) (pe_op (k_plus (K := K) rfl) pe_str (pe_slice (k_sl (K := K) rfl) (pv 8) po_none (po_some pe_int))) pe_str) pa_nil)) pe_bl (nomark _))))) (pss_one (ps_ret pe_bl)) pss_nil)
      (pss_cons (ps_for PassesOwn.never rfl (k_seq (K := K) rfl (pe_lst (pa_cons pe_str (pa_cons pe_str (pa_cons pe_str pa_nil))))) (pg_name (i := 10) sc_law.nd rfl (by first | exact .inl rfl | exact .inr rfl)) (pss_cons (ps_set (i := 11) sc_law.nd rfl (by first | exact .inl rfl | exact .inr rfl) (pe_cal c_law_base_value hr (pa_cons (pv 1) (pa_cons (pv 10) pa_nil))))
      (pss_one (ps_for PassesOwn.never rfl (k_seq (K := K) rfl (pe_lst (pa_cons pe_str (pa_cons pe_str (pa_cons pe_str pa_nil))))) (pg_name (i := 12) sc_law.nd rfl (by first | exact .inl rfl | exact .inr rfl)) (pss_one (ps_if (pt_not (pt_val (pe_cal c_law_exact hr (pa_cons (pe_cal c_fits_base hr (pa_cons (pv 11) (pa_cons (pv 12) pa_nil))) (pa_cons (pe_cmpR (k_eqW (K := K) rfl hr) (pv 12) (pv 10) (nomark _)) pa_nil))))) (pss_one (ps_ret pe_bl)) pss_nil))))))
      (pss_cons (ps_set (i := 13) sc_law.nd rfl (by first | exact .inl rfl | exact .inr rfl) (pe_op (k_plus (K := K) rfl) (pe_op op_powI pe_int pe_int) (pe_cal c_law_draw hr (pa_cons (pv 1) (pa_cons pe_int pa_nil)))))
      (pss_cons (ps_if (PW.pt (pw_or (pt_cmpR op_notBl (pe_cal c_fits_base hr (pa_cons (pv 13) (pa_cons pe_str pa_nil))) pe_bl (nomark _)) (pw_or (pt_cmpR op_notBl (pe_cal c_fits_base hr (pa_cons (pe_op op_subI pe_int (pv 13)) (pa_cons pe_str pa_nil))) pe_bl (nomark _)) (pw_or1 (pt_cmpR op_notBl (pe_cal c_fits_base hr (pa_cons pe_non (pa_cons pe_str pa_nil))) pe_bl (nomark _)))))) (pss_one (ps_ret pe_bl)) pss_nil)
      (pss_cons (ps_set (i := 14) sc_law.nd rfl (by first | exact .inl rfl | exact .inr rfl) (k_join (K := K) rfl pe_str (pe_lc (own := [("_law_k", 16)]) (by rfl) sc_law.nd (pi_range1 (by rfl) T.n_range (pa_cons (pe_cal c_law_draw hr (pa_cons (pv 1) (pa_cons pe_int pa_nil))) pa_nil)) (blkOk_by (N := ["_law_script", "_law_pool_here", "_law_flat", "_law_deeper", "_law_turns", "_law_good", "_law_bad", "_law_inner", "_law_name", "_law_due", "_law_kind", "_law_value", "_law_own", "_law_far", "_law_short", "_law_odd", "_law_k"]) (sc := defScope s_law) (by decide +kernel)) (fun _ _ _ _ _ => (pg_name (i := 16) sc_law.nd rfl (by first | exact .inl rfl | exact .inr rfl))) (fun _ _ _ _ _ => pts_nil) (fun _ _ _ _ _ => (pe_ix (k_ix (K := K) rfl) pe_str (pe_cal c_law_draw hr (pa_cons (pv 1) (pa_cons pe_int pa_nil))) (fun _ _ => rfl))))))
      (pss_cons (ps_set (i := 15) sc_law.nd rfl (by first | exact .inl rfl | exact .inr rfl) (pe_ix (k_ix (K := K) rfl) (pe_lst (pa_cons pe_str (pa_cons pe_str (pa_cons pe_str (pa_cons pe_str pa_nil))))) (pe_cal c_law_draw hr (pa_cons (pv 1) (pa_cons pe_int pa_nil))) (fun _ _ => rfl)))
      (pss_cons (ps_if (PW.pt (pw_or (pt_cmpR op_notBl (pe_cal c_fits_base hr (pa_cons (pv 14) (pa_cons pe_str pa_nil))) pe_bl (nomark _)) (pw_or1 (pt_cmpR op_notBl (pe_cal c_fits_base hr (pa_cons (pe_op (k_plus (K := K) rfl) (pv 14) (pv 15)) (pa_cons pe_str pa_nil))) pe_bl (nomark _))))) (pss_one (ps_ret pe_bl)) pss_nil)
      (pss_one (ps_ret (pe_cal c_law_exact hr (pa_cons (pe_cal c_fits_base hr (pa_cons (pe_op (k_plus (K := K) rfl) pe_str (pv 14)) (pa_cons pe_str pa_nil))) (pa_cons (pe_cmpR (k_eqW (K := K) rfl hr) (pv 14) pe_str (nomark _)) pa_nil)))))))))))))))))))))))), to_spP hn (fun ds hp => ?_) h⟩)
  obtain ⟨ns, rfl, hns⟩ := hp
  change WS K _ [.dat (intL ns), .no, .no, .no, .no, .no, .no, .no, .no, .no, .no, .no, .no, .no, .no, .no, .no] [] _
  refine ws_seq (ws_setN (wa_cons (w_var rfl (wa_cons (w_int (wa_nil (m2 ⟨⟨ns, 0, rfl, hns⟩, fun c pl _ hpl => ?_⟩)))))))
  change WS K _ [.dat (intL ns), .own c, .no, .no, .no, .no, .no, .no, .no, .no, .no, .no, .no, .no, .no, .no, .no] [(c, true, pl)] _
  -- the kinds
  refine ws_seq (ws_asg ga_pair (w_call (wa_nil (m0 ⟨rfl, fun d hd => ?_⟩))))
  subst hd
  refine ⟨.list flatL, .list deepL, .inl rfl, ?_⟩
  refine ws_seq (ws_set (w_draw rfl hpl (by decide) (by decide) fun tn0 pl1 htn hpl1 => ?_))
  refine ws_seq (ws_set (w_op ao_ix (w_var rfl (w_drawG (p := c) (fl := true) rfl (w_cb ac_len (wa_cons (w_var rfl (wa_nil (m1 (flenl ⟨_, pl1, rfl, rfl, hpl1, by decide, by decide, fun n pl2 hn2 hpl2 => ?_⟩))))))))))
  have hn2 : n < flatL.length := Int.ofNat_lt.mp hn2
  refine fixl (atI_nat (List.getElem?_eq_getElem hn2)) ?_
  have hfm : flatL[n] ∈ flatL := List.getElem_mem hn2
  generalize flatL[n] = gd at hfm
  have gok := flat_ok gd hfm
  have gck := flat_ck gd hfm
  refine ws_seq (ws_set (w_call (wa_nil (m0 ⟨rfl, fun d hd => ?_⟩))))
  subst hd
  change WS K _ [.dat (intL ns), .own c, .dat (.list flatL), .dat (.list deepL), .dat (.int (tn0 : Int)), .dat gd, .dat (.list badL), .no, .no, .no, .no, .no, .no, .no, .no, .no, .no] [(c, true, pl2)] _
  -- good ones are let by
  have arT : ∀ {x : PyData} {n : Nat}, Ar gd n x → n ≤ 11 → ckB 12 x = true := fun {x n} h hn => by
    rw [ar_ck h, if_pos (by omega), show 12 - n = (11 - n) + 1 by omega]; exact gck _
  have arF : ∀ {x : PyData} {n : Nat}, Ar gd n x → 12 ≤ n → ckB 12 x = false := fun {x n} h hn => by
    rw [ar_ck h]
    by_cases e : n ≤ 12
    · rw [if_pos e, show 12 - n = 0 by omega]; rfl
    · rw [if_neg e]
  refine ws_seq (ws_if (wt_or (wt_not (wt_B (w_let (w_ar (p := c) (fl := true) rfl (wa_cons (w_var rfl (wa_cons (w_var rfl (wa_nil ⟨gd, tn0, pl2, rfl, by omega, rfl, hpl2, fun x pl3 hx hpl3 => ⟨ar_ok gok hx, ?_⟩⟩)))))))))))
  rw [arT hx (by omega)]
  refine exb (iteN rfl ?_)
  refine wt_not (wt_B (w_let (w_ar (p := c) (fl := true) rfl (wa_cons (w_var rfl (wa_cons (w_int (wa_nil ⟨gd, 11, pl3, rfl, by decide, rfl, hpl3, fun x pl4 hx hpl4 => ⟨ar_ok gok hx, ?_⟩⟩))))))))
  rw [arT hx (by omega)]
  refine exb (iteN rfl (ws_next ?_))
  -- deeper ones and bad ones are not
  refine ws_seq (ws_if (wt_or (wt_B (w_let (w_ar (p := c) (fl := true) rfl (wa_cons (w_var rfl (wa_cons (w_op ao_plus (w_int (w_var rfl (fpi ?_))))))))))))
  refine wa_nil ⟨gd, 12 + tn0, pl4, by rw [show (12 : Int) + (tn0 : Int) = ((12 + tn0 : Nat) : Int) by omega], by omega, rfl, hpl4, fun x pl5 hx hpl5 => ⟨ar_ok gok hx, ?_⟩⟩
  rw [arF hx (by omega)]
  refine exb (iteN rfl ?_)
  refine wt_B (w_let (w_ar (p := c) (fl := true) rfl (wa_cons (w_op ao_ix (w_var rfl (w_drawG (p := c) (fl := true) rfl (w_cb ac_len (wa_cons (w_var rfl (wa_nil (m1 (flenl ⟨_, pl5, rfl, rfl, hpl5, by decide, by decide, fun n pl6 hn3 hpl6 => ?_⟩))))))))))))
  have hn3 : n < badL.length := Int.ofNat_lt.mp hn3
  refine fixl (atI_nat (List.getElem?_eq_getElem hn3)) ?_
  have hbm : badL[n] ∈ badL := List.getElem_mem hn3
  generalize badL[n] = bd at hbm
  refine wa_cons (w_var rfl (wa_nil ⟨bd, tn0, pl6, rfl, by omega, rfl, hpl6, fun x pl7 hx hpl7 => ⟨ar_ok (bad_ok bd hbm) hx, ?_⟩⟩))
  have hbx : ckB 12 x = false := by
    rw [ar_ck hx, if_pos (by omega)]; exact bad_ck bd hbm _
  rw [hbx]
  refine exb (iteN rfl (ws_next ?_))
  -- those of two levels
  refine ws_seq (ws_set (w_op ao_ix (w_var rfl (w_drawG (p := c) (fl := true) rfl (w_cb ac_len (wa_cons (w_var rfl (wa_nil (m1 (flenl ⟨_, pl7, rfl, rfl, hpl7, by decide, by decide, fun n pl8 hn4 hpl8 => ?_⟩))))))))))
  have hn4 : n < deepL.length := Int.ofNat_lt.mp hn4
  refine fixl (atI_nat (List.getElem?_eq_getElem hn4)) ?_
  have hdm : deepL[n] ∈ deepL := List.getElem_mem hn4
  generalize deepL[n] = dd at hdm
  change WS K _ [.dat (intL ns), .own c, .dat (.list flatL), .dat (.list deepL), .dat (.int (tn0 : Int)), .dat gd, .dat (.list badL), .dat dd, .no, .no, .no, .no, .no, .no, .no, .no, .no] [(c, true, pl8)] _
  refine ws_seq (ws_if (wt_or (wt_not (wt_B (w_let (w_ar (p := c) (fl := true) rfl (wa_cons (w_var rfl (wa_cons (w_int (wa_nil ⟨dd, 10, pl8, rfl, by decide, rfl, hpl8, fun x pl9 hx hpl9 => ⟨ar_ok (deep_ok dd hdm) hx, ?_⟩⟩)))))))))))
  have e10 : ckB 12 x = true := by rw [ar_ck hx]; exact (deep_ck dd hdm).2 0
  rw [e10]
  refine exb (iteN rfl ?_)
  refine wt_B (w_let (w_ar (p := c) (fl := true) rfl (wa_cons (w_var rfl (wa_cons (w_int (wa_nil ⟨dd, 11, pl9, rfl, by decide, rfl, hpl9, fun x pl10 hx hpl10 => ⟨ar_ok (deep_ok dd hdm) hx, ?_⟩⟩)))))))
  have e11 : ckB 12 x = false := by rw [ar_ck hx]; exact (deep_ck dd hdm).1
  rw [e11]
  refine exb (iteN rfl (ws_next ?_))
  -- a name
  refine ws_seq (ws_set (w_signs (p := c) (fl := true) (z := "abz059") (by simp) (fun d => rfl) (by decide) (by decide) (by decide) (fun d M' => w_str ⟨rfl, rfl⟩) (wa_cons (w_draw rfl hpl10 (by decide) (by decide) fun n pl11 hn5 hpl11 => wa_nil ⟨n, pl11, rfl, by omega, rfl, hpl11, fun cs pl12 hcl hcs hpl12 => ?_⟩))))
  change WS K _ [.dat (intL ns), .own c, .dat (.list flatL), .dat (.list deepL), .dat (.int (tn0 : Int)), .dat gd, .dat (.list badL), .dat dd, .dat (.str (txt cs)), .no, .no, .no, .no, .no, .no, .no, .no] [(c, true, pl12)] _
  have hcl9 : cs.length ≤ 9 := by omega
  have hcs : ∀ c ∈ cs, c ∈ sixS := hcs
  have due : ∀ {R : PyData → Mm → Prop}, R (.bool (nmL cs)) [(c, true, pl12)] → W K (tAndV (tChain rLeI rLeI (tC (.int 1)) (tCB (rLenA K) (tCons (tVar 8) tNil)) (tC (.int 8))) (tOp rInSg (tOp (rIx K) (tVar 8) (tC (.int 0))) (tC (.str "abz")))) [.dat (intL ns), .own c, .dat (.list flatL), .dat (.list deepL), .dat (.int (tn0 : Int)), .dat gd, .dat (.list badL), .dat dd, .dat (.str (txt cs)), .no, .no, .no, .no, .no, .no, .no, .no] [(c, true, pl12)] R := fun {R} hR => by
    rw [nm_due hcs] at hR
    refine w_andV (w_chain ao_le ao_le (w_int (w_cb ac_len (wa_cons (w_var rfl (wa_nil (m1 (flens (by rw [txt_len]; omega) (fii trivial ⟨_, rfl, ?_⟩)))))))))
    rw [txt_len]
    refine iteB (fun h1 => ?_) (fun h1 => ?_)
    · have h1 : (1 : Int) ≤ (cs.length : Int) := of_decide_eq_true h1
      refine w_int (fii trivial (exb (iteB (fun h2 => ?_) (fun h2 => ?_))))
      · have h2 : (cs.length : Int) ≤ 8 := of_decide_eq_true h2
        obtain ⟨x, r, rfl⟩ : ∃ x r, cs = x :: r := by
          cases cs with
          | nil => simp at h1
          | cons x r => exact ⟨x, r, rfl⟩
        refine w_op ao_inSg (w_op ao_ix (w_var rfl (w_int ⟨by rw [txt_len]; omega, x, by rw [txt_list]; exact atI_nat (j := 0) rfl, w_str ⟨x, rfl, ?_⟩⟩)))
        have e : dueL (x :: r) = decide (x ∈ ("abz" : Str).cps.toList) := by
          unfold dueL
          rw [decide_eq_true (by omega), decide_eq_true (by omega)]; rfl
        rw [e] at hR
        exact hR
      · have h2 : ¬ (cs.length : Int) ≤ 8 := of_decide_eq_false h2
        have e : dueL cs = false := by
          unfold dueL
          rw [decide_eq_false (show ¬ cs.length ≤ 8 by omega), Bool.and_false]; rfl
        rw [e] at hR
        exact hR
    · have h1 : ¬ (1 : Int) ≤ (cs.length : Int) := of_decide_eq_false h1
      refine exb (iteN rfl ?_)
      have e : dueL cs = false := by
        unfold dueL
        rw [decide_eq_false (show ¬ 1 ≤ cs.length by omega)]; rfl
      rw [e] at hR
      exact hR
  refine ws_seq (ws_set (due ?_))
  change WS K _ [.dat (intL ns), .own c, .dat (.list flatL), .dat (.list deepL), .dat (.int (tn0 : Int)), .dat gd, .dat (.list badL), .dat dd, .dat (.str (txt cs)), .dat (.bool (nmL cs)), .no, .no, .no, .no, .no, .no, .no] [(c, true, pl12)] _
  have nmD : ∀ l, nameD (.str (txt l)) = nmL l := fun l => nameB_txt l
  refine ws_seq (ws_if (wt_or (wt_not (wt_B (w_exB (wa_cons (w_nm (w_var rfl ⟨short_txt (by omega), ?_⟩))))))))
  rw [nmD]
  refine wa_cons (w_var rfl (wa_nil ⟨_, rfl, exb (iteN rfl ?_)⟩))
  refine wt_or (wt_test (w_op ao_notB (w_nm (w_op ao_plus (w_var rfl (w_str ⟨by rw [txt_len]; show cs.length + 1 ≤ _; omega, ?_⟩))))))
  rw [app_txt, txt_list]
  refine ⟨short_txt (by rw [List.length_append]; show cs.length + 1 ≤ _; omega), ?_⟩
  rw [nmD, nmU]
  refine w_bl (fisb (exb (iteN rfl ?_)))
  refine wt_test (w_op ao_notB (w_nm (w_lst (wa_cons (w_var rfl (wa_nil (m1 ⟨by simp, trivial, w_bl (fisb (exb (iteN rfl (ws_next ?_))))⟩)))))))
  -- names made of it
  have pre5 : ∀ {z : Str} {R : PyData → Mm → Prop}, z.length = 1 → R (.str (txt (("a" : Str).cps.toList ++ cs.take 5 ++ z.cps.toList))) [(c, true, pl12)] → W K (tOp (rPlus K) (tOp (rPlus K) (tC (.str "a")) (tSl (rSl K) (tVar 8) tNoPart (tPart (tC (.int 5))))) (tC (.str z))) [.dat (intL ns), .own c, .dat (.list flatL), .dat (.list deepL), .dat (.int (tn0 : Int)), .dat gd, .dat (.list badL), .dat dd, .dat (.str (txt cs)), .dat (.bool (nmL cs)), .no, .no, .no, .no, .no, .no, .no] [(c, true, pl12)] R := fun {z R} hz hR => by
    have cl : (cutS (txt cs) none (some 5)).length ≤ 5 := by
      show (cutS (txt cs) none (some 5)).cps.size ≤ 5
      rw [← Array.length_toList, cut5, List.length_take]; omega
    refine w_op ao_plus (w_op ao_plus (w_str (w_sl (w_var rfl (wo_none (wo_some (w_int ⟨5, rfl, by rw [txt_len]; omega, ⟨by show 1 + _ ≤ _; omega, w_str ⟨?_, ?_⟩⟩⟩)))))))
    · show ("a" ++ cutS (txt cs) none (some 5)).cps.size + z.length ≤ _
      rw [app_txt]
      show (txt _).length + z.length ≤ _
      rw [txt_len, List.length_append, cut5, List.length_take]
      show 1 + _ + _ ≤ _
      omega
    · rw [app_txt, app_txt, txt_list, cut5]
      exact hR
  have len7 : ∀ {z : Str}, z.length = 1 → (("a" : Str).cps.toList ++ cs.take 5 ++ z.cps.toList).length ≤ 1000 := fun {z} hz => by
    rw [List.length_append, List.length_append, List.length_take, Array.length_toList, Array.length_toList]
    show 1 + _ + z.length ≤ _
    omega
  refine ws_seq (ws_if (wt_or (wt_test (w_op ao_notB (w_nm (pre5 rfl ⟨short_txt (len7 rfl), ?_⟩))))))
  rw [nmD, nmB]
  refine w_bl (fisb (exb (iteN rfl ?_)))
  refine wt_test (w_op ao_notB (w_nm (pre5 rfl ⟨short_txt (len7 rfl), ?_⟩)))
  rw [nmD, nm9 hcs]
  refine w_bl (fisb (exb (iteN rfl (ws_next ?_))))
  -- base values
  refine ws_seq (ws_for ga_name (wi_seq (w_lst (wa_cons (w_str (wa_cons (w_str (wa_cons (w_str (wa_nil (m3 ⟨by simp, exql ⟨fun i as' M' => ∃ x y z pl', as' = [.dat (intL ns), .own c, .dat (.list flatL), .dat (.list deepL), .dat (.int (tn0 : Int)), .dat gd, .dat (.list badL), .dat dd, .dat (.str (txt cs)), .dat (.bool (nmL cs)), x, y, z, .no, .no, .no, .no] ∧ M' = [(c, true, pl')] ∧ poolD pl', ⟨_, _, _, pl12, rfl, rfl, hpl12⟩, ?_, ?_⟩⟩)))))))))))
  · rintro i k as' M' hk ⟨x, y, z, pl', rfl, rfl, hpl'⟩
    have hk3 : ∃ kz : Str, k = .str kz ∧ threeK kz := by
      have := List.mem_of_getElem? hk
      simp only [List.mem_cons, List.mem_nil_iff, or_false] at this
      rcases this with rfl | rfl | rfl
      · exact ⟨_, rfl, .inl rfl⟩
      · exact ⟨_, rfl, .inr (.inl rfl)⟩
      · exact ⟨_, rfl, .inr (.inr rfl)⟩
    obtain ⟨kz, rfl, hkz⟩ := hk3
    refine ws_seq (ws_set (w_callQ (wa_mut rfl (wa_cons (w_var rfl (wa_nil ⟨c, true, pl', [.str kz], rfl, rfl, hpl', ⟨kz, rfl, hkz⟩, fun v pl2 hpl2 hv => ?_⟩))))))
    have hv := hv kz rfl
    refine ws_for ga_name (wi_seq (w_lst (wa_cons (w_str (wa_cons (w_str (wa_cons (w_str (wa_nil (m3 ⟨by simp, exql ⟨fun i as' M' => ∃ z, as' = [.dat (intL ns), .own c, .dat (.list flatL), .dat (.list deepL), .dat (.int (tn0 : Int)), .dat gd, .dat (.list badL), .dat dd, .dat (.str (txt cs)), .dat (.bool (nmL cs)), .dat (.str kz), .dat v, z, .no, .no, .no, .no] ∧ M' = [(c, true, pl2)], ⟨_, rfl, rfl⟩, ?_, ?_⟩⟩))))))))))
    · rintro i k as' M' hk ⟨z, rfl, rfl⟩
      have hk3 : ∃ kz : Str, k = .str kz ∧ threeK kz := by
        have := List.mem_of_getElem? hk
        simp only [List.mem_cons, List.mem_nil_iff, or_false] at this
        rcases this with rfl | rfl | rfl
        · exact ⟨_, rfl, .inl rfl⟩
        · exact ⟨_, rfl, .inr (.inl rfl)⟩
        · exact ⟨_, rfl, .inr (.inr rfl)⟩
      obtain ⟨ko, rfl, hko⟩ := hk3
      have lay3 : ∀ {k : Str}, threeK k → (PyData.str k).canLay0 = true := fun {k} h => by rcases h with rfl | rfl | rfl <;> decide +kernel
      refine ws_if (wt_not (wt_B (w_exB (wa_cons (w_ft (wa_cons (w_var rfl (wa_cons (w_var rfl (wa_nil ⟨v, ko, rfl, hv.1, hko, ?_⟩))))))))))
      rw [hv.2 ko hko]
      refine wa_cons (w_op ao_eqW (w_var rfl (w_var rfl (feqW (lay3 hko) (lay3 hkz) (by simp [PyData.depth]) (wa_nil ⟨decide (ko = kz), ?_, exb (iteN rfl (ws_next ⟨_, rfl, rfl⟩))⟩)))))
      have e : PyData.eqv (.str ko) (.str kz) = decide (ko = kz) := by
        show (ko == kz) = _
        rw [Bool.eq_iff_iff]; simp
      rw [e]
    · rintro as' M' ⟨z, rfl, rfl⟩
      exact ⟨_, _, _, pl2, rfl, rfl, hpl2⟩
  · rintro as' M' ⟨x, y, z, pl', rfl, rfl, hpl'⟩
    -- numbers that are too great
    refine ws_seq (ws_set (w_op ao_plus (w_op ao_pow (w_int (w_int (fii (by refine ⟨by decide, by decide, by decide⟩) (w_draw rfl hpl' (by decide) (by decide) fun n pl2 hn6 hpl2 => fpi ?_)))))))
    have e30 : (30 : Int).toNat = 30 := rfl
    rw [e30]
    have far1 : fitB (.int (10 ^ 30 + (n : Int))) "int" = false := by rw [fitB_int]; exact far_fit (by omega)
    have far2 : fitB (.int (0 - (10 ^ 30 + (n : Int)))) "int" = false := by rw [fitB_int]; exact far_fit (by omega)
    refine ws_seq (ws_if (wt_or (wt_test (w_op ao_notB (w_ft (wa_cons (w_var rfl (wa_cons (w_str (wa_nil ⟨_, _, rfl, trivial, .inl rfl, ?_⟩))))))))))
    rw [far1]
    refine w_bl (fisb (exb (iteN rfl ?_)))
    refine wt_or (wt_test (w_op ao_notB (w_ft (wa_cons (w_op ao_sub (w_int (w_var rfl (fii trivial (wa_cons (w_str (wa_nil ⟨_, _, rfl, trivial, .inl rfl, ?_⟩)))))))))))
    rw [far2]
    refine w_bl (fisb (exb (iteN rfl ?_)))
    refine wt_test (w_op ao_notB (w_ft (wa_cons (w_non (wa_cons (w_str (wa_nil ⟨_, _, rfl, trivial, .inl rfl, w_bl (fisb (exb (iteN rfl (ws_next ?_))))⟩)))))))
    -- texts
    refine ws_seq (ws_set (w_signs (p := c) (fl := true) (z := "abz059") (by simp) (fun d => rfl) (by decide) (by decide) (by decide) (fun d M' => w_str ⟨rfl, rfl⟩) (wa_cons (w_draw rfl hpl2 (by decide) (by decide) fun n2 pl3 hn7 hpl3 => wa_nil ⟨n2, pl3, rfl, by omega, rfl, hpl3, fun ts pl4 htl hts hpl4 => ?_⟩))))
    have hts : ∀ c ∈ ts, c ∈ sixS := hts
    have ht11 : ts.length ≤ 11 := by omega
    refine ws_seq (ws_set (w_op ao_ix (w_lst (wa_cons (w_str (wa_cons (w_str (wa_cons (w_str (wa_cons (w_str (wa_nil ⟨[.str "\"", .str "\\", .str "\n", .str "\t"], rfl, by simp, w_draw rfl hpl4 (by decide) (by decide) fun n3 pl5 hn8 hpl5 => ?_⟩))))))))))))
    have odd : ∃ o : Str, ([PyData.str "\"", .str "\\", .str "\n", .str "\t"] : List PyData)[n3]? = some (.str o) ∧ o.length = 1 ∧ ∃ q, q ∈ o.cps.toList ∧ signB q = false := by
      have h4 : n3 = 0 ∨ n3 = 1 ∨ n3 = 2 ∨ n3 = 3 := by omega
      rcases h4 with rfl | rfl | rfl | rfl
      · exact ⟨_, rfl, rfl, 34, by decide +kernel, by decide +kernel⟩
      · exact ⟨_, rfl, rfl, 92, by decide +kernel, by decide +kernel⟩
      · exact ⟨_, rfl, rfl, 10, by decide +kernel, by decide +kernel⟩
      · exact ⟨_, rfl, rfl, 9, by decide +kernel, by decide +kernel⟩
    obtain ⟨o, ho, hol, qx, hq, hqs⟩ := odd
    refine fixl (atI_nat ho) ?_
    refine ws_seq (ws_if (wt_or (wt_test (w_op ao_notB (w_ft (wa_cons (w_var rfl (wa_cons (w_str (wa_nil ⟨_, _, rfl, short_txt (by omega), .inr (.inl rfl), ?_⟩))))))))))
    rw [show fitB (.str (txt ts)) "text" = true from fit_six (by omega) hts]
    refine w_bl (fisb (exb (iteN rfl ?_)))
    refine wt_test (w_op ao_notB (w_ft (wa_cons (w_op ao_plus (w_var rfl (w_var rfl ⟨by rw [txt_len]; omega, ?_⟩))))))
    rw [app_txt, txt_list]
    refine wa_cons (w_str (wa_nil ⟨_, _, rfl, short_txt (by rw [List.length_append, Array.length_toList]; show ts.length + o.length ≤ _; omega), .inr (.inl rfl), ?_⟩))
    rw [show fitB (.str (txt (ts ++ o.cps.toList))) "text" = false from fit_odd (List.mem_append_right _ hq) hqs]
    refine w_bl (fisb (exb (iteN rfl (ws_next ?_))))
    refine ws_ret (w_exB (wa_cons (w_ft (wa_cons (w_op ao_plus (w_str (w_var rfl ⟨by rw [txt_len]; show 12 + ts.length ≤ _; omega, ?_⟩)))))))
    refine wa_cons (w_str (wa_nil ⟨_, _, rfl, ?_, .inr (.inl rfl), ?_⟩))
    · rw [app_txt, txt_list]
      exact short_txt (by rw [List.length_append]; show 12 + ts.length ≤ _; omega)
    rw [show fitB (.str ("abcdefghijkl" ++ txt ts)) "text" = _ from fit12 (by omega) hts]
    refine wa_cons (w_op ao_eqW (w_var rfl (w_str (feqW (lay_txt hts) (by decide +kernel) (by simp [PyData.depth]) (wa_nil ⟨_, rfl, rfl⟩)))))
end
end K1

set_option Elab.async false
set_option linter.all false
set_option maxRecDepth 100000
set_option maxHeartbeats 4000000
namespace K1
open PySem PySem.Spec PyProof.Rows L2 Ab
/-! ### what the top has written -/
/-- a def's name, its object, its code -/
structure DefIn (K : PySem.W.Frag) (x : Str) (st : Stmt) (f : Addr) : Prop where
  ex : ∃ (oc kV dc pm cd ct : Value) (od an : Option Addr) (sl : Array (Option Value)), K.lookup f = some ⟨oc, od, .func (PySem.W.fnOf x x (defArgs st) (defBody st) (defScope st) .none kV dc pm an cd ct), sl⟩ ∧ PySem.W.codeIn K cd x = true
  nm : PySem.W.nsIn K mainGlobals x = some (some (.ref f))
  kp : PySem.W.keepIn K (.ref f) = true
theorem DefIn.of {K : PySem.W.Frag} {x : Str} {st : Stmt} {f : Addr} {oc kV dc pm cd ct : Value} {od an : Option Addr} {sl : Array (Option Value)} (h3 : PySem.W.nsIn K mainGlobals x = some (some (.ref f)))
    (h1 : K.lookup f = some ⟨oc, od, .func (PySem.W.fnOf x x (defArgs st) (defBody st) (defScope st) .none kV dc pm an cd ct), sl⟩) (h2 : PySem.W.codeIn K cd x = true) (h4 : PySem.W.keepIn K (.ref f) = true) : DefIn K x st f := ⟨⟨_, _, _, _, _, _, _, _, _, h1, h2⟩, h3, h4⟩
theorem gs_of {K : PySem.W.Frag} {x z : Str} {t : Nat} (h : PySem.W.nsIn K mainGlobals x = some (some (.str z t))) : ∃ t, PySem.W.nsIn K mainGlobals x = some (some (.str z t)) := ⟨t, h⟩
theorem gi_of {K : PySem.W.Frag} {x : Str} {z : Int} {t : Nat} (h : PySem.W.nsIn K mainGlobals x = some (some (.int z t))) : ∃ t, PySem.W.nsIn K mainGlobals x = some (some (.int z t)) := ⟨t, h⟩
theorem te_of {K : PySem.W.Frag} {C : Addr} (h1 : PySem.W.subIn K (.ref C) (.type "BaseException") = some true) (h2 : PySem.W.isClsIn K C = true) (h3 : PySem.W.typeIn K (.ref C) = some (.type "type")) (h4 : PySem.W.subIn K (.ref C) (.ref C) = some true) : PySem.W.exmOne K (.ref C) (.ref C) = some true := by
  have h2' : (PySem.W.clsIn K C).isSome = true := h2
  unfold PySem.W.exmOne PySem.W.kitCls
  simp [h1, h2', h3, h4]
theorem ki_of {K : PySem.W.Frag} {C : Addr} : PySem.W.kitOne K (.ref C) (.ref C) = some true := by
  unfold PySem.W.kitOne
  rw [if_pos (beq_self_eq_true _)]
theorem dp_ints {K : PySem.W.Frag} {H : Hp} {a : Addr} {ns : List Int} (h : SqL K H a (ns.map V.int)) : Dp K (Hide (fun _ => false) H) (.ref a) (intL ns) := by
  have sm : Same H (Hide (fun _ => false) H) := fun b o e => by rw [hide_f rfl]; exact e
  refine .lst (sm.seq h) ?_
  clear h
  induction ns with
  | nil => exact .nil
  | cons n ns ih => exact .cons (.int n) ih
section
variable {K : PySem.W.Frag} {h : Heap} {mg : Str → Option Value} {f : Addr} (X : K.In h) (G : h.Ns mainGlobals mg)
include X G
theorem d_is_integer (D : DefIn K "is_integer" s_is_integer f) : Dfn K mg "is_integer" s_is_integer ["thing"] := by
  obtain ⟨oc, kV, dc, pm, cd, ct, od, an, sl, l, c⟩ := D.ex
  have F := fun_mk (st := s_is_integer) l c D.kp
  exact ⟨f, _, F, PySem.W.mg_of X G D.nm, F.binds (ps := ["thing"]) fun _ _ _ _ _ _ us hl => match us, hl with | [_], _ => rfl⟩
theorem d_is_sequence (D : DefIn K "is_sequence" s_is_sequence f) : Dfn K mg "is_sequence" s_is_sequence ["thing"] := by
  obtain ⟨oc, kV, dc, pm, cd, ct, od, an, sl, l, c⟩ := D.ex
  have F := fun_mk (st := s_is_sequence) l c D.kp
  exact ⟨f, _, F, PySem.W.mg_of X G D.nm, F.binds (ps := ["thing"]) fun _ _ _ _ _ _ us hl => match us, hl with | [_], _ => rfl⟩
theorem d_is_couple (D : DefIn K "is_couple" s_is_couple f) : Dfn K mg "is_couple" s_is_couple ["thing"] := by
  obtain ⟨oc, kV, dc, pm, cd, ct, od, an, sl, l, c⟩ := D.ex
  have F := fun_mk (st := s_is_couple) l c D.kp
  exact ⟨f, _, F, PySem.W.mg_of X G D.nm, F.binds (ps := ["thing"]) fun _ _ _ _ _ _ us hl => match us, hl with | [_], _ => rfl⟩
theorem d_is_ascending (D : DefIn K "is_ascending" s_is_ascending f) : Dfn K mg "is_ascending" s_is_ascending ["things"] := by
  obtain ⟨oc, kV, dc, pm, cd, ct, od, an, sl, l, c⟩ := D.ex
  have F := fun_mk (st := s_is_ascending) l c D.kp
  exact ⟨f, _, F, PySem.W.mg_of X G D.nm, F.binds (ps := ["things"]) fun _ _ _ _ _ _ us hl => match us, hl with | [_], _ => rfl⟩
theorem d_is_name (D : DefIn K "is_name" s_is_name f) : Dfn K mg "is_name" s_is_name ["thing"] := by
  obtain ⟨oc, kV, dc, pm, cd, ct, od, an, sl, l, c⟩ := D.ex
  have F := fun_mk (st := s_is_name) l c D.kp
  exact ⟨f, _, F, PySem.W.mg_of X G D.nm, F.binds (ps := ["thing"]) fun _ _ _ _ _ _ us hl => match us, hl with | [_], _ => rfl⟩
theorem d_is_text_sign (D : DefIn K "is_text_sign" s_is_text_sign f) : Dfn K mg "is_text_sign" s_is_text_sign ["sign"] := by
  obtain ⟨oc, kV, dc, pm, cd, ct, od, an, sl, l, c⟩ := D.ex
  have F := fun_mk (st := s_is_text_sign) l c D.kp
  exact ⟨f, _, F, PySem.W.mg_of X G D.nm, F.binds (ps := ["sign"]) fun _ _ _ _ _ _ us hl => match us, hl with | [_], _ => rfl⟩
theorem d_fits_base (D : DefIn K "fits_base" s_fits_base f) : Dfn K mg "fits_base" s_fits_base ["value", "kind"] := by
  obtain ⟨oc, kV, dc, pm, cd, ct, od, an, sl, l, c⟩ := D.ex
  have F := fun_mk (st := s_fits_base) l c D.kp
  exact ⟨f, _, F, PySem.W.mg_of X G D.nm, F.binds (ps := ["value", "kind"]) fun _ _ _ _ _ _ us hl => match us, hl with | [_, _], _ => rfl⟩
theorem d_is_base (D : DefIn K "is_base" s_is_base f) : Dfn K mg "is_base" s_is_base ["kind"] := by
  obtain ⟨oc, kV, dc, pm, cd, ct, od, an, sl, l, c⟩ := D.ex
  have F := fun_mk (st := s_is_base) l c D.kp
  exact ⟨f, _, F, PySem.W.mg_of X G D.nm, F.binds (ps := ["kind"]) fun _ _ _ _ _ _ us hl => match us, hl with | [_], _ => rfl⟩
theorem d_check_kind (D : DefIn K "check_kind" s_check_kind f) : Dfn K mg "check_kind" s_check_kind ["kind"] := by
  obtain ⟨oc, kV, dc, pm, cd, ct, od, an, sl, l, c⟩ := D.ex
  have F := fun_mk (st := s_check_kind) l c D.kp
  exact ⟨f, _, F, PySem.W.mg_of X G D.nm, F.binds (ps := ["kind"]) fun _ _ _ _ _ _ us hl => match us, hl with | [_], _ => rfl⟩
theorem d_checked_kind (D : DefIn K "_checked_kind" s_checked_kind f) : Dfn K mg "_checked_kind" s_checked_kind ["kind", "room"] := by
  obtain ⟨oc, kV, dc, pm, cd, ct, od, an, sl, l, c⟩ := D.ex
  have F := fun_mk (st := s_checked_kind) l c D.kp
  exact ⟨f, _, F, PySem.W.mg_of X G D.nm, F.binds (ps := ["kind", "room"]) fun _ _ _ _ _ _ us hl => match us, hl with | [_, _], _ => rfl⟩
theorem d_checked_couples (D : DefIn K "_checked_couples" s_checked_couples f) : Dfn K mg "_checked_couples" s_checked_couples ["couples", "room"] := by
  obtain ⟨oc, kV, dc, pm, cd, ct, od, an, sl, l, c⟩ := D.ex
  have F := fun_mk (st := s_checked_couples) l c D.kp
  exact ⟨f, _, F, PySem.W.mg_of X G D.nm, F.binds (ps := ["couples", "room"]) fun _ _ _ _ _ _ us hl => match us, hl with | [_, _], _ => rfl⟩
theorem d_law_pool (D : DefIn K "_law_pool" s_law_pool f) : Dfn K mg "_law_pool" s_law_pool ["_law_script", "_law_at"] := by
  obtain ⟨oc, kV, dc, pm, cd, ct, od, an, sl, l, c⟩ := D.ex
  have F := fun_mk (st := s_law_pool) l c D.kp
  exact ⟨f, _, F, PySem.W.mg_of X G D.nm, F.binds (ps := ["_law_script", "_law_at"]) fun _ _ _ _ _ _ us hl => match us, hl with | [_, _], _ => rfl⟩
theorem d_law_draw (D : DefIn K "_law_draw" s_law_draw f) : Dfn K mg "_law_draw" s_law_draw ["_law_pool_here", "_law_many"] := by
  obtain ⟨oc, kV, dc, pm, cd, ct, od, an, sl, l, c⟩ := D.ex
  have F := fun_mk (st := s_law_draw) l c D.kp
  exact ⟨f, _, F, PySem.W.mg_of X G D.nm, F.binds (ps := ["_law_pool_here", "_law_many"]) fun _ _ _ _ _ _ us hl => match us, hl with | [_, _], _ => rfl⟩
theorem d_law_exact (D : DefIn K "_law_exact" s_law_exact f) : Dfn K mg "_law_exact" s_law_exact ["_law_told", "_law_due"] := by
  obtain ⟨oc, kV, dc, pm, cd, ct, od, an, sl, l, c⟩ := D.ex
  have F := fun_mk (st := s_law_exact) l c D.kp
  exact ⟨f, _, F, PySem.W.mg_of X G D.nm, F.binds (ps := ["_law_told", "_law_due"]) fun _ _ _ _ _ _ us hl => match us, hl with | [_, _], _ => rfl⟩
theorem d_law_base_value (D : DefIn K "_law_base_value" s_law_base_value f) : Dfn K mg "_law_base_value" s_law_base_value ["_law_pool_here", "_law_kind"] := by
  obtain ⟨oc, kV, dc, pm, cd, ct, od, an, sl, l, c⟩ := D.ex
  have F := fun_mk (st := s_law_base_value) l c D.kp
  exact ⟨f, _, F, PySem.W.mg_of X G D.nm, F.binds (ps := ["_law_pool_here", "_law_kind"]) fun _ _ _ _ _ _ us hl => match us, hl with | [_, _], _ => rfl⟩
theorem d_law_bad_kinds (D : DefIn K "_law_bad_kinds" s_law_bad_kinds f) : Dfn K mg "_law_bad_kinds" s_law_bad_kinds [] := by
  obtain ⟨oc, kV, dc, pm, cd, ct, od, an, sl, l, c⟩ := D.ex
  have F := fun_mk (st := s_law_bad_kinds) l c D.kp
  exact ⟨f, _, F, PySem.W.mg_of X G D.nm, F.binds (ps := []) fun _ _ _ _ _ _ us hl => match us, hl with | [], _ => rfl⟩
theorem d_law_good_kinds (D : DefIn K "_law_good_kinds" s_law_good_kinds f) : Dfn K mg "_law_good_kinds" s_law_good_kinds [] := by
  obtain ⟨oc, kV, dc, pm, cd, ct, od, an, sl, l, c⟩ := D.ex
  have F := fun_mk (st := s_law_good_kinds) l c D.kp
  exact ⟨f, _, F, PySem.W.mg_of X G D.nm, F.binds (ps := []) fun _ _ _ _ _ _ us hl => match us, hl with | [], _ => rfl⟩
theorem d_law_around (D : DefIn K "_law_around" s_law_around f) : Dfn K mg "_law_around" s_law_around ["_law_pool_here", "_law_kind", "_law_turns"] := by
  obtain ⟨oc, kV, dc, pm, cd, ct, od, an, sl, l, c⟩ := D.ex
  have F := fun_mk (st := s_law_around) l c D.kp
  exact ⟨f, _, F, PySem.W.mg_of X G D.nm, F.binds (ps := ["_law_pool_here", "_law_kind", "_law_turns"]) fun _ _ _ _ _ _ us hl => match us, hl with | [_, _, _], _ => rfl⟩
theorem d_law_let_by (D : DefIn K "_law_let_by" s_law_let_by f) : Dfn K mg "_law_let_by" s_law_let_by ["_law_kind"] := by
  obtain ⟨oc, kV, dc, pm, cd, ct, od, an, sl, l, c⟩ := D.ex
  have F := fun_mk (st := s_law_let_by) l c D.kp
  exact ⟨f, _, F, PySem.W.mg_of X G D.nm, F.binds (ps := ["_law_kind"]) fun _ _ _ _ _ _ us hl => match us, hl with | [_], _ => rfl⟩
end
/-- the world in which the law stands -/
theorem all_mk {l : PySem.W.OpenLaw} {w : World} {K : PySem.W.Frag} {h : Heap} {mg : Str → Option Value} {fa : Addr} (X : K.In h) (G : h.Ns mainGlobals mg) (hfa : mg "law" = some (.ref fa))
    {f_is_integer f_is_sequence f_is_couple f_is_ascending f_is_name f_is_text_sign f_fits_base f_is_base f_check_kind f_checked_kind f_checked_couples f_law_pool f_law_draw f_law_exact f_law_base_value f_law_bad_kinds f_law_good_kinds f_law_around f_law_let_by f_law : Addr}
    (D_is_integer : DefIn K "is_integer" s_is_integer f_is_integer)
    (D_is_sequence : DefIn K "is_sequence" s_is_sequence f_is_sequence)
    (D_is_couple : DefIn K "is_couple" s_is_couple f_is_couple)
    (D_is_ascending : DefIn K "is_ascending" s_is_ascending f_is_ascending)
    (D_is_name : DefIn K "is_name" s_is_name f_is_name)
    (D_is_text_sign : DefIn K "is_text_sign" s_is_text_sign f_is_text_sign)
    (D_fits_base : DefIn K "fits_base" s_fits_base f_fits_base)
    (D_is_base : DefIn K "is_base" s_is_base f_is_base)
    (D_check_kind : DefIn K "check_kind" s_check_kind f_check_kind)
    (D_checked_kind : DefIn K "_checked_kind" s_checked_kind f_checked_kind)
    (D_checked_couples : DefIn K "_checked_couples" s_checked_couples f_checked_couples)
    (D_law_pool : DefIn K "_law_pool" s_law_pool f_law_pool)
    (D_law_draw : DefIn K "_law_draw" s_law_draw f_law_draw)
    (D_law_exact : DefIn K "_law_exact" s_law_exact f_law_exact)
    (D_law_base_value : DefIn K "_law_base_value" s_law_base_value f_law_base_value)
    (D_law_bad_kinds : DefIn K "_law_bad_kinds" s_law_bad_kinds f_law_bad_kinds)
    (D_law_good_kinds : DefIn K "_law_good_kinds" s_law_good_kinds f_law_good_kinds)
    (D_law_around : DefIn K "_law_around" s_law_around f_law_around)
    (D_law_let_by : DefIn K "_law_let_by" s_law_let_by f_law_let_by)
    (D_law : DefIn K "law" s_law f_law)
    (z_abs : PySem.W.nsIn K mainGlobals "abs" = some none)
    (z_all : PySem.W.nsIn K mainGlobals "all" = some none)
    (z_bool : PySem.W.nsIn K mainGlobals "bool" = some none)
    (z_int : PySem.W.nsIn K mainGlobals "int" = some none)
    (z_isinstance : PySem.W.nsIn K mainGlobals "isinstance" = some none)
    (z_len : PySem.W.nsIn K mainGlobals "len" = some none)
    (z_list : PySem.W.nsIn K mainGlobals "list" = some none)
    (z_ord : PySem.W.nsIn K mainGlobals "ord" = some none)
    (z_range : PySem.W.nsIn K mainGlobals "range" = some none)
    (z_str : PySem.W.nsIn K mainGlobals "str" = some none)
    (z_tuple : PySem.W.nsIn K mainGlobals "tuple" = some none)
    (gv0 : ∃ t, PySem.W.nsIn K mainGlobals "LETTERS" = some (some (.str "abcdefghijklmnopqrstuvwxyz" t)))
    (gv1 : ∃ t, PySem.W.nsIn K mainGlobals "NAME_SIGNS" = some (some (.str "abcdefghijklmnopqrstuvwxyz0123456789" t)))
    (gv2 : ∃ t, PySem.W.nsIn K mainGlobals "MOST_NAME_SIGNS" = some (some (.int 8 t)))
    (gv3 : ∃ t, PySem.W.nsIn K mainGlobals "MOST_TEXT_SIGNS" = some (some (.int 12 t)))
    (gv4 : ∃ t, PySem.W.nsIn K mainGlobals "MOST_FIELDS" = some (some (.int 5 t)))
    (gv5 : ∃ t, PySem.W.nsIn K mainGlobals "MOST_DEEP" = some (some (.int 12 t)))
    {aB : Addr} {odB : Option Addr} {itB : Array Value} {nB : Nat} {slB : Array (Option Value)}
    (b1 : PySem.W.nsIn K mainGlobals "BASE_KINDS" = some (some (.ref aB)))
    (b2 : K.lookup aB = some ⟨.type "tuple", odB, .seq itB nB, slB⟩)
    (b3 : ∃ t1 t2 t3, itB = #[.str "int" t1, .str "text" t2, .str "truth" t3])
    {C : Addr}
    (e1 : PySem.W.nsIn K mainGlobals "BadKind" = some (some (.ref C)))
    (e2 : PySem.W.excIn K C [.type "ValueError", .type "Exception", .type "BaseException", .type "object"] "ValueError.__new__" = true)
    (e3 : PySem.W.keepIn K (.ref C) = true) (e4 : PySem.W.subIn K (.ref C) (.type "BaseException") = some true) (e5 : PySem.W.typeIn K (.ref C) = some (.type "type")) (e6 : PySem.W.isClsIn K C = true) (e7 : PySem.W.subIn K (.ref C) (.ref C) = some true)
    (e8 : PySem.W.findIn K (.ref C) "__getattribute__" = some (some (.builtin "BaseException.__getattribute__"))) (e9 : PySem.W.findIn K (.ref C) "__getattr__" = some none) (e10 : PySem.W.hasDictIn K C = true) (e11 : PySem.W.findIn K (.ref C) "__class__" = some (some (.builtin "object.__class__")))
    (e12 : PySem.W.specialIn K (.builtin "object.__class__") "__get__" = some (some (.builtin "getset_descriptor.__get__"))) (e13 : PySem.W.takesIn K (.builtin "object.__class__") = some true) (e14 : PySem.W.mroIn K C (.type "object") = some true) :
    ∃ fd : FuncData, (∀ (s : Shared) (v : Value), BindsTo s fd ⟨[v], []⟩ [("_law_script", v)]) ∧ ∀ base : Heap, K.In base → base.Ns mainGlobals mg → FnOk l.prog w K mg base CX0 29 fa fd ["_law_script"] (spLaw K) := by
  have e := hfa.symm.trans (PySem.W.mg_of X G D_law.nm)
  cases e
  have T : Txt K mg aB :=
    { n_abs := PySem.W.mg_none_of X G z_abs,
      n_all := PySem.W.mg_none_of X G z_all,
      n_bool := PySem.W.mg_none_of X G z_bool,
      n_int := PySem.W.mg_none_of X G z_int,
      n_isinstance := PySem.W.mg_none_of X G z_isinstance,
      n_len := PySem.W.mg_none_of X G z_len,
      n_list := PySem.W.mg_none_of X G z_list,
      n_ord := PySem.W.mg_none_of X G z_ord,
      n_range := PySem.W.mg_none_of X G z_range,
      n_str := PySem.W.mg_none_of X G z_str,
      n_tuple := PySem.W.mg_none_of X G z_tuple,
      g_LETTERS := gv0.elim fun t e => ⟨t, PySem.W.mg_of X G e⟩,
      g_NAME_SIGNS := gv1.elim fun t e => ⟨t, PySem.W.mg_of X G e⟩,
      g_MOST_NAME_SIGNS := gv2.elim fun t e => ⟨t, PySem.W.mg_of X G e⟩,
      g_MOST_TEXT_SIGNS := gv3.elim fun t e => ⟨t, PySem.W.mg_of X G e⟩,
      g_MOST_FIELDS := gv4.elim fun t e => ⟨t, PySem.W.mg_of X G e⟩,
      g_MOST_DEEP := gv5.elim fun t e => ⟨t, PySem.W.mg_of X G e⟩,
      g_BASE_KINDS := PySem.W.mg_of X G b1,
      k_BASE_KINDS := fun H => by
        obtain ⟨t1, t2, t3, rfl⟩ := b3
        exact .tup (xs := [.str "int", .str "text", .str "truth"]) (.inr ⟨_, _, _, b2, rfl, rfl, by show 3 ≤ sizeLine; decide, .cons ⟨_, rfl⟩ (.cons ⟨_, rfl⟩ (.cons ⟨_, rfl⟩ .nil))⟩) (.cons (.str _) (.cons (.str _) (.cons (.str _) .nil))) }
  have N : BkT K mg C := ⟨PySem.W.mg_of X G e1, e2, e3, e4, e5, te_of e4 e6 e5 e7, ⟨e8, e9, e4, e10, e11, e12, e13, e14⟩, ki_of⟩
  obtain ⟨oc, kV, dc, pm, cd, ct, od, an, sl, ll, lc⟩ := D_law.ex
  have FL := fun_mk (st := s_law) ll lc D_law.kp
  refine ⟨PySem.W.fnOf "law" "law" (defArgs s_law) (defBody s_law) (defScope s_law) .none kV dc pm an cd ct, fun s v => .of_eq rfl, fun base KB GB => ?_⟩
  have c1 := ok_is_integer (P := l.prog) (w := w) (base := base) T (d_is_integer X G D_is_integer)
  have c2 := ok_is_sequence (P := l.prog) (w := w) (base := base) T (d_is_sequence X G D_is_sequence)
  have c3 := ok_is_couple (P := l.prog) (w := w) (base := base) T (d_is_couple X G D_is_couple) c2
  have c4 := ok_is_ascending (P := l.prog) (w := w) (base := base) T (d_is_ascending X G D_is_ascending)
  have c5 := ok_is_name (P := l.prog) (w := w) (base := base) T (d_is_name X G D_is_name)
  have c6 := ok_is_base (P := l.prog) (w := w) (base := base) T (d_is_base X G D_is_base)
  have c7 := ok_is_text_sign (P := l.prog) (w := w) (base := base) T (d_is_text_sign X G D_is_text_sign)
  have c8 := ok_fits_base (P := l.prog) (w := w) (base := base) T (d_fits_base X G D_fits_base) c1 c7
  have c9 := ok_checked_kind (P := l.prog) (w := w) (base := base) T N (d_checked_kind X G D_checked_kind) (d_checked_couples X G D_checked_couples) c2 c1 c3 c5 c4 c6 12
  have c10 := ok_check_kind (P := l.prog) (w := w) (base := base) T N (d_check_kind X G D_check_kind) c9
  have q1 := ok_law_pool (P := l.prog) (w := w) (base := base) T (d_law_pool X G D_law_pool)
  have q2 := ok_law_draw (P := l.prog) (w := w) (base := base) T (d_law_draw X G D_law_draw)
  have q3 := ok_law_exact (P := l.prog) (w := w) (base := base) T (d_law_exact X G D_law_exact)
  have q4 := ok_law_base_value (P := l.prog) (w := w) (base := base) T (d_law_base_value X G D_law_base_value) q2
  have q5 := ok_law_bad_kinds (P := l.prog) (w := w) (base := base) T (d_law_bad_kinds X G D_law_bad_kinds)
  have q6 := ok_law_good_kinds (P := l.prog) (w := w) (base := base) T (d_law_good_kinds X G D_law_good_kinds)
  have q7 := ok_law_around (P := l.prog) (w := w) (base := base) T (d_law_around X G D_law_around) q2
  have q8 := ok_law_let_by (P := l.prog) (w := w) (base := base) T N (d_law_let_by X G D_law_let_by) c10
  exact ok_law T FL q1 q2 q3 q4 q5 q6 q7 q8 c5 c8
end K1

set_option Elab.async false
set_option linter.all false
open PySem PySem.W PyProof.Rows
set_option maxRecDepth 100000 in
set_option maxHeartbeats 0 in
theorem PySem.Challenge.cw_listasks_k01_kinds_and_values_let_by_or_holds : PySem.Challenge.rw_listasks_k01_kinds_and_values_let_by_or.Holds := by
  w_on; o_law; k_head; (case hw => w_witness2)
  k_fill
  refine L2.walk_of (l := PySem.Challenge.rw_listasks_k01_kinds_and_values_let_by_or) (n := 63) (k := 29) (x := "_law_script") (CX := fun _ => L2.CX0) (sp := fun w => K1.spLaw _) rfl (by decide) rfl ⟨rfl, by decide, by decide⟩ (fun w h Y => PySem.W.kIn_of Y) ?F
    (fun _ H a ns hl _ hS => ⟨⟨fun _ => false, fun _ => True, fun _ _ _ _ => trivial, fun _ _ _ e => by cases e⟩, [K1.intL ns], trivial, ⟨ns, rfl, hl⟩, .cons (K1.dp_ints hS) .nil, fun v H' d _ _ hd e => by subst e; cases hd; rfl⟩) (fun _ _ _ _ _ h => h)
  case F =>
    intro w mg fa h KX G hmg
    refine' K1.all_mk KX G hmg ?D_is_integer ?D_is_sequence ?D_is_couple ?D_is_ascending ?D_is_name ?D_is_text_sign ?D_fits_base ?D_is_base ?D_check_kind ?D_checked_kind ?D_checked_couples ?D_law_pool ?D_law_draw ?D_law_exact ?D_law_base_value ?D_law_bad_kinds ?D_law_good_kinds ?D_law_around ?D_law_let_by ?D_law ?z_abs ?z_all ?z_bool ?z_int ?z_isinstance ?z_len ?z_list ?z_ord ?z_range ?z_str ?z_tuple ?gv0 ?gv1 ?gv2 ?gv3 ?gv4 ?gv5 ?b1 ?b2 ?b3 ?e1 ?e2 ?e3 ?e4 ?e5 ?e6 ?e7 ?e8 ?e9 ?e10 ?e11 ?e12 ?e13 ?e14
    (case D_is_integer => (refine' K1.DefIn.of ?l3 ?l1 ?l2 ?l4; (case l3 => k_is); (case l1 => k_is); (case l2 => k_is); (case l4 => k_is)))
    (case D_is_sequence => (refine' K1.DefIn.of ?l3 ?l1 ?l2 ?l4; (case l3 => k_is); (case l1 => k_is); (case l2 => k_is); (case l4 => k_is)))
    (case D_is_couple => (refine' K1.DefIn.of ?l3 ?l1 ?l2 ?l4; (case l3 => k_is); (case l1 => k_is); (case l2 => k_is); (case l4 => k_is)))
    (case D_is_ascending => (refine' K1.DefIn.of ?l3 ?l1 ?l2 ?l4; (case l3 => k_is); (case l1 => k_is); (case l2 => k_is); (case l4 => k_is)))
    (case D_is_name => (refine' K1.DefIn.of ?l3 ?l1 ?l2 ?l4; (case l3 => k_is); (case l1 => k_is); (case l2 => k_is); (case l4 => k_is)))
    (case D_is_text_sign => (refine' K1.DefIn.of ?l3 ?l1 ?l2 ?l4; (case l3 => k_is); (case l1 => k_is); (case l2 => k_is); (case l4 => k_is)))
    (case D_fits_base => (refine' K1.DefIn.of ?l3 ?l1 ?l2 ?l4; (case l3 => k_is); (case l1 => k_is); (case l2 => k_is); (case l4 => k_is)))
    (case D_is_base => (refine' K1.DefIn.of ?l3 ?l1 ?l2 ?l4; (case l3 => k_is); (case l1 => k_is); (case l2 => k_is); (case l4 => k_is)))
    (case D_check_kind => (refine' K1.DefIn.of ?l3 ?l1 ?l2 ?l4; (case l3 => k_is); (case l1 => k_is); (case l2 => k_is); (case l4 => k_is)))
    (case D_checked_kind => (refine' K1.DefIn.of ?l3 ?l1 ?l2 ?l4; (case l3 => k_is); (case l1 => k_is); (case l2 => k_is); (case l4 => k_is)))
    (case D_checked_couples => (refine' K1.DefIn.of ?l3 ?l1 ?l2 ?l4; (case l3 => k_is); (case l1 => k_is); (case l2 => k_is); (case l4 => k_is)))
    (case D_law_pool => (refine' K1.DefIn.of ?l3 ?l1 ?l2 ?l4; (case l3 => k_is); (case l1 => k_is); (case l2 => k_is); (case l4 => k_is)))
    (case D_law_draw => (refine' K1.DefIn.of ?l3 ?l1 ?l2 ?l4; (case l3 => k_is); (case l1 => k_is); (case l2 => k_is); (case l4 => k_is)))
    (case D_law_exact => (refine' K1.DefIn.of ?l3 ?l1 ?l2 ?l4; (case l3 => k_is); (case l1 => k_is); (case l2 => k_is); (case l4 => k_is)))
    (case D_law_base_value => (refine' K1.DefIn.of ?l3 ?l1 ?l2 ?l4; (case l3 => k_is); (case l1 => k_is); (case l2 => k_is); (case l4 => k_is)))
    (case D_law_bad_kinds => (refine' K1.DefIn.of ?l3 ?l1 ?l2 ?l4; (case l3 => k_is); (case l1 => k_is); (case l2 => k_is); (case l4 => k_is)))
    (case D_law_good_kinds => (refine' K1.DefIn.of ?l3 ?l1 ?l2 ?l4; (case l3 => k_is); (case l1 => k_is); (case l2 => k_is); (case l4 => k_is)))
    (case D_law_around => (refine' K1.DefIn.of ?l3 ?l1 ?l2 ?l4; (case l3 => k_is); (case l1 => k_is); (case l2 => k_is); (case l4 => k_is)))
    (case D_law_let_by => (refine' K1.DefIn.of ?l3 ?l1 ?l2 ?l4; (case l3 => k_is); (case l1 => k_is); (case l2 => k_is); (case l4 => k_is)))
    (case D_law => (refine' K1.DefIn.of ?l3 ?l1 ?l2 ?l4; (case l3 => k_is); (case l1 => k_is); (case l2 => k_is); (case l4 => k_is)))
    (case z_abs => k_is)
    (case z_all => k_is)
    (case z_bool => k_is)
    (case z_int => k_is)
    (case z_isinstance => k_is)
    (case z_len => k_is)
    (case z_list => k_is)
    (case z_ord => k_is)
    (case z_range => k_is)
    (case z_str => k_is)
    (case z_tuple => k_is)
    (case gv0 => (refine' K1.gs_of ?l1; (case l1 => k_is)))
    (case gv1 => (refine' K1.gs_of ?l1; (case l1 => k_is)))
    (case gv2 => (refine' K1.gi_of ?l1; (case l1 => k_is)))
    (case gv3 => (refine' K1.gi_of ?l1; (case l1 => k_is)))
    (case gv4 => (refine' K1.gi_of ?l1; (case l1 => k_is)))
    (case gv5 => (refine' K1.gi_of ?l1; (case l1 => k_is)))
    (case b1 => k_is)
    (case b2 => k_is)
    (case b3 => exact ⟨_, _, _, rfl⟩)
    (case e1 => k_is)
    (case e2 => k_exc)
    (case e3 => k_is)
    (case e4 => k_is)
    (case e5 => k_is)
    (case e6 => k_is)
    (case e7 => k_is)
    (case e8 => k_is)
    (case e9 => k_is)
    (case e10 => k_is)
    (case e11 => k_is)
    (case e12 => k_is)
    (case e13 => k_is)
    (case e14 => k_is)


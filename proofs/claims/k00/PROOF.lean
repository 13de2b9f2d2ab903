import PyProof.Rows.All
import Wide.All
import OpenK.AllK
import Wide.FinOn
import HandS.ForMost
import HandS.ForExc
import HandS.IsInst
import HandS.TupAny
import HandS.Rev
import HandS.Deep
import HandS.Flow
import HandS.Wide
import HandS.Conv
import HandS.Steps
import HandS.ExcInit
import HandS.ExcField
import PySem.Challenge.RW_listasks_k00_kinds_and_the_places_of_the
set_option Elab.async false
set_option linter.all false
set_option maxRecDepth 100000
set_option maxHeartbeats 4000000
/-! A logic over plain data: states are slots of data and own lists, expressions and statements are read as what they do to these. -/
namespace Ab
open PySem PySem.Spec PyProof.Rows L2

/-! ### heaps with a part that is hidden -/
def Hide (B : Addr → Bool) (H : Hp) : Hp := fun a => if B a = true then none else H a
section
variable {B B' : Addr → Bool} {H H' : Hp} {a : Addr} {o : HO} {K : PySem.W.Frag} {v : V} {d : PyData} {vs : List V} {ds : List PyData}
theorem hide_f (h : B a = false) : Hide B H a = H a := by unfold Hide; rw [h]; rfl
theorem hide_t (h : B a = true) : Hide B H a = none := by unfold Hide; rw [if_pos h]
theorem hide_some (h : Hide B H a = some o) : B a = false ∧ H a = some o := by
  cases e : B a with
  | true => rw [hide_t e] at h; cases h
  | false => rw [hide_f e] at h; exact ⟨rfl, h⟩
theorem same_hide : Same (Hide B H) H := fun a o h => (hide_some h).2
theorem seqT {xs : List V} (e : Same H H') (h : SqT K H a xs) : SqT K H' a xs := by
  rcases h with (h | ⟨o, h⟩) | h
  · exact .inl (.inl (e _ _ h))
  · exact .inl (.inr ⟨o, e _ _ h⟩)
  · exact .inr h
mutual
theorem dp_mono (e : Same H H') : ∀ (d : PyData) (v : V), Dp K H v d → Dp K H' v d
  | .none, _, h => by cases h; exact .non
  | .bool b, _, h => by cases h; exact .bl b
  | .int i, _, h => by cases h; exact .int i
  | .str x, _, h => by cases h; exact .str x
  | .list ds, _, h => by
    cases h with
    | lst hs ha => exact .lst (e.seq hs) (dps_mono e ds _ ha)
  | .tuple ds, _, h => by
    cases h with
    | tup hs ha => exact .tup (seqT e hs) (dps_mono e ds _ ha)
  | .dict _, _, h => by cases h
theorem dps_mono (e : Same H H') : ∀ (ds : List PyData) (vs : List V), DpAll K H vs ds → DpAll K H' vs ds
  | [], _, h => by cases h; exact .nil
  | d :: ds, _, h => by
    cases h with
    | cons h1 h2 => exact .cons (dp_mono e d _ h1) (dps_mono e ds _ h2)
end
theorem dps_len : ∀ {vs : List V} {ds : List PyData}, DpAll K H vs ds → vs.length = ds.length
  | [], _, h => by cases h; rfl
  | _ :: _, _, h => by
    cases h with
    | cons h1 h2 => rw [List.length_cons, List.length_cons, dps_len h2]
theorem dps_at : ∀ {vs : List V} {ds : List PyData} {i : Nat} {d : PyData}, DpAll K H vs ds → ds[i]? = some d → ∃ v, vs[i]? = some v ∧ Dp K H v d
  | [], _, i, d, h, e => by cases h; simp at e
  | v :: _, _, 0, d, h, e => by
    cases h with
    | cons h1 h2 => simp at e; subst e; exact ⟨v, rfl, h1⟩
  | _ :: _, _, i + 1, d, h, e => by
    cases h with
    | cons h1 h2 => simp at e; obtain ⟨v, a, b⟩ := dps_at h2 e; exact ⟨v, by simpa using a, b⟩
theorem dps_at' : ∀ {vs : List V} {ds : List PyData} {i : Nat} {v : V}, DpAll K H vs ds → vs[i]? = some v → ∃ d, ds[i]? = some d ∧ Dp K H v d
  | [], _, i, d, h, e => by simp at e
  | w :: _, _, 0, v, h, e => by
    cases h with
    | cons h1 h2 => simp at e; subst e; exact ⟨_, rfl, h1⟩
  | _ :: _, _, i + 1, v, h, e => by
    cases h with
    | cons h1 h2 => simp at e; obtain ⟨d, a, b⟩ := dps_at' h2 e; exact ⟨d, by simpa using a, b⟩
theorem dps_app : ∀ {vs : List V} {ds : List PyData} {ws : List V} {es : List PyData}, DpAll K H vs ds → DpAll K H ws es → DpAll K H (vs ++ ws) (ds ++ es)
  | [], _, _, _, h, k => by cases h; exact k
  | _ :: _, _, _, _, h, k => by
    cases h with
    | cons h1 h2 => exact .cons h1 (dps_app h2 k)
theorem dps_take : ∀ {vs : List V} {ds : List PyData} (n : Nat), DpAll K H vs ds → DpAll K H (vs.take n) (ds.take n)
  | [], _, n, h => by cases h; simp; exact .nil
  | _ :: _, _, 0, h => by simp; exact .nil
  | _ :: _, _, n + 1, h => by
    cases h with
    | cons h1 h2 => exact .cons h1 (dps_take n h2)
theorem dps_drop : ∀ {vs : List V} {ds : List PyData} (n : Nat), DpAll K H vs ds → DpAll K H (vs.drop n) (ds.drop n)
  | [], _, n, h => by cases h; simp; exact .nil
  | _ :: _, _, 0, h => h
  | _ :: _, _, n + 1, h => by
    cases h with
    | cons h1 h2 => exact dps_drop n h2
theorem dps_dropLast {vs : List V} {ds : List PyData} (h : DpAll K H vs ds) : DpAll K H vs.dropLast ds.dropLast := by
  rw [List.dropLast_eq_take, List.dropLast_eq_take, dps_len h]
  exact dps_take _ h
end

/-! ### frames, slots, own lists -/
/-- what a caller holds: addresses that data never name, and what is true of them -/
structure Sy where
  B : Addr → Bool
  I : Hp → Prop
  mono : ∀ H H', (∀ a o, B a = true → H a = some o → H' a = some o) → I H → I H'
  trk : ∀ H a, I H → B a = true → H a ≠ none
inductive Sv where
  | dat (d : PyData)
  | own (a : Addr)
  | no
abbrev Mm := List (Addr × Bool × List PyData)
def Bm (S : Sy) (M : Mm) : Addr → Bool := fun a => S.B a || M.any fun p => p.1 == a
def RSv (K : PySem.W.Frag) (G : Hp) : Option V → Sv → Prop
  | o, .dat d => ∃ v, o = some v ∧ Dp K G v d
  | o, .own a => o = some (.ref a)
  | _, .no => True
structure Rs (K : PySem.W.Frag) (G : Hp) (σ : L2.St) (as : List Sv) : Prop where
  len : σ.length = as.length
  at_ : ∀ (i : Nat) (s : Sv), as[i]? = some s → ∃ o : Option V, σ[i]? = some o ∧ RSv K G o s
/-- lists may be written -/
def Stb (S : Sy) (p : Addr) : Prop := ∀ H l l', S.I H → H p = some (.lst l) → S.I (upd H p (.lst l'))
structure Ok0 (K : PySem.W.Frag) (S : Sy) (H0 H : Hp) (M : Mm) : Prop where
  xt : ∀ a o, S.B a = false → H0 a = some o → H a = some o
  inv : S.I H
  nd : (M.map (·.1)).Nodup
  loc : ∀ p ∈ M, (p.2.1 = true → S.B p.1 = false ∧ H0 p.1 = none) ∧ (p.2.1 = false → S.B p.1 = true ∧ Stb S p.1)
  mem : ∀ p ∈ M, ∃ vs, H p.1 = some (.lst vs) ∧ DpAll K (Hide (Bm S M) H) vs p.2.2
def Gh (S : Sy) (M : Mm) (H : Hp) : Hp := Hide (Bm S M) H

section
variable {K : PySem.W.Frag} {S : Sy} {H0 H H' : Hp} {σ : L2.St} {as : List Sv} {M : Mm} {G G' : Hp}
theorem RSv.mono {o : Option V} {s : Sv} (e : Same G G') (h : RSv K G o s) : RSv K G' o s := by
  cases s with
  | dat d => obtain ⟨v, a, b⟩ := h; exact ⟨v, a, dp_mono e _ _ b⟩
  | own a => exact h
  | no => trivial
theorem Rs.mono (e : Same G G') (h : Rs K G σ as) : Rs K G' σ as := ⟨h.len, fun i s q => let ⟨o, a, b⟩ := h.at_ i s q; ⟨o, a, b.mono e⟩⟩
theorem Rs.set {v : V} {s : Sv} (i : Nat) (h : Rs K G σ as) (r : RSv K G (some v) s) : Rs K G (σ.set i (some v)) (as.set i s) := by
  refine ⟨by rw [List.length_set, List.length_set, h.len], fun j t q => ?_⟩
  by_cases e : i = j
  · subst e
    have hl : i < as.length := by
      have := (List.getElem?_eq_some_iff.mp q).1
      simpa using this
    rw [List.getElem?_set_self hl] at q
    cases q
    exact ⟨some v, List.getElem?_set_self (by rw [h.len]; exact hl), r⟩
  · rw [List.getElem?_set_ne e] at q
    obtain ⟨o, a, b⟩ := h.at_ j t q
    exact ⟨o, by rw [List.getElem?_set_ne e]; exact a, b⟩
theorem bm_trk (h : Ok0 K S H0 H M) (a : Addr) (e : Bm S M a = true) : H a ≠ none := by
  rcases (Bool.or_eq_true _ _).mp e with e | e
  · exact S.trk H a h.inv e
  · obtain ⟨p, hp, q⟩ := List.any_eq_true.mp e
    obtain ⟨vs, k, _⟩ := h.mem p hp
    have : p.1 = a := by simpa using q
    rw [← this, k]
    simp
theorem bm_false {a : Addr} : Bm S M a = false ↔ S.B a = false ∧ ∀ p ∈ M, p.1 ≠ a := by
  unfold Bm
  rw [Bool.or_eq_false_iff, List.any_eq_false]
  simp
theorem new_same {p : Addr} {o : HO} {B : Addr → Bool} (hp : H p = none) : Same (Hide B H) (Hide B (upd H p o)) := fun a u e => by
  obtain ⟨e1, e2⟩ := hide_some e
  rw [hide_f e1, upd_ne (ne_of_none e2 hp)]
  exact e2
theorem ok_new {p : Addr} {o : HO} (h : Ok0 K S H0 H M) (hp : H p = none) : Ok0 K S H0 (upd H p o) M := by
  refine ⟨fun a u e1 e2 => ?_, S.mono H _ (fun a u e1 e2 => ?_) h.inv, h.nd, h.loc, fun q hq => ?_⟩
  · have q := h.xt a u e1 e2
    rw [upd_ne (ne_of_none q hp)]; exact q
  · rw [upd_ne (ne_of_none e2 hp)]; exact e2
  · obtain ⟨vs, a, b⟩ := h.mem q hq
    exact ⟨vs, by rw [upd_ne (ne_of_none a hp)]; exact a, dps_mono (new_same hp) _ _ b⟩
theorem new_hid {p : Addr} (h : Ok0 K S H0 H M) (hp : H p = none) : Bm S M p = false := by
  cases e : Bm S M p with
  | false => rfl
  | true => exact absurd hp (bm_trk h p e)
end

/-! ### what is read -/
section
variable (K : PySem.W.Frag)
def W (te : TE) (as : List Sv) (M : Mm) (P : PyData → Mm → Prop) : Prop := ∀ S H0 σ H, Ok0 K S H0 H M → Rs K (Gh S M H) σ as → ∀ Q : VK,
  (∀ v H' d M', Ok0 K S H0 H' M' → Same (Gh S M H) (Gh S M' H') → Dp K (Gh S M' H') v d → P d M' → Q v H') → te σ H Q
def WT (t : TT) (as : List Sv) (M : Mm) (P : Bool → Mm → Prop) : Prop := ∀ S H0 σ H, Ok0 K S H0 H M → Rs K (Gh S M H) σ as → ∀ Q : Bool → Hp → Prop,
  (∀ b H' M', Ok0 K S H0 H' M' → Same (Gh S M H) (Gh S M' H') → P b M' → Q b H') → t σ H Q
def RA (K : PySem.W.Frag) (G : Hp) : List V → List Sv → Prop
  | [], [] => True
  | v :: vs, s :: ss => RSv K G (some v) s ∧ RA K G vs ss
  | _, _ => False
def WA (ta : TA) (as : List Sv) (M : Mm) (P : List Sv → Mm → Prop) : Prop := ∀ S H0 σ H, Ok0 K S H0 H M → Rs K (Gh S M H) σ as → ∀ Q : List V → Hp → Prop,
  (∀ vs H' ss M', Ok0 K S H0 H' M' → Same (Gh S M H) (Gh S M' H') → RA K (Gh S M' H') vs ss → P ss M' → Q vs H') → ta σ H Q
def WO (to : TO) (as : List Sv) (M : Mm) (P : Option Int → Mm → Prop) : Prop := ∀ S H0 σ H, Ok0 K S H0 H M → Rs K (Gh S M H) σ as → ∀ Q : Option Int → Hp → Prop,
  (∀ o H' M', Ok0 K S H0 H' M' → Same (Gh S M H) (Gh S M' H') → P o M' → Q o H') → to σ H Q
structure AE where
  nx : List Sv → Mm → Prop
  rt : PyData → Mm → Prop
  bk : List Sv → Mm → Prop := fun _ _ => False
  ct : List Sv → Mm → Prop := fun _ _ => False
def WS (ts : TS) (as : List Sv) (M : Mm) (A : AE) : Prop := ∀ S H0 σ H (D : Ends), Ok0 K S H0 H M → Rs K (Gh S M H) σ as →
  (∀ σ' H' as' M', Ok0 K S H0 H' M' → Rs K (Gh S M' H') σ' as' → Same (Gh S M H) (Gh S M' H') → A.nx as' M' → D.nx σ' H') →
  (∀ v H' d M', Ok0 K S H0 H' M' → Dp K (Gh S M' H') v d → A.rt d M' → D.rt v H') →
  (∀ σ' H' as' M', Ok0 K S H0 H' M' → Rs K (Gh S M' H') σ' as' → Same (Gh S M H) (Gh S M' H') → A.bk as' M' → D.bk σ' H') →
  (∀ σ' H' as' M', Ok0 K S H0 H' M' → Rs K (Gh S M' H') σ' as' → Same (Gh S M H) (Gh S M' H') → A.ct as' M' → D.ct σ' H') → ts D σ H
end

section
variable {K : PySem.W.Frag} {as : List Sv} {M : Mm} {te ta tb tc : TE} {P : PyData → Mm → Prop}
theorem ra_mono {G G' : Hp} (e : Same G G') : ∀ {vs : List V} {ss : List Sv}, RA K G vs ss → RA K G' vs ss
  | [], [], _ => trivial
  | _ :: _, _ :: _, h => ⟨h.1.mono e, ra_mono e h.2⟩
  | [], _ :: _, h => h.elim
  | _ :: _, [], h => h.elim
theorem ra_len {G : Hp} : ∀ {vs : List V} {ss : List Sv}, RA K G vs ss → vs.length = ss.length
  | [], [], _ => rfl
  | _ :: _, _ :: _, h => by rw [List.length_cons, List.length_cons, ra_len h.2]
  | [], _ :: _, h => h.elim
  | _ :: _, [], h => h.elim
theorem ra_dat {G : Hp} : ∀ {vs : List V} {ds : List PyData}, RA K G vs (ds.map .dat) → DpAll K G vs ds
  | [], [], _ => .nil
  | _ :: _, _ :: _, h => by
    obtain ⟨⟨v, e, q⟩, h2⟩ := h
    cases e
    exact .cons q (ra_dat h2)
  | [], _ :: _, h => h.elim
  | _ :: _, [], h => h.elim
theorem dat_ra {G : Hp} : ∀ {vs : List V} {ds : List PyData}, DpAll K G vs ds → RA K G vs (ds.map .dat)
  | [], [], _ => trivial
  | _ :: _, _ :: _, h => by
    cases h with
    | cons h1 h2 => exact ⟨⟨_, rfl, h1⟩, dat_ra h2⟩
  | [], _ :: _, h => by cases h
  | _ :: _, [], h => by cases h
theorem ra_start {G : Hp} : ∀ {vs : List V} {ss : List Sv} (n : Nat), RA K G vs ss → Rs K G (vs.map some ++ List.replicate n none) (ss ++ List.replicate n .no)
  | [], [], n, _ => ⟨by simp, fun i s q => by
      simp only [List.nil_append] at q
      have hi : i < n := by have := (List.getElem?_eq_some_iff.mp q).1; simpa using this
      rw [List.getElem?_replicate, if_pos hi] at q
      cases q
      exact ⟨none, by simp [List.getElem?_replicate, hi], trivial⟩⟩
  | v :: vs, s :: ss, n, h => by
    have ih := ra_start n h.2
    refine ⟨by have := ih.len; simp only [List.length_append, List.length_map, List.length_cons, List.length_replicate] at this ⊢; omega, fun i t q => ?_⟩
    cases i with
    | zero =>
      simp at q
      subst q
      exact ⟨some v, by simp, h.1⟩
    | succ i =>
      obtain ⟨o, a, b⟩ := ih.at_ i t (by simpa using q)
      exact ⟨o, by simpa using a, b⟩
  | [], _ :: _, _, h => h.elim
  | _ :: _, [], _, h => h.elim
theorem W.imp {P' : PyData → Mm → Prop} (h : W K te as M P) (i : ∀ d M', P d M' → P' d M') : W K te as M P' := fun S H0 σ H k r Q q => h S H0 σ H k r Q fun v H' d M' a b c e => q v H' d M' a b c (i _ _ e)
theorem w_var {i : Nat} {d : PyData} (h : as[i]? = some (.dat d)) (p : P d M) : W K (tVar i) as M P := fun S H0 σ H k r Q q => by
  obtain ⟨o, a, v, e, b⟩ := r.at_ i _ h
  subst e
  exact ⟨v, a, q v H d M k (Same.refl _) b p⟩
theorem w_int {i : Int} (p : P (.int i) M) : W K (tC (.int i)) as M P := fun S H0 σ H k r Q q => q _ H _ M k (Same.refl _) (.int i) p
theorem w_str {i : Str} (p : P (.str i) M) : W K (tC (.str i)) as M P := fun S H0 σ H k r Q q => q _ H _ M k (Same.refl _) (.str i) p
theorem w_bl {i : Bool} (p : P (.bool i) M) : W K (tC (.bl i)) as M P := fun S H0 σ H k r Q q => q _ H _ M k (Same.refl _) (.bl i) p
theorem w_non (p : P .none M) : W K (tC .non) as M P := fun S H0 σ H k r Q q => q _ H _ M k (Same.refl _) .non p
/-- a tuple of texts that stands in the written part -/
theorem w_cT {a : Addr} {ds : List PyData} (hk : ∀ H, Dp K H (.ref a) (.tuple ds)) (p : P (.tuple ds) M) : W K (tC (.ref a)) as M P := fun S H0 σ H k r Q q => q _ H _ M k (Same.refl _) (hk _) p
theorem wa_nil {P : List Sv → Mm → Prop} (p : P [] M) : WA K tNil as M P := fun S H0 σ H k r Q q => q [] H [] M k (Same.refl _) trivial p
theorem wa_cons {tr : TA} {P : List Sv → Mm → Prop} (h : W K te as M fun d M1 => WA K tr as M1 fun ss M2 => P (.dat d :: ss) M2) : WA K (tCons te tr) as M P := fun S H0 σ H k r Q q =>
  h S H0 σ H k r _ fun v H1 d M1 k1 e1 b1 hr => hr S H0 σ H1 k1 (r.mono e1) _ fun vs H2 ss M2 k2 e2 b2 p => q _ H2 (.dat d :: ss) M2 k2 (e1.trans e2) ⟨⟨v, rfl, dp_mono e2 _ _ b1⟩, b2⟩ p
theorem wa_mut {i : Nat} {a : Addr} {tr : TA} {P : List Sv → Mm → Prop} (h : as[i]? = some (.own a)) (hr : WA K tr as M fun ss M2 => P (.own a :: ss) M2) : WA K (tCons (tVar i) tr) as M P := fun S H0 σ H k r Q q => by
  obtain ⟨o, e1, e2⟩ := r.at_ i _ h
  cases (show o = some (V.ref a) from e2)
  exact ⟨.ref a, e1, hr S H0 σ H k r _ fun vs H2 ss M2 k2 e2 b2 p => q _ H2 (.own a :: ss) M2 k2 e2 ⟨rfl, b2⟩ p⟩
theorem sz_of {n : Nat} (h : n ≤ 100000) : n ≤ sizeLine := Nat.le_trans h (by decide)
theorem w_tup {ta : TA} (h : WA K ta as M fun ss M' => ∃ ds : List PyData, ss = ds.map .dat ∧ ds.length ≤ 100000 ∧ P (.tuple ds) M') : W K (tTup ta) as M P := fun S H0 σ H k r Q q =>
  h S H0 σ H k r _ fun vs H1 ss M1 k1 e1 b1 ⟨ds, es, hl, p⟩ => by
    subst es
    have bd := ra_dat b1
    refine ⟨sz_of (by rw [dps_len bd]; exact hl), fun a ha => q _ _ (.tuple ds) M1 (ok_new k1 ha) (e1.trans (new_same ha)) ?_ p⟩
    have hh : Gh S M1 (upd H1 a (.tup vs)) a = some (.tup vs) := by unfold Gh; rw [hide_f (new_hid k1 ha), upd_same]
    exact .tup (.of hh) (dps_mono (new_same ha) _ _ bd)
theorem w_lst {ta : TA} (h : WA K ta as M fun ss M' => ∃ ds : List PyData, ss = ds.map .dat ∧ ds.length ≤ 100000 ∧ P (.list ds) M') : W K (tLst ta) as M P := fun S H0 σ H k r Q q =>
  h S H0 σ H k r _ fun vs H1 ss M1 k1 e1 b1 ⟨ds, es, hl, p⟩ => by
    subst es
    have bd := ra_dat b1
    refine ⟨sz_of (by rw [dps_len bd]; exact hl), fun a ha => q _ _ (.list ds) M1 (ok_new k1 ha) (e1.trans (new_same ha)) ?_ p⟩
    have hh : Gh S M1 (upd H1 a (.lst vs)) a = some (.lst vs) := by unfold Gh; rw [hide_f (new_hid k1 ha), upd_same]
    exact .lst (.of hh) (dps_mono (new_same ha) _ _ bd)
/-- two-place operations that write nothing -/
def AO (K : PySem.W.Frag) (r : R2) (f : PyData → PyData → (PyData → Prop) → Prop) : Prop := ∀ (B : Addr → Bool) (H : Hp) (x y : V) (a b : PyData) (P : PyData → Prop), (∀ c, B c = true → H c ≠ none) → Dp K (Hide B H) x a → Dp K (Hide B H) y b → f a b P →
  ∀ Q : VK, (∀ v d H', (H' = H ∨ ∃ p o, H p = none ∧ H' = upd H p o) → Dp K (Hide B H') v d → P d → Q v H') → r x y H Q
theorem w_op {r : R2} {f : PyData → PyData → (PyData → Prop) → Prop} (ho : AO K r f) (h : W K ta as M fun a M1 => W K tb as M1 fun b M2 => f a b fun d => P d M2) : W K (tOp r ta tb) as M P := fun S H0 σ H k rs Q q =>
  h S H0 σ H k rs _ fun x H1 a M1 k1 e1 b1 h2 => h2 S H0 σ H1 k1 (rs.mono e1) _ fun y H2 b M2 k2 e2 b2 p => ho _ H2 x y a b _ (bm_trk k2) (dp_mono e2 _ _ b1) b2 p Q fun v d H3 hc hd pd => by
    rcases hc with rfl | ⟨c, o, hn, rfl⟩
    · exact q v _ d M2 k2 (e1.trans e2) hd pd
    · exact q v _ d M2 (ok_new k2 hn) ((e1.trans e2).trans (new_same hn)) hd pd
theorem w_op2 {r : R2} {f : PyData → PyData → (PyData → Prop) → Prop} (ho : AO K r f) {tx : TE} (e : tx = tOp r ta tb) (h : W K ta as M fun a M1 => W K tb as M1 fun b M2 => f a b fun d => P d M2) : W K tx as M P := by
  subst e; exact w_op ho h
/-- one-place built-ins on data that write nothing -/
def AC (K : PySem.W.Frag) (r : List V → Hp → VK → Prop) (f : List PyData → (PyData → Prop) → Prop) : Prop := ∀ (B : Addr → Bool) (H : Hp) (xs : List V) (as : List PyData) (P : PyData → Prop), (∀ c, B c = true → H c ≠ none) → DpAll K (Hide B H) xs as → f as P →
  ∀ Q : VK, (∀ v d H', (H' = H ∨ ∃ p o, H p = none ∧ H' = upd H p o) → Dp K (Hide B H') v d → P d → Q v H') → r xs H Q
theorem w_cb {r : List V → Hp → VK → Prop} {f : List PyData → (PyData → Prop) → Prop} {ta : TA} (ho : AC K r f) (h : WA K ta as M fun ss M1 => ∃ ds : List PyData, ss = ds.map .dat ∧ f ds fun d => P d M1) : W K (tCB r ta) as M P := fun S H0 σ H k rs Q q =>
  h S H0 σ H k rs _ fun xs H1 ss M1 k1 e1 b1 ⟨ds, es, p⟩ => by
    subst es
    refine ho _ H1 xs ds _ (bm_trk k1) (ra_dat b1) p Q fun v d H3 hc hd pd => ?_
    rcases hc with rfl | ⟨c, o, hn, rfl⟩
    · exact q v _ d M1 k1 e1 hd pd
    · exact q v _ d M1 (ok_new k1 hn) (e1.trans (new_same hn)) hd pd
/-! tests -/
variable {t u : TT} {PT : Bool → Mm → Prop}
theorem wt_test (h : W K te as M fun d M' => ∃ b, d = .bool b ∧ PT b M') : WT K (tTest te) as M PT := fun S H0 σ H k r Q q =>
  h S H0 σ H k r _ fun v H1 d M1 k1 e1 b1 ⟨b, ed, p⟩ => by subst ed; cases b1; exact ⟨b, rfl, q b H1 M1 k1 e1 p⟩
theorem wt_B (h : W K te as M fun d M' => ∃ b, d = .bool b ∧ PT b M') : WT K (tB te) as M PT := fun S H0 σ H k r Q q =>
  h S H0 σ H k r _ fun v H1 d M1 k1 e1 b1 ⟨b, ed, p⟩ => by subst ed; cases b1; exact ⟨b, rfl, q b H1 M1 k1 e1 p⟩
theorem wt_not (h : WT K t as M fun b M' => PT (!b) M') : WT K (tNot t) as M PT := fun S H0 σ H k r Q q => h S H0 σ H k r _ fun b H1 M1 k1 e1 p => q _ H1 M1 k1 e1 p
theorem wt_and (h : WT K t as M fun b M1 => if b = true then WT K u as M1 PT else PT false M1) : WT K (tAnd t u) as M PT := fun S H0 σ H k r Q q => h S H0 σ H k r _ fun b H1 M1 k1 e1 p => by
  cases b with
  | true => exact (show WT K u as M1 PT from p) S H0 σ H1 k1 (r.mono e1) _ fun c H2 M2 k2 e2 p2 => q c H2 M2 k2 (e1.trans e2) p2
  | false => exact q false H1 M1 k1 e1 p
theorem wt_or (h : WT K t as M fun b M1 => if b = true then PT true M1 else WT K u as M1 PT) : WT K (tOr t u) as M PT := fun S H0 σ H k r Q q => h S H0 σ H k r _ fun b H1 M1 k1 e1 p => by
  cases b with
  | false => exact (show WT K u as M1 PT from p) S H0 σ H1 k1 (r.mono e1) _ fun c H2 M2 k2 e2 p2 => q c H2 M2 k2 (e1.trans e2) p2
  | true => exact q true H1 M1 k1 e1 p
theorem w_andV (h : W K ta as M fun d M1 => ∃ b, d = .bool b ∧ if b = true then W K tb as M1 P else P (.bool false) M1) : W K (tAndV ta tb) as M P := fun S H0 σ H k r Q q =>
  h S H0 σ H k r _ fun v H1 d M1 k1 e1 b1 ⟨b, ed, p⟩ => by
    subst ed; cases b1
    refine ⟨b, rfl, ?_⟩
    cases b with
    | true => exact (show W K tb as M1 P from p) S H0 σ H1 k1 (r.mono e1) _ fun v H2 d M2 k2 e2 b2 p2 => q v H2 d M2 k2 (e1.trans e2) b2 p2
    | false => exact q _ H1 _ M1 k1 e1 (.bl false) p
theorem w_orV (h : W K ta as M fun d M1 => ∃ b, d = .bool b ∧ if b = true then P (.bool true) M1 else W K tb as M1 P) : W K (tOrV ta tb) as M P := fun S H0 σ H k r Q q =>
  h S H0 σ H k r _ fun v H1 d M1 k1 e1 b1 ⟨b, ed, p⟩ => by
    subst ed; cases b1
    refine ⟨b, rfl, ?_⟩
    cases b with
    | false => exact (show W K tb as M1 P from p) S H0 σ H1 k1 (r.mono e1) _ fun v H2 d M2 k2 e2 b2 p2 => q v H2 d M2 k2 (e1.trans e2) b2 p2
    | true => exact q _ H1 _ M1 k1 e1 (.bl true) p
theorem w_notV (h : W K ta as M fun d M1 => ∃ b, d = .bool b ∧ P (.bool (!b)) M1) : W K (tNotV ta) as M P := fun S H0 σ H k r Q q =>
  h S H0 σ H k r _ fun v H1 d M1 k1 e1 b1 ⟨b, ed, p⟩ => by subst ed; cases b1; exact ⟨b, rfl, q _ H1 _ M1 k1 e1 (.bl _) p⟩
theorem w_ite (h : WT K t as M fun b M1 => if b = true then W K ta as M1 P else W K tb as M1 P) : W K (tIf t ta tb) as M P := fun S H0 σ H k r Q q => h S H0 σ H k r _ fun b H1 M1 k1 e1 p => by
  cases b with
  | true => exact (show W K ta as M1 P from p) S H0 σ H1 k1 (r.mono e1) _ fun v H2 d M2 k2 e2 b2 p2 => q v H2 d M2 k2 (e1.trans e2) b2 p2
  | false => exact (show W K tb as M1 P from p) S H0 σ H1 k1 (r.mono e1) _ fun v H2 d M2 k2 e2 b2 p2 => q v H2 d M2 k2 (e1.trans e2) b2 p2
theorem wo_none {P : Option Int → Mm → Prop} (p : P none M) : WO K tNoPart as M P := fun S H0 σ H k r Q q => q none H M k (Same.refl _) p
theorem wo_some {P : Option Int → Mm → Prop} (h : W K te as M fun d M' => ∃ i, d = .int i ∧ P (some i) M') : WO K (tPart te) as M P := fun S H0 σ H k r Q q =>
  h S H0 σ H k r _ fun v H1 d M1 k1 e1 b1 ⟨i, ed, p⟩ => by subst ed; cases b1; exact ⟨i, rfl, q _ H1 M1 k1 e1 p⟩
/-! statements -/
variable {A : AE} {s1 s2 : TS}
theorem ws_next (p : A.nx as M) : WS K tNext as M A := fun S H0 σ H D k r n _ _ _ => n σ H as M k r (Same.refl _) p
theorem ws_never (h : False) : WS K tNever as M A := h.elim
theorem ws_seq (h : WS K s1 as M { A with nx := fun as' M' => WS K s2 as' M' A }) : WS K (tSeq s1 s2) as M A := fun S H0 σ H D k r n rt b c =>
  h S H0 σ H { D with nx := s2 D } k r (fun σ' H' as' M' k' r' e' p => p S H0 σ' H' D k' r' (fun σ'' H'' as'' M'' k'' r'' e'' => n σ'' H'' as'' M'' k'' r'' (e'.trans e'')) rt
    (fun σ'' H'' as'' M'' k'' r'' e'' => b σ'' H'' as'' M'' k'' r'' (e'.trans e'')) (fun σ'' H'' as'' M'' k'' r'' e'' => c σ'' H'' as'' M'' k'' r'' (e'.trans e''))) rt b c
theorem ws_set {i : Nat} (h : W K te as M fun d M' => A.nx (as.set i (.dat d)) M') : WS K (tAsg te (gName i)) as M A := fun S H0 σ H D k r n _ _ _ =>
  h S H0 σ H k r _ fun v H1 d M1 k1 e1 b1 p => n _ H1 (as.set i (.dat d)) M1 k1 ((r.mono e1).set i (s := .dat d) ⟨v, rfl, b1⟩) e1 p
theorem ws_ret (h : W K te as M A.rt) : WS K (tRet te) as M A := fun S H0 σ H D k r _ rt _ _ => h S H0 σ H k r _ fun v H1 d M1 k1 e1 b1 p => rt v H1 d M1 k1 b1 p
theorem ws_retN (p : A.rt .none M) : WS K tRetN as M A := fun S H0 σ H D k r _ rt _ _ => rt .non H .none M k .non p
theorem ws_drop (h : W K te as M fun _ M' => A.nx as M') : WS K (tDrop te) as M A := fun S H0 σ H D k r n _ _ _ =>
  h S H0 σ H k r _ fun v H1 d M1 k1 e1 b1 p => n σ H1 as M1 k1 (r.mono e1) e1 p
theorem ws_if (h : WT K t as M fun b M' => if b = true then WS K s1 as M' A else WS K s2 as M' A) : WS K (tIfS t s1 s2) as M A := fun S H0 σ H D k r n rt bb cc => h S H0 σ H k r _ fun b H1 M1 k1 e1 p => by
  have go : ∀ s, WS K s as M1 A → s D σ H1 := fun s hs => hs S H0 σ H1 D k1 (r.mono e1) (fun σ'' H'' as'' M'' k'' r'' e'' => n σ'' H'' as'' M'' k'' r'' (e1.trans e'')) rt
    (fun σ'' H'' as'' M'' k'' r'' e'' => bb σ'' H'' as'' M'' k'' r'' (e1.trans e'')) (fun σ'' H'' as'' M'' k'' r'' e'' => cc σ'' H'' as'' M'' k'' r'' (e1.trans e''))
  cases b with
  | true => exact go s1 p
  | false => exact go s2 p
theorem ws_break (p : A.bk as M) : WS K tBreak as M A := fun S H0 σ H D k r _ _ b _ => b σ H as M k r (Same.refl _) p
theorem ws_cont (p : A.ct as M) : WS K tCont as M A := fun S H0 σ H D k r _ _ _ c => c σ H as M k r (Same.refl _) p
/-- a, b = x, y -/
theorem ws_par {i j : Nat} {ta : TA} (h : WA K ta as M fun ss M' => ∃ a b, ss = [a, b] ∧ A.nx ((as.set i a).set j b) M') : WS K (tPar i j ta) as M A := fun S H0 σ H D k r n _ _ _ =>
  h S H0 σ H k r _ fun vs H1 ss M1 k1 e1 b1 ⟨a, b, es, p⟩ => by
    subst es
    match vs, b1 with
    | [v, w], ⟨q1, q2, _⟩ => exact ⟨v, w, rfl, n _ H1 _ M1 k1 (((r.mono e1).set i q1).set j q2) e1 p⟩
end
end Ab

set_option Elab.async false
set_option linter.all false
set_option maxRecDepth 100000
set_option maxHeartbeats 4000000
namespace Ab
open PySem PySem.Spec PyProof.Rows L2

/-! ### own lists -/
def mset (M : Mm) (p : Addr) (xs : List PyData) : Mm := M.map fun q => if q.1 = p then (p, q.2.1, xs) else q
def mdel (M : Mm) (p : Addr) : Mm := M.filter fun q => !(q.1 == p)
section
variable {K : PySem.W.Frag} {S : Sy} {H0 H H' : Hp} {σ : L2.St} {as : List Sv} {M : Mm} {p : Addr} {fl : Bool} {xs ys : List PyData} {vs ws : List V}
theorem mset_fst : ∀ M : Mm, (mset M p xs).map (·.1) = M.map (·.1)
  | [] => rfl
  | q :: M => by
    have ih := mset_fst M
    unfold mset at ih ⊢
    rw [List.map_cons, List.map_cons, List.map_cons, ih]
    by_cases e : q.1 = p
    · rw [if_pos e, e]
    · rw [if_neg e]
theorem any_fst {M N : Mm} (h : M.map (·.1) = N.map (·.1)) (a : Addr) : (M.any fun q => q.1 == a) = N.any fun q => q.1 == a := by
  have e1 : ∀ L : Mm, (L.any fun q => q.1 == a) = (L.map (·.1)).any fun b => b == a := fun L => by rw [List.any_map]; rfl
  rw [e1, e1, h]
theorem bm_set : Bm S (mset M p xs) = Bm S M := by
  funext a
  unfold Bm
  rw [any_fst (mset_fst M)]
theorem mem_uniq : ∀ {M : Mm}, (M.map (·.1)).Nodup → ∀ {q r : Addr × Bool × List PyData}, q ∈ M → r ∈ M → q.1 = r.1 → q = r
  | [], _, _, _, h, _, _ => by cases h
  | m :: M, nd, q, r, hq, hr, e => by
    rw [List.map_cons, List.nodup_cons] at nd
    rcases List.mem_cons.mp hq with e1 | hq2
    · rcases List.mem_cons.mp hr with e2 | hr2
      · rw [e1, e2]
      · exact absurd (by rw [← e1, e]; exact List.mem_map_of_mem hr2) nd.1
    · rcases List.mem_cons.mp hr with e2 | hr2
      · exact absurd (by rw [← e2, ← e]; exact List.mem_map_of_mem hq2) nd.1
      · exact mem_uniq nd.2 hq2 hr2 e
theorem own_bm (hm : (p, fl, xs) ∈ M) : Bm S M p = true := by
  unfold Bm
  rw [Bool.or_eq_true]
  exact .inr (List.any_eq_true.mpr ⟨_, hm, by simp⟩)
theorem gh_write (hm : (p, fl, xs) ∈ M) {o : HO} : Gh S (mset M p ys) (upd H p o) = Gh S M H := by
  unfold Gh
  rw [bm_set]
  funext a
  by_cases e : Bm S M a = true
  · rw [hide_t e, hide_t e]
  · have e' : Bm S M a = false := by simpa using e
    rw [hide_f e', hide_f e', upd_ne (fun z => by rw [z, own_bm hm] at e'; cases e')]
theorem ok_write (k : Ok0 K S H0 H M) (hm : (p, fl, xs) ∈ M) (hd : DpAll K (Gh S M H) ws ys) : Ok0 K S H0 (upd H p (.lst ws)) (mset M p ys) := by
  obtain ⟨vs, hp, hv⟩ := k.mem _ hm
  have hp : H p = some (.lst vs) := hp
  have lc := k.loc _ hm
  have ge : Hide (Bm S (mset M p ys)) (upd H p (.lst ws)) = Hide (Bm S M) H := gh_write hm
  refine ⟨fun a o e1 e2 => ?_, ?_, by rw [mset_fst]; exact k.nd, fun q hq => ?_, fun q hq => ?_⟩
  · have ne : a ≠ p := fun z => by
      subst z
      cases fl with
      | true => rw [(lc.1 rfl).2] at e2; cases e2
      | false => have z := (lc.2 rfl).1; rw [e1] at z; cases z
    rw [upd_ne ne]
    exact k.xt a o e1 e2
  · cases fl with
    | true => exact S.mono H _ (fun a o e1 e2 => by rw [upd_ne (fun z => by subst z; have z := (lc.1 rfl).1; rw [e1] at z; cases z)]; exact e2) k.inv
    | false => exact (lc.2 rfl).2 H vs ws k.inv hp
  · obtain ⟨r, hr, e⟩ := List.mem_map.mp hq
    have lr := k.loc r hr
    by_cases z : r.1 = p
    · rw [if_pos z] at e
      subst e
      rw [z] at lr
      exact lr
    · rw [if_neg z] at e
      subst e
      exact lr
  · obtain ⟨r, hr, e⟩ := List.mem_map.mp hq
    rw [ge]
    by_cases z : r.1 = p
    · rw [if_pos z] at e
      subst e
      exact ⟨ws, upd_same, hd⟩
    · rw [if_neg z] at e
      subst e
      obtain ⟨us, a, b⟩ := k.mem r hr
      exact ⟨us, by rw [upd_ne z]; exact a, b⟩
theorem same_own (k : Ok0 K S H0 H M) (hp : H p = none) {o : HO} : Same (Gh S M H) (Gh S ((p, fl, xs) :: M) (upd H p o)) := fun a u e => by
  obtain ⟨e1, e2⟩ := hide_some e
  have ne : a ≠ p := ne_of_none e2 hp
  have e3 : Bm S ((p, fl, xs) :: M) a = false := by
    rw [bm_false] at e1 ⊢
    refine ⟨e1.1, fun q hq => ?_⟩
    rcases List.mem_cons.mp hq with rfl | hq
    · exact fun z => ne z.symm
    · exact e1.2 q hq
  unfold Gh
  rw [hide_f e3, upd_ne ne]
  exact e2
theorem ok_own (k : Ok0 K S H0 H M) (hp : H p = none) (hd : DpAll K (Gh S M H) vs xs) : Ok0 K S H0 (upd H p (.lst vs)) ((p, true, xs) :: M) := by
  have nb := bm_false.mp (new_hid k hp)
  have sm : Same (Gh S M H) (Gh S ((p, true, xs) :: M) (upd H p (.lst vs))) := same_own k hp
  have k2 := ok_new (o := .lst vs) k hp
  refine ⟨k2.xt, k2.inv, ?_, fun q hq => ?_, fun q hq => ?_⟩
  · rw [List.map_cons, List.nodup_cons]
    refine ⟨fun z => ?_, k.nd⟩
    obtain ⟨q, hq, e⟩ := List.mem_map.mp z
    exact nb.2 q hq e
  · rcases List.mem_cons.mp hq with rfl | hq
    · refine ⟨fun _ => ⟨nb.1, ?_⟩, fun z => by cases z⟩
      cases e : H0 p with
      | none => rfl
      | some o => have z := k.xt p o nb.1 e; rw [hp] at z; cases z
    · exact k.loc q hq
  · rcases List.mem_cons.mp hq with rfl | hq
    · exact ⟨vs, upd_same, dps_mono sm _ _ hd⟩
    · obtain ⟨us, a, b⟩ := k.mem q hq
      exact ⟨us, by rw [upd_ne (ne_of_none a hp)]; exact a, dps_mono sm _ _ b⟩
variable {A : AE} {te : TE} {ta : TA}
theorem ws_new {i : Nat} (h : WA K ta as M fun ss M' => ∃ ds : List PyData, ss = ds.map .dat ∧ ds.length ≤ 100000 ∧ ∀ a, (∀ q ∈ M', q.1 ≠ a) → A.nx (as.set i (.own a)) ((a, true, ds) :: M')) : WS K (tAsg (tLst ta) (gName i)) as M A := fun S H0 σ H D k r n _ _ _ =>
  h S H0 σ H k r _ fun vs H1 ss M1 k1 e1 b1 ⟨ds, es, hl, p⟩ => by
    subst es
    have bd := ra_dat b1
    refine ⟨sz_of (by rw [dps_len bd]; exact hl), fun a ha => ?_⟩
    have sm : Same (Gh S M1 H1) (Gh S ((a, true, ds) :: M1) (upd H1 a (.lst vs))) := same_own k1 ha
    exact n _ _ (as.set i (.own a)) _ (ok_own k1 ha bd) (((r.mono e1).mono sm).set i (s := .own a) rfl) (e1.trans sm) (p a (bm_false.mp (new_hid k1 ha)).2)
theorem tyl (k : Ok0 K S H0 H M) (hm : (p, fl, xs) ∈ M) : tyV K "list" (.ref p) H := by
  obtain ⟨vs, hp, _⟩ := k.mem _ hm
  exact Or.inl ⟨rfl, vs, SqL.of hp⟩
theorem ws_app {i : Nat} (hi : as[i]? = some (.own p)) (hm : (p, fl, xs) ∈ M) (h : W K te as M fun d M' => ∃ fl' ys, (p, fl', ys) ∈ M' ∧ ys.length < 100000 ∧ A.nx as (mset M' p (ys ++ [d]))) :
    WS K (tDrop (tBM K "list" rAppend (tVar i) (tCons te tNil))) as M A := fun S H0 σ H D k r n _ _ _ => by
  obtain ⟨o, e1, e2⟩ := r.at_ i _ hi
  cases (show o = some (V.ref p) from e2)
  refine ⟨.ref p, e1, tyl k hm, h S H0 σ H k r _ fun v H1 d M1 k1 e1 b1 ⟨fl', ys, hy, hl, q⟩ => ?_⟩
  obtain ⟨us, hp, hu⟩ := k1.mem _ hy
  refine ⟨p, us, v, rfl, rfl, hp, Nat.lt_of_lt_of_le (by rw [dps_len hu]; exact hl) (by decide), ?_⟩
  have ge : Gh S (mset M1 p (ys ++ [d])) (upd H1 p (.lst (us ++ [v]))) = Gh S M1 H1 := gh_write hy
  have k2 := ok_write (ws := us ++ [v]) (ys := ys ++ [d]) k1 hy (dps_app hu (.cons b1 .nil))
  exact n σ _ as _ k2 (by rw [ge]; exact r.mono e1) (by rw [ge]; exact e1) q
theorem ws_pop {i j : Nat} {d : PyData} (hi : as[i]? = some (.own p)) (hm : (p, fl, xs) ∈ M) (hl : xs[xs.length - 1]? = some d) (h : A.nx (as.set j (.dat d)) (mset M p xs.dropLast)) :
    WS K (tAsg (tBM0 K "list" rPop (tVar i)) (gName j)) as M A := fun S H0 σ H D k r n _ _ _ => by
  obtain ⟨o, e1, e2⟩ := r.at_ i _ hi
  cases (show o = some (V.ref p) from e2)
  obtain ⟨us, hp, hu⟩ := k.mem _ hm
  obtain ⟨v, hv, hvd⟩ := dps_at hu hl
  have ge : Gh S (mset M p xs.dropLast) (upd H p (.lst us.dropLast)) = Gh S M H := gh_write hm
  have k2 := ok_write (ws := us.dropLast) (ys := xs.dropLast) k hm (dps_dropLast hu)
  refine ⟨.ref p, e1, tyl k hm, p, us, v, rfl, rfl, hp, by rw [dps_len hu]; exact hv, ?_⟩
  exact n _ _ (as.set j (.dat d)) _ k2 (by rw [ge]; exact r.set j (s := .dat d) ⟨v, rfl, hvd⟩) (by rw [ge]; exact Same.refl _) h
theorem wt_own {i : Nat} {PT : Bool → Mm → Prop} (hi : as[i]? = some (.own p)) (hm : (p, fl, xs) ∈ M) (h : PT (!xs.isEmpty) M) : WT K (tTru K (tVar i)) as M PT := fun S H0 σ H k r Q q => by
  obtain ⟨o, e1, e2⟩ := r.at_ i _ hi
  cases (show o = some (V.ref p) from e2)
  obtain ⟨us, hp, hu⟩ := k.mem _ hm
  have el : us.isEmpty = xs.isEmpty := by
    have := dps_len hu
    cases us <;> cases xs <;> simp at this ⊢
  exact ⟨.ref p, e1, !us.isEmpty, Or.inl ⟨us, SqL.of hp, rfl⟩, by rw [el]; exact q _ H M k (Same.refl _) h⟩
/-- an own list of the def's is read from here on -/
def afrz (p : Addr) (xs : List PyData) : Sv → Sv
  | .own a => if a = p then .dat (.list xs) else .own a
  | s => s
theorem ws_frz {ts : TS} (hm : (p, true, xs) ∈ M) (h : WS K ts (as.map (afrz p xs)) (mdel M p) A) : WS K ts as M A := fun S H0 σ H D k r n rt b c => by
  obtain ⟨us, hp, hu⟩ := k.mem _ hm
  have hp : H p = some (.lst us) := hp
  have sb := (k.loc _ hm).1 rfl
  have sub : ∀ q ∈ mdel M p, q ∈ M ∧ q.1 ≠ p := fun q hq => by
    have z := List.mem_filter.mp hq
    exact ⟨z.1, by simpa using z.2⟩
  have bmp : Bm S (mdel M p) p = false := bm_false.mpr ⟨sb.1, fun q hq => (sub q hq).2⟩
  have sm : Same (Gh S M H) (Gh S (mdel M p) H) := fun a o e => by
    obtain ⟨e1, e2⟩ := hide_some e
    rw [bm_false] at e1
    unfold Gh
    rw [hide_f (bm_false.mpr ⟨e1.1, fun q hq => e1.2 q (sub q hq).1⟩)]
    exact e2
  have k2 : Ok0 K S H0 H (mdel M p) := ⟨k.xt, k.inv, (List.filter_sublist.map _).nodup k.nd, fun q hq => k.loc q (sub q hq).1, fun q hq => by
    obtain ⟨ws, a, b⟩ := k.mem q (sub q hq).1
    exact ⟨ws, a, dps_mono sm _ _ b⟩⟩
  have hg : Gh S (mdel M p) H p = some (.lst us) := by unfold Gh; rw [hide_f bmp]; exact hp
  have r2 : Rs K (Gh S (mdel M p) H) σ (as.map (afrz p xs)) := ⟨by rw [List.length_map]; exact r.len, fun i s q => by
    rw [List.getElem?_map] at q
    cases e : as[i]? with
    | none => rw [e] at q; cases q
    | some t =>
      rw [e] at q
      cases q
      obtain ⟨o, e1, e2⟩ := r.at_ i t e
      refine ⟨o, e1, ?_⟩
      cases t with
      | dat d => exact RSv.mono sm (s := .dat d) e2
      | no => trivial
      | own a =>
        show RSv K _ o (if a = p then .dat (.list xs) else .own a)
        by_cases z : a = p
        · rw [if_pos z]
          subst z
          exact ⟨.ref a, e2, .lst (SqL.of hg) (dps_mono sm _ _ hu)⟩
        · rw [if_neg z]
          exact e2⟩
  exact h S H0 σ H D k2 r2 (fun σ' H' as' M' k' r' e' => n σ' H' as' M' k' r' (sm.trans e')) rt (fun σ' H' as' M' k' r' e' => b σ' H' as' M' k' r' (sm.trans e')) (fun σ' H' as' M' k' r' e' => c σ' H' as' M' k' r' (sm.trans e'))
end

/-! ### calls -/
def spP (pre : List PyData → Prop) (post : List PyData → PyData → Prop) (K : PySem.W.Frag) : Sp := fun vs H Q _ => ∃ (S : Sy) (ds : List PyData), S.I H ∧ pre ds ∧ DpAll K (Hide S.B H) vs ds ∧
  ∀ v H' d, (∀ a o, S.B a = false → H a = some o → H' a = some o) → S.I H' → Dp K (Hide S.B H') v d → post ds d → Q v H'
def syAt (S : Sy) (M : Mm) (H1 : Hp) (h : ∀ q ∈ M, H1 q.1 ≠ none) : Sy where
  B := Bm S M
  I := fun H => S.I H ∧ ∀ q ∈ M, H q.1 = H1 q.1
  mono := fun H H' e i => ⟨S.mono H H' (fun a o e1 e2 => e a o (by unfold Bm; rw [e1]; rfl) e2) i.1, fun q hq => by
    have e2 := i.2 q hq
    cases e3 : H1 q.1 with
    | none => exact absurd e3 (h q hq)
    | some o => rw [e3] at e2; exact e _ o (by unfold Bm; rw [Bool.or_eq_true]; exact .inr (List.any_eq_true.mpr ⟨q, hq, by simp⟩)) e2⟩
  trk := fun H a i e => by
    rcases (Bool.or_eq_true _ _).mp e with e | e
    · exact S.trk H a i.1 e
    · obtain ⟨q, hq, z⟩ := List.any_eq_true.mp e
      have z : q.1 = a := by simpa using z
      rw [← z, i.2 q hq]
      exact h q hq
def syP (S : Sy) (p : Addr) (fl : Bool) (pl : List PyData) : Sy where
  B := Bm S [(p, fl, pl)]
  I := fun H => S.I H ∧ ∃ l, H p = some (.lst l)
  mono := fun H H' e i => ⟨S.mono H H' (fun a o e1 e2 => e a o (by unfold Bm; rw [e1]; rfl) e2) i.1, (by
    obtain ⟨l, e2⟩ := i.2
    exact ⟨l, e p _ (own_bm (List.mem_singleton.mpr rfl)) e2⟩)⟩
  trk := fun H a i e => by
    rcases (Bool.or_eq_true _ _).mp e with e | e
    · exact S.trk H a i.1 e
    · have z : p = a := by simpa using e
      obtain ⟨l, e2⟩ := i.2
      rw [← z, e2]; simp
def poolD (l : List PyData) : Prop := ∃ b s c : Int, l = [.int b, .int s, .int c] ∧ 0 ≤ b ∧ 0 ≤ s ∧ s < 2147483647 ∧ 0 ≤ c
def spQ (pre : List PyData → Prop) (post : List PyData → PyData → Prop) (K : PySem.W.Frag) : Sp := fun vs H Q _ => ∃ (S : Sy) (p : Addr) (ws : List V) (ds : List PyData) (l : List V) (pl : List PyData), vs = .ref p :: ws ∧ S.I H ∧ S.B p = true ∧ Stb S p ∧
  H p = some (.lst l) ∧ DpAll K (Hide S.B H) l pl ∧ poolD pl ∧ pre ds ∧ DpAll K (Hide S.B H) ws ds ∧
  ∀ v H' d l' pl', (∀ a o, S.B a = false → H a = some o → H' a = some o) → S.I H' → H' p = some (.lst l') → DpAll K (Hide S.B H') l' pl' → poolD pl' → Dp K (Hide S.B H') v d → post ds d → Q v H'
section
variable {K : PySem.W.Frag} {as : List Sv} {M : Mm} {ta : TA} {pre : List PyData → Prop} {post : List PyData → PyData → Prop} {P : PyData → Mm → Prop} {E : XK}
theorem gh_any {S : Sy} {H H' : Hp} (x : ∀ a o, Bm S M a = false → H a = some o → H' a = some o) : Same (Gh S M H) (Gh S M H') := fun a o e => by
  obtain ⟨e1, e2⟩ := hide_some e
  unfold Gh
  rw [hide_f e1]
  exact x a o e1 e2
theorem w_call (h : WA K ta as M fun ss M1 => ∃ ds : List PyData, ss = ds.map .dat ∧ pre ds ∧ ∀ d, post ds d → P d M1) : W K (tCall (spP pre post K) [] E ta) as M P := fun S H0 σ H k r Q q =>
  h S H0 σ H k r _ fun vs H1 ss M1 k1 e1 b1 ⟨ds, es, hp, p⟩ => by
    subst es
    rw [List.append_nil]
    refine ⟨syAt S M1 H1 fun z hz => by obtain ⟨us, a, _⟩ := k1.mem z hz; rw [a]; simp, ds, ⟨k1.inv, fun _ _ => rfl⟩, hp, ra_dat b1, fun v H' d xt iv dp pd => ?_⟩
    have sm : Same (Gh S M1 H1) (Gh S M1 H') := gh_any xt
    refine q v H' d M1 ⟨fun a o e3 e4 => ?_, iv.1, k1.nd, k1.loc, fun z hz => ?_⟩ (e1.trans sm) dp (p d pd)
    · have e5 := k1.xt a o e3 e4
      by_cases e6 : Bm S M1 a = false
      · exact xt a o e6 e5
      · have e7 : Bm S M1 a = true := by simpa using e6
        rcases (Bool.or_eq_true _ _).mp e7 with e | e
        · rw [e3] at e; cases e
        · obtain ⟨z, hz, y⟩ := List.any_eq_true.mp e
          have y : z.1 = a := by simpa using y
          rw [← y, iv.2 z hz, y]
          exact e5
    · obtain ⟨us, a, b⟩ := k1.mem z hz
      exact ⟨us, by rw [iv.2 z hz]; exact a, dps_mono sm _ _ b⟩
theorem w_callQ (h : WA K ta as M fun ss M1 => ∃ (p : Addr) (fl : Bool) (pl ds : List PyData), ss = .own p :: ds.map .dat ∧ M1 = [(p, fl, pl)] ∧ poolD pl ∧ pre ds ∧ ∀ d pl', poolD pl' → post ds d → P d [(p, fl, pl')]) :
    W K (tCall (spQ pre post K) [] E ta) as M P := fun S H0 σ H k r Q q =>
  h S H0 σ H k r _ fun vs H1 ss M1 k1 e1 b1 ⟨p, fl, pl, ds, es, em, hpl, hp, cont⟩ => by
    subst es em
    rw [List.append_nil]
    match vs, b1 with
    | v0 :: ws, ⟨q1, q2⟩ =>
      cases (show some v0 = some (V.ref p) from q1)
      have hm : (p, fl, pl) ∈ [(p, fl, pl)] := List.mem_singleton.mpr rfl
      obtain ⟨us, hus, hud⟩ := k1.mem _ hm
      have hus : H1 p = some (.lst us) := hus
      have lc := k1.loc _ hm
      let S' : Sy := syP S p fl pl
      have stb : Stb S' p := fun H l l' i hl => ⟨by
        cases fl with
        | true => exact S.mono H _ (fun a o y1 y2 => by rw [upd_ne (fun z => by have w := (lc.1 rfl).1; rw [z] at y1; rw [show S.B p = true from y1] at w; cases w)]; exact y2) i.1
        | false => exact (lc.2 rfl).2 H l l' i.1 hl, ⟨l', upd_same⟩⟩
      refine ⟨S', p, ws, ds, us, pl, rfl, ⟨k1.inv, us, hus⟩, own_bm hm, stb, hus, hud, hpl, hp, ra_dat q2, fun v H' d l' pl' xt iv hl' hd' hpl' dp pd => ?_⟩
      have be : Bm S [(p, fl, pl')] = Bm S [(p, fl, pl)] := rfl
      have sm : Same (Gh S [(p, fl, pl)] H1) (Gh S [(p, fl, pl')] H') := fun a o e => by
        obtain ⟨e1, e2⟩ := hide_some e
        unfold Gh
        rw [be, hide_f e1]
        exact xt a o e1 e2
      refine q v H' d [(p, fl, pl')] ⟨fun a o e3 e4 => ?_, iv.1, by simp, fun z hz => ?_, fun z hz => ?_⟩ (e1.trans sm) dp (cont d pl' hpl' pd)
      · have e5 := k1.xt a o e3 e4
        refine xt a o ?_ e5
        refine bm_false.mpr ⟨e3, fun z hz => ?_⟩
        have z1 := List.mem_singleton.mp hz
        subst z1
        intro z2
        have z2 : p = a := z2
        subst z2
        cases fl with
        | true => rw [(lc.1 rfl).2] at e4; cases e4
        | false => have z := (lc.2 rfl).1; rw [e3] at z; cases z
      · have z1 := List.mem_singleton.mp hz
        subst z1
        exact lc
      · have z1 := List.mem_singleton.mp hz
        subst z1
        exact ⟨l', hl', hd'⟩
theorem bm_nil {S : Sy} : Bm S [] = S.B := by
  funext a
  unfold Bm
  simp
/-- a def of data keeps its word -/
theorem to_spP {t : TS} {N : List Str} {vs : List V} {H : Hp} {Q : VK} {n : Nat} (hn : ∀ ds, pre ds → ds.length = n) (hb : ∀ ds, pre ds → WS K t (ds.map .dat ++ List.replicate (N.length - n) .no) [] ⟨fun _ _ => post ds .none, fun d _ => post ds d, fun _ _ => False, fun _ _ => False⟩)
    (h : spP pre post K vs H Q E) : t { nx := fun _ H' => Q .non H', rt := Q } (L2.start N vs) H := by
  obtain ⟨S, ds, iv, hp, hd, q⟩ := h
  have ln : vs.length = n := by rw [dps_len hd]; exact hn ds hp
  have k0 : Ok0 K S H H [] := ⟨fun _ _ _ e => e, iv, List.nodup_nil, (fun z hz => by cases hz), (fun z hz => by cases hz)⟩
  have hg : Gh S [] H = Hide S.B H := by unfold Gh; rw [bm_nil]
  have r0 : Rs K (Gh S [] H) (L2.start N vs) (ds.map .dat ++ List.replicate (N.length - n) .no) := by
    unfold L2.start
    rw [ln, hg]
    exact ra_start _ (dat_ra hd)
  have fin : ∀ v H' d M', Ok0 K S H H' M' → Dp K (Gh S M' H') v d → post ds d → Q v H' := fun v H' d M' k' dp pd => by
    refine q v H' d k'.xt k'.inv (dp_mono (fun a o e => ?_) _ _ dp) pd
    obtain ⟨e1, e2⟩ := hide_some e
    rw [hide_f (bm_false.mp e1).1]
    exact e2
  exact hb ds hp S H (L2.start N vs) H _ k0 r0 (fun σ' H' as' M' k' _ _ p => fin .non H' .none M' k' .non p) (fun v H' d M' k' dp p => fin v H' d M' k' dp p) (fun _ _ _ _ _ _ _ p => p.elim) (fun _ _ _ _ _ _ _ p => p.elim)
theorem to_spQ {t : TS} {N : List Str} {vs : List V} {H : Hp} {Q : VK} {n : Nat} (hn : ∀ ds, pre ds → ds.length = n) (hb : ∀ p pl ds, poolD pl → pre ds → WS K t (.own p :: ds.map .dat ++ List.replicate (N.length - (n + 1)) .no) [(p, false, pl)]
      ⟨fun _ M => ∃ pl', M = [(p, false, pl')] ∧ poolD pl' ∧ post ds .none, fun d M => ∃ pl', M = [(p, false, pl')] ∧ poolD pl' ∧ post ds d, fun _ _ => False, fun _ _ => False⟩)
    (h : spQ pre post K vs H Q E) : t { nx := fun _ H' => Q .non H', rt := Q } (L2.start N vs) H := by
  obtain ⟨S, p, ws, ds, l, pl, ev, iv, hB, stb, hl, hld, hpl, hp, hd, q⟩ := h
  subst ev
  have ln : ws.length = n := by rw [dps_len hd]; exact hn ds hp
  have hm : (p, false, pl) ∈ [(p, false, pl)] := List.mem_singleton.mpr rfl
  have be : ∀ pl' : List PyData, Bm S [(p, false, pl')] = S.B := fun pl' => by
    funext a
    unfold Bm
    cases e : S.B a with
    | true => rfl
    | false =>
      have : (p == a) = false := by
        rw [beq_eq_false_iff_ne]
        intro z
        rw [← z, hB] at e
        cases e
      simp [this]
  have k0 : Ok0 K S H H [(p, false, pl)] := ⟨fun _ _ _ e => e, iv, by simp, fun z hz => by
    have z1 := List.mem_singleton.mp hz
    subst z1
    exact ⟨(fun z => by cases z), fun _ => ⟨hB, stb⟩⟩, fun z hz => by
    have z1 := List.mem_singleton.mp hz
    subst z1
    exact ⟨l, hl, by rw [be]; exact hld⟩⟩
  have r0 : Rs K (Gh S [(p, false, pl)] H) (L2.start N (.ref p :: ws)) (.own p :: ds.map .dat ++ List.replicate (N.length - (n + 1)) .no) := by
    unfold L2.start Gh
    rw [be, List.length_cons, ln]
    exact ra_start (vs := .ref p :: ws) (ss := .own p :: ds.map .dat) _ ⟨rfl, dat_ra hd⟩
  have fin : ∀ v H' d M', Ok0 K S H H' M' → Dp K (Gh S M' H') v d → (∃ pl', M' = [(p, false, pl')] ∧ poolD pl' ∧ post ds d) → Q v H' := fun v H' d M' k' dp ⟨pl', em, hpl', pd⟩ => by
    subst em
    obtain ⟨l', hl', hd'⟩ := k'.mem _ (List.mem_singleton.mpr rfl)
    unfold Gh at dp
    rw [be] at dp hd'
    exact q v H' d l' pl' k'.xt k'.inv hl' hd' hpl' dp pd
  exact hb p pl ds hpl hp S H _ H _ k0 r0 (fun σ' H' as' M' k' _ _ p => fin .non H' .none M' k' .non p) (fun v H' d M' k' dp p => fin v H' d M' k' dp p) (fun _ _ _ _ _ _ _ p => p.elim) (fun _ _ _ _ _ _ _ p => p.elim)
theorem spP_len {vs : List V} {H : Hp} {Q : VK} {n : Nat} (hn : ∀ ds, pre ds → ds.length = n) (h : spP pre post K vs H Q E) : vs.length = n := by
  obtain ⟨S, ds, _, hp, hd, _⟩ := h
  rw [dps_len hd]; exact hn ds hp
theorem spQ_len {vs : List V} {H : Hp} {Q : VK} {n : Nat} (hn : ∀ ds, pre ds → ds.length = n) (h : spQ pre post K vs H Q E) : vs.length = n + 1 := by
  obtain ⟨S, p, ws, ds, l, pl, ev, _, _, _, _, _, _, hp, hd, _⟩ := h
  rw [ev, List.length_cons, dps_len hd, hn ds hp]
end
end Ab

set_option Elab.async false
set_option linter.all false
set_option maxRecDepth 100000
set_option maxHeartbeats 4000000
namespace Ab
open PySem PySem.Spec PyProof.Rows L2

/-! ### what is walked -/
structure ItOk (K : PySem.W.Frag) (J : It) (G0 : Hp) (xs : List PyData) : Prop where
  go : ∀ G H i, Same G0 G → Same G H → i < xs.length → J.go i H
  yld : ∀ G H i v H', Same G0 G → Same G H → J.yld i H v H' → H' = H ∧ ∀ d, xs[i]? = some d → Dp K G v d
  stop : ∀ G H, Same G0 G → Same G H → J.stop xs.length H
def WI (K : PySem.W.Frag) (wi : TI) (as : List Sv) (M : Mm) (P : List PyData → Mm → Prop) : Prop := ∀ S H0 σ H, Ok0 K S H0 H M → Rs K (Gh S M H) σ as → ∀ R : It → Hp → Prop,
  (∀ J H' xs M', Ok0 K S H0 H' M' → Same (Gh S M H) (Gh S M' H') → ItOk K J (Gh S M' H') xs → P xs M' → R J H') → wi σ H R
/-- a list or a tuple, whichever comes -/
def iSeq (K : PySem.W.Frag) (tl : TE) : TI := fun σ H R => tl σ H fun x H1 => ∃ a, x = .ref a ∧ (((∃ xs, SqL K H1 a xs) ∧ R (Itl K a) H1) ∨ ((∃ xs, SqT K H1 a xs) ∧ R (Itt K a) H1))
theorem pi_seq {X : Cx} {tg l : Expr} {tl : TE} (hl : PE X l tl) : PI X tg l (iSeq X.K tl) := by
  refine ⟨fun pins s σ H R I h => ?_⟩
  refine thn (hl.run pins s σ H _ I h) fun v s1 ⟨x, H1, I1, r1, q1⟩ => ?_
  obtain ⟨a, e, q⟩ := q1
  subst e
  cases r1
  rcases q with ⟨⟨xs, hq⟩, q⟩ | ⟨⟨xs, hq⟩, q⟩
  · obtain ⟨its, rv, p, hz⟩ := I1.list hq
    refine wpAny_pyIter_list p.isList ?_
    refine ⟨s1.heap.objs.size, [s1.heap.objs.size], _, _, H1, rfl, I1.kept (t' := s1.toks) fun b o e => Heap.get?_push_of_some _ e, turn_list a _, ⟨_, Heap.get?_push_size _ rfl, rfl, rfl⟩, fun b hb => ?_, q⟩
    have e : b = s1.heap.objs.size := by simpa using hb
    subst e
    exact I1.fpOk (Nat.le_refl _) (I1.hok.fresh (Nat.le_refl _))
  · obtain ⟨its, rv, p, hz⟩ := I1.tuple hq
    refine wpAny_pyIter_tuple (show s1.heap.IsTuple a its.toArray from p) ?_
    refine ⟨s1.heap.objs.size, [s1.heap.objs.size], _, _, H1, rfl, I1.kept (t' := s1.toks) fun b o e => Heap.get?_push_of_some _ e, turn_tuple a _, ⟨_, Heap.get?_push_size _ rfl, rfl, rfl⟩, fun b hb => ?_, q⟩
    have e : b = s1.heap.objs.size := by simpa using hb
    subst e
    exact I1.fpOk (Nat.le_refl _) (I1.hok.fresh (Nat.le_refl _))
section
variable {K : PySem.W.Frag} {as : List Sv} {M : Mm} {tl : TE} {P : List PyData → Mm → Prop}
theorem itl_ok {a : Addr} {vs : List V} {xs : List PyData} {G0 : Hp} (h : SqL K G0 a vs) (hd : DpAll K G0 vs xs) : ItOk K (Itl K a) G0 xs := by
  have ln := dps_len hd
  refine ⟨fun G H i e1 e2 hi => ?_, fun G H i v H' e1 e2 y => ?_, fun G H e1 e2 => ?_⟩
  · exact ⟨vs, vs[i]'(by omega), e2.seq (e1.seq h), by simp [show i < vs.length by omega]⟩
  · refine ⟨y.1, fun d hx => ?_⟩
    obtain ⟨w, a1, b1⟩ := dps_at hd hx
    have z := y.2 vs (e2.seq (e1.seq h))
    rw [a1] at z
    cases z
    exact dp_mono e1 _ _ b1
  · exact ⟨vs, e2.seq (e1.seq h), by omega⟩
theorem itt_ok {a : Addr} {vs : List V} {xs : List PyData} {G0 : Hp} (h : SqT K G0 a vs) (hd : DpAll K G0 vs xs) : ItOk K (Itt K a) G0 xs := by
  have ln := dps_len hd
  refine ⟨fun G H i e1 e2 hi => ?_, fun G H i v H' e1 e2 y => ?_, fun G H e1 e2 => ?_⟩
  · exact ⟨vs, vs[i]'(by omega), seqT e2 (seqT e1 h), by simp [show i < vs.length by omega]⟩
  · refine ⟨y.1, fun d hx => ?_⟩
    obtain ⟨w, a1, b1⟩ := dps_at hd hx
    have z := y.2 vs (seqT e2 (seqT e1 h))
    rw [a1] at z
    cases z
    exact dp_mono e1 _ _ b1
  · exact ⟨vs, seqT e2 (seqT e1 h), by omega⟩
theorem itv_ok {a : Addr} {vs : List V} {xs : List PyData} {G0 : Hp} (h : SqL K G0 a vs) (hd : DpAll K G0 vs xs) : ItOk K (Itv K a vs.length) G0 xs.reverse := by
  have ln := dps_len hd
  have lr : xs.reverse.length = vs.length := by rw [List.length_reverse]; omega
  refine ⟨fun G H i e1 e2 hi => ?_, fun G H i v H' e1 e2 y => ?_, fun G H e1 e2 => ?_⟩
  · rw [lr] at hi
    exact ⟨hi, vs, vs[vs.length - 1 - i]'(by omega), e2.seq (e1.seq h), by simp [show vs.length - 1 - i < vs.length by omega]⟩
  · refine ⟨y.1, fun d hx => ?_⟩
    have hi : i < xs.length := by have := (List.getElem?_eq_some_iff.mp hx).1; rw [List.length_reverse] at this; exact this
    rw [List.getElem?_reverse hi] at hx
    obtain ⟨w, a1, b1⟩ := dps_at hd hx
    have z := y.2 vs (e2.seq (e1.seq h))
    rw [show vs.length - 1 - i = xs.length - 1 - i by omega, a1] at z
    cases z
    exact dp_mono e1 _ _ b1
  · rw [lr]; exact Nat.le_refl _
theorem itvt_ok {a : Addr} {vs : List V} {xs : List PyData} {G0 : Hp} (h : SqT K G0 a vs) (hd : DpAll K G0 vs xs) : ItOk K (RT.ItvT K a vs.length) G0 xs.reverse := by
  have ln := dps_len hd
  have lr : xs.reverse.length = vs.length := by rw [List.length_reverse]; omega
  refine ⟨fun G H i e1 e2 hi => ?_, fun G H i v H' e1 e2 y => ?_, fun G H e1 e2 => ?_⟩
  · rw [lr] at hi
    exact ⟨hi, vs, vs[vs.length - 1 - i]'(by omega), seqT e2 (seqT e1 h), by simp [show vs.length - 1 - i < vs.length by omega]⟩
  · refine ⟨y.1, fun d hx => ?_⟩
    have hi : i < xs.length := by have := (List.getElem?_eq_some_iff.mp hx).1; rw [List.length_reverse] at this; exact this
    rw [List.getElem?_reverse hi] at hx
    obtain ⟨w, a1, b1⟩ := dps_at hd hx
    have z := y.2 vs (seqT e2 (seqT e1 h))
    rw [show vs.length - 1 - i = xs.length - 1 - i by omega, a1] at z
    cases z
    exact dp_mono e1 _ _ b1
  · rw [lr]; exact Nat.le_refl _
theorem wi_seq (h : W K tl as M fun d M' => ∃ xs, (d = .list xs ∨ d = .tuple xs) ∧ P xs M') : WI K (iSeq K tl) as M P := fun S H0 σ H k r R q =>
  h S H0 σ H k r _ fun v H1 d M1 k1 e1 b1 ⟨xs, hd, p⟩ => by
    rcases hd with rfl | rfl
    · cases b1 with
      | lst hs ha => exact ⟨_, rfl, .inl ⟨⟨_, same_hide.seq hs⟩, q _ H1 xs M1 k1 e1 (itl_ok hs ha) p⟩⟩
    · cases b1 with
      | tup hs ha => exact ⟨_, rfl, .inr ⟨⟨_, seqT same_hide hs⟩, q _ H1 xs M1 k1 e1 (itt_ok hs ha) p⟩⟩
theorem wi_list (h : W K tl as M fun d M' => ∃ xs, d = .list xs ∧ P xs M') : WI K (iList K tl) as M P := fun S H0 σ H k r R q =>
  h S H0 σ H k r _ fun v H1 d M1 k1 e1 b1 ⟨xs, hd, p⟩ => by
    subst hd
    cases b1 with
    | lst hs ha => exact ⟨_, rfl, ⟨_, same_hide.seq hs⟩, q _ H1 xs M1 k1 e1 (itl_ok hs ha) p⟩
theorem wi_rev (h : W K tl as M fun d M' => ∃ xs, (d = .list xs ∨ d = .tuple xs) ∧ P xs.reverse M') : WI K (RT.iRevA K tl) as M P := fun S H0 σ H k r R q =>
  h S H0 σ H k r _ fun v H1 d M1 k1 e1 b1 ⟨xs, hd, p⟩ => by
    rcases hd with rfl | rfl
    · cases b1 with
      | lst hs ha => exact ⟨_, _, rfl, .inl ⟨same_hide.seq hs, q _ H1 _ M1 k1 e1 (itv_ok hs ha) p⟩⟩
    · cases b1 with
      | tup hs ha => exact ⟨_, _, rfl, .inr ⟨seqT same_hide hs, q _ H1 _ M1 k1 e1 (itvt_ok hs ha) p⟩⟩
theorem wi_rng {ta : TA} (h : WA K ta as M fun ss M' => ∃ n : Int, ss = [.dat (.int n)] ∧ n ≤ 1000000 ∧ -1000000 ≤ n ∧ P ((List.range n.toNat).map fun (i : Nat) => PyData.int (i : Int)) M') : WI K (iRng1 ta) as M P := fun S H0 σ H k r R q =>
  h S H0 σ H k r _ fun vs H1 ss M1 k1 e1 b1 ⟨n, es, h1, h2, p⟩ => by
    subst es
    match vs, b1 with
    | [v], ⟨⟨w, ew, dw⟩, _⟩ =>
      cases ew
      cases dw
      refine ⟨n, rfl, by omega, by omega, q _ H1 _ M1 k1 e1 ⟨fun G H i e1 e2 hi => ?_, fun G H i v H' e1 e2 y => ?_, fun G H e1 e2 => ?_⟩ p⟩
      · rw [List.length_map, List.length_range] at hi
        exact hi
      · refine ⟨y.1, fun d hx => ?_⟩
        have hi : i < n.toNat := by
          have := (List.getElem?_eq_some_iff.mp hx).1
          simpa using this
        rw [List.getElem?_map, List.getElem?_range hi] at hx
        cases hx
        rw [y.2, Int.zero_add]
        exact .int _
      · show n.toNat ≤ _
        simp
def signs (x : Str) : List PyData := x.cps.toList.map fun c => .str ⟨#[c]⟩
theorem wi_str (h : W K tl as M fun d M' => ∃ x, d = .str x ∧ P (signs x) M') : WI K (iStr tl) as M P := fun S H0 σ H k r R q =>
  h S H0 σ H k r _ fun v H1 d M1 k1 e1 b1 ⟨x, hd, p⟩ => by
    subst hd
    cases b1
    refine ⟨x, rfl, q _ H1 _ M1 k1 e1 ⟨fun G H i e1 e2 hi => ?_, fun G H i v H' e1 e2 y => ?_, fun G H e1 e2 => ?_⟩ p⟩
    · simpa [signs, Its] using hi
    · refine ⟨y.1, fun d hx => ?_⟩
      obtain ⟨c, hc, ev⟩ := y.2
      subst ev
      unfold signs at hx
      rw [List.getElem?_map, Array.getElem?_toList, hc] at hx
      cases hx
      exact .str _
    · simp [signs, Its]
end

/-! ### targets -/
/-- a, b = a tuple or a list of two -/
def gSeq (K : PySem.W.Frag) (n : Nat) (t : TGs) : TG := fun v σ H Q => gTup K n t v σ H Q ∨ gLst K n t v σ H Q
theorem pg_seq {X : Cx} {es : List Expr} {k : Nat} {t : TGs} {n : Nat} {pos : Pos} (hc : X.calm = true) (h : PGs X es t) (hn : (assignEach es X.env).length = n) (hst : (assignEach es X.env).findIdx? (·.1) = none) : PG X (.Tuple es k pos) (gSeq X.K n t) :=
  ⟨fun pins s σ H v u Q I r hw => hw.elim (fun q => (pg_tup hc h hn hst).run pins s σ H v u Q I r q) (fun q => (pg_lst hc h hn hst).run pins s σ H v u Q I r q)⟩
def awipe (as : List Sv) : List Nat → List Sv
  | [] => as
  | v :: vs => (awipe as vs).set v .no
def GA (K : PySem.W.Frag) (g : TG) (ts : List Nat) (f : PyData → List Sv → (List Sv → Prop) → Prop) : Prop := ∀ (G H : Hp) (v : V) (d : PyData) (σ : L2.St) (as : List Sv) (P : List Sv → Prop), Same G H → Dp K G v d → Rs K G σ as → f d as P →
  ∀ Q : L2.St → Hp → Prop, (∀ σ' as', Rs K G σ' as' → (∀ vs, (∀ t ∈ ts, t ∈ vs) → wipe σ' vs = wipe σ vs) → P as' → Q σ' H) → g v σ H Q
section
variable {K : PySem.W.Frag} {as : List Sv} {M : Mm}
theorem wipe_at (σ : L2.St) : ∀ (vs : List Nat) (i : Nat), (wipe σ vs)[i]? = if i ∈ vs ∧ i < σ.length then some none else σ[i]?
  | [], i => by simp [wipe]
  | v :: vs, i => by
    unfold wipe
    by_cases e : v = i
    · subst e
      by_cases hl : v < σ.length
      · rw [List.getElem?_set_self (by rw [wipe_length]; exact hl), if_pos ⟨List.mem_cons_self, hl⟩]
      · rw [if_neg (fun z => hl z.2), List.getElem?_eq_none (by rw [List.length_set, wipe_length]; omega), List.getElem?_eq_none (by omega)]
    · rw [List.getElem?_set_ne e, wipe_at σ vs i]
      have : (i ∈ v :: vs) ↔ i ∈ vs := by simp [Ne.symm e]
      simp only [this]
theorem wipe_set {σ : L2.St} {vs : List Nat} {i : Nat} {o : Option V} (h : i ∈ vs) : wipe (σ.set i o) vs = wipe σ vs := by
  apply List.ext_getElem?
  intro j
  rw [wipe_at, wipe_at, List.length_set]
  by_cases hj : j ∈ vs ∧ j < σ.length
  · rw [if_pos hj, if_pos hj]
  · rw [if_neg hj, if_neg hj]
    by_cases e : i = j
    · subst e
      have : ¬ i < σ.length := fun z => hj ⟨h, z⟩
      rw [List.getElem?_eq_none (by rw [List.length_set]; omega), List.getElem?_eq_none (by omega)]
    · rw [List.getElem?_set_ne e]
theorem wipe_wipe {σ : L2.St} {vs : List Nat} : wipe (wipe σ vs) vs = wipe σ vs := by
  apply List.ext_getElem?
  intro j
  rw [wipe_at, wipe_at, wipe_length]
  by_cases hj : j ∈ vs ∧ j < σ.length
  · rw [if_pos hj, if_pos hj]
  · rw [if_neg hj]
theorem awipe_len (as : List Sv) : ∀ vs, (awipe as vs).length = as.length
  | [] => rfl
  | v :: vs => by unfold awipe; rw [List.length_set, awipe_len as vs]
theorem rs_wipe {G : Hp} {σ : L2.St} (r : Rs K G σ as) : ∀ vs, Rs K G (wipe σ vs) (awipe as vs)
  | [] => r
  | v :: vs => by
    have ih := rs_wipe r vs
    unfold wipe awipe
    refine ⟨by rw [List.length_set, List.length_set, ih.len], fun i s q => ?_⟩
    by_cases e : v = i
    · subst e
      have hl : v < (awipe as vs).length := by
        have := (List.getElem?_eq_some_iff.mp q).1
        simpa using this
      rw [List.getElem?_set_self hl] at q
      cases q
      exact ⟨none, List.getElem?_set_self (by rw [ih.len]; exact hl), trivial⟩
    · rw [List.getElem?_set_ne e] at q
      obtain ⟨o, a, b⟩ := ih.at_ i s q
      exact ⟨o, by rw [List.getElem?_set_ne e]; exact a, b⟩
theorem ga_name {i : Nat} : GA K (gName i) [i] (fun d as P => P (as.set i (.dat d))) := fun G H v d σ as P e hd r p Q q =>
  q _ _ (r.set i (s := .dat d) ⟨v, rfl, hd⟩) (fun vs hv => wipe_set (hv i List.mem_cons_self)) p
theorem ga_pair {i j : Nat} : GA K (gSeq K 2 (gCons (gName i) (gCons (gName j) gNil))) [i, j] (fun d as P => ∃ a b, (d = .tuple [a, b] ∨ d = .list [a, b]) ∧ P ((as.set i (.dat a)).set j (.dat b))) := fun G H v d σ as P e hd r ⟨a, b, ed, p⟩ Q q => by
  have fin : ∀ {v1 v2 : V}, Dp K G v1 a → Dp K G v2 b → Q ((σ.set i (some v1)).set j (some v2)) H := fun h1 h2 =>
    q _ _ ((r.set i (s := .dat a) ⟨_, rfl, h1⟩).set j (s := .dat b) ⟨_, rfl, h2⟩) (fun vs hv => by rw [wipe_set (hv j (by simp)), wipe_set (hv i (by simp))]) p
  rcases ed with rfl | rfl
  · cases hd with
    | tup hs ha =>
      cases ha with
      | cons h1 h2 =>
        cases h2 with
        | cons h2 h3 =>
          cases h3
          exact .inl ⟨_, _, rfl, seqT e hs, rfl, _, _, rfl, _, _, rfl, rfl, fin h1 h2⟩
  · cases hd with
    | lst hs ha =>
      cases ha with
      | cons h1 h2 =>
        cases h2 with
        | cons h2 h3 =>
          cases h3
          exact .inr ⟨_, _, rfl, e.seq hs, rfl, _, _, rfl, _, _, rfl, rfl, fin h1 h2⟩

/-! ### for, while -/
variable {A : AE} {wi : TI} {g : TG} {tb : TS} {ts : List Nat} {f : PyData → List Sv → (List Sv → Prop) → Prop}
theorem ws_for (hg : GA K g ts f) (h : WI K wi as M fun xs M1 => ∃ IV : Nat → List Sv → Mm → Prop, IV 0 as M1 ∧
    (∀ i x as' M', xs[i]? = some x → IV i as' M' → f x as' fun as2 => WS K tb as2 M' { A with nx := IV (i + 1), ct := IV (i + 1), bk := A.nx }) ∧ (∀ as' M', IV xs.length as' M' → A.nx as' M')) : WS K (tFor wi g tb) as M A := fun S H0 σ H D k r n rt b c =>
  h S H0 σ H k r _ fun J H1 xs M1 k1 e1 hJ ⟨IV, i0, step, fin⟩ => by
    refine ⟨fun i m σ' H' => m = xs.length - i ∧ i ≤ xs.length ∧ ∃ as' M', IV i as' M' ∧ Ok0 K S H0 H' M' ∧ Rs K (Gh S M' H') σ' as' ∧ Same (Gh S M1 H1) (Gh S M' H'), ⟨xs.length, by simp, Nat.zero_le _, as, M1, i0, k1, r.mono e1, Same.refl _⟩, ?_⟩
    rintro i m σ' H' ⟨rfl, hi, as', M', hI, k', r', e'⟩
    by_cases hlt : i < xs.length
    · refine .inr ⟨hJ.go _ _ i e' same_hide hlt, fun σ'' H'' => ∃ as' M', IV (i + 1) as' M' ∧ Ok0 K S H0 H'' M' ∧ Rs K (Gh S M' H'') σ'' as' ∧ Same (Gh S M1 H1) (Gh S M' H''), fun σ'' H'' ⟨as'', M'', q⟩ => ⟨xs.length - (i + 1), by omega, rfl, hlt, as'', M'', q⟩, fun v H2 y => ?_⟩
      obtain ⟨eh, yd⟩ := hJ.yld _ _ i v H2 e' same_hide y
      subst eh
      have hx : xs[i]? = some xs[i] := List.getElem?_eq_getElem hlt
      refine hg (Gh S M' H2) H2 v xs[i] σ' as' _ same_hide (yd _ hx) r' (step i _ as' M' hx hI) _ fun σ2 as2 r2 _ p => ?_
      exact p S H0 σ2 H2 _ k' r2 (fun σ3 H3 as3 M3 k3 r3 e3 p3 => ⟨as3, M3, p3, k3, r3, e'.trans e3⟩) rt (fun σ3 H3 as3 M3 k3 r3 e3 p3 => n σ3 H3 as3 M3 k3 r3 ((e1.trans e').trans e3) p3) (fun σ3 H3 as3 M3 k3 r3 e3 p3 => ⟨as3, M3, p3, k3, r3, e'.trans e3⟩)
    · have e : i = xs.length := by omega
      subst e
      exact .inl ⟨hJ.stop _ _ e' same_hide, n σ' H' as' M' k' r' (e1.trans e') (fin as' M' hI)⟩
theorem ws_while {tc : TT} (IV : Nat → List Sv → Mm → Prop) (m0 : Nat) (h0 : IV m0 as M) (h : ∀ m as' M', IV m as' M' → WT K tc as' M' fun b M1 => if b = true then WS K tb as' M1 { A with nx := fun a' m' => ∃ j, j < m ∧ IV j a' m', ct := fun a' m' => ∃ j, j < m ∧ IV j a' m', bk := A.nx } else A.nx as' M1) :
    WS K (tWhile tc tb) as M A := fun S H0 σ H D k r n rt b c => by
  refine ⟨fun m σ' H' => ∃ as' M', IV m as' M' ∧ Ok0 K S H0 H' M' ∧ Rs K (Gh S M' H') σ' as' ∧ Same (Gh S M H) (Gh S M' H'), ⟨m0, as, M, h0, k, r, Same.refl _⟩, ?_⟩
  rintro m σ' H' ⟨as', M', hI, k', r', e'⟩
  refine h m as' M' hI S H0 σ' H' k' r' _ fun b1 H1 M1 k1 e1 p => ?_
  cases b1 with
  | false =>
    exact n σ' H1 as' M1 k1 (r'.mono e1) (e'.trans e1) p
  | true =>
    refine ⟨fun σ'' H'' => ∃ j, j < m ∧ ∃ as' M', IV j as' M' ∧ Ok0 K S H0 H'' M' ∧ Rs K (Gh S M' H'') σ'' as' ∧ Same (Gh S M H) (Gh S M' H''), fun σ'' H'' q => q, ?_⟩
    exact (show WS K tb as' M1 _ from p) S H0 σ' H1 _ k1 (r'.mono e1) (fun σ3 H3 as3 M3 k3 r3 e3 ⟨j, hj, p3⟩ => ⟨j, hj, as3, M3, p3, k3, r3, (e'.trans e1).trans e3⟩) rt (fun σ3 H3 as3 M3 k3 r3 e3 p3 => n σ3 H3 as3 M3 k3 r3 ((e'.trans e1).trans e3) p3)
      (fun σ3 H3 as3 M3 k3 r3 e3 ⟨j, hj, p3⟩ => ⟨j, hj, as3, M3, p3, k3, r3, (e'.trans e1).trans e3⟩)
end

/-! ### comprehensions -/
def syD (S : Sy) (D : Addr) (va : List V) : Sy where
  B := fun a => S.B a || a == D
  I := fun H => S.I H ∧ H D = some (.lst va)
  mono := fun H H' e i => ⟨S.mono H H' (fun a o e1 e2 => e a o (by rw [e1]; rfl) e2) i.1, e D _ (by simp) i.2⟩
  trk := fun H a i e => by
    rcases (Bool.or_eq_true _ _).mp e with e | e
    · exact S.trk H a i.1 e
    · have e : a = D := by simpa using e
      rw [e, i.2]; simp
section
variable {K : PySem.W.Frag} {S : Sy} {H0 H H1 : Hp} {M M1 : Mm} {D : Addr} {va vb : List V}
theorem syd_bm : Bm (syD S D va) M = Bm (syD S D vb) M := rfl
theorem bm_D : Bm (syD S D va) M D = true := by
  unfold Bm syD
  simp
theorem syd_f {a : Addr} (h : (syD S D va).B a = false) : S.B a = false ∧ a ≠ D := by
  have h : (S.B a || a == D) = false := h
  rw [Bool.or_eq_false_iff] at h
  exact ⟨h.1, by simpa using h.2⟩
theorem syd_mk {a : Addr} (h : S.B a = false) (n : a ≠ D) : (syD S D va).B a = false := by
  show (S.B a || a == D) = false
  rw [h]
  simpa using n
theorem gd_upd {o : HO} : Gh (syD S D va) M (upd H D o) = Gh (syD S D vb) M H := by
  unfold Gh
  rw [syd_bm (vb := vb)]
  funext a
  by_cases e : Bm (syD S D vb) M a = true
  · rw [hide_t e, hide_t e]
  · have e' : Bm (syD S D vb) M a = false := by simpa using e
    rw [hide_f e', hide_f e', upd_ne (fun z => by rw [z, bm_D] at e'; cases e')]
theorem same_D (k : Ok0 K S H0 H1 M1) (hD : H1 D = none) {o : HO} : Same (Gh S M1 H1) (Gh (syD S D va) M1 (upd H1 D o)) := fun a u e => by
  obtain ⟨e1, e2⟩ := hide_some e
  have ne : a ≠ D := ne_of_none e2 hD
  unfold Gh
  rw [bm_false] at e1
  rw [hide_f (bm_false.mpr ⟨syd_mk e1.1 ne, e1.2⟩), upd_ne ne]
  exact e2
theorem ok_D (k : Ok0 K S H0 H1 M1) (hD : H1 D = none) : Ok0 K (syD S D []) H0 (upd H1 D (.lst [])) M1 := by
  have k2 := ok_new (o := .lst []) k hD
  have sD : S.B D = false := (bm_false.mp (new_hid k hD)).1
  refine ⟨fun a o e1 e2 => k2.xt a o (syd_f e1).1 e2, ⟨k2.inv, upd_same⟩, k.nd, fun q hq => ?_, fun q hq => ?_⟩
  · obtain ⟨vs, hv, _⟩ := k.mem q hq
    have ne : q.1 ≠ D := ne_of_none hv hD
    have lc := k.loc q hq
    refine ⟨fun z => ⟨syd_mk (lc.1 z).1 ne, (lc.1 z).2⟩, fun z => ⟨?_, fun H l l' i hl => ⟨(lc.2 z).2 H l l' i.1 hl, by rw [upd_ne (Ne.symm ne)]; exact i.2⟩⟩⟩
    show (S.B q.1 || q.1 == D) = true
    rw [(lc.2 z).1]; rfl
  · obtain ⟨vs, hv, hd⟩ := k.mem q hq
    exact ⟨vs, by rw [upd_ne (ne_of_none hv hD)]; exact hv, dps_mono (same_D k hD) _ _ hd⟩
theorem ok_D_ne (k : Ok0 K (syD S D va) H0 H M) : ∀ q ∈ M, q.1 ≠ D := fun q hq z => by
  have lc := k.loc q hq
  cases e : q.2.1 with
  | true => exact (syd_f (lc.1 e).1).2 z
  | false =>
    have st := (lc.2 e).2
    rw [z] at st
    have i := st H va (va ++ [.non]) k.inv k.inv.2
    have w := i.2
    rw [upd_same] at w
    have w2 := HO.lst.inj (Option.some.inj w)
    have := congrArg List.length w2
    simp at this
theorem ok_Dset (k : Ok0 K (syD S D va) H0 H M) (sD : S.B D = false) : Ok0 K (syD S D vb) H0 (upd H D (.lst vb)) M := by
  have nes := ok_D_ne k
  refine ⟨fun a o e1 e2 => by rw [upd_ne (syd_f e1).2]; exact k.xt a o e1 e2, ⟨S.mono H _ (fun a o e1 e2 => by rw [upd_ne (fun z => by rw [z, sD] at e1; cases e1)]; exact e2) k.inv.1, upd_same⟩, k.nd, fun q hq => ?_, fun q hq => ?_⟩
  · have lc := k.loc q hq
    refine ⟨fun z => lc.1 z, fun z => ⟨(lc.2 z).1, fun H2 l l' i hl => ?_⟩⟩
    have ne := nes q hq
    have i2 : (syD S D va).I (upd H2 D (.lst va)) := ⟨S.mono H2 _ (fun a o e1 e2 => by rw [upd_ne (fun z => by rw [z, sD] at e1; cases e1)]; exact e2) i.1, upd_same⟩
    have i3 := (lc.2 z).2 _ l l' i2 (by rw [upd_ne ne]; exact hl)
    refine ⟨S.mono _ _ (fun a o e1 e2 => ?_) i3.1, by rw [upd_ne (Ne.symm ne)]; exact i.2⟩
    by_cases e : a = q.1
    · rw [e, upd_same] at e2 ⊢; exact e2
    · rw [upd_ne e, upd_ne (fun z => by rw [z, sD] at e1; cases e1)] at e2
      rw [upd_ne e]; exact e2
  · obtain ⟨vs, hv, hd⟩ := k.mem q hq
    refine ⟨vs, by rw [upd_ne (nes q hq)]; exact hv, ?_⟩
    have : Hide (Bm (syD S D vb) M) (upd H D (.lst vb)) = Hide (Bm (syD S D va) M) H := gd_upd
    rw [this]; exact hd
theorem same_Dout : Same (Gh (syD S D va) M H) (Gh S M H) := fun a o e => by
  obtain ⟨e1, e2⟩ := hide_some e
  rw [bm_false] at e1
  unfold Gh
  rw [hide_f (bm_false.mpr ⟨(syd_f e1.1).1, e1.2⟩)]
  exact e2
theorem ok_Dout (k : Ok0 K (syD S D va) H0 H M) (sD : S.B D = false) (h0 : H0 D = none) : Ok0 K S H0 H M := by
  have nes := ok_D_ne k
  refine ⟨fun a o e1 e2 => ?_, k.inv.1, k.nd, fun q hq => ?_, fun q hq => ?_⟩
  · have ne : a ≠ D := fun z => by rw [z, h0] at e2; cases e2
    exact k.xt a o (syd_mk e1 ne) e2
  · have lc := k.loc q hq
    have ne := nes q hq
    refine ⟨fun z => ⟨(syd_f (lc.1 z).1).1, (lc.1 z).2⟩, fun z => ⟨?_, fun H2 l l' i hl => ?_⟩⟩
    · have w : (S.B q.1 || q.1 == D) = true := (lc.2 z).1
      rcases (Bool.or_eq_true _ _).mp w with w | w
      · exact w
      · exact absurd (by simpa using w) ne
    · have i2 : (syD S D va).I (upd H2 D (.lst va)) := ⟨S.mono H2 _ (fun a o e1 e2 => by rw [upd_ne (fun z => by rw [z, sD] at e1; cases e1)]; exact e2) i, upd_same⟩
      have i3 := (lc.2 z).2 _ l l' i2 (by rw [upd_ne ne]; exact hl)
      refine S.mono _ _ (fun a o e1 e2 => ?_) i3.1
      by_cases e : a = q.1
      · rw [e, upd_same] at e2 ⊢; exact e2
      · rw [upd_ne e, upd_ne (fun z => by rw [z, sD] at e1; cases e1)] at e2
        rw [upd_ne e]; exact e2
  · obtain ⟨vs, hv, hd⟩ := k.mem q hq
    exact ⟨vs, hv, dps_mono same_Dout _ _ hd⟩
variable {as : List Sv} {wi : TI} {g : TG} {tt : TT} {te : TE} {vs ts : List Nat} {f : PyData → List Sv → (List Sv → Prop) → Prop} {P : PyData → Mm → Prop}
theorem w_lc (hg : GA K g ts f) (ht : ∀ t ∈ ts, t ∈ vs) (h : WI K wi as M fun xs M1 => ∃ IV : Nat → List PyData → Mm → Prop, IV 0 [] M1 ∧
    (∀ i x acc Mi, xs[i]? = some x → IV i acc Mi → f x (awipe as vs) fun as2 => WT K tt as2 Mi fun b M2 => if b = true then W K te as2 M2 fun y M3 => acc.length < 100000 ∧ IV (i + 1) (acc ++ [y]) M3 else IV (i + 1) acc M2) ∧
    (∀ acc M', IV xs.length acc M' → P (.list acc) M')) : W K (tLc wi g tt te vs) as M P := fun S H0 σ H k r Q q =>
  h S H0 σ H k r _ fun J H1 xs M1 k1 e1 hJ ⟨IV, i0, step, fin⟩ => fun D hD => by
    have sD : S.B D = false := (bm_false.mp (new_hid k1 hD)).1
    have h0 : H0 D = none := by
      cases e : H0 D with
      | none => rfl
      | some o => have z := k1.xt D o sD e; rw [hD] at z; cases z
    let Nw : Nat → Hp → Prop := fun i Hc => ∃ acc va Mi, IV i acc Mi ∧ Ok0 K (syD S D va) H0 Hc Mi ∧ DpAll K (Gh (syD S D va) Mi Hc) va acc ∧ Rs K (Gh (syD S D va) Mi Hc) σ as ∧ Same (Gh S M1 H1) (Gh (syD S D va) Mi Hc)
    have n0 : Nw 0 (upd H1 D (.lst [])) := ⟨[], [], M1, i0, ok_D k1 hD, .nil, (r.mono e1).mono (same_D k1 hD), same_D k1 hD⟩
    refine ⟨fun i m Hc => m = xs.length - i ∧ i ≤ xs.length ∧ Nw i Hc, ⟨xs.length, by simp, Nat.zero_le _, n0⟩, ?_⟩
    rintro i m Hc ⟨rfl, hi, acc, va, Mi, hI, kc, da, rc, ec⟩
    by_cases hlt : i < xs.length
    · refine .inr ⟨hJ.go _ _ i ec same_hide hlt, Nw (i + 1), fun H' p' => ⟨xs.length - (i + 1), by omega, rfl, hlt, p'⟩, fun v H2 y => ?_⟩
      obtain ⟨eh, yd⟩ := hJ.yld _ _ i v H2 ec same_hide y
      subst eh
      have hx : xs[i]? = some xs[i] := List.getElem?_eq_getElem hlt
      refine hg (Gh (syD S D va) Mi H2) H2 v xs[i] (wipe σ vs) (awipe as vs) _ same_hide (yd _ hx) (rs_wipe rc vs) (step i _ acc Mi hx hI) _ fun σ2 as2 r2 wp p => ?_
      refine ⟨by rw [wp vs ht, wipe_wipe], ?_⟩
      refine p (syD S D va) H0 σ2 H2 kc r2 _ fun b H3 M3 k3 e3 p3 => ?_
      cases b with
      | false => exact ⟨acc, va, M3, p3, k3, dps_mono e3 _ _ da, rc.mono e3, ec.trans e3⟩
      | true =>
        refine (show W K te as2 M3 _ from p3) (syD S D va) H0 σ2 H3 k3 (r2.mono e3) _ fun w H4 y M4 k4 e4 b4 ⟨hl, p4⟩ => ?_
        refine ⟨va, k4.inv.2, Nat.lt_of_lt_of_le (by rw [dps_len da]; exact hl) (by decide), acc ++ [y], va ++ [w], M4, p4, ok_Dset k4 sD, ?_, ?_, ?_⟩
        · rw [gd_upd (vb := va)]
          exact dps_app (dps_mono (e3.trans e4) _ _ da) (.cons b4 .nil)
        · rw [gd_upd (vb := va)]
          exact rc.mono (e3.trans e4)
        · rw [gd_upd (vb := va)]
          exact ec.trans (e3.trans e4)
    · have e : i = xs.length := by omega
      subst e
      refine .inl ⟨hJ.stop _ _ ec same_hide, q _ Hc (.list acc) Mi (ok_Dout kc sD h0) (e1.trans (ec.trans same_Dout)) ?_ (fin acc Mi hI)⟩
      have gD : Gh S Mi Hc D = some (.lst va) := by
        unfold Gh
        rw [hide_f (bm_false.mpr ⟨sD, ok_D_ne kc⟩)]
        exact kc.inv.2
      exact .lst (SqL.of gD) (dps_mono same_Dout _ _ da)
end
end Ab

set_option Elab.async false
set_option linter.all false
set_option maxRecDepth 100000
set_option maxHeartbeats 4000000
namespace Ab
open PySem PySem.Spec PyProof.Rows L2

section
variable {X : Cx}
/-- two lists, wherever they stand -/
def rCatL (K : PySem.W.Frag) : R2 := fun x y H Q => ∃ l b xs zs, x = .ref l ∧ y = .ref b ∧ SqL K H l xs ∧ SqL K H b zs ∧ xs.length + zs.length ≤ sizeLine ∧ ∀ p, H p = none → Q (.ref p) (upd H p (.lst (xs ++ zs)))
theorem op_catL : OpR X (binaryOp .Add) (rCatL X.K) := by
  intro pins s σ H x y v u Q I rx ry h
  obtain ⟨l, b, xs, zs, rfl, rfl, hH, hB, hz, q⟩ := h
  cases rx
  cases ry
  obtain ⟨its, r, ⟨o, n, e, hc, hd, hdt⟩, hl⟩ := I.list hH
  obtain ⟨its2, r2, ⟨o2, n2, e2, hc2, hd2, hdt2⟩, hl2⟩ := I.list hB
  obtain ⟨c1, d1, dt1, sl1⟩ := o
  obtain ⟨c2, d2, dt2, sl2⟩ := o2
  simp only at hc hd hdt hc2 hd2 hdt2
  subst hc hd hdt hc2 hd2 hdt2
  have z1 := r.length
  have z2 := r2.length
  have ea : its.toArray ++ its2.toArray = (its ++ its2).toArray := by simp
  refine concat_meets ⟨_, e, rfl⟩ ⟨_, e2, rfl⟩ noFill_list_add seq_list_add PySem.F.slot_list_add PySem.F.entry_list_add (PySem.F.args_list_add_2 _ _) (list_addW l b its.toArray its2.toArray n n2 none none sl1 sl2 (by simp; omega)) ⟨e, e2, ?_⟩
  rw [ea]
  exact ⟨.ref _, _, I.lnew (t' := s.toks) (r.append r2) (by rw [List.length_append]; omega), rfl, q _ I.fresh⟩
def rAddI : R2 := rI0 fun i j => .int (i + j)
def rAddStr : R2 := fun x y H Q => ∃ i j, x = .str i ∧ y = .str j ∧ i.length + j.length ≤ sizeLine ∧ Q (.str (i ++ j)) H
def rPlus (K : PySem.W.Frag) : R2 := fun x y H Q => rAddI x y H Q ∨ rAddStr x y H Q ∨ rCatA K x y H Q ∨ rCatL K x y H Q
theorem op_plus : OpR X (binaryOp .Add) (rPlus X.K) := OpR.or (r := rAddI) op_add (OpR.or (r := rAddStr) op_add_str (OpR.or op_catA op_catL))
def rLtI : R2 := rI0 fun i j => .bl (decide (i < j))
def rLtS : R2 := fun x y H Q => ∃ i j, x = .str i ∧ y = .str j ∧ Q (.bl (decide (i.cps.toList < j.cps.toList))) H
def rLess : R2 := fun x y H Q => rLtI x y H Q ∨ rLtS x y H Q
theorem op_less : OpR X (compareOp .Lt) rLess := OpR.or (r := rLtI) (r' := rLtS) op_lt op_lt_str
def rLeI : R2 := rI0 fun i j => .bl (decide (i ≤ j))
theorem op_leI : OpR X (compareOp .LtE) rLeI := op_le
def rGtI : R2 := rI0 fun i j => .bl (decide (j < i))
theorem op_gtI : OpR X (compareOp .Gt) rGtI := op_gt
def rGeI : R2 := rI0 fun i j => .bl (decide (j ≤ i))
theorem op_geI : OpR X (compareOp .GtE) rGeI := op_ge
def rSubI : R2 := rI0 fun i j => .int (i - j)
theorem op_subI : OpR X (binaryOp .Sub) rSubI := op_sub
def rMulI : R2 := rI CMul fun i j => .int (i * j)
theorem op_mulI : OpR X (binaryOp .Mult) rMulI := op_mul
def rModI : R2 := rI (fun _ j => 0 < j) fun i j => .int (i % j)
theorem op_modI : OpR X (binaryOp .Mod) rModI := op_mod
def rDivW : R2 := rI CDivW fun i j => .int (i / j)
theorem op_divW : OpR X (binaryOp .FloorDiv) rDivW := op_fdivW
def rIsNo : R2 := fun x y H Q => y = .non ∧ Q (.bl (decide (x = .non))) H
theorem op_isNo : OpR X (compareOp .Is) rIsNo := op_isN
def rPowI : R2 := rI CPow fun i j => .int (i ^ j.toNat)
theorem op_powI : OpR X (binaryOp .Pow) rPowI := op_pow
/-- one sign in a text -/
def rInSg : R2 := fun x y H Q => ∃ (c : Nat) (z : Str), x = .str ⟨#[c]⟩ ∧ y = .str z ∧ Q (.bl (decide (c ∈ z.cps.toList))) H
theorem op_inSg : OpR X (compareOp .In) rInSg := op_in_sign
/-- in, of any data, in a tuple or a list -/
def rInSeq (K : PySem.W.Frag) : R2 := fun x y H Q => ∃ d ds, Dp K H x d ∧ (Dp K H y (.list ds) ∨ Dp K H y (.tuple ds)) ∧ SeqAt.shaped d = true ∧ SeqAt.shaped (.list ds) = true ∧ Q (.bl (ds.any fun z => PyData.eqv z d)) H
theorem op_inSeq (hu : X.A.units + 65 < cLine) : OpR X (compareOp .In) (rInSeq X.K) := by
  intro pins s σ H x y v u Q I rx ry h
  obtain ⟨d, ds, hd, he, sd, se, q⟩ := h
  obtain ⟨as, r1⟩ := Dp.reads I d x v hd rx
  rcases he with he | he
  · obtain ⟨bs, r2⟩ := Dp.reads I (.list ds) y u he ry
    exact SeqAt.in_list_reads r2 r1 (SeqAt.canLay_of_shaped se) (SeqAt.canLay_of_shaped sd) (room_in_shaped sd hu) ⟨.bl _, H, I, rfl, q⟩
  · obtain ⟨bs, r2⟩ := Dp.reads I (.tuple ds) y u he ry
    exact SeqAt.in_tuple_reads r2 r1 (SeqAt.canLay_of_shaped se) (SeqAt.canLay_of_shaped sd) (room_in_shaped sd hu) ⟨.bl _, H, I, rfl, q⟩
def rNinSeq (K : PySem.W.Frag) : R2 := fun x y H Q => ∃ d ds, Dp K H x d ∧ (Dp K H y (.list ds) ∨ Dp K H y (.tuple ds)) ∧ SeqAt.shaped d = true ∧ SeqAt.shaped (.list ds) = true ∧ Q (.bl (!ds.any fun z => PyData.eqv z d)) H
theorem op_ninSeq (hu : X.A.units + 65 < cLine) : OpR X (compareOp .NotIn) (rNinSeq X.K) := by
  intro pins s σ H x y v u Q I rx ry h
  obtain ⟨d, ds, hd, he, sd, se, q⟩ := h
  obtain ⟨as, r1⟩ := Dp.reads I d x v hd rx
  rcases he with he | he
  · obtain ⟨bs, r2⟩ := Dp.reads I (.list ds) y u he ry
    exact SeqAt.notIn_list_reads r2 r1 (SeqAt.canLay_of_shaped se) (SeqAt.canLay_of_shaped sd) (room_in_shaped sd hu) ⟨.bl _, H, I, rfl, q⟩
  · obtain ⟨bs, r2⟩ := Dp.reads I (.tuple ds) y u he ry
    exact SeqAt.notIn_tuple_reads r2 r1 (SeqAt.canLay_of_shaped se) (SeqAt.canLay_of_shaped sd) (room_in_shaped sd hu) ⟨.bl _, H, I, rfl, q⟩
def rSl (K : PySem.W.Frag) : V → Option Int → Option Int → Hp → VK → Prop := fun x lo hi H Q => rSlL K x lo hi H Q ∨ rSlA K x lo hi H Q ∨ rSlS x lo hi H Q
theorem sl_any : SlR X (rSl X.K) := SlR.or sl_list (SlR.or sl_tupA sl_str)
def rTupleOf (K : PySem.W.Frag) : List V → Hp → VK → Prop := fun xs H Q => ∃ p ys, xs = [.ref p] ∧ ((SqL K H p ys ∧ ∀ l, H l = none → Q (.ref l) (upd H l (.tup ys))) ∨ (SqT K H p ys ∧ Q (.ref p) H))
theorem call_tupleOf : CallR X (.type "tuple") (rTupleOf X.K) := call_tuple_of
def rLenA (K : PySem.W.Frag) : List V → Hp → VK → Prop := fun xs H Q => ∃ x n, xs = [x] ∧ LenV K x H n ∧ Q (.int n) H
theorem call_lenA : CallR X (.builtin "len") (rLenA X.K) := call_len
def rIntOf : List V → Hp → VK → Prop := fun xs H Q => (∃ i, xs = [.int i] ∧ Q (.int i) H) ∨ ∃ k, xs = [.bl k] ∧ Q (.int (if k then 1 else 0)) H
theorem call_intOf : CallR X (.type "int") rIntOf := call_int1
theorem pt_tru {a : Expr} {ta : TE} (ha : PE X a ta) (he : ∀ whole, isTrue a X.env whole = (do let v ← whole; standAt a.pos; holding [v] (truthy v)) := by intro _; rfl) : PT X a (tTru X.K ta) := pt_truth ha he
end

/-! ### what these do to data -/
def fPlus : PyData → PyData → (PyData → Prop) → Prop
  | .int i, .int j, P => P (.int (i + j))
  | .str i, .str j, P => i.length + j.length ≤ 100000 ∧ P (.str (i ++ j))
  | .tuple xs, .tuple ys, P => xs.length + ys.length ≤ 100000 ∧ P (.tuple (xs ++ ys))
  | .list xs, .list ys, P => xs.length + ys.length ≤ 100000 ∧ P (.list (xs ++ ys))
  | _, _, _ => False
def fEq (a b : PyData) (P : PyData → Prop) : Prop := SeqAt.shaped a = true ∧ SeqAt.shaped b = true ∧ P (.bool (PyData.eqv a b))
def fNe (a b : PyData) (P : PyData → Prop) : Prop := SeqAt.shaped a = true ∧ SeqAt.shaped b = true ∧ P (.bool (!PyData.eqv a b))
def fLess : PyData → PyData → (PyData → Prop) → Prop
  | .int i, .int j, P => P (.bool (decide (i < j)))
  | .str i, .str j, P => P (.bool (decide (i.cps.toList < j.cps.toList)))
  | _, _, _ => False
def fI (C : Int → Int → Prop) (g : Int → Int → PyData) : PyData → PyData → (PyData → Prop) → Prop
  | .int i, .int j, P => C i j ∧ P (g i j)
  | _, _, _ => False
def fIsNo : PyData → PyData → (PyData → Prop) → Prop
  | .none, .none, P => P (.bool true)
  | _, .none, P => P (.bool false)
  | _, _, _ => False
def fInSg : PyData → PyData → (PyData → Prop) → Prop
  | .str x, .str z, P => ∃ c, x = ⟨#[c]⟩ ∧ P (.bool (decide (c ∈ z.cps.toList)))
  | _, _, _ => False
def fInSeq (a : PyData) : PyData → (PyData → Prop) → Prop
  | .list ds, P | .tuple ds, P => SeqAt.shaped a = true ∧ SeqAt.shaped (.list ds) = true ∧ P (.bool (ds.any fun z => PyData.eqv z a))
  | _, _ => False
def fNinSeq (a : PyData) : PyData → (PyData → Prop) → Prop
  | .list ds, P | .tuple ds, P => SeqAt.shaped a = true ∧ SeqAt.shaped (.list ds) = true ∧ P (.bool (!ds.any fun z => PyData.eqv z a))
  | _, _ => False
def fIx : PyData → PyData → (PyData → Prop) → Prop
  | .list ds, .int i, P | .tuple ds, .int i, P => ∃ d, atI ds i = some d ∧ P d
  | .str z, .int i, P => z.length ≤ 100000 ∧ ∃ c, atI z.cps.toList i = some c ∧ P (.str ⟨#[c]⟩)
  | _, _, _ => False
def cutD (xs : List PyData) (lo hi : Option Int) : List PyData := (xs.drop (HT.sIx xs.length 0 lo)).take (HT.sIx xs.length xs.length hi - HT.sIx xs.length 0 lo)
def fSl : PyData → Option Int → Option Int → (PyData → Prop) → Prop
  | .list ds, lo, hi, P => P (.list (cutD ds lo hi))
  | .tuple ds, lo, hi, P => P (.tuple (cutD ds lo hi))
  | .str z, lo, hi, P => z.length ≤ 100000 ∧ P (.str (cutS z lo hi))
  | _, _, _, _ => False
def fTupleOf : List PyData → (PyData → Prop) → Prop
  | [.list ds], P | [.tuple ds], P => P (.tuple ds)
  | _, _ => False
def fLenA : List PyData → (PyData → Prop) → Prop
  | [.list ds], P | [.tuple ds], P => P (.int ds.length)
  | [.str z], P => z.length ≤ 100000 ∧ P (.int z.length)
  | _, _ => False
def fIntOf : List PyData → (PyData → Prop) → Prop
  | [.int i], P => P (.int i)
  | _, _ => False
def fAll : List PyData → (PyData → Prop) → Prop
  | [.list ds], P => ∃ bs : List Bool, ds = bs.map .bool ∧ P (.bool (bs.all id))
  | _, _ => False
def fAny : List PyData → (PyData → Prop) → Prop
  | [.list ds], P => ∃ bs : List Bool, ds = bs.map .bool ∧ P (.bool (bs.any id))
  | _, _ => False
section
variable {K : PySem.W.Frag}
theorem szl {n : Nat} (h : n ≤ 100000) : n ≤ sizeLine := Nat.le_trans h (by decide)
theorem lstAt {B : Addr → Bool} {H : Hp} {p : Addr} {ds : List PyData} (h : Dp K (Hide B H) (.ref p) (.list ds)) : ∃ vs, SqL K H p vs ∧ SqL K (Hide B H) p vs ∧ DpAll K (Hide B H) vs ds := by
  cases h with
  | lst hs ha => exact ⟨_, same_hide.seq hs, hs, ha⟩
theorem tupAt {B : Addr → Bool} {H : Hp} {p : Addr} {ds : List PyData} (h : Dp K (Hide B H) (.ref p) (.tuple ds)) : ∃ vs, SqT K H p vs ∧ SqT K (Hide B H) p vs ∧ DpAll K (Hide B H) vs ds := by
  cases h with
  | tup hs ha => exact ⟨_, seqT same_hide hs, hs, ha⟩
theorem isl {G : Hp} {v : V} {ds : List PyData} (h : Dp K G v (.list ds)) : ∃ p, v = .ref p := by
  cases h with
  | lst hs ha => exact ⟨_, rfl⟩
theorem ist {G : Hp} {v : V} {ds : List PyData} (h : Dp K G v (.tuple ds)) : ∃ p, v = .ref p := by
  cases h with
  | tup hs ha => exact ⟨_, rfl⟩
theorem newL {B : Addr → Bool} {H : Hp} {p : Addr} {vs : List V} {ds : List PyData} (hp : H p = none) (hb : ∀ c, B c = true → H c ≠ none) (hd : DpAll K (Hide B H) vs ds) : Dp K (Hide B (upd H p (.lst vs))) (.ref p) (.list ds) := by
  have nb : B p = false := by
    cases e : B p with
    | false => rfl
    | true => exact absurd hp (hb p e)
  have hg : Hide B (upd H p (.lst vs)) p = some (.lst vs) := by rw [hide_f nb, upd_same]
  exact .lst (SqL.of hg) (dps_mono (new_same hp) _ _ hd)
theorem newT {B : Addr → Bool} {H : Hp} {p : Addr} {vs : List V} {ds : List PyData} (hp : H p = none) (hb : ∀ c, B c = true → H c ≠ none) (hd : DpAll K (Hide B H) vs ds) : Dp K (Hide B (upd H p (.tup vs))) (.ref p) (.tuple ds) := by
  have nb : B p = false := by
    cases e : B p with
    | false => rfl
    | true => exact absurd hp (hb p e)
  have hg : Hide B (upd H p (.tup vs)) p = some (.tup vs) := by rw [hide_f nb, upd_same]
  exact .tup (SqT.of hg) (dps_mono (new_same hp) _ _ hd)
theorem ao_plus : AO K (rPlus K) fPlus := fun B H x y a b P hb hx hy p Q q => by
  cases a <;> cases b <;> first | exact p.elim | skip
  case int.int i j => cases hx; cases hy; exact .inl ⟨i, j, rfl, rfl, q _ _ H (.inl rfl) (.int _) p⟩
  case str.str i j => cases hx; cases hy; exact .inr (.inl ⟨i, j, rfl, rfl, szl p.1, q _ _ H (.inl rfl) (.str _) p.2⟩)
  case list.list xs ys =>
    obtain ⟨c, rfl⟩ := isl hx
    obtain ⟨c', rfl⟩ := isl hy
    obtain ⟨vs, s1, _, d1⟩ := lstAt hx
    obtain ⟨ws, s2, _, d2⟩ := lstAt hy
    exact .inr (.inr (.inr ⟨c, c', vs, ws, rfl, rfl, s1, s2, szl (by rw [dps_len d1, dps_len d2]; exact p.1), fun l hl => q _ (.list (xs ++ ys)) _ (.inr ⟨l, _, hl, rfl⟩) (newL hl hb (dps_app d1 d2)) p.2⟩))
  case tuple.tuple xs ys =>
    obtain ⟨c, rfl⟩ := ist hx
    obtain ⟨c', rfl⟩ := ist hy
    obtain ⟨vs, s1, _, d1⟩ := tupAt hx
    obtain ⟨ws, s2, _, d2⟩ := tupAt hy
    refine .inr (.inr (.inl ⟨c, c', vs, ws, rfl, rfl, s1, s2, szl (by rw [dps_len d1, dps_len d2]; exact p.1), fun e => ?_, fun _ e => ?_, fun _ _ l hl => q _ (.tuple (xs ++ ys)) _ (.inr ⟨l, _, hl, rfl⟩) (newT hl hb (dps_app d1 d2)) p.2⟩))
    · have e1 : xs = [] := by have := dps_len d1; rw [e] at this; exact List.length_eq_zero_iff.mp this.symm
      subst e1
      exact q _ (.tuple ys) H (.inl rfl) hy p.2
    · have e1 : ys = [] := by have := dps_len d2; rw [e] at this; exact List.length_eq_zero_iff.mp this.symm
      subst e1
      exact q _ (.tuple xs) H (.inl rfl) hx (by simpa using p.2)
theorem ao_eq : AO K (rEqD K) fEq := fun B H x y a b P hb hx hy p Q q => ⟨a, b, dp_mono same_hide _ _ hx, dp_mono same_hide _ _ hy, p.1, p.2.1, q _ _ H (.inl rfl) (.bl _) p.2.2⟩
theorem ao_ne : AO K (rNeD K) fNe := fun B H x y a b P hb hx hy p Q q => ⟨a, b, dp_mono same_hide _ _ hx, dp_mono same_hide _ _ hy, p.1, p.2.1, q _ _ H (.inl rfl) (.bl _) p.2.2⟩
theorem ao_less : AO K rLess fLess := fun B H x y a b P hb hx hy p Q q => by
  cases a <;> cases b <;> first | exact p.elim | skip
  case int.int i j => cases hx; cases hy; exact .inl ⟨i, j, rfl, rfl, q _ _ H (.inl rfl) (.bl _) p⟩
  case str.str i j => cases hx; cases hy; exact .inr ⟨i, j, rfl, rfl, q _ _ H (.inl rfl) (.bl _) p⟩
theorem ao_I {C : Int → Int → Prop} {g : Int → Int → V} {g' : Int → Int → PyData} (hg : ∀ G i j, Dp K G (g i j) (g' i j)) : AO K (rI C g) (fI C g') := fun B H x y a b P hb hx hy p Q q => by
  cases a <;> cases b <;> first | exact p.elim | skip
  case int.int i j => cases hx; cases hy; exact ⟨i, j, rfl, rfl, p.1, q _ _ H (.inl rfl) (hg _ _ _) p.2⟩
theorem ao_I0 {g : Int → Int → V} {g' : Int → Int → PyData} (hg : ∀ G i j, Dp K G (g i j) (g' i j)) : AO K (rI0 g) (fI (fun _ _ => True) g') := fun B H x y a b P hb hx hy p Q q => by
  cases a <;> cases b <;> first | exact p.elim | skip
  case int.int i j => cases hx; cases hy; exact ⟨i, j, rfl, rfl, q _ _ H (.inl rfl) (hg _ _ _) p.2⟩
theorem ao_le : AO K rLeI (fI (fun _ _ => True) fun i j => .bool (decide (i ≤ j))) := ao_I0 fun _ _ _ => .bl _
theorem ao_gt : AO K rGtI (fI (fun _ _ => True) fun i j => .bool (decide (j < i))) := ao_I0 fun _ _ _ => .bl _
theorem ao_ge : AO K rGeI (fI (fun _ _ => True) fun i j => .bool (decide (j ≤ i))) := ao_I0 fun _ _ _ => .bl _
theorem ao_sub : AO K rSubI (fI (fun _ _ => True) fun i j => .int (i - j)) := ao_I0 fun _ _ _ => .int _
theorem ao_mul : AO K rMulI (fI CMul fun i j => .int (i * j)) := ao_I fun _ _ _ => .int _
theorem ao_mod : AO K rModI (fI (fun _ j => 0 < j) fun i j => .int (i % j)) := ao_I fun _ _ _ => .int _
theorem ao_div : AO K rDivW (fI CDivW fun i j => .int (i / j)) := ao_I fun _ _ _ => .int _
theorem ao_pow : AO K rPowI (fI CPow fun i j => .int (i ^ j.toNat)) := ao_I fun _ _ _ => .int _
theorem ao_isNo : AO K rIsNo fIsNo := fun B H x y a b P hb hx hy p Q q => by
  cases b <;> first | (exfalso; cases a <;> exact p) | skip
  cases hy
  refine ⟨rfl, ?_⟩
  cases a with
  | none => cases hx; exact q _ (.bool true) H (.inl rfl) (.bl _) p
  | bool b => cases hx; exact q _ (.bool false) H (.inl rfl) (.bl _) p
  | int b => cases hx; exact q _ (.bool false) H (.inl rfl) (.bl _) p
  | str b => cases hx; exact q _ (.bool false) H (.inl rfl) (.bl _) p
  | list b => cases hx; exact q _ (.bool false) H (.inl rfl) (.bl _) p
  | tuple b => cases hx; exact q _ (.bool false) H (.inl rfl) (.bl _) p
  | dict b => cases hx
theorem ao_inSg : AO K rInSg fInSg := fun B H x y a b P hb hx hy p Q q => by
  cases a <;> cases b <;> first | exact p.elim | skip
  case str.str i j => cases hx; cases hy; obtain ⟨c, e, p⟩ := p; subst e; exact ⟨c, j, rfl, rfl, q _ _ H (.inl rfl) (.bl _) p⟩
theorem ao_inSeq : AO K (rInSeq K) fInSeq := fun B H x y a b P hb hx hy p Q q => by
  cases b <;> first | exact p.elim | skip
  case list ds => exact ⟨a, ds, dp_mono same_hide _ _ hx, .inl (dp_mono same_hide _ _ hy), p.1, p.2.1, q _ _ H (.inl rfl) (.bl _) p.2.2⟩
  case tuple ds => exact ⟨a, ds, dp_mono same_hide _ _ hx, .inr (dp_mono same_hide _ _ hy), p.1, p.2.1, q _ _ H (.inl rfl) (.bl _) p.2.2⟩
theorem ao_ninSeq : AO K (rNinSeq K) fNinSeq := fun B H x y a b P hb hx hy p Q q => by
  cases b <;> first | exact p.elim | skip
  case list ds => exact ⟨a, ds, dp_mono same_hide _ _ hx, .inl (dp_mono same_hide _ _ hy), p.1, p.2.1, q _ _ H (.inl rfl) (.bl _) p.2.2⟩
  case tuple ds => exact ⟨a, ds, dp_mono same_hide _ _ hx, .inr (dp_mono same_hide _ _ hy), p.1, p.2.1, q _ _ H (.inl rfl) (.bl _) p.2.2⟩
theorem atI_dps {G : Hp} {vs : List V} {ds : List PyData} {i : Int} {d : PyData} (h : DpAll K G vs ds) (e : atI ds i = some d) : ∃ v, atI vs i = some v ∧ Dp K G v d := by
  unfold atI at e ⊢
  rw [dps_len h]
  cases x : ixN ds.length i with
  | none => rw [x] at e; cases e
  | some j => rw [x] at e; exact dps_at h e
theorem ao_ix : AO K (rIx K) fIx := fun B H x y a b P hb hx hy p Q q => by
  cases a <;> cases b <;> first | exact p.elim | skip
  case list.int ds i =>
    cases hy
    obtain ⟨c, rfl⟩ := isl hx
    obtain ⟨vs, s1, _, d1⟩ := lstAt hx
    obtain ⟨d, e, p⟩ := p
    obtain ⟨v, e2, hv⟩ := atI_dps d1 e
    exact .inl ⟨c, vs, i, v, rfl, rfl, s1, e2, q _ d H (.inl rfl) hv p⟩
  case tuple.int ds i =>
    cases hy
    obtain ⟨c, rfl⟩ := ist hx
    obtain ⟨vs, s1, _, d1⟩ := tupAt hx
    obtain ⟨d, e, p⟩ := p
    obtain ⟨v, e2, hv⟩ := atI_dps d1 e
    exact .inr (.inl ⟨c, vs, i, v, rfl, rfl, s1, e2, q _ d H (.inl rfl) hv p⟩)
  case str.int z i =>
    cases hy
    cases hx
    obtain ⟨hl, c, e, p⟩ := p
    exact .inr (.inr ⟨z, i, c, rfl, rfl, szl hl, e, q _ _ H (.inl rfl) (.str _) p⟩)
theorem dps_cut {G : Hp} {vs : List V} {ds : List PyData} (h : DpAll K G vs ds) (lo hi : Option Int) : DpAll K G (cutV vs lo hi) (cutD ds lo hi) := by
  unfold cutV cutD
  rw [dps_len h]
  exact dps_take _ (dps_drop _ h)
variable {as : List Sv} {M : Mm} {te : TE} {tl th : TO} {P : PyData → Mm → Prop}
theorem w_sl (h : W K te as M fun d M1 => WO K tl as M1 fun lo M2 => WO K th as M2 fun hi M3 => fSl d lo hi fun r => P r M3) : W K (tSl (rSl K) te tl th) as M P := fun S H0 σ H k r Q q =>
  h S H0 σ H k r _ fun v H1 d M1 k1 e1 b1 h2 => h2 S H0 σ H1 k1 (r.mono e1) _ fun lo H2 M2 k2 e2 h3 => h3 S H0 σ H2 k2 (r.mono (e1.trans e2)) _ fun hi H3 M3 k3 e3 p => by
    have b3 := dp_mono (e2.trans e3) _ _ b1
    have e4 := e1.trans (e2.trans e3)
    cases d <;> first | exact p.elim | skip
    case list ds =>
      obtain ⟨c, rfl⟩ := isl b3
      obtain ⟨vs, s1, _, d1⟩ := lstAt b3
      exact .inl ⟨c, vs, rfl, s1, fun l hl => q _ _ (.list (cutD ds lo hi)) M3 (ok_new k3 hl) (e4.trans (new_same hl)) (newL hl (bm_trk k3) (dps_cut d1 lo hi)) p⟩
    case tuple ds =>
      obtain ⟨c, rfl⟩ := ist b3
      obtain ⟨vs, s1, _, d1⟩ := tupAt b3
      refine .inr (.inl ⟨c, vs, rfl, s1, fun e => ?_, fun _ l hl => q _ _ (.tuple (cutD ds lo hi)) M3 (ok_new k3 hl) (e4.trans (new_same hl)) (newT hl (bm_trk k3) (dps_cut d1 lo hi)) p⟩)
      have ec : cutD ds lo hi = ds := by
        unfold cutD
        rw [dps_len d1] at e
        rw [e.1, e.2]
        simp
      have p : P (.tuple (cutD ds lo hi)) M3 := p
      rw [ec] at p
      exact q _ H3 (.tuple ds) M3 k3 e4 b3 p
    case str z =>
      cases b3
      exact .inr (.inr ⟨z, rfl, szl p.1, q _ H3 _ M3 k3 e4 (.str _) p.2⟩)
theorem ac_tupleOf : AC K (rTupleOf K) fTupleOf := fun B H xs ds P hb hd p Q q => by
  match ds, hd, p with
  | [.list es], .cons h1 .nil, p =>
    obtain ⟨c, rfl⟩ := isl h1
    obtain ⟨vs, s1, _, d1⟩ := lstAt h1
    exact ⟨c, vs, rfl, .inl ⟨s1, fun l hl => q _ (.tuple es) _ (.inr ⟨l, _, hl, rfl⟩) (newT hl hb d1) p⟩⟩
  | [.tuple es], .cons h1 .nil, p =>
    obtain ⟨c, rfl⟩ := ist h1
    obtain ⟨vs, s1, _, d1⟩ := tupAt h1
    exact ⟨c, vs, rfl, .inr ⟨s1, q _ (.tuple es) H (.inl rfl) h1 p⟩⟩
theorem ac_len : AC K (rLenA K) fLenA := fun B H xs ds P hb hd p Q q => by
  match ds, hd, p with
  | [.list es], .cons h1 .nil, p =>
    obtain ⟨c, rfl⟩ := isl h1
    obtain ⟨vs, s1, _, d1⟩ := lstAt h1
    exact ⟨.ref c, es.length, rfl, .inl ⟨vs, s1, (dps_len d1).symm⟩, q _ _ H (.inl rfl) (.int _) p⟩
  | [.tuple es], .cons h1 .nil, p =>
    obtain ⟨c, rfl⟩ := ist h1
    obtain ⟨vs, s1, _, d1⟩ := tupAt h1
    exact ⟨.ref c, es.length, rfl, .inr ⟨vs, s1, (dps_len d1).symm⟩, q _ _ H (.inl rfl) (.int _) p⟩
  | [.str z], .cons h1 .nil, p =>
    cases h1
    exact ⟨.str z, z.length, rfl, ⟨szl p.1, rfl⟩, q _ _ H (.inl rfl) (.int _) p.2⟩
theorem ac_intOf : AC K rIntOf fIntOf := fun B H xs ds P hb hd p Q q => by
  match ds, hd, p with
  | [.int i], .cons h1 .nil, p =>
    cases h1
    exact .inl ⟨i, rfl, q _ _ H (.inl rfl) (.int _) p⟩
theorem dps_bls {G : Hp} : ∀ {vs : List V} {bs : List Bool}, DpAll K G vs (bs.map .bool) → vs = bs.map .bl
  | [], [], _ => rfl
  | _ :: _, _ :: _, h => by
    cases h with
    | cons h1 h2 => cases h1; rw [dps_bls h2]; rfl
  | [], _ :: _, h => by cases h
  | _ :: _, [], h => by cases h
theorem ac_all : AC K (rAll K) fAll := fun B H xs ds P hb hd p Q q => by
  match ds, hd, p with
  | [.list es], .cons h1 .nil, p =>
    obtain ⟨c, rfl⟩ := isl h1
    obtain ⟨vs, s1, _, d1⟩ := lstAt h1
    obtain ⟨bs, e, p⟩ := p
    subst e
    rw [dps_bls d1] at s1
    exact ⟨c, bs, rfl, s1, q _ _ H (.inl rfl) (.bl _) p⟩
theorem ac_any : AC K (rAny K) fAny := fun B H xs ds P hb hd p Q q => by
  match ds, hd, p with
  | [.list es], .cons h1 .nil, p =>
    obtain ⟨c, rfl⟩ := isl h1
    obtain ⟨vs, s1, _, d1⟩ := lstAt h1
    obtain ⟨bs, e, p⟩ := p
    subst e
    rw [dps_bls d1] at s1
    exact ⟨c, bs, rfl, s1, q _ _ H (.inl rfl) (.bl _) p⟩
/-! isinstance -/
def tyD : PyData → String
  | .none => "NoneType"
  | .bool _ => "bool"
  | .int _ => "int"
  | .str _ => "str"
  | .list _ => "list"
  | .tuple _ => "tuple"
  | .dict _ => "dict"
def isD (d : PyData) (n : String) : Bool := tyD d == n || (n == "int" && tyD d == "bool")
theorem kit_tbl : (["NoneType", "bool", "int", "str", "list", "tuple", "dict"].all fun a => ["int", "bool", "str", "list", "tuple"].all fun b => kitB a b == some (a == b || (b == "int" && a == "bool"))) = true := by decide +kernel
theorem kit_isD (d : PyData) (n : String) (hn : n ∈ ["int", "bool", "str", "list", "tuple"]) : kitB (tyD d) n = some (isD d n) := by
  have h := List.all_eq_true.mp kit_tbl (tyD d) (by cases d <;> simp [tyD])
  have h2 := List.all_eq_true.mp h n hn
  exact eq_of_beq h2
theorem tyx {B : Addr → Bool} {H : Hp} {v : V} {d : PyData} (h : Dp K (Hide B H) v d) : TyX K H v (.type (tyD d)) := by
  cases h with
  | non => exact .base .non
  | bl b => exact .base (.bl b)
  | int i => exact .base (.int i)
  | str x => exact .base (.str x)
  | lst hs ha =>
    rcases same_hide.seq hs with (h | ⟨o, h⟩) | ⟨o, its, n, hk, hc, _⟩
    · exact .base (.lst h)
    · exact .base (.frz h)
    · exact .kList hk hc
  | tup hs ha =>
    rcases seqT same_hide hs with (h | ⟨o, h⟩) | ⟨o, its, n, hk, hc, _⟩
    · exact .base (.tup h)
    · exact .fTuple h
    · exact .kTuple hk hc
theorem w_isi {n : String} (hn : n ∈ ["int", "bool", "str", "list", "tuple"]) (h : W K te as M fun d M' => P (.bool (isD d n)) M') : W K (tCB (rIsi K) (tCons te (tCons (tC (.ty n)) tNil))) as M P := fun S H0 σ H k r Q q =>
  h S H0 σ H k r _ fun v H1 d M1 k1 e1 b1 p => ⟨v, .ty n, .type (tyD d), .type n, isD d n, rfl, .ty n, tyx b1, kit_ty (kit_isD d n hn), q _ H1 _ M1 k1 e1 (.bl _) p⟩
theorem w_isi2 {n m : String} (hn : n ∈ ["int", "bool", "str", "list", "tuple"]) (hm : m ∈ ["int", "bool", "str", "list", "tuple"]) (h : W K te as M fun d M' => P (.bool (isD d n || isD d m)) M') :
    W K (tCB (rIsiT K) (tCons te (tCons (tTup (tCons (tC (.ty n)) (tCons (tC (.ty m)) tNil))) tNil))) as M P := fun S H0 σ H k r Q q =>
  h S H0 σ H k r _ fun v H1 d M1 k1 e1 b1 p => by
    refine ⟨by show 2 ≤ sizeLine; decide, fun a ha => ?_⟩
    have b2 : Dp K (Hide (Bm S M1) (upd H1 a (.tup [.ty n, .ty m]))) v d := dp_mono (new_same ha) _ _ b1
    refine ⟨v, a, [.ty n, .ty m], .type (tyD d), [.type n, .type m], isD d n || isD d m, rfl, upd_same, .cons (.ty n) (.cons (.ty m) .nil), tyx b2, ?_, q _ _ _ M1 (ok_new k1 ha) (e1.trans (new_same ha)) (.bl _) p⟩
    refine kitAny_cons (kit_ty (kit_isD d n hn)) (fun e => ?_) (fun e => by rw [e]; rfl)
    rw [e, Bool.false_or]
    exact kitAny_cons (kit_ty (kit_isD d m hm)) (fun e => by rw [e]; exact kitAny_nil) (fun e => e)
/-! chains of comparisons -/
variable {ta tb tc : TE}
theorem w_chain {r r' : R2} {f f' : PyData → PyData → (PyData → Prop) → Prop} (ho : AO K r f) (ho' : AO K r' f') (h : W K ta as M fun a M1 => W K tb as M1 fun b M2 => f a b fun c => ∃ k, c = .bool k ∧ if k = true then W K tc as M2 fun e M3 => f' b e fun z => P z M3 else P (.bool false) M2) :
    W K (tChain r r' ta tb tc) as M P := fun S H0 σ H k rs Q q =>
  h S H0 σ H k rs _ fun x H1 a M1 k1 e1 b1 h2 => h2 S H0 σ H1 k1 (rs.mono e1) _ fun y H2 b M2 k2 e2 b2 p => ho _ H2 x y a b _ (bm_trk k2) (dp_mono e2 _ _ b1) b2 p _ fun v d H3 hc hd ⟨kk, ek, pk⟩ => by
    subst ek
    cases hd
    refine ⟨kk, rfl, ?_⟩
    have k3 : Ok0 K S H0 H3 M2 ∧ Same (Gh S M2 H2) (Gh S M2 H3) := by
      rcases hc with rfl | ⟨c, o, hn, rfl⟩
      · exact ⟨k2, Same.refl _⟩
      · exact ⟨ok_new k2 hn, new_same hn⟩
    cases kk with
    | false => exact q _ H3 _ M2 k3.1 ((e1.trans e2).trans k3.2) (.bl _) pk
    | true =>
      refine (show W K tc as M2 _ from pk) S H0 σ H3 k3.1 (rs.mono ((e1.trans e2).trans k3.2)) _ fun w H4 e M3 k4 e4 b4 p4 => ?_
      have e5 := ((e1.trans e2).trans k3.2).trans e4
      exact ho' _ H4 y w b e _ (bm_trk k4) (dp_mono (k3.2.trans e4) _ _ b2) b4 p4 _ fun v d H5 hc hd pd => by
        rcases hc with rfl | ⟨c, o, hn, rfl⟩
        · exact q v _ d M3 k4 e5 hd pd
        · exact q v _ d M3 (ok_new k4 hn) (e5.trans (new_same hn)) hd pd
end
end Ab

set_option Elab.async false
set_option linter.all false
set_option maxRecDepth 100000
set_option maxHeartbeats 4000000
namespace Ab
open PySem PySem.Spec PyProof.Rows L2
section
variable {K : PySem.W.Frag} {as : List Sv} {M : Mm} {te tb : TE} {ta : TA} {P : PyData → Mm → Prop} {A : AE} {p : Addr} {fl : Bool} {xs : List PyData}
/-- an item of an own list -/
theorem w_ixown {i : Nat} (hi : as[i]? = some (.own p)) (h : W K tb as M fun b M1 => ∃ fl ys, (p, fl, ys) ∈ M1 ∧ fIx (.list ys) b fun d => P d M1) : W K (tOp (rIx K) (tVar i) tb) as M P := fun S H0 σ H k r Q q => by
  obtain ⟨o, e1, e2⟩ := r.at_ i _ hi
  cases (show o = some (V.ref p) from e2)
  refine ⟨.ref p, e1, h S H0 σ H k r _ fun v H1 b M1 k1 e1 b1 ⟨fl, ys, hm, p1⟩ => ?_⟩
  obtain ⟨us, hp, hu⟩ := k1.mem _ hm
  cases b with
  | int j =>
    cases b1
    obtain ⟨d, e, p1⟩ := p1
    obtain ⟨w, e2, hw⟩ := atI_dps hu e
    exact .inl ⟨p, us, j, w, rfl, rfl, SqL.of hp, e2, q w H1 d M1 k1 e1 hw p1⟩
  | none => exact p1.elim
  | bool _ => exact p1.elim
  | str _ => exact p1.elim
  | list _ => exact p1.elim
  | tuple _ => exact p1.elim
  | dict _ => exact p1.elim
/-- own[k] = e -/
theorem ws_setown {i k : Nat} (hi : as[i]? = some (.own p)) (h : W K te as M fun d M' => ∃ fl ys, (p, fl, ys) ∈ M' ∧ k < ys.length ∧ A.nx as (mset M' p (ys.set k d))) : WS K (tAsg te (gSub (tVar i) (tC (.int (k : Int))) rSetL)) as M A := fun S H0 σ H D ok r n _ _ _ =>
  h S H0 σ H ok r _ fun v H1 d M1 k1 e1 b1 ⟨fl, ys, hm, hk, p1⟩ => by
    obtain ⟨o, e3, e2⟩ := r.at_ i _ hi
    cases (show o = some (V.ref p) from e2)
    obtain ⟨us, hp, hu⟩ := k1.mem _ hm
    have ln := dps_len hu
    refine ⟨.ref p, e3, p, us, (k : Int), k, rfl, rfl, hp, ?_, ?_⟩
    · unfold ixN
      rw [if_pos (by omega), if_pos (by show (k : Int) < (us.length : Nat); rw [ln]; exact Int.ofNat_lt.mpr hk)]
      simp
    · have ge : Gh S (mset M1 p (ys.set k d)) (upd H1 p (.lst (us.set k v))) = Gh S M1 H1 := gh_write hm
      have hset : DpAll K (Gh S M1 H1) (us.set k v) (ys.set k d) := by
        have h1 := dps_take k hu
        have h2 := dps_drop (k + 1) hu
        rw [List.set_eq_take_append_cons_drop, List.set_eq_take_append_cons_drop, if_pos (by rw [ln]; exact hk), if_pos hk]
        exact dps_app h1 (.cons b1 h2)
      exact n σ _ as _ (ok_write k1 hm hset) (by rw [ge]; exact r.mono e1) (by rw [ge]; exact e1) p1
/-- target = value -/
theorem ws_asg {g : TG} {ts : List Nat} {f : PyData → List Sv → (List Sv → Prop) → Prop} (hg : GA K g ts f) (h : W K te as M fun d M' => f d as fun as' => A.nx as' M') : WS K (tAsg te g) as M A := fun S H0 σ H D k r n _ _ _ =>
  h S H0 σ H k r _ fun v H1 d M1 k1 e1 b1 p => hg _ H1 v d σ as _ same_hide b1 (r.mono e1) p _ fun σ' as' r' _ p' => n σ' H1 as' M1 k1 r' e1 p'
theorem ws_popG {i : Nat} {d : PyData} {g : TG} {ts : List Nat} {f : PyData → List Sv → (List Sv → Prop) → Prop} (hg : GA K g ts f) (hi : as[i]? = some (.own p)) (hm : (p, fl, xs) ∈ M) (hl : xs[xs.length - 1]? = some d) (h : f d as fun as' => A.nx as' (mset M p xs.dropLast)) :
    WS K (tAsg (tBM0 K "list" rPop (tVar i)) g) as M A := fun S H0 σ H D k r n _ _ _ => by
  obtain ⟨o, e1, e2⟩ := r.at_ i _ hi
  cases (show o = some (V.ref p) from e2)
  obtain ⟨us, hp, hu⟩ := k.mem _ hm
  have hp : H p = some (.lst us) := hp
  obtain ⟨v, hv, hvd⟩ := dps_at hu hl
  have ge : Gh S (mset M p xs.dropLast) (upd H p (.lst us.dropLast)) = Gh S M H := gh_write hm
  have k2 := ok_write (ws := us.dropLast) (ys := xs.dropLast) k hm (dps_dropLast hu)
  refine ⟨.ref p, e1, tyl k hm, p, us, v, rfl, rfl, hp, by rw [dps_len hu]; exact hv, ?_⟩
  refine hg (Gh S (mset M p xs.dropLast) (upd H p (.lst us.dropLast))) _ v d σ as _ same_hide (by rw [ge]; exact hvd) (by rw [ge]; exact r) h _ fun σ' as' r' _ p' => ?_
  exact n σ' _ as' _ k2 r' (by rw [ge]; exact Same.refl _) p'
/-! a def that hands back a new list -/
def spN (pre : List PyData → Prop) (post : List PyData → List PyData → Prop) (K : PySem.W.Frag) : Sp := fun vs H Q _ => ∃ (S : Sy) (ds : List PyData), S.I H ∧ pre ds ∧ DpAll K (Hide S.B H) vs ds ∧
  ∀ (c : Addr) H' l pl, H c = none → (∀ a o, S.B a = false → H a = some o → H' a = some o) → S.I H' → H' c = some (.lst l) → DpAll K (Hide (fun a => S.B a || a == c) H') l pl → post ds pl → Q (.ref c) H'
def WN (K : PySem.W.Frag) (ts : TS) (as : List Sv) (M : Mm) (R : List PyData → Prop) : Prop := ∀ S H0 σ H (D : Ends), Ok0 K S H0 H M → Rs K (Gh S M H) σ as →
  (∀ c H' l pl M', H0 c = none → Ok0 K S H0 H' M' → H' c = some (.lst l) → DpAll K (Hide (fun a => Bm S M' a || a == c) H') l pl → R pl → D.rt (.ref c) H') → ts D σ H
theorem wn_seq {s1 s2 : TS} {R : List PyData → Prop} (h : WS K s1 as M { nx := fun as' M' => WN K s2 as' M' R, rt := fun _ _ => False, bk := fun _ _ => False, ct := fun _ _ => False }) : WN K (tSeq s1 s2) as M R := fun S H0 σ H D k r q =>
  h S H0 σ H { D with nx := s2 D } k r (fun σ' H' as' M' k' r' _ p => p S H0 σ' H' D k' r' q) (fun _ _ _ _ _ _ p => p.elim) (fun _ _ _ _ _ _ _ p => p.elim) (fun _ _ _ _ _ _ _ p => p.elim)
theorem wn_ret {R : List PyData → Prop} (h : WA K ta as M fun ss _ => ∃ ds : List PyData, ss = ds.map .dat ∧ ds.length ≤ 100000 ∧ R ds) : WN K (tRet (tLst ta)) as M R := fun S H0 σ H D k r q =>
  h S H0 σ H k r _ fun vs H1 ss M1 k1 e1 b1 ⟨ds, es, hl, p⟩ => by
    subst es
    have bd := ra_dat b1
    refine ⟨szl (by rw [dps_len bd]; exact hl), fun c hc => q c _ vs ds M1 ?_ (ok_new k1 hc) upd_same ?_ p⟩
    · cases e : H0 c with
      | none => rfl
      | some o => have z := k1.xt c o (bm_false.mp (new_hid k1 hc)).1 e; rw [hc] at z; cases z
    · refine dps_mono (fun a o e => ?_) _ _ bd
      obtain ⟨e1, e2⟩ := hide_some e
      have ne : a ≠ c := ne_of_none e2 hc
      rw [hide_f (by rw [e1, Bool.false_or]; simpa using ne), upd_ne ne]
      exact e2
variable {pre : List PyData → Prop} {postN : List PyData → List PyData → Prop} {E : XK}
theorem to_spN {t : TS} {N : List Str} {vs : List V} {H : Hp} {Q : VK} {nx : L2.St → Hp → Prop} {n : Nat} (hn : ∀ ds, pre ds → ds.length = n) (hb : ∀ ds, pre ds → WN K t (ds.map .dat ++ List.replicate (N.length - n) .no) [] (postN ds))
    (h : spN pre postN K vs H Q E) : t { nx := nx, rt := Q } (L2.start N vs) H := by
  obtain ⟨S, ds, iv, hp, hd, q⟩ := h
  have ln : vs.length = n := by rw [dps_len hd]; exact hn ds hp
  have k0 : Ok0 K S H H [] := ⟨fun _ _ _ e => e, iv, List.nodup_nil, (fun z hz => by cases hz), (fun z hz => by cases hz)⟩
  have hg : Gh S [] H = Hide S.B H := by unfold Gh; rw [bm_nil]
  have r0 : Rs K (Gh S [] H) (L2.start N vs) (ds.map .dat ++ List.replicate (N.length - n) .no) := by
    unfold L2.start
    rw [ln, hg]
    exact ra_start _ (dat_ra hd)
  refine hb ds hp S H (L2.start N vs) H _ k0 r0 fun c H' l pl M' hc k' hl hd' p => q c H' l pl hc k'.xt k'.inv hl (dps_mono (fun a o e => ?_) _ _ hd') p
  obtain ⟨e1, e2⟩ := hide_some e
  rw [Bool.or_eq_false_iff] at e1
  rw [hide_f (by rw [(bm_false.mp e1.1).1, e1.2]; rfl)]
  exact e2
theorem ws_setN {i : Nat} (h : WA K ta as M fun ss M1 => ∃ ds : List PyData, ss = ds.map .dat ∧ pre ds ∧ ∀ c pl, (∀ q ∈ M1, q.1 ≠ c) → postN ds pl → A.nx (as.set i (.own c)) ((c, true, pl) :: M1)) : WS K (tAsg (tCall (spN pre postN K) [] E ta) (gName i)) as M A := fun S H0 σ H D k r n _ _ _ =>
  h S H0 σ H k r _ fun vs H1 ss M1 k1 e1 b1 ⟨ds, es, hp, cont⟩ => by
    subst es
    rw [List.append_nil]
    refine ⟨syAt S M1 H1 fun z hz => by obtain ⟨us, a, _⟩ := k1.mem z hz; rw [a]; simp, ds, ⟨k1.inv, fun _ _ => rfl⟩, hp, ra_dat b1, fun c H' l pl hc xt iv hl hd pd => ?_⟩
    have nb := bm_false.mp (new_hid k1 hc)
    have hbm : Bm S ((c, true, pl) :: M1) = fun a => Bm S M1 a || a == c := by
      funext a
      unfold Bm
      rw [List.any_cons]
      have : ((c, true, pl).1 == a) = (a == c) := by
        show (c == a) = (a == c)
        rw [Bool.eq_iff_iff]; simp; exact ⟨fun e => e.symm, fun e => e.symm⟩
      rw [this]
      cases S.B a <;> cases (a == c) <;> simp
    have sm : Same (Gh S M1 H1) (Gh S ((c, true, pl) :: M1) H') := fun a o e => by
      obtain ⟨e1, e2⟩ := hide_some e
      have ne : a ≠ c := ne_of_none e2 hc
      unfold Gh
      rw [hbm, hide_f (by rw [e1, Bool.false_or]; simpa using ne)]
      exact xt a o e1 e2
    have k2 : Ok0 K S H0 H' ((c, true, pl) :: M1) := by
      refine ⟨fun a o e3 e4 => ?_, iv.1, ?_, fun z hz => ?_, fun z hz => ?_⟩
      · have e5 := k1.xt a o e3 e4
        by_cases e6 : Bm S M1 a = false
        · exact xt a o e6 e5
        · have e7 : Bm S M1 a = true := by simpa using e6
          rcases (Bool.or_eq_true _ _).mp e7 with e | e
          · rw [e3] at e; cases e
          · obtain ⟨z, hz, y⟩ := List.any_eq_true.mp e
            have y : z.1 = a := by simpa using y
            rw [← y, iv.2 z hz, y]
            exact e5
      · rw [List.map_cons, List.nodup_cons]
        refine ⟨fun z => ?_, k1.nd⟩
        obtain ⟨q, hq, e⟩ := List.mem_map.mp z
        exact nb.2 q hq e
      · rcases List.mem_cons.mp hz with rfl | hz
        · refine ⟨fun _ => ⟨nb.1, ?_⟩, fun z => by cases z⟩
          cases e : H0 c with
          | none => rfl
          | some o => have z := k1.xt c o nb.1 e; rw [hc] at z; cases z
        · exact k1.loc z hz
      · rcases List.mem_cons.mp hz with rfl | hz
        · exact ⟨l, hl, by rw [hbm]; exact hd⟩
        · obtain ⟨us, a, b⟩ := k1.mem z hz
          exact ⟨us, by rw [iv.2 z hz]; exact a, dps_mono sm _ _ b⟩
    exact n _ H' (as.set i (.own c)) _ k2 (((r.mono e1).mono sm).set i (s := .own c) rfl) (e1.trans sm) (cont c pl nb.2 pd)
theorem spN_len {vs : List V} {H : Hp} {Q : VK} {n : Nat} (hn : ∀ ds, pre ds → ds.length = n) (h : spN pre postN K vs H Q E) : vs.length = n := by
  obtain ⟨S, ds, _, hp, hd, _⟩ := h
  rw [dps_len hd]; exact hn ds hp
end

/-! ### a def that may be called -/
structure Cal (P : Program) (w : World) (K : PySem.W.Frag) (mg : Str → Option Value) (base : Heap) (k : Nat) (x : Str) (ps : List Str) (sp : Sp) : Prop where
  ex : ∃ f fd, FnOk P w K mg base CX0 k f fd ps sp ∧ mg x = some (.ref f) ∧ PySem.W.keepIn K (.ref f) = true ∧ Binds K fd ps []
/-- a def's text that stands behind the top -/
structure Dfn (K : PySem.W.Frag) (mg : Str → Option Value) (x : Str) (st : Stmt) (ps : List Str) : Prop where
  ex : ∃ f fd, Fun K x x st f fd ∧ mg x = some (.ref f) ∧ Binds K fd ps []
section
variable {P : Program} {w : World} {K : PySem.W.Frag} {mg : Str → Option Value} {base : Heap}
theorem Cal.mono {j k : Nat} {x : Str} {ps : List Str} {sp : Sp} (c : Cal P w K mg base j x ps sp) (h : j ≤ k) : Cal P w K mg base k x ps sp := by
  obtain ⟨f, fd, a, b, d, e⟩ := c.ex
  exact ⟨f, fd, a.mono h, b, d, e⟩
theorem pe_cal {X : Cx} {k : Nat} {x : Str} {ps : List Str} {sp : Sp} {p pos : Pos} {e : Expr} {es : List Expr} {t : TA} (c : Cal X.prog X.w X.K X.mg X.base k x ps sp) (hr : Room k X.A) (ha : PA X (e :: es) t) (hg : Gl X x := by rfl) (hdb : (x == ("__debug__" : Str)) = false := by decide)
    (he : starEach (e :: es) X.env = (false, eval e X.env) :: starEach es X.env := by rfl) (hpl : (backTo pos (starEach es X.env)).any (·.1) = false := by rfl) : PE X (.Call (.Name x p) (e :: es) [] pos) (tCall sp [] E0 t) := by
  obtain ⟨f, fd, F, hm, hk, hb⟩ := c.ex
  exact pe_call F hr hg hm hk hb .nil pass0 ha hdb he hpl
/-- the rule for a def -/
theorem Dfn.ok {x : Str} {st : Stmt} {N ps : List Str} {k : Nat} {sp : Sp} (F : Dfn K mg x st ps) (S : FnScope N ps (defScope st)) (len : ∀ vs H Q E, sp vs H Q E → vs.length = ps.length)
    (hbody : ∀ (f : Addr) (cdv : Value) (A : Around) (outer : List Env) (s : Shared) (H : Hp) (vs : List V) (Q : VK) (E : XK), Room k (A.deeper (envOfC x (defScope st) s.heap.objs.size f cdv)) → sp vs H Q E →
      ∃ t, PSs (cxOf CX0 P w K mg base N x (defScope st) f cdv A outer s H E).nox (defBody st) t ∧ t { nx := fun _ H' => Q .non H', rt := Q } (L2.start N vs) H) : Cal P w K mg base (k + 1) x ps sp := by
  obtain ⟨f, fd, a, b, c⟩ := F.ex
  exact ⟨f, fd, a.ok S len (fun cdv A outer s H vs Q E hr h => hbody f cdv A outer s H vs Q E hr h), b, a.kp, c⟩
end
end Ab

set_option Elab.async false
set_option linter.all false
set_option maxRecDepth 100000
set_option maxHeartbeats 4000000
namespace Ab
open PySem PySem.Spec PyProof.Rows L2
section
variable {α : Type} {Q : List PyData → Prop} {a b c : PyData}
theorem m0 (h : Q []) : ∃ ds : List PyData, ([] : List Sv) = ds.map .dat ∧ Q ds := ⟨[], rfl, h⟩
theorem m1 (h : Q [a]) : ∃ ds : List PyData, [Sv.dat a] = ds.map .dat ∧ Q ds := ⟨[a], rfl, h⟩
theorem m2 (h : Q [a, b]) : ∃ ds : List PyData, [Sv.dat a, .dat b] = ds.map .dat ∧ Q ds := ⟨[a, b], rfl, h⟩
theorem m3 (h : Q [a, b, c]) : ∃ ds : List PyData, [Sv.dat a, .dat b, .dat c] = ds.map .dat ∧ Q ds := ⟨[a, b, c], rfl, h⟩
theorem m5 {d e : PyData} (h : Q [a, b, c, d, e]) : ∃ ds : List PyData, [Sv.dat a, .dat b, .dat c, .dat d, .dat e] = ds.map .dat ∧ Q ds := ⟨[a, b, c, d, e], rfl, h⟩
theorem exb {x : Bool} {R : Bool → Prop} (h : R x) : ∃ b, PyData.bool x = .bool b ∧ R b := ⟨x, rfl, h⟩
theorem exi {x : Int} {R : Int → Prop} (h : R x) : ∃ b, PyData.int x = .int b ∧ R b := ⟨x, rfl, h⟩
theorem exs {x : Str} {R : Str → Prop} (h : R x) : ∃ b, PyData.str x = .str b ∧ R b := ⟨x, rfl, h⟩
theorem exl {xs : List PyData} {R : List PyData → Prop} (h : R xs) : ∃ ys, PyData.list xs = .list ys ∧ R ys := ⟨xs, rfl, h⟩
theorem exql {xs : List PyData} {R : List PyData → Prop} (h : R xs) : ∃ ys, (PyData.list xs = .list ys ∨ PyData.list xs = .tuple ys) ∧ R ys := ⟨xs, .inl rfl, h⟩
theorem exqt {xs : List PyData} {R : List PyData → Prop} (h : R xs) : ∃ ys, (PyData.tuple xs = .list ys ∨ PyData.tuple xs = .tuple ys) ∧ R ys := ⟨xs, .inr rfl, h⟩
theorem callF {f : List PyData → Option PyData} {ds : List PyData} {v : PyData} {R : PyData → Prop} (e : f ds = some v) (h : R v) : (∃ d, f ds = some d) ∧ ∀ d, f ds = some d → R d := ⟨⟨v, e⟩, fun d e2 => by rw [e] at e2; cases e2; exact h⟩
theorem iteK {c : Bool} {A B : Prop} (e : c = true) (h : A) : if c = true then A else B := by rw [if_pos e]; exact h
theorem iteN {c : Bool} {A B : Prop} (e : c = false) (h : B) : if c = true then A else B := by rw [e]; exact h
theorem iteB {c : Bool} {A B : Prop} (h1 : c = true → A) (h2 : c = false → B) : if c = true then A else B := by
  cases c with
  | true => exact h1 rfl
  | false => exact h2 rfl
theorem feq {P : PyData → Prop} (x : SeqAt.shaped a = true) (y : SeqAt.shaped b = true) (z : P (.bool (PyData.eqv a b))) : fEq a b P := ⟨x, y, z⟩
theorem fne {P : PyData → Prop} (x : SeqAt.shaped a = true) (y : SeqAt.shaped b = true) (z : P (.bool (!PyData.eqv a b))) : fNe a b P := ⟨x, y, z⟩
theorem fixt {ds : List PyData} {i : Int} {P : PyData → Prop} (e : atI ds i = some a) (h : P a) : fIx (.tuple ds) (.int i) P := ⟨a, e, h⟩
theorem fixl {ds : List PyData} {i : Int} {P : PyData → Prop} (e : atI ds i = some a) (h : P a) : fIx (.list ds) (.int i) P := ⟨a, e, h⟩
theorem fslt {ds es : List PyData} {lo hi : Option Int} {P : PyData → Prop} (e : cutD ds lo hi = es) (h : P (.tuple es)) : fSl (.tuple ds) lo hi P := by subst e; exact h
theorem fsll {ds es : List PyData} {lo hi : Option Int} {P : PyData → Prop} (e : cutD ds lo hi = es) (h : P (.list es)) : fSl (.list ds) lo hi P := by subst e; exact h
theorem flent {ds : List PyData} {P : PyData → Prop} (h : P (.int ds.length)) : fLenA [.tuple ds] P := h
theorem flenl {ds : List PyData} {P : PyData → Prop} (h : P (.int ds.length)) : fLenA [.list ds] P := h
theorem flens {z : Str} {P : PyData → Prop} (hz : z.length ≤ 100000) (h : P (.int z.length)) : fLenA [.str z] P := ⟨hz, h⟩
theorem fii {C : Int → Int → Prop} {g : Int → Int → PyData} {i j : Int} {P : PyData → Prop} (c : C i j) (h : P (g i j)) : fI C g (.int i) (.int j) P := ⟨c, h⟩
theorem fpi {i j : Int} {P : PyData → Prop} (h : P (.int (i + j))) : fPlus (.int i) (.int j) P := h
theorem fpt {xs ys : List PyData} {P : PyData → Prop} (l : xs.length + ys.length ≤ 100000) (h : P (.tuple (xs ++ ys))) : fPlus (.tuple xs) (.tuple ys) P := ⟨l, h⟩
theorem fpl {xs ys : List PyData} {P : PyData → Prop} (l : xs.length + ys.length ≤ 100000) (h : P (.list (xs ++ ys))) : fPlus (.list xs) (.list ys) P := ⟨l, h⟩
theorem flti {i j : Int} {P : PyData → Prop} (h : P (.bool (decide (i < j)))) : fLess (.int i) (.int j) P := h
theorem fint {i : Int} {P : PyData → Prop} (h : P (.int i)) : fIntOf [.int i] P := h
theorem ftupl {ds : List PyData} {P : PyData → Prop} (h : P (.tuple ds)) : fTupleOf [.list ds] P := h
theorem ftupt {ds : List PyData} {P : PyData → Prop} (h : P (.tuple ds)) : fTupleOf [.tuple ds] P := h
theorem fall {bs : List Bool} {ds : List PyData} {P : PyData → Prop} (e : ds = bs.map .bool) (h : P (.bool (bs.all id))) : fAll [.list ds] P := ⟨bs, e, h⟩
theorem fany {bs : List Bool} {ds : List PyData} {P : PyData → Prop} (e : ds = bs.map .bool) (h : P (.bool (bs.any id))) : fAny [.list ds] P := ⟨bs, e, h⟩
/-- a comprehension without tests over one name: each item's value by a function -/
theorem w_map {K : PySem.W.Frag} {wi : TI} {te : TE} {i : Nat} {vs : List Nat} {as : List Sv} {M : Mm} {P : PyData → Mm → Prop} (hi : i ∈ vs) (h : WI K wi as M fun xs M1 => ∃ g : PyData → PyData, xs.length ≤ 100000 ∧
    (∀ x ∈ xs, W K te ((awipe as vs).set i (.dat x)) M1 fun y M2 => y = g x ∧ M2 = M1) ∧ P (.list (xs.map g)) M1) : W K (tLc wi (gName i) tYes te vs) as M P := by
  refine w_lc ga_name (by simpa using hi) fun S H0 σ H k r R q => h S H0 σ H k r R fun J H' xs M' k' e' it ⟨g, hl, hx, hp⟩ => q J H' xs M' k' e' it ⟨fun n acc M2 => acc = (xs.take n).map g ∧ M2 = M', ⟨rfl, rfl⟩, fun n x acc Mi hn ⟨ea, em⟩ => ?_, fun acc M2 ⟨ea, em⟩ => by rw [ea, em, List.take_length]; exact hp⟩
  subst ea em
  intro S2 H02 σ2 H2 k2 r2 Q2 q2
  refine q2 true H2 Mi k2 (Same.refl _) ?_
  show W K te _ Mi _
  refine (hx x (List.mem_of_getElem? hn)).imp fun y M3 ⟨ey, em⟩ => ?_
  subst ey em
  have hlt := (List.getElem?_eq_some_iff.mp hn).1
  refine ⟨by rw [List.length_map, List.length_take]; omega, ?_, rfl⟩
  rw [List.take_add_one, hn, List.map_append]
  rfl
/-- .. over a couple of names -/
theorem w_map2 {K : PySem.W.Frag} {wi : TI} {te : TE} {i j : Nat} {vs : List Nat} {as : List Sv} {M : Mm} {P : PyData → Mm → Prop} (hi : i ∈ vs) (hj : j ∈ vs) (h : WI K wi as M fun xs M1 => ∃ g : PyData → PyData, xs.length ≤ 100000 ∧
    (∀ x ∈ xs, ∃ a b, (x = .tuple [a, b] ∨ x = .list [a, b]) ∧ W K te (((awipe as vs).set i (.dat a)).set j (.dat b)) M1 fun y M2 => y = g x ∧ M2 = M1) ∧ P (.list (xs.map g)) M1) : W K (tLc wi (gSeq K 2 (gCons (gName i) (gCons (gName j) gNil))) tYes te vs) as M P := by
  refine w_lc ga_pair (by intro t ht; simp at ht; rcases ht with rfl | rfl <;> assumption) fun S H0 σ H k r R q => h S H0 σ H k r R fun J H' xs M' k' e' it ⟨g, hl, hx, hp⟩ => q J H' xs M' k' e' it ⟨fun n acc M2 => acc = (xs.take n).map g ∧ M2 = M', ⟨rfl, rfl⟩, fun n x acc Mi hn ⟨ea, em⟩ => ?_, fun acc M2 ⟨ea, em⟩ => by rw [ea, em, List.take_length]; exact hp⟩
  subst ea em
  obtain ⟨a, b, ex, hw⟩ := hx x (List.mem_of_getElem? hn)
  refine ⟨a, b, ex, ?_⟩
  intro S2 H02 σ2 H2 k2 r2 Q2 q2
  refine q2 true H2 Mi k2 (Same.refl _) ?_
  show W K te _ Mi _
  refine hw.imp fun y M3 ⟨ey, em⟩ => ?_
  subst ey em
  have hlt := (List.getElem?_eq_some_iff.mp hn).1
  refine ⟨by rw [List.length_map, List.length_take]; omega, ?_, rfl⟩
  rw [List.take_add_one, hn, List.map_append]
  rfl
end
end Ab
namespace Ab
open PySem PySem.Spec PyProof.Rows L2
section
variable {X : Cx} {K : PySem.W.Frag} {k : Nat}
theorem k_plus (e : X.K = K) : OpR X (binaryOp .Add) (rPlus K) := e ▸ op_plus
theorem k_eq (e : X.K = K) (hr : Room k X.A) : OpR X (compareOp .Eq) (rEqD K) := e ▸ op_eqD hr.units
theorem k_ne (e : X.K = K) (hr : Room k X.A) : OpR X (compareOp .NotEq) (rNeD K) := e ▸ op_neD hr.units
theorem hu65 {A : Around} (hr : Room k A) : A.units + 65 < cLine := by have := hr.un; omega
theorem k_in (e : X.K = K) (hr : Room k X.A) : OpR X (compareOp .In) (rInSeq K) := e ▸ op_inSeq (hu65 hr)
theorem k_nin (e : X.K = K) (hr : Room k X.A) : OpR X (compareOp .NotIn) (rNinSeq K) := e ▸ op_ninSeq (hu65 hr)
theorem k_ix (e : X.K = K) : IxR X (rIx K) := e ▸ ix_seq
theorem k_sl (e : X.K = K) : SlR X (rSl K) := e ▸ sl_any
theorem k_tuple (e : X.K = K) : CallR X (.type "tuple") (rTupleOf K) := e ▸ call_tupleOf
theorem k_len (e : X.K = K) : CallR X (.builtin "len") (rLenA K) := e ▸ call_lenA
theorem k_all (e : X.K = K) (hc : X.calm = true) : CallR X (.builtin "all") (rAll K) := e ▸ cr_all hc
theorem k_any (e : X.K = K) (hc : X.calm = true) : CallR X (.builtin "any") (rAny K) := e ▸ cr_any hc
theorem k_isi (e : X.K = K) : CallR X (.builtin "isinstance") (rIsi K) := e ▸ call_isi
theorem k_isiT (e : X.K = K) : CallR X (.builtin "isinstance") (rIsiT K) := e ▸ call_isiT
theorem k_seq {tg l : Expr} {tl : TE} (e : X.K = K) (h : PE X l tl) : PI X tg l (iSeq K tl) := e ▸ pi_seq h
theorem k_rev {tg l : Expr} {te : TE} {p pos : Pos} (e : X.K = K) (hg : Gl X "reversed") (hm : X.mg "reversed" = none) (h : PE X l te) (hs : starEach [l] X.env = (false, eval l X.env) :: starEach [] X.env := by rfl) : PI X tg (.Call (.Name "reversed" p) [l] [] pos) (RT.iRevA K te) := e ▸ RT.pi_revA hg hm h hs
theorem k_tru {a : Expr} {ta : TE} (e : X.K = K) (ha : PE X a ta) (he : ∀ whole, isTrue a X.env whole = (do let v ← whole; standAt a.pos; holding [v] (truthy v)) := by intro _; rfl) : PT X a (tTru K ta) := e ▸ pt_tru ha he
theorem k_tup {es : List Expr} {kk : Nat} {t : TGs} {n : Nat} {pos : Pos} (e : X.K = K) (hc : X.calm = true) (h : PGs X es t) (hn : (assignEach es X.env).length = n := by rfl) (hst : (assignEach es X.env).findIdx? (·.1) = none := by rfl) : PG X (.Tuple es kk pos) (gSeq K n t) := e ▸ pg_seq hc h hn hst
theorem pe_gstr {x z : Str} {pos : Pos} (hg : Gl X x) (h : ∃ t, X.mg x = some (.str z t)) (hd : (x == ("__debug__" : Str)) = false := by decide) : PE X (.Name x pos) (tC (.str z)) := by
  obtain ⟨t, h⟩ := h
  exact pe_glob hg h ⟨t, rfl⟩ hd
theorem pe_gint {x : Str} {z : Int} {pos : Pos} (hg : Gl X x) (h : ∃ t, X.mg x = some (.int z t)) (hd : (x == ("__debug__" : Str)) = false := by decide) : PE X (.Name x pos) (tC (.int z)) := by
  obtain ⟨t, h⟩ := h
  exact pe_glob hg h ⟨t, rfl⟩ hd
theorem pe_gref {x : Str} {a : Addr} {pos : Pos} (hg : Gl X x) (h : X.mg x = some (.ref a)) (hd : (x == ("__debug__" : Str)) = false := by decide) : PE X (.Name x pos) (tC (.ref a)) := pe_glob (v := .ref a) hg h rfl hd
end
abbrev spF (f : List PyData → Option PyData) (K : PySem.W.Frag) : Sp := spP (fun ds => ∃ d, f ds = some d) (fun ds d => f ds = some d) K
end Ab
namespace Ab
open PySem PySem.Spec PyProof.Rows L2
section
variable {K : PySem.W.Frag} {wi : TI} {te : TE} {tt : TT} {i j : Nat} {vs : List Nat} {as : List Sv} {M : Mm} {P : PyData → Mm → Prop}
/-- a comprehension with a test, over one name -/
theorem w_filt (hi : i ∈ vs) (h : WI K wi as M fun xs M1 => ∃ (b : PyData → Bool) (g : PyData → PyData), xs.length ≤ 100000 ∧
    (∀ x ∈ xs, WT K tt ((awipe as vs).set i (.dat x)) M1 fun c M2 => c = b x ∧ M2 = M1 ∧ (b x = true → W K te ((awipe as vs).set i (.dat x)) M1 fun y M3 => y = g x ∧ M3 = M1)) ∧ P (.list ((xs.filter b).map g)) M1) : W K (tLc wi (gName i) tt te vs) as M P := by
  refine w_lc ga_name (by simpa using hi) fun S H0 σ H k r R q => h S H0 σ H k r R fun J H' xs M' k' e' it ⟨b, g, hl, hx, hp⟩ => q J H' xs M' k' e' it ⟨fun n acc M2 => acc = ((xs.take n).filter b).map g ∧ M2 = M', ⟨rfl, rfl⟩, fun n x acc Mi hn ⟨ea, em⟩ => ?_, fun acc M2 ⟨ea, em⟩ => by rw [ea, em, List.take_length]; exact hp⟩
  subst ea em
  intro S2 H02 σ2 H2 k2 r2 Q2 q2
  refine hx x (List.mem_of_getElem? hn) S2 H02 σ2 H2 k2 r2 Q2 fun c H3 M3 k3 e3 ⟨ec, em, hw⟩ => q2 c H3 M3 k3 e3 ?_
  subst ec em
  have hlt := (List.getElem?_eq_some_iff.mp hn).1
  have hfl : ((xs.take n).filter b).length ≤ n := Nat.le_trans (List.length_filter_le _ _) (by rw [List.length_take]; omega)
  have ht : xs.take (n + 1) = xs.take n ++ [x] := by rw [List.take_add_one, hn]; rfl
  cases hb : b x with
  | true =>
    refine iteT ?_
    refine (hw hb).imp fun y M4 ⟨ey, em⟩ => ?_
    subst ey em
    refine ⟨by rw [List.length_map]; omega, ?_, rfl⟩
    rw [ht, List.filter_append, List.map_append]
    simp [hb]
  | false =>
    refine iteF ?_
    refine ⟨?_, rfl⟩
    rw [ht, List.filter_append, List.map_append]
    simp [hb]
theorem w_filt2 (hi : i ∈ vs) (hj : j ∈ vs) (h : WI K wi as M fun xs M1 => ∃ (b : PyData → Bool) (g : PyData → PyData), xs.length ≤ 100000 ∧
    (∀ x ∈ xs, ∃ u v, (x = .tuple [u, v] ∨ x = .list [u, v]) ∧ WT K tt (((awipe as vs).set i (.dat u)).set j (.dat v)) M1 fun c M2 => c = b x ∧ M2 = M1 ∧ (b x = true → W K te (((awipe as vs).set i (.dat u)).set j (.dat v)) M1 fun y M3 => y = g x ∧ M3 = M1)) ∧
    P (.list ((xs.filter b).map g)) M1) : W K (tLc wi (gSeq K 2 (gCons (gName i) (gCons (gName j) gNil))) tt te vs) as M P := by
  refine w_lc ga_pair (by intro t ht; simp at ht; rcases ht with rfl | rfl <;> assumption) fun S H0 σ H k r R q => h S H0 σ H k r R fun J H' xs M' k' e' it ⟨b, g, hl, hx, hp⟩ => q J H' xs M' k' e' it ⟨fun n acc M2 => acc = ((xs.take n).filter b).map g ∧ M2 = M', ⟨rfl, rfl⟩, fun n x acc Mi hn ⟨ea, em⟩ => ?_, fun acc M2 ⟨ea, em⟩ => by rw [ea, em, List.take_length]; exact hp⟩
  subst ea em
  obtain ⟨u, v, ex, hxx⟩ := hx x (List.mem_of_getElem? hn)
  refine ⟨u, v, ex, ?_⟩
  intro S2 H02 σ2 H2 k2 r2 Q2 q2
  refine hxx S2 H02 σ2 H2 k2 r2 Q2 fun c H3 M3 k3 e3 ⟨ec, em, hw⟩ => q2 c H3 M3 k3 e3 ?_
  subst ec em
  have hlt := (List.getElem?_eq_some_iff.mp hn).1
  have hfl : ((xs.take n).filter b).length ≤ n := Nat.le_trans (List.length_filter_le _ _) (by rw [List.length_take]; omega)
  have ht : xs.take (n + 1) = xs.take n ++ [x] := by rw [List.take_add_one, hn]; rfl
  cases hb : b x with
  | true =>
    refine iteT ?_
    refine (hw hb).imp fun y M4 ⟨ey, em⟩ => ?_
    subst ey em
    refine ⟨by rw [List.length_map]; omega, ?_, rfl⟩
    rw [ht, List.filter_append, List.map_append]
    simp [hb]
  | false =>
    refine iteF ?_
    refine ⟨?_, rfl⟩
    rw [ht, List.filter_append, List.map_append]
    simp [hb]
end
end Ab

set_option Elab.async false
set_option linter.all false
set_option maxRecDepth 100000
set_option maxHeartbeats 4000000
namespace Kk
open PySem PySem.Spec PyProof.Rows L2 Ab
/-! ### the text -/
def topS (i : Nat) : Stmt := PySem.Challenge.pw_listasks_k00_kinds_and_the_places_of_the.main.body.getD i (.Pass ⟨0, 0, 0, 0⟩)
abbrev s_is_integer : Stmt := topS 11
theorem sc_is_integer : FnScope ["thing"] ["thing"] (defScope s_is_integer) := ⟨rfl, rfl, rfl, by decide +kernel, rfl, by decide +kernel, by decide +kernel⟩
abbrev s_is_sequence : Stmt := topS 12
theorem sc_is_sequence : FnScope ["thing"] ["thing"] (defScope s_is_sequence) := ⟨rfl, rfl, rfl, by decide +kernel, rfl, by decide +kernel, by decide +kernel⟩
abbrev s_is_couple : Stmt := topS 13
theorem sc_is_couple : FnScope ["thing"] ["thing"] (defScope s_is_couple) := ⟨rfl, rfl, rfl, by decide +kernel, rfl, by decide +kernel, by decide +kernel⟩
abbrev s_is_ascending : Stmt := topS 14
theorem sc_is_ascending : FnScope ["things", "k"] ["things"] (defScope s_is_ascending) := ⟨rfl, rfl, rfl, by decide +kernel, rfl, by decide +kernel, by decide +kernel⟩
abbrev s_is_name : Stmt := topS 15
theorem sc_is_name : FnScope ["thing", "sign"] ["thing"] (defScope s_is_name) := ⟨rfl, rfl, rfl, by decide +kernel, rfl, by decide +kernel, by decide +kernel⟩
abbrev s_is_base : Stmt := topS 16
theorem sc_is_base : FnScope ["kind"] ["kind"] (defScope s_is_base) := ⟨rfl, rfl, rfl, by decide +kernel, rfl, by decide +kernel, by decide +kernel⟩
abbrev s_check_kind : Stmt := topS 17
theorem sc_check_kind : FnScope ["kind"] ["kind"] (defScope s_check_kind) := ⟨rfl, rfl, rfl, by decide +kernel, rfl, by decide +kernel, by decide +kernel⟩
abbrev s_checked_kind : Stmt := topS 18
theorem sc_checked_kind : FnScope ["kind", "room", "word", "rest"] ["kind", "room"] (defScope s_checked_kind) := ⟨rfl, rfl, rfl, by decide +kernel, rfl, by decide +kernel, by decide +kernel⟩
abbrev s_checked_couples : Stmt := topS 19
theorem sc_checked_couples : FnScope ["couples", "room", "label", "kind", "couple", "_"] ["couples", "room"] (defScope s_checked_couples) := ⟨rfl, rfl, rfl, by decide +kernel, rfl, by decide +kernel, by decide +kernel⟩
abbrev s_kind_parts : Stmt := topS 20
theorem sc_kind_parts : FnScope ["kind", "_", "part"] ["kind"] (defScope s_kind_parts) := ⟨rfl, rfl, rfl, by decide +kernel, rfl, by decide +kernel, by decide +kernel⟩
abbrev s_kinds_inside : Stmt := topS 21
theorem sc_kinds_inside : FnScope ["kind", "found", "todo", "part", "inner"] ["kind"] (defScope s_kinds_inside) := ⟨rfl, rfl, rfl, by decide +kernel, rfl, by decide +kernel, by decide +kernel⟩
abbrev s_has_open : Stmt := topS 22
theorem sc_has_open : FnScope ["kind", "part"] ["kind"] (defScope s_has_open) := ⟨rfl, rfl, rfl, by decide +kernel, rfl, by decide +kernel, by decide +kernel⟩
abbrev s_has_function : Stmt := topS 23
theorem sc_has_function : FnScope ["kind", "part"] ["kind"] (defScope s_has_function) := ⟨rfl, rfl, rfl, by decide +kernel, rfl, by decide +kernel, by decide +kernel⟩
abbrev s_is_answer_kind : Stmt := topS 24
theorem sc_is_answer_kind : FnScope ["kind"] ["kind"] (defScope s_is_answer_kind) := ⟨rfl, rfl, rfl, by decide +kernel, rfl, by decide +kernel, by decide +kernel⟩
abbrev s_list_places : Stmt := topS 25
theorem sc_list_places : FnScope ["kind", "places", "todo", "steps", "part", "label", "inner"] ["kind"] (defScope s_list_places) := ⟨rfl, rfl, rfl, by decide +kernel, rfl, by decide +kernel, by decide +kernel⟩
abbrev s_ask_count : Stmt := topS 26
theorem sc_ask_count : FnScope ["kind"] ["kind"] (defScope s_ask_count) := ⟨rfl, rfl, rfl, by decide +kernel, rfl, by decide +kernel, by decide +kernel⟩
abbrev s_kind_at : Stmt := topS 27
theorem sc_kind_at : FnScope ["kind", "steps", "here", "step"] ["kind", "steps"] (defScope s_kind_at) := ⟨rfl, rfl, rfl, by decide +kernel, rfl, by decide +kernel, by decide +kernel⟩
abbrev s_kind_behind : Stmt := topS 28
theorem sc_kind_behind : FnScope ["kind", "step", "label", "part"] ["kind", "step"] (defScope s_kind_behind) := ⟨rfl, rfl, rfl, by decide +kernel, rfl, by decide +kernel, by decide +kernel⟩
abbrev s_flat_paths : Stmt := topS 29
theorem sc_flat_paths : FnScope ["kind", "paths", "todo", "labels", "part", "label", "inner"] ["kind"] (defScope s_flat_paths) := ⟨rfl, rfl, rfl, by decide +kernel, rfl, by decide +kernel, by decide +kernel⟩
abbrev s_law_pool : Stmt := topS 31
theorem sc_law_pool : FnScope ["_law_script", "_law_at", "_law_cell", "_law_size", "_law_start"] ["_law_script", "_law_at"] (defScope s_law_pool) := ⟨rfl, rfl, rfl, by decide +kernel, rfl, by decide +kernel, by decide +kernel⟩
abbrev s_law_draw : Stmt := topS 32
theorem sc_law_draw : FnScope ["_law_pool_here", "_law_many", "_law_drawn"] ["_law_pool_here", "_law_many"] (defScope s_law_draw) := ⟨rfl, rfl, rfl, by decide +kernel, rfl, by decide +kernel, by decide +kernel⟩
abbrev s_law_exact : Stmt := topS 33
theorem sc_law_exact : FnScope ["_law_told", "_law_due", "_law_k"] ["_law_told", "_law_due"] (defScope s_law_exact) := ⟨rfl, rfl, rfl, by decide +kernel, rfl, by decide +kernel, by decide +kernel⟩
abbrev s_law_relisted : Stmt := topS 34
theorem sc_law_relisted : FnScope ["_law_thing", "_law_part"] ["_law_thing"] (defScope s_law_relisted) := ⟨rfl, rfl, rfl, by decide +kernel, rfl, by decide +kernel, by decide +kernel⟩
abbrev s_law_any_kind : Stmt := topS 35
theorem sc_law_any_kind : FnScope ["_law_pool_here", "_law_left", "_law_way", "_law_first", "_law_labels", "_law_label"] ["_law_pool_here", "_law_left"] (defScope s_law_any_kind) := ⟨rfl, rfl, rfl, by decide +kernel, rfl, by decide +kernel, by decide +kernel⟩
abbrev s_law_led_to : Stmt := topS 36
theorem sc_law_led_to : FnScope ["_law_kind", "_law_steps", "_law_out", "_law_label", "_law_inner"] ["_law_kind", "_law_steps"] (defScope s_law_led_to) := ⟨rfl, rfl, rfl, by decide +kernel, rfl, by decide +kernel, by decide +kernel⟩
abbrev s_law_kind_has : Stmt := topS 37
theorem sc_law_kind_has : FnScope ["_law_kind", "_law_word", "_law_inner", "_law_label"] ["_law_kind", "_law_word"] (defScope s_law_kind_has) := ⟨rfl, rfl, rfl, by decide +kernel, rfl, by decide +kernel, by decide +kernel⟩
abbrev s_law_wrong_steps : Stmt := topS 38
theorem sc_law_wrong_steps : FnScope ["_law_kind", "_law_steps", "e"] ["_law_kind", "_law_steps"] (defScope s_law_wrong_steps) := ⟨rfl, rfl, rfl, by decide +kernel, rfl, by decide +kernel, by decide +kernel⟩
abbrev s_law : Stmt := topS 39
theorem sc_law : FnScope ["_law_script", "_law_pool_here", "_law_kind", "_law_reached", "_law_steps", "_law_inner", "_law_lists", "_law_flat", "_law_opened", "_law_worked", "_law_due"] ["_law_script"] (defScope s_law) := ⟨rfl, rfl, rfl, by decide +kernel, rfl, by decide +kernel, by decide +kernel⟩
/-- what the top has written -/
structure Txt (K : PySem.W.Frag) (mg : Str → Option Value) (aB : Addr) : Prop where
  n_all : mg "all" = none
  n_any : mg "any" = none
  n_bool : mg "bool" = none
  n_int : mg "int" = none
  n_isinstance : mg "isinstance" = none
  n_len : mg "len" = none
  n_list : mg "list" = none
  n_range : mg "range" = none
  n_reversed : mg "reversed" = none
  n_str : mg "str" = none
  n_tuple : mg "tuple" = none
  g_LETTERS : ∃ t, mg "LETTERS" = some (.str "abcdefghijklmnopqrstuvwxyz" t)
  g_NAME_SIGNS : ∃ t, mg "NAME_SIGNS" = some (.str "abcdefghijklmnopqrstuvwxyz0123456789" t)
  g_MOST_NAME_SIGNS : ∃ t, mg "MOST_NAME_SIGNS" = some (.int 8 t)
  g_MOST_FIELDS : ∃ t, mg "MOST_FIELDS" = some (.int 5 t)
  g_MOST_DEEP : ∃ t, mg "MOST_DEEP" = some (.int 12 t)
  g_BASE_KINDS : mg "BASE_KINDS" = some (.ref aB)
  k_BASE_KINDS : ∀ H, Dp K H (.ref aB) (.tuple [.str "int", .str "text", .str "truth"])
/-- one step of the reading -/
local macro_rules | `(tactic| walk_at "w") => `(tactic| first
  | (with_reducible refine ws_seq ?_) | (with_reducible refine ws_next ?_) | (with_reducible refine ws_set ?_) | (with_reducible refine ws_par ?_) | (with_reducible refine ws_ret ?_) | (with_reducible refine ws_if ?_) | (with_reducible refine ws_drop ?_)
  | (refine w_var rfl ?_) | (with_reducible refine w_int ?_) | (with_reducible refine w_str ?_) | (with_reducible refine w_bl ?_) | (with_reducible refine w_non ?_)
  | (with_reducible refine wa_nil ?_) | (with_reducible refine wa_cons ?_) | (with_reducible refine w_tup ?_) | (with_reducible refine w_lst ?_)
  | (with_reducible refine wt_test ?_) | (with_reducible refine wt_B ?_) | (with_reducible refine wt_not ?_) | (with_reducible refine wt_and ?_) | (with_reducible refine wt_or ?_)
  | (with_reducible refine w_andV ?_) | (with_reducible refine w_orV ?_) | (with_reducible refine w_notV ?_) | (with_reducible refine w_ite ?_)
  | (with_reducible refine w_op ao_eq ?_) | (with_reducible refine w_op ao_ne ?_) | (with_reducible refine w_op ao_ix ?_) | (with_reducible refine w_op ao_plus ?_) | (with_reducible refine w_op ao_less ?_) | (with_reducible refine w_op ao_le ?_) | (with_reducible refine w_op ao_gt ?_) | (with_reducible refine w_op ao_ge ?_)
  | (with_reducible refine w_op ao_sub ?_) | (with_reducible refine w_op ao_mul ?_) | (with_reducible refine w_op ao_mod ?_) | (with_reducible refine w_op ao_div ?_) | (with_reducible refine w_op ao_pow ?_) | (with_reducible refine w_op ao_isNo ?_) | (with_reducible refine w_op ao_inSg ?_) | (with_reducible refine w_op ao_inSeq ?_) | (with_reducible refine w_op ao_ninSeq ?_)
  | (with_reducible refine w_cb ac_len ?_) | (with_reducible refine w_cb ac_tupleOf ?_) | (with_reducible refine w_cb ac_intOf ?_) | (with_reducible refine w_cb ac_all ?_) | (with_reducible refine w_cb ac_any ?_)
  | (with_reducible refine w_isi (by decide) ?_) | (with_reducible refine w_isi2 (by decide) (by decide) ?_) | (with_reducible refine w_sl ?_) | (with_reducible refine wo_none ?_) | (with_reducible refine wo_some ?_)
  | (with_reducible refine w_chain ao_le ao_le ?_) | (with_reducible refine w_call ?_))
local macro_rules | `(tactic| walk_at "v") => `(tactic| first
  | (with_reducible refine m0 ?_) | (with_reducible refine m1 ?_) | (with_reducible refine m2 ?_) | (with_reducible refine m3 ?_) | (with_reducible refine m5 ?_)
  | (with_reducible refine exb ?_) | (with_reducible refine exi ?_) | (with_reducible refine exl ?_) | (with_reducible refine exql ?_) | (with_reducible refine exqt ?_)
  | (refine fixt rfl ?_) | (refine fixl rfl ?_) | (refine fslt rfl ?_) | (refine fsll rfl ?_)
  | (with_reducible refine flent ?_; dsimp only [List.length_cons, List.length_nil]) | (with_reducible refine flenl ?_; dsimp only [List.length_cons, List.length_nil])
  | (with_reducible refine fii (by first | trivial | decide) ?_) | (with_reducible refine fpi ?_) | (with_reducible refine flti ?_) | (with_reducible refine fint ?_) | (with_reducible refine ftupl ?_) | (with_reducible refine ftupt ?_)
  | (with_reducible refine feq (by decide +kernel) (by decide +kernel) ?_) | (with_reducible refine fne (by decide +kernel) (by decide +kernel) ?_)
  | (with_reducible refine iteK rfl ?_) | (with_reducible refine iteN rfl ?_) | (with_reducible refine iteK (by decide +kernel) ?_) | (with_reducible refine iteN (by decide +kernel) ?_))
local macro_rules | `(tactic| walk_at "ww") => `(tactic| repeat (first | walk_at "w" | walk_at "v"))
section
variable {P : Program} {w : World} {K : PySem.W.Frag} {mg : Str → Option Value} {base : Heap} {aB : Addr} (T : Txt K mg aB)
/-! ### is_integer .. -/
def fIsInt : List PyData → Option PyData
  | [a] => some (.bool (isD a "int" && !isD a "bool"))
  | _ => none
def fIsSeq : List PyData → Option PyData
  | [a] => some (.bool (isD a "list" || isD a "tuple"))
  | _ => none
def fIsCouple : List PyData → Option PyData
  | [.list xs] => some (.bool (decide (xs.length = 2)))
  | [.tuple xs] => some (.bool (decide (xs.length = 2)))
  | _ => none
theorem len_eq2 (n : Nat) : PyData.eqv (.int (n : Int)) (.int 2) = decide (n = 2) := by
  show ((n : Int) == 2) = decide (n = 2)
  rw [Bool.eq_iff_iff]; simp; omega
include T in
theorem ok_is_integer (F : Dfn K mg "is_integer" s_is_integer ["thing"]) : Cal P w K mg base 1 "is_integer" ["thing"] (spF fIsInt K) := by
  have hn : ∀ ds, (∃ d, fIsInt ds = some d) → ds.length = 1 := by rintro ds ⟨d, h⟩; unfold fIsInt at h; split at h <;> simp_all
  refine F.ok sc_is_integer (fun vs H Q E h => spP_len hn h) (fun f cdv A outer s H vs Q E hr h => ⟨_, (pss_one (ps_ret (pe_and (pe_callB (k_isi (K := K) rfl) (by rfl) T.n_isinstance (by decide +kernel) (pa_cons (pv 0) (pa_cons (pe_bltn (v := .ty "int") (u := .type "int") (by rfl) T.n_int (by decide +kernel) rfl) pa_nil))) (pe_one (pe_not (pe_callB (k_isi (K := K) rfl) (by rfl) T.n_isinstance (by decide +kernel) (pa_cons (pv 0) (pa_cons (pe_bltn (v := .ty "bool") (u := .type "bool") (by rfl) T.n_bool (by decide +kernel) rfl) pa_nil)))))))), to_spP hn (fun ds hp => ?_) h⟩)
  match ds, hp with
  | [a], _ =>
    change WS K _ [.dat a] [] _
    walk_at "ww"
    cases e : isD a "int" with
    | true =>
      walk_at "ww"
      show some _ = some _
      rw [e]; rfl
    | false =>
      walk_at "ww"
      show some _ = some _
      rw [e]; rfl
include T in
theorem ok_is_sequence (F : Dfn K mg "is_sequence" s_is_sequence ["thing"]) : Cal P w K mg base 1 "is_sequence" ["thing"] (spF fIsSeq K) := by
  have hn : ∀ ds, (∃ d, fIsSeq ds = some d) → ds.length = 1 := by rintro ds ⟨d, h⟩; unfold fIsSeq at h; split at h <;> simp_all
  refine F.ok sc_is_sequence (fun vs H Q E h => spP_len hn h) (fun f cdv A outer s H vs Q E hr h => ⟨_, (pss_one (ps_ret (pe_callB (k_isiT (K := K) rfl) (by rfl) T.n_isinstance (by decide +kernel) (pa_cons (pv 0) (pa_cons (pe_tup (pa_cons (pe_bltn (v := .ty "list") (u := .type "list") (by rfl) T.n_list (by decide +kernel) rfl) (pa_cons (pe_bltn (v := .ty "tuple") (u := .type "tuple") (by rfl) T.n_tuple (by decide +kernel) rfl) pa_nil))) pa_nil))))), to_spP hn (fun ds hp => ?_) h⟩)
  match ds, hp with
  | [a], _ =>
    change WS K _ [.dat a] [] _
    walk_at "ww"
    rfl
include T in
theorem ok_is_couple (F : Dfn K mg "is_couple" s_is_couple ["thing"]) (c_is_sequence : Cal P w K mg base 1 "is_sequence" ["thing"] (spF fIsSeq K)) : Cal P w K mg base 2 "is_couple" ["thing"] (spF fIsCouple K) := by
  have hn : ∀ ds, (∃ d, fIsCouple ds = some d) → ds.length = 1 := by rintro ds ⟨d, h⟩; unfold fIsCouple at h; split at h <;> simp_all
  refine F.ok sc_is_couple (fun vs H Q E h => spP_len hn h) (fun f cdv A outer s H vs Q E hr h => ⟨_, (pss_one (ps_ret (pe_and (pe_cal c_is_sequence hr (pa_cons (pv 0) pa_nil)) (pe_one (pe_cmpR (k_eq (K := K) rfl hr) (pe_callB (k_len (K := K) rfl) (by rfl) T.n_len (by decide +kernel) (pa_cons (pv 0) pa_nil)) pe_int (nomark _)))))), to_spP hn (fun ds hp => ?_) h⟩)
  match ds, hp with
  | [.list xs], _ =>
    change WS K _ [.dat (.list xs)] [] _
    walk_at "ww"
    refine callF rfl ?_
    walk_at "ww"
    refine feq rfl rfl ?_
    show some _ = some _
    rw [len_eq2]
  | [.tuple xs], _ =>
    change WS K _ [.dat (.tuple xs)] [] _
    walk_at "ww"
    refine callF rfl ?_
    walk_at "ww"
    refine feq rfl rfl ?_
    show some _ = some _
    rw [len_eq2]
/-! ### is_ascending, is_name, is_base -/
def ascB : List Str → Bool
  | x :: y :: r => decide (x.cps.toList < y.cps.toList) && ascB (y :: r)
  | _ => true
def nameB (z : Str) : Bool := decide (1 ≤ z.length) && decide (z.length ≤ 8) && (match z.cps.toList with | c :: _ => decide (c ∈ ("abcdefghijklmnopqrstuvwxyz" : Str).cps.toList) | [] => false) && z.cps.toList.all fun c => decide (c ∈ ("abcdefghijklmnopqrstuvwxyz0123456789" : Str).cps.toList)
def unS : PyData → Str
  | .str s => s
  | _ => ""
theorem unS_map (ss : List Str) : (ss.map PyData.str).map unS = ss := by
  rw [List.map_map]
  exact List.map_id _
theorem strs_inj {ss ts : List Str} (h : ss.map PyData.str = ts.map PyData.str) : ss = ts := by rw [← unS_map ss, h, unS_map]
def gSign : PyData → PyData
  | .str s => .bool (match s.cps.toList with | [c] => decide (c ∈ ("abcdefghijklmnopqrstuvwxyz0123456789" : Str).cps.toList) | _ => false)
  | _ => .none
def lessAt (ss : List Str) (k : Nat) : Bool := match ss[k]?, ss[k + 1]? with
  | some a, some b => decide (a.cps.toList < b.cps.toList)
  | _, _ => false
theorem asc_all : ∀ ss : List Str, ((List.range (ss.length - 1)).map (lessAt ss)).all id = ascB ss
  | [] => rfl
  | [_] => rfl
  | x :: y :: r => by
    have ih := asc_all (y :: r)
    have e1 : (x :: y :: r).length - 1 = ((y :: r).length - 1) + 1 := by simp
    rw [e1, List.range_succ_eq_map, List.map_cons, List.all_cons, List.map_map]
    have e2 : (lessAt (x :: y :: r) ∘ Nat.succ) = lessAt (y :: r) := by
      funext k
      show lessAt (x :: y :: r) (k + 1) = _
      unfold lessAt
      simp
    rw [e2, ih]
    rfl
def gLess (ss : List Str) : PyData → PyData
  | .int k => .bool (lessAt ss k.toNat)
  | _ => .none
def bases : List PyData := [.str "int", .str "text", .str "truth"]
def fIsBase : List PyData → Option PyData
  | [a] => if SeqAt.shaped a = true then some (.bool (bases.any fun z => PyData.eqv z a)) else none
  | _ => none
include T in
theorem ok_is_base (F : Dfn K mg "is_base" s_is_base ["kind"]) : Cal P w K mg base 1 "is_base" ["kind"] (spF fIsBase K) := by
  have hn : ∀ ds, (∃ d, fIsBase ds = some d) → ds.length = 1 := by rintro ds ⟨d, h⟩; unfold fIsBase at h; split at h <;> simp_all
  refine F.ok sc_is_base (fun vs H Q E h => spP_len hn h) (fun f cdv A outer s H vs Q E hr h => ⟨_, (pss_one (ps_ret (pe_cmpR (k_in (K := K) rfl hr) (pv 0) (pe_gref (by rfl) T.g_BASE_KINDS) (by rfl)))), to_spP hn (fun ds hp => ?_) h⟩)
  match ds, hp with
  | [a], hp =>
    obtain ⟨d, hp⟩ := hp
    change WS K _ [.dat a] [] _
    walk_at "ww"
    refine w_cT T.k_BASE_KINDS ?_
    by_cases hs : SeqAt.shaped a = true
    · refine ⟨hs, by decide +kernel, ?_⟩
      show (if SeqAt.shaped a = true then some (PyData.bool (bases.any fun z => PyData.eqv z a)) else none) = some _
      rw [if_pos hs]
      rfl
    · have hp : (if SeqAt.shaped a = true then some (PyData.bool (bases.any fun z => PyData.eqv z a)) else none) = some d := hp
      rw [if_neg hs] at hp
      cases hp
include T in
theorem ok_is_ascending (F : Dfn K mg "is_ascending" s_is_ascending ["things"]) : Cal P w K mg base 1 "is_ascending" ["things"] (spP (fun ds => ∃ ss : List Str, ds = [PyData.list (ss.map PyData.str)] ∧ ss.length ≤ 1000) (fun ds d => ∀ ss : List Str, ds = [PyData.list (ss.map PyData.str)] → d = .bool (ascB ss)) K) := by
  have hn : ∀ ds, (∃ ss : List Str, ds = [PyData.list (ss.map PyData.str)] ∧ ss.length ≤ 1000) → ds.length = 1 := by rintro ds ⟨ss, rfl, _⟩; rfl
  refine F.ok sc_is_ascending (fun vs H Q E h => spP_len hn h) (fun f cdv A outer s H vs Q E hr h => ⟨_, (pss_one (ps_ret (pe_callB (k_all (K := K) rfl rfl) (by rfl) T.n_all (by decide +kernel) (pa_cons (pe_lc (own := [("k", 1)]) (by rfl) sc_is_ascending.nd (pi_range1 (by rfl) T.n_range (pa_cons (pe_op op_subI (pe_callB (k_len (K := K) rfl) (by rfl) T.n_len (by decide +kernel) (pa_cons (pv 0) pa_nil)) pe_int) pa_nil)) (blkOk_by (N := ["things", "k"]) (sc := defScope s_is_ascending) (by decide +kernel)) (fun _ _ _ _ _ => (pg_name (i := 1) sc_is_ascending.nd rfl (by first | exact .inl rfl | exact .inr rfl))) (fun _ _ _ _ _ => pts_nil) (fun _ _ _ _ _ => (pe_cmpR op_less (pe_ix (k_ix (K := K) rfl) (pv 0) (pv 1) (fun _ _ => rfl)) (pe_ix (k_ix (K := K) rfl) (pv 0) (pe_op (k_plus (K := K) rfl) (pv 1) pe_int) (fun _ _ => rfl)) (nomark _)))) pa_nil)))), to_spP hn (fun ds hp => ?_) h⟩)
  obtain ⟨ss, rfl, hl⟩ := hp
  change WS K _ [.dat (.list (ss.map .str)), .no] [] _
  walk_at "ww"
  refine w_map (by decide) (wi_rng ?_)
  walk_at "ww"
  refine ⟨_, rfl, ?_, ?_, gLess ss, ?_, ?_, ?_⟩
  · rw [List.length_map]; omega
  · rw [List.length_map]; omega
  · rw [List.length_map, List.length_range, List.length_map]; omega
  · intro x hx
    obtain ⟨k, hk, rfl⟩ := List.mem_map.mp hx
    have hk : k < (((ss.map PyData.str).length : Int) - 1).toNat := List.mem_range.mp hk
    rw [List.length_map] at hk
    have h1 : k < ss.length := by omega
    have h2 : k + 1 < ss.length := by omega
    change W K _ [.dat (.list (ss.map .str)), .dat (.int (k : Int))] [] _
    walk_at "ww"
    refine fixl (a := .str ss[k]) (atI_nat (by rw [List.getElem?_map, List.getElem?_eq_getElem h1]; rfl)) ?_
    walk_at "ww"
    refine fixl (a := .str ss[k + 1]) (i := (k : Int) + 1) (atI_nat (j := k + 1) (by rw [List.getElem?_map, List.getElem?_eq_getElem h2]; rfl)) ?_
    refine ⟨?_, rfl⟩
    show _ = PyData.bool (lessAt ss ((k : Int)).toNat)
    unfold lessAt
    rw [Int.toNat_natCast, List.getElem?_eq_getElem h1, List.getElem?_eq_getElem h2]
  · walk_at "ww"
    refine fall (bs := (List.range (ss.length - 1)).map (lessAt ss)) ?_ ?_
    · rw [List.map_map, List.map_map, List.length_map]
      have e : ((ss.length : Int) - 1).toNat = ss.length - 1 := by omega
      rw [e]
      apply List.map_congr_left
      intro k _
      rfl
    · intro ss' e
      have e' : ss.map PyData.str = ss'.map PyData.str := by injection e with e; injection e
      have : ss = ss' := strs_inj e'
      rw [asc_all, this]
include T in
theorem ok_is_name (F : Dfn K mg "is_name" s_is_name ["thing"]) : Cal P w K mg base 1 "is_name" ["thing"] (spP (fun ds => ∃ z : Str, ds = [PyData.str z] ∧ z.length ≤ 1000) (fun ds d => ∀ z : Str, ds = [PyData.str z] → d = .bool (nameB z)) K) := by
  have hn : ∀ ds, (∃ z : Str, ds = [PyData.str z] ∧ z.length ≤ 1000) → ds.length = 1 := by rintro ds ⟨ss, rfl, _⟩; rfl
  refine F.ok sc_is_name (fun vs H Q E h => spP_len hn h) (fun f cdv A outer s H vs Q E hr h => ⟨_, (pss_cons (ps_if (PW.pt (pw_or (pt_not (pt_val (pe_callB (k_isi (K := K) rfl) (by rfl) T.n_isinstance (by decide +kernel) (pa_cons (pv 0) (pa_cons (pe_bltn (v := .ty "str") (u := .type "str") (by rfl) T.n_str (by decide +kernel) rfl) pa_nil))))) (pw_or1 (pt_not (pt_chain op_leI op_leI pe_int (pe_callB (k_len (K := K) rfl) (by rfl) T.n_len (by decide +kernel) (pa_cons (pv 0) pa_nil)) (pe_gint (by rfl) T.g_MOST_NAME_SIGNS)))))) (pss_one (ps_ret pe_bl)) pss_nil)
      (pss_one (ps_ret (pe_and (pe_cmpR op_inSg (pe_ix (k_ix (K := K) rfl) (pv 0) pe_int (fun _ _ => rfl)) (pe_gstr (by rfl) T.g_LETTERS) (by rfl)) (pe_one (pe_callB (k_all (K := K) rfl rfl) (by rfl) T.n_all (by decide +kernel) (pa_cons (pe_lc (own := [("sign", 1)]) (by rfl) sc_is_name.nd (pi_str (pv 0)) (blkOk_by (N := ["thing", "sign"]) (sc := defScope s_is_name) (by decide +kernel)) (fun _ _ _ _ _ => (pg_name (i := 1) sc_is_name.nd rfl (by first | exact .inl rfl | exact .inr rfl))) (fun _ _ _ _ _ => pts_nil) (fun _ _ _ _ _ => (pe_cmpR op_inSg (pv 1) (pe_gstr (by rfl) T.g_NAME_SIGNS) (by rfl)))) pa_nil))))))), to_spP hn (fun ds hp => ?_) h⟩)
  obtain ⟨z, rfl, hl⟩ := hp
  change WS K _ [.dat (.str z), .no] [] _
  have fin : ∀ b, b = nameB z → ∀ z' : Str, [PyData.str z] = [PyData.str z'] → PyData.bool b = .bool (nameB z') := fun b e z' h => by
    injection h with h; injection h with h; rw [e, h]
  have len_c : z.length = z.cps.toList.length := by rw [Array.length_toList]; rfl
  walk_at "ww"
  refine flens (by omega) ?_
  walk_at "ww"
  refine iteB (fun h1 => ?_) (fun h1 => ?_)
  · have h1 : 1 ≤ z.length := by have := of_decide_eq_true h1; omega
    walk_at "ww"
    refine iteB (fun h2 => ?_) (fun h2 => ?_)
    · have h2 : ¬ z.length ≤ 8 := by
        intro x
        rw [decide_eq_true (by omega)] at h2
        cases h2
      walk_at "ww"
      refine fin _ ?_
      unfold nameB
      rw [decide_eq_false h2, Bool.and_false, Bool.false_and, Bool.false_and]
    · have h2 : z.length ≤ 8 := by
        by_cases x : z.length ≤ 8
        · exact x
        · rw [decide_eq_false (by omega)] at h2
          cases h2
      walk_at "ww"
      obtain ⟨c, r, hz⟩ : ∃ c r, z.cps.toList = c :: r := by
        cases e : z.cps.toList with
        | nil => rw [e] at len_c; simp at len_c; omega
        | cons c r => exact ⟨c, r, rfl⟩
      refine ⟨by omega, c, atI_nat (j := 0) (by rw [hz]; rfl), ?_⟩
      walk_at "ww"
      refine ⟨c, rfl, exb ?_⟩
      have nb : nameB z = (decide (c ∈ ("abcdefghijklmnopqrstuvwxyz" : Str).cps.toList) && z.cps.toList.all fun c => decide (c ∈ ("abcdefghijklmnopqrstuvwxyz0123456789" : Str).cps.toList)) := by
        unfold nameB
        rw [decide_eq_true h1, decide_eq_true h2, hz]
        rfl
      refine iteB (fun h3 => ?_) (fun h3 => ?_)
      · walk_at "ww"
        refine w_map (by decide) (wi_str ?_)
        walk_at "ww"
        refine ⟨_, rfl, gSign, ?_, ?_, ?_⟩
        · unfold Ab.signs
          rw [List.length_map, ← len_c]; omega
        · intro x hx
          obtain ⟨k, hk, rfl⟩ := List.mem_map.mp hx
          change W K _ [.dat (.str z), .dat (.str ⟨#[k]⟩)] [] _
          walk_at "ww"
          exact ⟨k, rfl, rfl, rfl⟩
        · walk_at "ww"
          refine fall (bs := z.cps.toList.map fun c => decide (c ∈ ("abcdefghijklmnopqrstuvwxyz0123456789" : Str).cps.toList)) ?_ ?_
          · unfold Ab.signs
            rw [List.map_map, List.map_map]
            rfl
          · refine fin _ ?_
            rw [nb, h3, Bool.true_and, List.all_map]
            rfl
      · refine fin _ ?_
        rw [nb, h3, Bool.false_and]
  · walk_at "ww"
    refine fin _ ?_
    have h1 : ¬ 1 ≤ z.length := by
      intro x
      rw [decide_eq_true (by omega)] at h1
      cases h1
    unfold nameB
    rw [decide_eq_false h1, Bool.false_and, Bool.false_and, Bool.false_and]
end
end Kk

set_option Elab.async false
set_option linter.all false
set_option maxRecDepth 100000
set_option maxHeartbeats 4000000
namespace Kk
open PySem PySem.Spec PyProof.Rows L2 Ab
/-- one step of the reading -/
local macro_rules | `(tactic| walk_at "w") => `(tactic| first
  | (with_reducible refine ws_seq ?_) | (with_reducible refine ws_next ?_) | (with_reducible refine ws_set ?_) | (with_reducible refine ws_par ?_) | (with_reducible refine ws_ret ?_) | (with_reducible refine ws_if ?_) | (with_reducible refine ws_drop ?_)
  | (refine w_var rfl ?_) | (with_reducible refine w_int ?_) | (with_reducible refine w_str ?_) | (with_reducible refine w_bl ?_) | (with_reducible refine w_non ?_)
  | (with_reducible refine wa_nil ?_) | (with_reducible refine wa_cons ?_) | (with_reducible refine w_tup ?_) | (with_reducible refine w_lst ?_)
  | (with_reducible refine wt_test ?_) | (with_reducible refine wt_B ?_) | (with_reducible refine wt_not ?_) | (with_reducible refine wt_and ?_) | (with_reducible refine wt_or ?_)
  | (with_reducible refine w_andV ?_) | (with_reducible refine w_orV ?_) | (with_reducible refine w_notV ?_) | (with_reducible refine w_ite ?_)
  | (with_reducible refine w_op ao_eq ?_) | (with_reducible refine w_op ao_ne ?_) | (with_reducible refine w_op ao_ix ?_) | (with_reducible refine w_op ao_plus ?_) | (with_reducible refine w_op ao_less ?_) | (with_reducible refine w_op ao_le ?_) | (with_reducible refine w_op ao_gt ?_) | (with_reducible refine w_op ao_ge ?_)
  | (with_reducible refine w_op ao_sub ?_) | (with_reducible refine w_op ao_mul ?_) | (with_reducible refine w_op ao_mod ?_) | (with_reducible refine w_op ao_div ?_) | (with_reducible refine w_op ao_pow ?_) | (with_reducible refine w_op ao_isNo ?_) | (with_reducible refine w_op ao_inSg ?_) | (with_reducible refine w_op ao_inSeq ?_) | (with_reducible refine w_op ao_ninSeq ?_)
  | (with_reducible refine w_cb ac_len ?_) | (with_reducible refine w_cb ac_tupleOf ?_) | (with_reducible refine w_cb ac_intOf ?_) | (with_reducible refine w_cb ac_all ?_) | (with_reducible refine w_cb ac_any ?_)
  | (with_reducible refine w_isi (by decide) ?_) | (with_reducible refine w_isi2 (by decide) (by decide) ?_) | (with_reducible refine w_sl ?_) | (with_reducible refine wo_none ?_) | (with_reducible refine wo_some ?_)
  | (with_reducible refine w_chain ao_le ao_le ?_) | (with_reducible refine w_call ?_))
local macro_rules | `(tactic| walk_at "v") => `(tactic| first
  | (with_reducible refine m0 ?_) | (with_reducible refine m1 ?_) | (with_reducible refine m2 ?_) | (with_reducible refine m3 ?_) | (with_reducible refine m5 ?_)
  | (with_reducible refine exb ?_) | (with_reducible refine exi ?_) | (with_reducible refine exl ?_) | (with_reducible refine exql ?_) | (with_reducible refine exqt ?_)
  | (refine fixt rfl ?_) | (refine fixl rfl ?_) | (refine fslt rfl ?_) | (refine fsll rfl ?_)
  | (with_reducible refine flent ?_; dsimp only [List.length_cons, List.length_nil]) | (with_reducible refine flenl ?_; dsimp only [List.length_cons, List.length_nil])
  | (with_reducible refine fii (by first | trivial | decide) ?_) | (with_reducible refine fpi ?_) | (with_reducible refine flti ?_) | (with_reducible refine fint ?_) | (with_reducible refine ftupl ?_) | (with_reducible refine ftupt ?_)
  | (with_reducible refine feq (by decide +kernel) (by decide +kernel) ?_) | (with_reducible refine fne (by decide +kernel) (by decide +kernel) ?_)
  | (with_reducible refine iteK rfl ?_) | (with_reducible refine iteN rfl ?_) | (with_reducible refine iteK (by decide +kernel) ?_) | (with_reducible refine iteN (by decide +kernel) ?_))
local macro_rules | `(tactic| walk_at "ww") => `(tactic| repeat (first | walk_at "w" | walk_at "v"))
/-! ### kinds as data -/
mutual
def tn : PyData → PyData
  | .list xs => .tuple (tns xs)
  | .tuple xs => .tuple (tns xs)
  | d => d
def tns : List PyData → List PyData
  | [] => []
  | x :: xs => tn x :: tns xs
end
theorem tns_map : ∀ xs, tns xs = xs.map tn
  | [] => rfl
  | x :: xs => by
    show tn x :: tns xs = _
    rw [tns_map xs]; rfl
def Sq (s : PyData) (xs : List PyData) : Prop := s = .list xs ∨ s = .tuple xs
theorem sq_tn {s : PyData} {xs : List PyData} (h : Sq s xs) : tn s = .tuple (xs.map tn) := by
  rcases h with rfl | rfl
  · show PyData.tuple (tns xs) = _
    rw [tns_map]
  · show PyData.tuple (tns xs) = _
    rw [tns_map]
/-- a good kind, in lists or tuples, with so much room -/
inductive GK : Nat → PyData → Prop
  | base {r : Nat} {b : PyData} : b ∈ bases → GK (r + 1) b
  | any {r : Nat} {s : PyData} {n : Int} : Sq s [.str "any", .int n] → 0 ≤ n → GK (r + 1) s
  | lst {r : Nat} {s e : PyData} : Sq s [.str "list", e] → GK r e → GK (r + 1) s
  | fn {r : Nat} {s e f : PyData} : Sq s [.str "function", e, f] → GK r e → GK r f → GK (r + 1) s
  | rcd {r : Nat} {s cs : PyData} {cl : List PyData} {fs : List (Str × PyData)} : Sq s [.str "record", cs] → Sq cs cl → cl.length = fs.length → fs.length ≤ 5 →
      (∀ (i : Nat) (c : PyData) (p : Str × PyData), cl[i]? = some c → fs[i]? = some p → Sq c [.str p.1, p.2] ∧ nameB p.1 = true ∧ p.1.length ≤ 8 ∧ (PyData.str p.1).canLay0 = true) → (∀ p ∈ fs, GK r p.2) → ascB (fs.map (·.1)) = true → GK (r + 1) s
/-- the couples of a record -/
def GC (r : Nat) (cs : PyData) : Prop := ∃ (cl : List PyData) (fs : List (Str × PyData)), Sq cs cl ∧ cl.length = fs.length ∧ fs.length ≤ 5 ∧
  (∀ (i : Nat) (c : PyData) (p : Str × PyData), cl[i]? = some c → fs[i]? = some p → Sq c [.str p.1, p.2] ∧ nameB p.1 = true ∧ p.1.length ≤ 8 ∧ (PyData.str p.1).canLay0 = true) ∧ (∀ p ∈ fs, GK r p.2) ∧ ascB (fs.map (·.1)) = true
theorem sq_lay {s : PyData} {xs : List PyData} (h : Sq s xs) : s.canLay0 = PyData.canLayAll0 xs ∧ s.depth = PyData.depthAll xs + 1 := by
  rcases h with rfl | rfl <;> exact ⟨by simp [PyData.canLay0], by simp [PyData.depth]⟩
theorem layAll : ∀ {xs : List PyData}, (∀ x ∈ xs, x.canLay0 = true) → PyData.canLayAll0 xs = true
  | [], _ => by simp [PyData.canLayAll0]
  | x :: xs, h => by
    simp only [PyData.canLayAll0]
    rw [h x List.mem_cons_self, layAll fun y hy => h y (List.mem_cons_of_mem _ hy)]
    rfl
theorem depAll {n : Nat} : ∀ {xs : List PyData}, (∀ x ∈ xs, x.depth ≤ n) → PyData.depthAll xs ≤ n
  | [], _ => by simp [PyData.depthAll]
  | x :: xs, h => by
    simp only [PyData.depthAll]
    have h1 := h x List.mem_cons_self
    have h2 := depAll (n := n) fun y hy => h y (List.mem_cons_of_mem (a := y) _ hy)
    omega
theorem gk_lay {r : Nat} {d : PyData} (h : GK r d) : d.canLay0 = true ∧ d.depth ≤ 3 * r := by
  induction h with
  | base hb =>
    simp only [bases, List.mem_cons, List.mem_nil_iff, or_false] at hb
    rcases hb with rfl | rfl | rfl <;> exact ⟨by decide +kernel, Nat.zero_le _⟩
  | any hs hn =>
    obtain ⟨a, b⟩ := sq_lay hs
    rw [a, b]
    exact ⟨by simp [PyData.canLayAll0, PyData.canLay0]; decide +kernel, by simp [PyData.depthAll, PyData.depth]; omega⟩
  | lst hs h1 ih =>
    obtain ⟨a, b⟩ := sq_lay hs
    rw [a, b]
    refine ⟨by simp only [PyData.canLayAll0, ih.1]; decide +kernel, ?_⟩
    simp only [PyData.depthAll, PyData.depth]
    have := ih.2
    omega
  | fn hs h1 h2 ih1 ih2 =>
    obtain ⟨a, b⟩ := sq_lay hs
    rw [a, b]
    refine ⟨by simp only [PyData.canLayAll0, ih1.1, ih2.1]; decide +kernel, ?_⟩
    simp only [PyData.depthAll, PyData.depth]
    have := ih1.2
    have := ih2.2
    omega
  | @rcd r s cs cl fs hs hc hl h5 hi hk ha ih =>
    obtain ⟨a, b⟩ := sq_lay hs
    obtain ⟨a2, b2⟩ := sq_lay hc
    have each : ∀ c ∈ cl, c.canLay0 = true ∧ c.depth ≤ 3 * r + 1 := fun c hcm => by
      obtain ⟨i, hi2, e⟩ := List.getElem_of_mem hcm
      have hf : i < fs.length := by omega
      obtain ⟨q1, q2, q3, q4⟩ := hi i c fs[i] (by rw [List.getElem?_eq_getElem hi2, e]) (List.getElem?_eq_getElem hf)
      obtain ⟨x, y⟩ := sq_lay q1
      obtain ⟨i1, i2⟩ := ih fs[i] (List.getElem_mem hf)
      rw [x, y]
      refine ⟨by simp only [PyData.canLayAll0, i1, q4]; rfl, ?_⟩
      simp only [PyData.depthAll, PyData.depth]
      omega
    rw [a, b]
    refine ⟨?_, ?_⟩
    · simp only [PyData.canLayAll0]
      rw [a2, layAll fun c h => (each c h).1]
      decide +kernel
    · simp only [PyData.depthAll]
      rw [b2]
      have := depAll (n := 3 * r + 1) fun c h => (each c h).2
      simp only [PyData.depth]
      omega
theorem gk_shaped {r : Nat} {d : PyData} (h : GK r d) (hr : r ≤ 20) : SeqAt.shaped d = true := by
  obtain ⟨a, b⟩ := gk_lay h
  unfold SeqAt.shaped
  rw [a, decide_eq_true (by omega)]
  rfl
end Kk

set_option Elab.async false
set_option linter.all false
set_option maxRecDepth 100000
set_option maxHeartbeats 4000000
namespace Kk
open PySem PySem.Spec PyProof.Rows L2 Ab
/-- one step of the reading -/
local macro_rules | `(tactic| walk_at "w") => `(tactic| first
  | (with_reducible refine ws_seq ?_) | (with_reducible refine ws_next ?_) | (with_reducible refine ws_set ?_) | (with_reducible refine ws_par ?_) | (with_reducible refine ws_ret ?_) | (with_reducible refine ws_if ?_) | (with_reducible refine ws_drop ?_)
  | (refine w_var rfl ?_) | (with_reducible refine w_int ?_) | (with_reducible refine w_str ?_) | (with_reducible refine w_bl ?_) | (with_reducible refine w_non ?_)
  | (with_reducible refine wa_nil ?_) | (with_reducible refine wa_cons ?_) | (with_reducible refine w_tup ?_) | (with_reducible refine w_lst ?_)
  | (with_reducible refine wt_test ?_) | (with_reducible refine wt_B ?_) | (with_reducible refine wt_not ?_) | (with_reducible refine wt_and ?_) | (with_reducible refine wt_or ?_)
  | (with_reducible refine w_andV ?_) | (with_reducible refine w_orV ?_) | (with_reducible refine w_notV ?_) | (with_reducible refine w_ite ?_)
  | (with_reducible refine w_op ao_eq ?_) | (with_reducible refine w_op ao_ne ?_) | (with_reducible refine w_op ao_ix ?_) | (with_reducible refine w_op ao_plus ?_) | (with_reducible refine w_op ao_less ?_) | (with_reducible refine w_op ao_le ?_) | (with_reducible refine w_op ao_gt ?_) | (with_reducible refine w_op ao_ge ?_)
  | (with_reducible refine w_op ao_sub ?_) | (with_reducible refine w_op ao_mul ?_) | (with_reducible refine w_op ao_mod ?_) | (with_reducible refine w_op ao_div ?_) | (with_reducible refine w_op ao_pow ?_) | (with_reducible refine w_op ao_isNo ?_) | (with_reducible refine w_op ao_inSg ?_) | (with_reducible refine w_op ao_inSeq ?_) | (with_reducible refine w_op ao_ninSeq ?_)
  | (with_reducible refine w_cb ac_len ?_) | (with_reducible refine w_cb ac_tupleOf ?_) | (with_reducible refine w_cb ac_intOf ?_) | (with_reducible refine w_cb ac_all ?_) | (with_reducible refine w_cb ac_any ?_)
  | (with_reducible refine w_isi (by decide) ?_) | (with_reducible refine w_isi2 (by decide) (by decide) ?_) | (with_reducible refine w_sl ?_) | (with_reducible refine wo_none ?_) | (with_reducible refine wo_some ?_)
  | (with_reducible refine w_chain ao_le ao_le ?_) | (with_reducible refine w_call ?_))
local macro_rules | `(tactic| walk_at "v") => `(tactic| first
  | (with_reducible refine m0 ?_) | (with_reducible refine m1 ?_) | (with_reducible refine m2 ?_) | (with_reducible refine m3 ?_) | (with_reducible refine m5 ?_)
  | (with_reducible refine exb ?_) | (with_reducible refine exi ?_) | (with_reducible refine exl ?_) | (with_reducible refine exql ?_) | (with_reducible refine exqt ?_)
  | (refine fixt rfl ?_) | (refine fixl rfl ?_) | (refine fslt rfl ?_) | (refine fsll rfl ?_)
  | (with_reducible refine flent ?_; dsimp only [List.length_cons, List.length_nil]) | (with_reducible refine flenl ?_; dsimp only [List.length_cons, List.length_nil])
  | (with_reducible refine fii (by first | trivial | decide) ?_) | (with_reducible refine fpi ?_) | (with_reducible refine flti ?_) | (with_reducible refine fint ?_) | (with_reducible refine ftupl ?_) | (with_reducible refine ftupt ?_)
  | (with_reducible refine feq (by decide +kernel) (by decide +kernel) ?_) | (with_reducible refine fne (by decide +kernel) (by decide +kernel) ?_)
  | (with_reducible refine iteK rfl ?_) | (with_reducible refine iteN rfl ?_) | (with_reducible refine iteK (by decide +kernel) ?_) | (with_reducible refine iteN (by decide +kernel) ?_))
local macro_rules | `(tactic| walk_at "ww") => `(tactic| repeat (first | walk_at "w" | walk_at "v"))
theorem cal_void {P : Program} {w : World} {K : PySem.W.Frag} {mg : Str → Option Value} {base : Heap} {k : Nat} {x : Str} {st : Stmt} {ps : List Str} {sp : Sp} (F : Dfn K mg x st ps) (h : ∀ vs H Q E, ¬ sp vs H Q E) : Cal P w K mg base k x ps sp := by
  obtain ⟨f, fd, a, b, c⟩ := F.ex
  exact ⟨f, fd, ⟨fun vs H Q E q => absurd q (h _ _ _ _), fun A outer s H args us vs Q E hr he hb hv q => absurd q (h _ _ _ _)⟩, b, a.kp, c⟩
abbrev spCK (r : Nat) (K : PySem.W.Frag) : Sp := spP (fun ds => ∃ d, ds = [d, PyData.int (r : Int)] ∧ GK r d) (fun ds x => ∀ d, ds = [d, PyData.int (r : Int)] → x = tn d) K
abbrev spCC (r : Nat) (K : PySem.W.Frag) : Sp := spP (fun ds => ∃ d, ds = [d, PyData.int (r : Int)] ∧ GC r d) (fun ds x => ∀ d, ds = [d, PyData.int (r : Int)] → x = tn d) K
abbrev spAsc (K : PySem.W.Frag) : Sp := spP (fun ds => ∃ ss : List Str, ds = [PyData.list (ss.map PyData.str)] ∧ ss.length ≤ 1000) (fun ds d => ∀ ss : List Str, ds = [PyData.list (ss.map PyData.str)] → d = .bool (ascB ss)) K
abbrev spName (K : PySem.W.Frag) : Sp := spP (fun ds => ∃ z : Str, ds = [PyData.str z] ∧ z.length ≤ 1000) (fun ds d => ∀ z : Str, ds = [PyData.str z] → d = .bool (nameB z)) K
theorem couple_is {c : PyData} {a b : PyData} (h : Sq c [a, b]) : fIsCouple [c] = some (.bool true) := by
  rcases h with rfl | rfl <;> rfl
theorem seq_is {c : PyData} {xs : List PyData} (h : Sq c xs) : fIsSeq [c] = some (.bool true) := by
  rcases h with rfl | rfl <;> rfl
theorem ix_sq {c a : PyData} {xs : List PyData} {j : Nat} {P : PyData → Prop} (h : Sq c xs) (e : xs[j]? = some a) (p : P a) : fIx c (.int (j : Int)) P := by
  rcases h with rfl | rfl
  · exact ⟨a, atI_nat e, p⟩
  · exact ⟨a, atI_nat e, p⟩
theorem len_sq {c : PyData} {xs : List PyData} {P : PyData → Prop} (h : Sq c xs) (p : P (.int xs.length)) : fLenA [c] P := by
  rcases h with rfl | rfl
  · exact p
  · exact p
theorem walk_sq {c : PyData} {xs : List PyData} {P : List PyData → Prop} (h : Sq c xs) (p : P xs) : ∃ ys, (c = .list ys ∨ c = .tuple ys) ∧ P ys := ⟨xs, h, p⟩
section
variable {P : Program} {w : World} {K : PySem.W.Frag} {mg : Str → Option Value} {base : Heap} {aB : Addr} (T : Txt K mg aB)
include T in
theorem ok_checked_couples (r k : Nat) (hk : 2 ≤ k) (F : Dfn K mg "_checked_couples" s_checked_couples ["couples", "room"]) (q_is_sequence : Cal P w K mg base 1 "is_sequence" ["thing"] (spF fIsSeq K)) (q_is_couple : Cal P w K mg base 2 "is_couple" ["thing"] (spF fIsCouple K))
    (q_is_name : Cal P w K mg base 1 "is_name" ["thing"] (spName K)) (q_is_ascending : Cal P w K mg base 1 "is_ascending" ["things"] (spAsc K)) (c_checked_kind : Cal P w K mg base k "_checked_kind" ["kind", "room"] (spCK r K)) :
    Cal P w K mg base (k + 1) "_checked_couples" ["couples", "room"] (spCC r K) := by
  have hn : ∀ ds, (∃ d, ds = [d, PyData.int (r : Int)] ∧ GC r d) → ds.length = 2 := by rintro ds ⟨d, rfl, _⟩; rfl
  have c_is_sequence := q_is_sequence.mono (show 1 ≤ k by omega)
  have c_is_couple := q_is_couple.mono hk
  have c_is_name := q_is_name.mono (show 1 ≤ k by omega)
  have c_is_ascending := q_is_ascending.mono (show 1 ≤ k by omega)
  refine F.ok sc_checked_couples (fun vs H Q E h => spP_len hn h) (fun f cdv A outer s H vs Q E hr h => ⟨_, (pss_cons (ps_if (PW.pt (pw_or (pt_not (pt_val (pe_cal c_is_sequence hr (pa_cons (pv 0) pa_nil)))) (pw_or1 (pt_cmpR op_gtI (pe_callB (k_len (K := K) rfl) (by rfl) T.n_len (by decide +kernel) (pa_cons (pv 0) pa_nil)) (pe_gint (by rfl) T.g_MOST_FIELDS) (nomark _))))) (pss_one ps_never) pss_nil)
      (pss_cons (ps_if (pt_not (pt_val (pe_callB (k_all (K := K) rfl rfl) (by rfl) T.n_all (by decide +kernel) (pa_cons (pe_lc (own := [("couple", 4)]) (by rfl) sc_checked_couples.nd (k_seq (K := K) rfl (pv 0)) (blkOk_by (N := ["couples", "room", "label", "kind", "couple", "_"]) (sc := defScope s_checked_couples) (by decide +kernel)) (fun _ _ _ _ _ => (pg_name (i := 4) sc_checked_couples.nd rfl (by first | exact .inl rfl | exact .inr rfl))) (fun _ _ _ _ _ => pts_nil) (fun _ _ _ _ _ => (pe_and (pe_cal c_is_couple hr (pa_cons (pv 4) pa_nil)) (pe_one (pe_cal c_is_name hr (pa_cons (pe_ix (k_ix (K := K) rfl) (pv 4) pe_int (fun _ _ => rfl)) pa_nil)))))) pa_nil)))) (pss_one ps_never) pss_nil)
      (pss_cons (ps_if (pt_not (pt_val (pe_cal c_is_ascending hr (pa_cons (pe_lc (own := [("label", 2), ("_", 5)]) (by rfl) sc_checked_couples.nd (k_seq (K := K) rfl (pv 0)) (blkOk_by (N := ["couples", "room", "label", "kind", "couple", "_"]) (sc := defScope s_checked_couples) (by decide +kernel)) (fun _ _ _ _ _ => (k_tup (K := K) (n := 2) rfl rfl (pgs_cons (pg_name (i := 2) sc_checked_couples.nd rfl (by first | exact .inl rfl | exact .inr rfl)) (pgs_cons (pg_name (i := 5) sc_checked_couples.nd rfl (by first | exact .inl rfl | exact .inr rfl)) pgs_nil)))) (fun _ _ _ _ _ => pts_nil) (fun _ _ _ _ _ => (pv 2))) pa_nil)))) (pss_one ps_never) pss_nil)
      (pss_one (ps_ret (pe_callTy (k_tuple (K := K) rfl) (by rfl) T.n_tuple (by decide +kernel) (pa_cons (pe_lc (own := [("label", 2), ("kind", 3)]) (by rfl) sc_checked_couples.nd (k_seq (K := K) rfl (pv 0)) (blkOk_by (N := ["couples", "room", "label", "kind", "couple", "_"]) (sc := defScope s_checked_couples) (by decide +kernel)) (fun _ _ _ _ _ => (k_tup (K := K) (n := 2) rfl rfl (pgs_cons (pg_name (i := 2) sc_checked_couples.nd rfl (by first | exact .inl rfl | exact .inr rfl)) (pgs_cons (pg_name (i := 3) sc_checked_couples.nd rfl (by first | exact .inl rfl | exact .inr rfl)) pgs_nil)))) (fun _ _ _ _ _ => pts_nil) (fun _ _ _ _ _ => (pe_tup (pa_cons (pv 2) (pa_cons (pe_cal c_checked_kind hr (pa_cons (pv 3) (pa_cons (pv 1) pa_nil))) pa_nil))))) pa_nil))))))), to_spP hn (fun ds hp => ?_) h⟩)
  obtain ⟨cs, rfl, cl, fs, hc, hl, h5, hi, hgk, hasc⟩ := hp
  change WS K _ [.dat cs, .dat (.int r), .no, .no, .no, .no] [] _
  have each : ∀ c ∈ cl, ∃ p ∈ fs, Sq c [.str p.1, p.2] ∧ nameB p.1 = true ∧ p.1.length ≤ 8 := fun c hcm => by
    obtain ⟨i, hi2, e⟩ := List.getElem_of_mem hcm
    have hf : i < fs.length := by omega
    obtain ⟨q1, q2, q3, _⟩ := hi i c fs[i] (by rw [List.getElem?_eq_getElem hi2, e]) (List.getElem?_eq_getElem hf)
    exact ⟨fs[i], List.getElem_mem hf, q1, q2, q3⟩
  have hcl : cl.map tn = fs.map fun p => PyData.tuple [.str p.1, tn p.2] := by
    apply List.ext_getElem?
    intro i
    rw [List.getElem?_map, List.getElem?_map]
    by_cases hx : i < cl.length
    · have hf : i < fs.length := by omega
      obtain ⟨q1, _⟩ := hi i cl[i] fs[i] (List.getElem?_eq_getElem hx) (List.getElem?_eq_getElem hf)
      rw [List.getElem?_eq_getElem hx, List.getElem?_eq_getElem hf, Option.map_some, Option.map_some, sq_tn q1]
      rfl
    · rw [List.getElem?_eq_none (by omega), List.getElem?_eq_none (by omega)]; rfl
  walk_at "ww"
  refine callF (seq_is hc) ?_
  walk_at "ww"
  refine len_sq hc ?_
  walk_at "ww"
  refine iteN (decide_eq_false (by rw [hl]; omega)) ?_
  walk_at "ww"
  -- all([is_couple(c) and is_name(c[0]) for c in couples])
  refine w_map (by decide) (wi_seq ?_)
  walk_at "ww"
  refine walk_sq hc ⟨fun _ => .bool true, by omega, fun c hcm => ?_, ?_⟩
  · obtain ⟨p, _, q1, q2, q3⟩ := each c hcm
    change W K _ [.dat cs, .dat (.int r), .no, .no, .dat c, .no] [] _
    walk_at "ww"
    refine callF (couple_is q1) ?_
    walk_at "ww"
    refine ix_sq (j := 0) q1 rfl ?_
    walk_at "ww"
    refine ⟨⟨p.1, rfl, by omega⟩, fun d hd => ?_⟩
    rw [hd p.1 rfl, q2]
    exact ⟨rfl, rfl⟩
  walk_at "ww"
  refine fall (bs := cl.map fun _ => true) (by rw [List.map_map]; rfl) ?_
  walk_at "ww"
  refine iteN (by rw [show (cl.map fun _ => true).all id = true by rw [List.all_map]; exact List.all_eq_true.mpr fun _ _ => rfl]; rfl) ?_
  walk_at "ww"
  -- is_ascending([label for label, _ in couples])
  refine w_map2 (by decide) (by decide) (wi_seq ?_)
  walk_at "ww"
  refine walk_sq hc ⟨fun c => match c with | .list [a, _] => a | .tuple [a, _] => a | _ => .none, by omega, fun c hcm => ?_, ?_⟩
  · obtain ⟨p, _, q1, _⟩ := each c hcm
    refine ⟨.str p.1, p.2, q1.symm, ?_⟩
    change W K _ [.dat cs, .dat (.int r), .dat (.str p.1), .no, .no, .dat p.2] [] _
    walk_at "ww"
    rcases q1 with rfl | rfl <;> exact ⟨rfl, rfl⟩
  have labs : (cl.map fun c => match c with | .list [a, _] => a | .tuple [a, _] => a | _ => PyData.none) = (fs.map (·.1)).map PyData.str := by
    apply List.ext_getElem?
    intro i
    rw [List.getElem?_map, List.getElem?_map, List.getElem?_map]
    by_cases hx : i < cl.length
    · have hf : i < fs.length := by omega
      obtain ⟨q1, _⟩ := hi i cl[i] fs[i] (List.getElem?_eq_getElem hx) (List.getElem?_eq_getElem hf)
      rw [List.getElem?_eq_getElem hx, List.getElem?_eq_getElem hf, Option.map_some, Option.map_some, Option.map_some]
      rcases q1 with e | e <;> rw [e]
    · rw [List.getElem?_eq_none (by omega), List.getElem?_eq_none (by omega)]; rfl
  rw [labs]
  walk_at "ww"
  refine ⟨⟨fs.map (·.1), rfl, by rw [List.length_map]; omega⟩, fun d hd => ?_⟩
  rw [hd _ rfl, hasc]
  walk_at "ww"
  -- tuple([(label, _checked_kind(kind, room)) for label, kind in couples])
  refine w_map2 (by decide) (by decide) (wi_seq ?_)
  walk_at "ww"
  refine walk_sq hc ⟨tn, by omega, fun c hcm => ?_, ?_⟩
  · obtain ⟨p, hpm, q1, _⟩ := each c hcm
    refine ⟨.str p.1, p.2, q1.symm, ?_⟩
    change W K _ [.dat cs, .dat (.int r), .dat (.str p.1), .dat p.2, .no, .no] [] _
    walk_at "ww"
    refine ⟨⟨p.2, rfl, hgk p hpm⟩, fun d hd => ?_⟩
    rw [hd p.2 rfl]
    walk_at "ww"
    refine ⟨by simp, ?_, rfl⟩
    rw [sq_tn q1]; rfl
  walk_at "ww"
  intro d hd
  injection hd with hd
  subst hd
  rw [sq_tn hc]
end
end Kk

set_option Elab.async false
set_option linter.all false
set_option maxRecDepth 100000
set_option maxHeartbeats 4000000
namespace Kk
open PySem PySem.Spec PyProof.Rows L2 Ab
/-- one step of the reading -/
local macro_rules | `(tactic| walk_at "w") => `(tactic| first
  | (with_reducible refine ws_seq ?_) | (with_reducible refine ws_next ?_) | (with_reducible refine ws_set ?_) | (with_reducible refine ws_par ?_) | (with_reducible refine ws_ret ?_) | (with_reducible refine ws_if ?_) | (with_reducible refine ws_drop ?_)
  | (refine w_var rfl ?_) | (with_reducible refine w_int ?_) | (with_reducible refine w_str ?_) | (with_reducible refine w_bl ?_) | (with_reducible refine w_non ?_)
  | (with_reducible refine wa_nil ?_) | (with_reducible refine wa_cons ?_) | (with_reducible refine w_tup ?_) | (with_reducible refine w_lst ?_)
  | (with_reducible refine wt_test ?_) | (with_reducible refine wt_B ?_) | (with_reducible refine wt_not ?_) | (with_reducible refine wt_and ?_) | (with_reducible refine wt_or ?_)
  | (with_reducible refine w_andV ?_) | (with_reducible refine w_orV ?_) | (with_reducible refine w_notV ?_) | (with_reducible refine w_ite ?_)
  | (with_reducible refine w_op ao_eq ?_) | (with_reducible refine w_op ao_ne ?_) | (with_reducible refine w_op ao_ix ?_) | (with_reducible refine w_op ao_plus ?_) | (with_reducible refine w_op ao_less ?_) | (with_reducible refine w_op ao_le ?_) | (with_reducible refine w_op ao_gt ?_) | (with_reducible refine w_op ao_ge ?_)
  | (with_reducible refine w_op ao_sub ?_) | (with_reducible refine w_op ao_mul ?_) | (with_reducible refine w_op ao_mod ?_) | (with_reducible refine w_op ao_div ?_) | (with_reducible refine w_op ao_pow ?_) | (with_reducible refine w_op ao_isNo ?_) | (with_reducible refine w_op ao_inSg ?_) | (with_reducible refine w_op ao_inSeq ?_) | (with_reducible refine w_op ao_ninSeq ?_)
  | (with_reducible refine w_cb ac_len ?_) | (with_reducible refine w_cb ac_tupleOf ?_) | (with_reducible refine w_cb ac_intOf ?_) | (with_reducible refine w_cb ac_all ?_) | (with_reducible refine w_cb ac_any ?_)
  | (with_reducible refine w_isi (by decide) ?_) | (with_reducible refine w_isi2 (by decide) (by decide) ?_) | (with_reducible refine w_sl ?_) | (with_reducible refine wo_none ?_) | (with_reducible refine wo_some ?_)
  | (with_reducible refine w_chain ao_le ao_le ?_) | (with_reducible refine w_call ?_))
local macro_rules | `(tactic| walk_at "v") => `(tactic| first
  | (with_reducible refine m0 ?_) | (with_reducible refine m1 ?_) | (with_reducible refine m2 ?_) | (with_reducible refine m3 ?_) | (with_reducible refine m5 ?_)
  | (with_reducible refine exb ?_) | (with_reducible refine exi ?_) | (with_reducible refine exl ?_) | (with_reducible refine exql ?_) | (with_reducible refine exqt ?_)
  | (refine fixt rfl ?_) | (refine fixl rfl ?_) | (refine fslt rfl ?_) | (refine fsll rfl ?_)
  | (with_reducible refine flent ?_; dsimp only [List.length_cons, List.length_nil]) | (with_reducible refine flenl ?_; dsimp only [List.length_cons, List.length_nil])
  | (with_reducible refine fii (by first | trivial | decide) ?_) | (with_reducible refine fpi ?_) | (with_reducible refine flti ?_) | (with_reducible refine fint ?_) | (with_reducible refine ftupl ?_) | (with_reducible refine ftupt ?_)
  | (with_reducible refine feq (by decide +kernel) (by decide +kernel) ?_) | (with_reducible refine fne (by decide +kernel) (by decide +kernel) ?_)
  | (with_reducible refine iteK rfl ?_) | (with_reducible refine iteN rfl ?_) | (with_reducible refine iteK (by decide +kernel) ?_) | (with_reducible refine iteN (by decide +kernel) ?_))
local macro_rules | `(tactic| walk_at "ww") => `(tactic| repeat (first | walk_at "w" | walk_at "v"))
theorem len_eq1 (n m : Nat) : PyData.eqv (.int (n : Int)) (.int (m : Int)) = decide (n = m) := by
  show ((n : Int) == (m : Int)) = decide (n = m)
  rw [Bool.eq_iff_iff]; simp; omega
theorem cut1 {c a : PyData} {xs : List PyData} {Q : PyData → Prop} (h : Sq c (a :: xs)) (p : ∀ c', Sq c' xs → Q c') : fSl c (some 1) none Q := by
  have e : Ab.cutD (a :: xs) (some 1) none = xs := by
    unfold Ab.cutD
    rw [HT.sIx_none, show HT.sIx (a :: xs).length 0 (some 1) = min 1 (a :: xs).length from HT.sIx_nat _ 0 1]
    rw [show min 1 (a :: xs).length = 1 by simp]
    simp
  rcases h with rfl | rfl
  · exact fsll e (p _ (.inl rfl))
  · exact fslt e (p _ (.inr rfl))
theorem base_any {r : Nat} {d : PyData} (h : GK r d) (hr : r ≤ 20) : (d ∈ bases ∧ fIsBase [d] = some (.bool true)) ∨ (d ∉ bases ∧ fIsBase [d] = some (.bool false)) := by
  have hs := gk_shaped h hr
  have e : fIsBase [d] = some (.bool (bases.any fun z => PyData.eqv z d)) := by
    show (if SeqAt.shaped d = true then _ else _) = _
    rw [if_pos hs]
  rw [e]
  have nb : ∀ {s : PyData} {xs : List PyData}, Sq s xs → s ∉ bases ∧ (bases.any fun z => PyData.eqv z s) = false := fun {s xs} q => by
    rcases q with rfl | rfl <;> exact ⟨by simp [bases], by simp [bases, PyData.eqv]⟩
  cases h with
  | base hb =>
    refine .inl ⟨hb, ?_⟩
    simp only [bases, List.mem_cons, List.mem_nil_iff, or_false] at hb
    rcases hb with rfl | rfl | rfl <;> (congr 2)
  | any q _ => exact .inr ⟨(nb q).1, by rw [(nb q).2]⟩
  | lst q _ => exact .inr ⟨(nb q).1, by rw [(nb q).2]⟩
  | fn q _ _ => exact .inr ⟨(nb q).1, by rw [(nb q).2]⟩
  | rcd q _ _ _ _ _ _ => exact .inr ⟨(nb q).1, by rw [(nb q).2]⟩
section
variable {P : Program} {w : World} {K : PySem.W.Frag} {mg : Str → Option Value} {base : Heap} {aB : Addr} (T : Txt K mg aB)
include T in
theorem ok_checked_kind1 (r k : Nat) (hk : 2 ≤ k) (hr20 : r < 20) (F : Dfn K mg "_checked_kind" s_checked_kind ["kind", "room"]) (q_is_sequence : Cal P w K mg base 1 "is_sequence" ["thing"] (spF fIsSeq K)) (q_is_integer : Cal P w K mg base 1 "is_integer" ["thing"] (spF fIsInt K))
    (q_is_base : Cal P w K mg base 1 "is_base" ["kind"] (spF fIsBase K)) (q_checked_kind : Cal P w K mg base k "_checked_kind" ["kind", "room"] (spCK r K)) (c_checked_couples : Cal P w K mg base (k + 1) "_checked_couples" ["couples", "room"] (spCC r K)) :
    Cal P w K mg base (k + 2) "_checked_kind" ["kind", "room"] (spCK (r + 1) K) := by
  have hn : ∀ ds, (∃ d, ds = [d, PyData.int ((r + 1 : Nat) : Int)] ∧ GK (r + 1) d) → ds.length = 2 := by rintro ds ⟨d, rfl, _⟩; rfl
  have c_is_sequence := q_is_sequence.mono (show 1 ≤ k + 1 by omega)
  have c_is_integer := q_is_integer.mono (show 1 ≤ k + 1 by omega)
  have c_is_base := q_is_base.mono (show 1 ≤ k + 1 by omega)
  have c_checked_kind := q_checked_kind.mono (show k ≤ k + 1 by omega)
  refine F.ok sc_checked_kind (fun vs H Q E h => spP_len hn h) (fun f cdv A outer s H vs Q E hr h => ⟨_, (pss_cons (ps_if (pt_cmpR (k_eq (K := K) rfl hr) (pv 1) pe_int (nomark _)) (pss_one ps_never) pss_nil)
      (pss_cons (ps_if (pt_val (pe_cal c_is_base hr (pa_cons (pv 0) pa_nil))) (pss_one (ps_ret (pv 0))) pss_nil)
      (pss_cons (ps_if (PW.pt (pw_or (pt_not (pt_val (pe_cal c_is_sequence hr (pa_cons (pv 0) pa_nil)))) (pw_or1 (pt_cmpR op_less (pe_callB (k_len (K := K) rfl) (by rfl) T.n_len (by decide +kernel) (pa_cons (pv 0) pa_nil)) pe_int (nomark _))))) (pss_one ps_never) pss_nil)
      (pss_cons (ps_par (i := 2) (j := 3) rfl sc_checked_kind.nd rfl rfl (by decide) rfl rfl (pa_cons (pe_ix (k_ix (K := K) rfl) (pv 0) pe_int (fun _ _ => rfl)) (pa_cons (pe_slice (k_sl (K := K) rfl) (pv 0) (po_some pe_int) po_none) pa_nil)) (by rfl))
      (pss_cons (ps_if (PW.pt (pw_and (pt_cmpR (k_eq (K := K) rfl hr) (pv 2) pe_str (nomark _)) (pw_and1 (pt_cmpR (k_eq (K := K) rfl hr) (pe_callB (k_len (K := K) rfl) (by rfl) T.n_len (by decide +kernel) (pa_cons (pv 3) pa_nil)) pe_int (nomark _))))) (pss_one (ps_ret (pe_tup (pa_cons pe_str (pa_cons (pe_cal c_checked_kind hr (pa_cons (pe_ix (k_ix (K := K) rfl) (pv 3) pe_int (fun _ _ => rfl)) (pa_cons (pe_op op_subI (pv 1) pe_int) pa_nil))) pa_nil))))) pss_nil)
      (pss_cons (ps_if (PW.pt (pw_and (pt_cmpR (k_eq (K := K) rfl hr) (pv 2) pe_str (nomark _)) (pw_and1 (pt_cmpR (k_eq (K := K) rfl hr) (pe_callB (k_len (K := K) rfl) (by rfl) T.n_len (by decide +kernel) (pa_cons (pv 3) pa_nil)) pe_int (nomark _))))) (pss_one (ps_ret (pe_tup (pa_cons pe_str (pa_cons (pe_cal c_checked_kind hr (pa_cons (pe_ix (k_ix (K := K) rfl) (pv 3) pe_int (fun _ _ => rfl)) (pa_cons (pe_op op_subI (pv 1) pe_int) pa_nil))) (pa_cons (pe_cal c_checked_kind hr (pa_cons (pe_ix (k_ix (K := K) rfl) (pv 3) pe_int (fun _ _ => rfl)) (pa_cons (pe_op op_subI (pv 1) pe_int) pa_nil))) pa_nil)))))) pss_nil)
      (pss_cons (ps_if (PW.pt (pw_and (pt_cmpR (k_eq (K := K) rfl hr) (pv 2) pe_str (nomark _)) (pw_and1 (pt_cmpR (k_eq (K := K) rfl hr) (pe_callB (k_len (K := K) rfl) (by rfl) T.n_len (by decide +kernel) (pa_cons (pv 3) pa_nil)) pe_int (nomark _))))) (pss_one (ps_ret (pe_tup (pa_cons pe_str (pa_cons (pe_cal c_checked_couples hr (pa_cons (pe_ix (k_ix (K := K) rfl) (pv 3) pe_int (fun _ _ => rfl)) (pa_cons (pe_op op_subI (pv 1) pe_int) pa_nil))) pa_nil))))) pss_nil)
      (pss_cons (ps_if (PW.pt (pw_and (pt_cmpR (k_eq (K := K) rfl hr) (pv 2) pe_str (nomark _)) (pw_and (pt_cmpR (k_eq (K := K) rfl hr) (pe_callB (k_len (K := K) rfl) (by rfl) T.n_len (by decide +kernel) (pa_cons (pv 3) pa_nil)) pe_int (nomark _)) (pw_and (pt_val (pe_cal c_is_integer hr (pa_cons (pe_ix (k_ix (K := K) rfl) (pv 3) pe_int (fun _ _ => rfl)) pa_nil))) (pw_and1 (pt_cmpR op_geI (pe_ix (k_ix (K := K) rfl) (pv 3) pe_int (fun _ _ => rfl)) pe_int (nomark _))))))) (pss_one (ps_ret (pe_tup (pa_cons pe_str (pa_cons (pe_ix (k_ix (K := K) rfl) (pv 3) pe_int (fun _ _ => rfl)) pa_nil))))) pss_nil)
      (pss_one ps_never))))))))), to_spP hn (fun ds hp => ?_) h⟩)
  obtain ⟨d, rfl, hd⟩ := hp
  change WS K _ [.dat d, .dat (.int ((r + 1 : Nat) : Int)), .no, .no] [] _
  have h0 : PyData.eqv (.int ((r + 1 : Nat) : Int)) (.int 0) = false := by
    show (((r + 1 : Nat) : Int) == 0) = false
    rw [beq_eq_false_iff_ne]; omega
  have hm : ((r + 1 : Nat) : Int) - 1 = (r : Int) := by omega
  have fin : ∀ x, x = tn d → ∀ d', [d, PyData.int ((r + 1 : Nat) : Int)] = [d', .int ((r + 1 : Nat) : Int)] → x = tn d' := fun x e d' h => by
    injection h with h; rw [e, h]
  walk_at "ww"
  refine feq rfl rfl ?_
  walk_at "ww"
  rcases base_any hd (by omega) with ⟨hb, e⟩ | ⟨hb, e⟩
  · refine callF e ?_
    walk_at "ww"
    refine fin _ ?_
    simp only [bases, List.mem_cons, List.mem_nil_iff, or_false] at hb
    rcases hb with rfl | rfl | rfl <;> rfl
  refine callF e ?_
  walk_at "ww"
  cases hd with
  | base q => exact absurd q hb
  | @any _ _ n q hn0 =>
    refine callF (seq_is q) ?_
    walk_at "ww"
    refine len_sq q ?_
    walk_at "ww"
    refine ix_sq (j := 0) q rfl ?_
    walk_at "ww"
    refine cut1 q fun c' q' => ?_
    walk_at "ww"
    refine ⟨_, _, rfl, ?_⟩
    walk_at "ww"
    refine len_sq q' ?_
    walk_at "ww"
    refine feq rfl rfl ?_
    walk_at "ww"
    refine ix_sq (j := 0) q' rfl ?_
    walk_at "ww"
    refine callF (v := .bool true) (by simp [fIsInt, isD, tyD]) ?_
    walk_at "ww"
    refine ix_sq (j := 0) q' rfl ?_
    walk_at "ww"
    refine iteK (decide_eq_true hn0) ?_
    walk_at "ww"
    refine ix_sq (j := 0) q' rfl ?_
    walk_at "ww"
    refine ⟨by simp, ?_⟩
    refine fin _ ?_
    rw [sq_tn q]; rfl
  | @lst _ _ e q hk =>
    refine callF (seq_is q) ?_
    walk_at "ww"
    refine len_sq q ?_
    walk_at "ww"
    refine ix_sq (j := 0) q rfl ?_
    walk_at "ww"
    refine cut1 q fun c' q' => ?_
    walk_at "ww"
    refine ⟨_, _, rfl, ?_⟩
    walk_at "ww"
    refine len_sq q' ?_
    walk_at "ww"
    refine feq rfl rfl ?_
    walk_at "ww"
    refine ix_sq (j := 0) q' rfl ?_
    walk_at "ww"
    refine ⟨⟨e, by rw [hm], hk⟩, fun x hx => ?_⟩
    rw [hx e (by rw [hm])]
    walk_at "ww"
    refine ⟨by simp, ?_⟩
    refine fin _ ?_
    rw [sq_tn q]; rfl
  | @fn _ _ e e2 q h1 h2 =>
    refine callF (seq_is q) ?_
    walk_at "ww"
    refine len_sq q ?_
    walk_at "ww"
    refine ix_sq (j := 0) q rfl ?_
    walk_at "ww"
    refine cut1 q fun c' q' => ?_
    walk_at "ww"
    refine ⟨_, _, rfl, ?_⟩
    walk_at "ww"
    refine len_sq q' ?_
    walk_at "ww"
    refine feq rfl rfl ?_
    walk_at "ww"
    refine ix_sq (j := 0) q' rfl ?_
    walk_at "ww"
    refine ⟨⟨e, by rw [hm], h1⟩, fun x hx => ?_⟩
    rw [hx e (by rw [hm])]
    walk_at "ww"
    refine ix_sq (j := 1) q' rfl ?_
    walk_at "ww"
    refine ⟨⟨e2, by rw [hm], h2⟩, fun x hx => ?_⟩
    rw [hx e2 (by rw [hm])]
    walk_at "ww"
    refine ⟨by simp, ?_⟩
    refine fin _ ?_
    rw [sq_tn q]; rfl
  | @rcd _ _ cs cl fs q hc hl h5 hi hk ha =>
    refine callF (seq_is q) ?_
    walk_at "ww"
    refine len_sq q ?_
    walk_at "ww"
    refine ix_sq (j := 0) q rfl ?_
    walk_at "ww"
    refine cut1 q fun c' q' => ?_
    walk_at "ww"
    refine ⟨_, _, rfl, ?_⟩
    walk_at "ww"
    refine len_sq q' ?_
    walk_at "ww"
    refine feq rfl rfl ?_
    walk_at "ww"
    refine ix_sq (j := 0) q' rfl ?_
    walk_at "ww"
    refine ⟨⟨cs, by rw [hm], cl, fs, hc, hl, h5, hi, hk, ha⟩, fun x hx => ?_⟩
    rw [hx cs (by rw [hm])]
    walk_at "ww"
    refine ⟨by simp, ?_⟩
    refine fin _ ?_
    rw [sq_tn q]; rfl
include T in
theorem ok_checked_kind (FK : Dfn K mg "_checked_kind" s_checked_kind ["kind", "room"]) (FC : Dfn K mg "_checked_couples" s_checked_couples ["couples", "room"]) (q_is_sequence : Cal P w K mg base 1 "is_sequence" ["thing"] (spF fIsSeq K)) (q_is_integer : Cal P w K mg base 1 "is_integer" ["thing"] (spF fIsInt K))
    (q_is_couple : Cal P w K mg base 2 "is_couple" ["thing"] (spF fIsCouple K)) (q_is_name : Cal P w K mg base 1 "is_name" ["thing"] (spName K)) (q_is_ascending : Cal P w K mg base 1 "is_ascending" ["things"] (spAsc K)) (q_is_base : Cal P w K mg base 1 "is_base" ["kind"] (spF fIsBase K)) :
    ∀ r, r ≤ 12 → Cal P w K mg base (2 * r + 2) "_checked_kind" ["kind", "room"] (spCK r K)
  | 0, _ => cal_void FK fun vs H Q E h => by
    obtain ⟨S, ds, _, ⟨d, _, hd⟩, _⟩ := h
    cases hd
  | r + 1, hr => by
    have ck := ok_checked_kind FK FC q_is_sequence q_is_integer q_is_couple q_is_name q_is_ascending q_is_base r (by omega)
    have cc := ok_checked_couples T r (2 * r + 2) (by omega) FC q_is_sequence q_is_couple q_is_name q_is_ascending ck
    exact ok_checked_kind1 T r (2 * r + 2) (by omega) (by omega) FK q_is_sequence q_is_integer q_is_base ck cc
include T in
theorem ok_check_kind (F : Dfn K mg "check_kind" s_check_kind ["kind"]) (q_checked_kind : Cal P w K mg base 26 "_checked_kind" ["kind", "room"] (spCK 12 K)) :
    Cal P w K mg base 27 "check_kind" ["kind"] (spP (fun ds => ∃ d, ds = [d] ∧ GK 12 d) (fun ds x => ∀ d, ds = [d] → x = tn d) K) := by
  have hn : ∀ ds, (∃ d, ds = [d] ∧ GK 12 d) → ds.length = 1 := by rintro ds ⟨d, rfl, _⟩; rfl
  have c_checked_kind := q_checked_kind
  refine F.ok sc_check_kind (fun vs H Q E h => spP_len hn h) (fun f cdv A outer s H vs Q E hr h => ⟨_, (pss_one (ps_ret (pe_cal c_checked_kind hr (pa_cons (pv 0) (pa_cons (pe_gint (by rfl) T.g_MOST_DEEP) pa_nil))))), to_spP hn (fun ds hp => ?_) h⟩)
  obtain ⟨d, rfl, hd⟩ := hp
  change WS K _ [.dat d] [] _
  walk_at "ww"
  refine ⟨⟨d, rfl, hd⟩, fun x hx d' e => ?_⟩
  injection e with e
  rw [← e]
  exact hx d rfl
end
end Kk

set_option Elab.async false
set_option linter.all false
set_option maxRecDepth 100000
set_option maxHeartbeats 4000000
namespace Kk
open PySem PySem.Spec PyProof.Rows L2 Ab
/-- one step of the reading -/
local macro_rules | `(tactic| walk_at "w") => `(tactic| first
  | (with_reducible refine ws_seq ?_) | (with_reducible refine ws_next ?_) | (with_reducible refine ws_set ?_) | (with_reducible refine ws_par ?_) | (with_reducible refine ws_ret ?_) | (with_reducible refine ws_if ?_) | (with_reducible refine ws_drop ?_)
  | (refine w_var rfl ?_) | (with_reducible refine w_int ?_) | (with_reducible refine w_str ?_) | (with_reducible refine w_bl ?_) | (with_reducible refine w_non ?_)
  | (with_reducible refine wa_nil ?_) | (with_reducible refine wa_cons ?_) | (with_reducible refine w_tup ?_) | (with_reducible refine w_lst ?_)
  | (with_reducible refine wt_test ?_) | (with_reducible refine wt_B ?_) | (with_reducible refine wt_not ?_) | (with_reducible refine wt_and ?_) | (with_reducible refine wt_or ?_)
  | (with_reducible refine w_andV ?_) | (with_reducible refine w_orV ?_) | (with_reducible refine w_notV ?_) | (with_reducible refine w_ite ?_)
  | (with_reducible refine w_op ao_eq ?_) | (with_reducible refine w_op ao_ne ?_) | (with_reducible refine w_op ao_ix ?_) | (with_reducible refine w_op ao_plus ?_) | (with_reducible refine w_op ao_less ?_) | (with_reducible refine w_op ao_le ?_) | (with_reducible refine w_op ao_gt ?_) | (with_reducible refine w_op ao_ge ?_)
  | (with_reducible refine w_op ao_sub ?_) | (with_reducible refine w_op ao_mul ?_) | (with_reducible refine w_op ao_mod ?_) | (with_reducible refine w_op ao_div ?_) | (with_reducible refine w_op ao_pow ?_) | (with_reducible refine w_op ao_isNo ?_) | (with_reducible refine w_op ao_inSg ?_) | (with_reducible refine w_op ao_inSeq ?_) | (with_reducible refine w_op ao_ninSeq ?_)
  | (with_reducible refine w_cb ac_len ?_) | (with_reducible refine w_cb ac_tupleOf ?_) | (with_reducible refine w_cb ac_intOf ?_) | (with_reducible refine w_cb ac_all ?_) | (with_reducible refine w_cb ac_any ?_)
  | (with_reducible refine w_isi (by decide) ?_) | (with_reducible refine w_isi2 (by decide) (by decide) ?_) | (with_reducible refine w_sl ?_) | (with_reducible refine wo_none ?_) | (with_reducible refine wo_some ?_)
  | (with_reducible refine w_chain ao_le ao_le ?_) | (with_reducible refine w_call ?_))
local macro_rules | `(tactic| walk_at "v") => `(tactic| first
  | (with_reducible refine m0 ?_) | (with_reducible refine m1 ?_) | (with_reducible refine m2 ?_) | (with_reducible refine m3 ?_) | (with_reducible refine m5 ?_)
  | (with_reducible refine exb ?_) | (with_reducible refine exi ?_) | (with_reducible refine exl ?_) | (with_reducible refine exql ?_) | (with_reducible refine exqt ?_)
  | (refine fixt rfl ?_) | (refine fixl rfl ?_) | (refine fslt rfl ?_) | (refine fsll rfl ?_)
  | (with_reducible refine flent ?_; dsimp only [List.length_cons, List.length_nil]) | (with_reducible refine flenl ?_; dsimp only [List.length_cons, List.length_nil])
  | (with_reducible refine fii (by first | trivial | decide) ?_) | (with_reducible refine fpi ?_) | (with_reducible refine flti ?_) | (with_reducible refine fint ?_) | (with_reducible refine ftupl ?_) | (with_reducible refine ftupt ?_)
  | (with_reducible refine feq (by decide +kernel) (by decide +kernel) ?_) | (with_reducible refine fne (by decide +kernel) (by decide +kernel) ?_)
  | (with_reducible refine iteK rfl ?_) | (with_reducible refine iteN rfl ?_) | (with_reducible refine iteK (by decide +kernel) ?_) | (with_reducible refine iteN (by decide +kernel) ?_))
local macro_rules | `(tactic| walk_at "ww") => `(tactic| repeat (first | walk_at "w" | walk_at "v"))
/-! ### kinds as trees -/
inductive Bs where
  | int | text | truth
mutual
inductive Kd where
  | base (b : Bs)
  | any (n : Nat)
  | lst (k : Kd)
  | fn (a b : Kd)
  | rcd (f : Kf)
inductive Kf where
  | nil
  | cons (l : Str) (k : Kd) (r : Kf)
end
def Bs.nm : Bs → Str
  | .int => "int"
  | .text => "text"
  | .truth => "truth"
mutual
def toD : Kd → PyData
  | .base b => .str b.nm
  | .any n => .tuple [.str "any", .int (n : Int)]
  | .lst k => .tuple [.str "list", toD k]
  | .fn a b => .tuple [.str "function", toD a, toD b]
  | .rcd f => .tuple [.str "record", .tuple (toF f)]
def toF : Kf → List PyData
  | .nil => []
  | .cons l k r => .tuple [.str l, toD k] :: toF r
end
def hdW : PyData → Str
  | .tuple (.str w :: _) => w
  | .str w => w
  | _ => ""
theorem bs_inj {a b : Bs} (h : a.nm = b.nm) : a = b := by
  cases a <;> cases b <;> first | rfl | exact absurd h (by decide +kernel)
mutual
theorem toD_inj : ∀ k k' : Kd, toD k = toD k' → k = k'
  | .base a, .base b, h => by
    have e : PyData.str a.nm = .str b.nm := h
    injection e with e
    rw [bs_inj e]
  | .any n, .any m, h => by
    have e : PyData.tuple [.str "any", .int (n : Int)] = .tuple [.str "any", .int (m : Int)] := h
    injection e with e; injection e with _ e; injection e with e; injection e with e
    rw [Int.ofNat.inj e]
  | .lst k, .lst k', h => by
    have e : PyData.tuple [.str "list", toD k] = .tuple [.str "list", toD k'] := h
    injection e with e; injection e with _ e; injection e with e
    rw [toD_inj k k' e]
  | .fn a b, .fn a' b', h => by
    have e : PyData.tuple [.str "function", toD a, toD b] = .tuple [.str "function", toD a', toD b'] := h
    injection e with e; injection e with _ e; injection e with e e2; injection e2 with e2
    rw [toD_inj a a' e, toD_inj b b' e2]
  | .rcd f, .rcd f', h => by
    have e : PyData.tuple [.str "record", .tuple (toF f)] = .tuple [.str "record", .tuple (toF f')] := h
    injection e with e; injection e with _ e; injection e with e; injection e with e
    rw [toF_inj f f' e]
  | .base _, .any _, h | .base _, .lst _, h | .base _, .fn _ _, h | .base _, .rcd _, h => by cases h
  | .any _, .base _, h | .lst _, .base _, h | .fn _ _, .base _, h | .rcd _, .base _, h => by cases h
  | .any _, .lst _, h | .any _, .fn _ _, h | .any _, .rcd _, h | .lst _, .any _, h | .lst _, .fn _ _, h | .lst _, .rcd _, h | .fn _ _, .any _, h | .fn _ _, .lst _, h | .fn _ _, .rcd _, h | .rcd _, .any _, h | .rcd _, .lst _, h | .rcd _, .fn _ _, h => by
    first | exact absurd (show ("any" : Str) = "list" from congrArg hdW h) (by decide +kernel) | exact absurd (show ("any" : Str) = "function" from congrArg hdW h) (by decide +kernel) | exact absurd (show ("any" : Str) = "record" from congrArg hdW h) (by decide +kernel) | exact absurd (show ("list" : Str) = "any" from congrArg hdW h) (by decide +kernel) | exact absurd (show ("list" : Str) = "function" from congrArg hdW h) (by decide +kernel) | exact absurd (show ("list" : Str) = "record" from congrArg hdW h) (by decide +kernel) | exact absurd (show ("function" : Str) = "any" from congrArg hdW h) (by decide +kernel) | exact absurd (show ("function" : Str) = "list" from congrArg hdW h) (by decide +kernel) | exact absurd (show ("function" : Str) = "record" from congrArg hdW h) (by decide +kernel) | exact absurd (show ("record" : Str) = "any" from congrArg hdW h) (by decide +kernel) | exact absurd (show ("record" : Str) = "list" from congrArg hdW h) (by decide +kernel) | exact absurd (show ("record" : Str) = "function" from congrArg hdW h) (by decide +kernel)
theorem toF_inj : ∀ f f' : Kf, toF f = toF f' → f = f'
  | .nil, .nil, _ => rfl
  | .nil, .cons _ _ _, h => by cases h
  | .cons _ _ _, .nil, h => by cases h
  | .cons l k r, .cons l' k' r', h => by
    have e : PyData.tuple [.str l, toD k] :: toF r = .tuple [.str l', toD k'] :: toF r' := h
    injection e with e e3; injection e with e; injection e with e e2; injection e with e; injection e2 with e2
    rw [e, toD_inj k k' e2, toF_inj r r' e3]
end
mutual
def dep : Kd → Nat
  | .base _ => 1
  | .any _ => 1
  | .lst k => dep k + 1
  | .fn a b => max (dep a) (dep b) + 1
  | .rcd f => depF f + 1
def depF : Kf → Nat
  | .nil => 0
  | .cons _ k r => max (dep k) (depF r)
end
def labels : Kf → List Str
  | .nil => []
  | .cons l _ r => l :: labels r
def fields : Kf → List (Str × Kd)
  | .nil => []
  | .cons l k r => (l, k) :: fields r
def five : List Str := ["a", "b2", "list", "text", "zzzzzzzz"]
def labOk (ls : List Str) : Prop := ∃ a n : Nat, a < 5 ∧ n < 4 ∧ ls = (five.drop a).take n
mutual
def wf : Kd → Prop
  | .base _ => True
  | .any _ => True
  | .lst k => wf k
  | .fn a b => wf a ∧ wf b
  | .rcd f => labOk (labels f) ∧ wfF f
def wfF : Kf → Prop
  | .nil => True
  | .cons _ k r => wf k ∧ wfF r
end
def kids : Kd → List Kd
  | .base _ => []
  | .any _ => []
  | .lst k => [k]
  | .fn a b => [a, b]
  | .rcd f => (fields f).map (·.2)
theorem toF_fields : ∀ f, toF f = (fields f).map fun p => PyData.tuple [.str p.1, toD p.2]
  | .nil => rfl
  | .cons l k r => by
    show _ :: toF r = _ :: _
    rw [toF_fields r]
theorem labels_fields : ∀ f, labels f = (fields f).map (·.1)
  | .nil => rfl
  | .cons l k r => by
    show _ :: labels r = _ :: _
    rw [labels_fields r]
theorem wfF_iff : ∀ f, wfF f ↔ ∀ p ∈ fields f, wf p.2
  | .nil => ⟨(fun _ p hp => by cases hp), fun _ => trivial⟩
  | .cons l k r => by
    show (wf k ∧ wfF r) ↔ ∀ p ∈ (l, k) :: fields r, wf p.2
    rw [wfF_iff r]
    simp
theorem depF_le : ∀ {f : Kf} {n : Nat}, depF f ≤ n → ∀ p ∈ fields f, dep p.2 ≤ n
  | .nil, _, _, p, hp => by cases hp
  | .cons l k r, n, h, p, hp => by
    have h : max (dep k) (depF r) ≤ n := h
    rcases List.mem_cons.mp (show p ∈ (l, k) :: fields r from hp) with rfl | hp
    · show dep k ≤ n
      omega
    · exact depF_le (by omega) p hp
theorem lab_facts {ls : List Str} (h : labOk ls) : ls.length ≤ 5 ∧ ascB ls = true ∧ ∀ l ∈ ls, nameB l = true ∧ l.length ≤ 8 ∧ (PyData.str l).canLay0 = true ∧ l ≠ "q" ∧ l ≠ "*" := by
  obtain ⟨a, n, ha, hn, rfl⟩ := h
  have t : (List.range 5).all (fun a => (List.range 4).all fun n => decide (((five.drop a).take n).length ≤ 5) && ascB ((five.drop a).take n) && ((five.drop a).take n).all fun l => nameB l && decide (l.length ≤ 8) && (PyData.str l).canLay0 && decide (l ≠ "q") && decide (l ≠ "*")) = true := by decide +kernel
  have t1 := List.all_eq_true.mp t a (List.mem_range.mpr ha)
  have t2 := List.all_eq_true.mp t1 n (List.mem_range.mpr hn)
  simp only [Bool.and_eq_true, List.all_eq_true, decide_eq_true_eq] at t2
  obtain ⟨⟨t3, t4⟩, t5⟩ := t2
  exact ⟨t3, t4, fun l hl => by obtain ⟨⟨⟨⟨a, b⟩, c⟩, d⟩, e⟩ := t5 l hl; exact ⟨a, b, c, d, e⟩⟩
mutual
theorem gk_toD : ∀ (k : Kd) (r : Nat), wf k → dep k ≤ r → GK r (toD k)
  | .base b, 0, _, h => by simp [dep] at h
  | .base b, r + 1, _, _ => .base (by cases b <;> simp [toD, Bs.nm, bases])
  | .any n, 0, _, h => by simp [dep] at h
  | .any n, r + 1, _, _ => .any (.inr rfl) (Int.natCast_nonneg n)
  | .lst k, 0, _, h => by simp [dep] at h
  | .lst k, r + 1, hw, h => .lst (.inr rfl) (gk_toD k r hw (by simp [dep] at h; omega))
  | .fn a b, 0, _, h => by simp [dep] at h
  | .fn a b, r + 1, hw, h => .fn (.inr rfl) (gk_toD a r hw.1 (by simp [dep] at h; omega)) (gk_toD b r hw.2 (by simp [dep] at h; omega))
  | .rcd f, 0, _, h => by simp [dep] at h
  | .rcd f, r + 1, hw, h => by
    have lf := lab_facts hw.1
    have len : (fields f).length ≤ 5 := by have := lf.1; rw [labels_fields, List.length_map] at this; exact this
    refine .rcd (cl := toF f) (fs := (fields f).map fun p => (p.1, toD p.2)) (.inr rfl) (.inr rfl) (by rw [toF_fields]; simp) (by simpa using len) (fun i c p h1 h2 => ?_) (gkF_toD f r hw.2 (by simp [dep] at h; omega)) ?_
    · rw [toF_fields, List.getElem?_map] at h1
      rw [List.getElem?_map] at h2
      cases e : (fields f)[i]? with
      | none => rw [e] at h1; cases h1
      | some q =>
        rw [e] at h1 h2
        cases h1; cases h2
        have hm : q.1 ∈ labels f := by rw [labels_fields]; exact List.mem_map_of_mem (List.mem_of_getElem? e)
        obtain ⟨a, b, c, _⟩ := lf.2.2 q.1 hm
        exact ⟨.inr rfl, a, b, c⟩
    · rw [List.map_map]
      have := lf.2.1
      rw [labels_fields] at this
      exact this
theorem gkF_toD : ∀ (f : Kf) (r : Nat), wfF f → depF f ≤ r → ∀ p ∈ (fields f).map (fun p => (p.1, toD p.2)), GK r p.2
  | .nil, _, _, _, p, hp => by cases hp
  | .cons l k f, r, hw, h, p, hp => by
    have h : max (dep k) (depF f) ≤ r := h
    rcases List.mem_cons.mp (show p ∈ (l, toD k) :: (fields f).map (fun p => (p.1, toD p.2)) from hp) with rfl | hp
    · exact gk_toD k r hw.1 (by omega)
    · exact gkF_toD f r hw.2 (by omega) p hp
end
mutual
theorem tn_toD : ∀ k, tn (toD k) = toD k
  | .base _ => rfl
  | .any _ => rfl
  | .lst k => by
    show PyData.tuple [.str "list", tn (toD k)] = _
    rw [tn_toD k]; rfl
  | .fn a b => by
    show PyData.tuple [.str "function", tn (toD a), tn (toD b)] = _
    rw [tn_toD a, tn_toD b]; rfl
  | .rcd f => by
    show PyData.tuple [.str "record", .tuple (tns (toF f))] = _
    rw [tn_toF f]; rfl
theorem tn_toF : ∀ f, tns (toF f) = toF f
  | .nil => rfl
  | .cons l k r => by
    show PyData.tuple [.str l, tn (toD k)] :: tns (toF r) = _
    rw [tn_toD k, tn_toF r]; rfl
end
mutual
def sz : Kd → Nat
  | .base _ => 1
  | .any _ => 1
  | .lst k => sz k + 1
  | .fn a b => sz a + sz b + 1
  | .rcd f => szF f + 1
def szF : Kf → Nat
  | .nil => 0
  | .cons _ k r => sz k + szF r
end
theorem szF_sum : ∀ f, szF f = ((fields f).map fun p => sz p.2).sum
  | .nil => rfl
  | .cons l k r => by
    show sz k + szF r = sz k + _
    rw [szF_sum r]; rfl
theorem sz_kids (k : Kd) : sz k = ((kids k).map sz).sum + 1 := by
  cases k with
  | base b => rfl
  | any n => rfl
  | lst k => simp [sz, kids]
  | fn a b => simp [sz, kids]
  | rcd f => simp only [sz, kids, szF_sum, List.map_map]; rfl
end Kk

set_option Elab.async false
set_option linter.all false
set_option maxRecDepth 100000
set_option maxHeartbeats 4000000
namespace Kk
open PySem PySem.Spec PyProof.Rows L2 Ab
/-- one step of the reading -/
local macro_rules | `(tactic| walk_at "w") => `(tactic| first
  | (with_reducible refine ws_seq ?_) | (with_reducible refine ws_next ?_) | (with_reducible refine ws_set ?_) | (with_reducible refine ws_par ?_) | (with_reducible refine ws_ret ?_) | (with_reducible refine ws_if ?_) | (with_reducible refine ws_drop ?_)
  | (refine w_var rfl ?_) | (with_reducible refine w_int ?_) | (with_reducible refine w_str ?_) | (with_reducible refine w_bl ?_) | (with_reducible refine w_non ?_)
  | (with_reducible refine wa_nil ?_) | (with_reducible refine wa_cons ?_) | (with_reducible refine w_tup ?_) | (with_reducible refine w_lst ?_)
  | (with_reducible refine wt_test ?_) | (with_reducible refine wt_B ?_) | (with_reducible refine wt_not ?_) | (with_reducible refine wt_and ?_) | (with_reducible refine wt_or ?_)
  | (with_reducible refine w_andV ?_) | (with_reducible refine w_orV ?_) | (with_reducible refine w_notV ?_) | (with_reducible refine w_ite ?_)
  | (with_reducible refine w_op ao_eq ?_) | (with_reducible refine w_op ao_ne ?_) | (with_reducible refine w_op ao_ix ?_) | (with_reducible refine w_op ao_plus ?_) | (with_reducible refine w_op ao_less ?_) | (with_reducible refine w_op ao_le ?_) | (with_reducible refine w_op ao_gt ?_) | (with_reducible refine w_op ao_ge ?_)
  | (with_reducible refine w_op ao_sub ?_) | (with_reducible refine w_op ao_mul ?_) | (with_reducible refine w_op ao_mod ?_) | (with_reducible refine w_op ao_div ?_) | (with_reducible refine w_op ao_pow ?_) | (with_reducible refine w_op ao_isNo ?_) | (with_reducible refine w_op ao_inSg ?_) | (with_reducible refine w_op ao_inSeq ?_) | (with_reducible refine w_op ao_ninSeq ?_)
  | (with_reducible refine w_cb ac_len ?_) | (with_reducible refine w_cb ac_tupleOf ?_) | (with_reducible refine w_cb ac_intOf ?_) | (with_reducible refine w_cb ac_all ?_) | (with_reducible refine w_cb ac_any ?_)
  | (with_reducible refine w_isi (by decide) ?_) | (with_reducible refine w_isi2 (by decide) (by decide) ?_) | (with_reducible refine w_sl ?_) | (with_reducible refine wo_none ?_) | (with_reducible refine wo_some ?_)
  | (with_reducible refine w_chain ao_le ao_le ?_) | (with_reducible refine w_call ?_))
local macro_rules | `(tactic| walk_at "v") => `(tactic| first
  | (with_reducible refine m0 ?_) | (with_reducible refine m1 ?_) | (with_reducible refine m2 ?_) | (with_reducible refine m3 ?_) | (with_reducible refine m5 ?_)
  | (with_reducible refine exb ?_) | (with_reducible refine exi ?_) | (with_reducible refine exl ?_) | (with_reducible refine exql ?_) | (with_reducible refine exqt ?_)
  | (refine fixt rfl ?_) | (refine fixl rfl ?_) | (refine fslt rfl ?_) | (refine fsll rfl ?_)
  | (with_reducible refine flent ?_; dsimp only [List.length_cons, List.length_nil]) | (with_reducible refine flenl ?_; dsimp only [List.length_cons, List.length_nil])
  | (with_reducible refine fii (by first | trivial | decide) ?_) | (with_reducible refine fpi ?_) | (with_reducible refine flti ?_) | (with_reducible refine fint ?_) | (with_reducible refine ftupl ?_) | (with_reducible refine ftupt ?_)
  | (with_reducible refine feq (by decide +kernel) (by decide +kernel) ?_) | (with_reducible refine fne (by decide +kernel) (by decide +kernel) ?_)
  | (with_reducible refine iteK rfl ?_) | (with_reducible refine iteN rfl ?_) | (with_reducible refine iteK (by decide +kernel) ?_) | (with_reducible refine iteN (by decide +kernel) ?_))
local macro_rules | `(tactic| walk_at "ww") => `(tactic| repeat (first | walk_at "w" | walk_at "v"))
abbrev spK (f : Kd → PyData) (K : PySem.W.Frag) : Sp := spP (fun ds => ∃ k, (wf k ∧ sz k ≤ 10000) ∧ ds = [toD k]) (fun ds x => ∀ k, ds = [toD k] → x = f k) K
theorem k1 {ds : List PyData} (h : ∃ k, (wf k ∧ sz k ≤ 10000) ∧ ds = [toD k]) : ds.length = 1 := by
  obtain ⟨k, _, rfl⟩ := h; rfl
theorem kfin {k : Kd} {f : Kd → PyData} {x : PyData} (e : x = f k) : ∀ k', [toD k] = [toD k'] → x = f k' := fun k' h => by
  injection h with h
  rw [e, toD_inj k k' h]
theorem ix_base {b : Bs} {P : PyData → Prop} (h : ∀ c, (c = 105 ∨ c = 116) → P (.str ⟨#[c]⟩)) : fIx (.str b.nm) (.int 0) P := by
  cases b with
  | int => exact ⟨by decide +kernel, 105, by decide +kernel, h 105 (.inl rfl)⟩
  | text => exact ⟨by decide +kernel, 116, by decide +kernel, h 116 (.inr rfl)⟩
  | truth => exact ⟨by decide +kernel, 116, by decide +kernel, h 116 (.inr rfl)⟩
theorem fixj {ds : List PyData} {j : Nat} {a : PyData} {P : PyData → Prop} (e : ds[j]? = some a) (h : P a) : fIx (.tuple ds) (.int (j : Int)) P := ⟨a, atI_nat e, h⟩
def kidsD (k : Kd) : PyData := .tuple ((kids k).map toD)
section
variable {P : Program} {w : World} {K : PySem.W.Frag} {mg : Str → Option Value} {base : Heap} {aB : Addr} (T : Txt K mg aB)
include T in
theorem ok_kind_parts (F : Dfn K mg "kind_parts" s_kind_parts ["kind"]) : Cal P w K mg base 1 "kind_parts" ["kind"] (spK kidsD K) := by
  refine F.ok sc_kind_parts (fun vs H Q E h => spP_len (n := 1) (fun _ => k1) h) (fun f cdv A outer s H vs Q E hr h => ⟨_, (pss_cons (ps_if (PW.pt (pw_or (pt_cmpR (k_eq (K := K) rfl hr) (pe_ix (k_ix (K := K) rfl) (pv 0) pe_int (fun _ _ => rfl)) pe_str (nomark _)) (pw_or1 (pt_cmpR (k_eq (K := K) rfl hr) (pe_ix (k_ix (K := K) rfl) (pv 0) pe_int (fun _ _ => rfl)) pe_str (nomark _))))) (pss_one (ps_ret (pe_slice (k_sl (K := K) rfl) (pv 0) (po_some pe_int) po_none))) pss_nil)
      (pss_cons (ps_if (pt_cmpR (k_eq (K := K) rfl hr) (pe_ix (k_ix (K := K) rfl) (pv 0) pe_int (fun _ _ => rfl)) pe_str (nomark _)) (pss_one (ps_ret (pe_callTy (k_tuple (K := K) rfl) (by rfl) T.n_tuple (by decide +kernel) (pa_cons (pe_lc (own := [("_", 1), ("part", 2)]) (by rfl) sc_kind_parts.nd (k_seq (K := K) rfl (pe_ix (k_ix (K := K) rfl) (pv 0) pe_int (fun _ _ => rfl))) (blkOk_by (N := ["kind", "_", "part"]) (sc := defScope s_kind_parts) (by decide +kernel)) (fun _ _ _ _ _ => (k_tup (K := K) (n := 2) rfl rfl (pgs_cons (pg_name (i := 1) sc_kind_parts.nd rfl (by first | exact .inl rfl | exact .inr rfl)) (pgs_cons (pg_name (i := 2) sc_kind_parts.nd rfl (by first | exact .inl rfl | exact .inr rfl)) pgs_nil)))) (fun _ _ _ _ _ => pts_nil) (fun _ _ _ _ _ => (pv 2))) pa_nil)))) pss_nil)
      (pss_one (ps_ret (pe_tup pa_nil))))), to_spP (n := 1) (fun _ => k1) (fun ds hp => ?_) h⟩)
  obtain ⟨k, ⟨hw, hz⟩, rfl⟩ := hp
  cases k with
  | base b =>
    change WS K _ [.dat (.str b.nm), .no, .no] [] _
    walk_at "ww"
    refine ix_base fun c hc => ?_
    rcases hc with rfl | rfl
    all_goals
      walk_at "ww"
      refine ix_base fun c hc => ?_
      rcases hc with rfl | rfl
      all_goals
        walk_at "ww"
        refine ix_base fun c hc => ?_
        rcases hc with rfl | rfl
        all_goals
          walk_at "ww"
          exact ⟨by simp, kfin rfl⟩
  | any n =>
    change WS K _ [.dat (.tuple [.str "any", .int (n : Int)]), .no, .no] [] _
    walk_at "ww"
    exact ⟨by simp, kfin rfl⟩
  | lst e =>
    change WS K _ [.dat (.tuple [.str "list", toD e]), .no, .no] [] _
    walk_at "ww"
    exact kfin rfl
  | fn a b =>
    change WS K _ [.dat (.tuple [.str "function", toD a, toD b]), .no, .no] [] _
    walk_at "ww"
    exact kfin rfl
  | rcd f =>
    change WS K _ [.dat (.tuple [.str "record", .tuple (toF f)]), .no, .no] [] _
    walk_at "ww"
    refine w_map2 (by decide) (by decide) (wi_seq ?_)
    walk_at "ww"
    refine ⟨fun c => match c with | .tuple [_, b] => b | _ => .none, ?_, fun c hc => ?_, ?_⟩
    · have := (lab_facts hw.1).1
      rw [labels_fields, List.length_map] at this
      rw [toF_fields, List.length_map]; omega
    · rw [toF_fields] at hc
      obtain ⟨p, hp, rfl⟩ := List.mem_map.mp hc
      refine ⟨_, _, .inl rfl, ?_⟩
      change W K _ [.dat (.tuple [.str "record", .tuple (toF f)]), .dat (.str p.1), .dat (toD p.2)] [] _
      walk_at "ww"
      exact ⟨rfl, rfl⟩
    · walk_at "ww"
      refine kfin ?_
      show PyData.tuple _ = .tuple (((fields f).map (·.2)).map toD)
      rw [toF_fields, List.map_map, List.map_map]
      rfl
end
end Kk

set_option Elab.async false
set_option linter.all false
set_option maxRecDepth 100000
set_option maxHeartbeats 4000000
namespace Kk
open PySem PySem.Spec PyProof.Rows L2 Ab
/-- one step of the reading -/
local macro_rules | `(tactic| walk_at "w") => `(tactic| first
  | (with_reducible refine ws_seq ?_) | (with_reducible refine ws_next ?_) | (with_reducible refine ws_set ?_) | (with_reducible refine ws_par ?_) | (with_reducible refine ws_ret ?_) | (with_reducible refine ws_if ?_) | (with_reducible refine ws_drop ?_)
  | (refine w_var rfl ?_) | (with_reducible refine w_int ?_) | (with_reducible refine w_str ?_) | (with_reducible refine w_bl ?_) | (with_reducible refine w_non ?_)
  | (with_reducible refine wa_nil ?_) | (with_reducible refine wa_cons ?_) | (with_reducible refine w_tup ?_) | (with_reducible refine w_lst ?_)
  | (with_reducible refine wt_test ?_) | (with_reducible refine wt_B ?_) | (with_reducible refine wt_not ?_) | (with_reducible refine wt_and ?_) | (with_reducible refine wt_or ?_)
  | (with_reducible refine w_andV ?_) | (with_reducible refine w_orV ?_) | (with_reducible refine w_notV ?_) | (with_reducible refine w_ite ?_)
  | (with_reducible refine w_op ao_eq ?_) | (with_reducible refine w_op ao_ne ?_) | (with_reducible refine w_op ao_ix ?_) | (with_reducible refine w_op ao_plus ?_) | (with_reducible refine w_op ao_less ?_) | (with_reducible refine w_op ao_le ?_) | (with_reducible refine w_op ao_gt ?_) | (with_reducible refine w_op ao_ge ?_)
  | (with_reducible refine w_op ao_sub ?_) | (with_reducible refine w_op ao_mul ?_) | (with_reducible refine w_op ao_mod ?_) | (with_reducible refine w_op ao_div ?_) | (with_reducible refine w_op ao_pow ?_) | (with_reducible refine w_op ao_isNo ?_) | (with_reducible refine w_op ao_inSg ?_) | (with_reducible refine w_op ao_inSeq ?_) | (with_reducible refine w_op ao_ninSeq ?_)
  | (with_reducible refine w_cb ac_len ?_) | (with_reducible refine w_cb ac_tupleOf ?_) | (with_reducible refine w_cb ac_intOf ?_) | (with_reducible refine w_cb ac_all ?_) | (with_reducible refine w_cb ac_any ?_)
  | (with_reducible refine w_isi (by decide) ?_) | (with_reducible refine w_isi2 (by decide) (by decide) ?_) | (with_reducible refine w_sl ?_) | (with_reducible refine wo_none ?_) | (with_reducible refine wo_some ?_)
  | (with_reducible refine w_chain ao_le ao_le ?_) | (with_reducible refine w_call ?_))
local macro_rules | `(tactic| walk_at "v") => `(tactic| first
  | (with_reducible refine m0 ?_) | (with_reducible refine m1 ?_) | (with_reducible refine m2 ?_) | (with_reducible refine m3 ?_) | (with_reducible refine m5 ?_)
  | (with_reducible refine exb ?_) | (with_reducible refine exi ?_) | (with_reducible refine exl ?_) | (with_reducible refine exql ?_) | (with_reducible refine exqt ?_)
  | (refine fixt rfl ?_) | (refine fixl rfl ?_) | (refine fslt rfl ?_) | (refine fsll rfl ?_)
  | (with_reducible refine flent ?_; dsimp only [List.length_cons, List.length_nil]) | (with_reducible refine flenl ?_; dsimp only [List.length_cons, List.length_nil])
  | (with_reducible refine fii (by first | trivial | decide) ?_) | (with_reducible refine fpi ?_) | (with_reducible refine flti ?_) | (with_reducible refine fint ?_) | (with_reducible refine ftupl ?_) | (with_reducible refine ftupt ?_)
  | (with_reducible refine feq (by decide +kernel) (by decide +kernel) ?_) | (with_reducible refine fne (by decide +kernel) (by decide +kernel) ?_)
  | (with_reducible refine iteK rfl ?_) | (with_reducible refine iteN rfl ?_) | (with_reducible refine iteK (by decide +kernel) ?_) | (with_reducible refine iteN (by decide +kernel) ?_))
local macro_rules | `(tactic| walk_at "ww") => `(tactic| repeat (first | walk_at "w" | walk_at "v"))
theorem mem_le_sum : ∀ {l : List Nat} {x : Nat}, x ∈ l → x ≤ l.sum
  | [], _, h => by cases h
  | a :: l, x, h => by
    rw [List.sum_cons]
    rcases List.mem_cons.mp h with rfl | h
    · omega
    · have := mem_le_sum h
      omega
theorem len_le_sum {α : Type} {f : α → Nat} : ∀ {l : List α}, (∀ x ∈ l, 1 ≤ f x) → l.length ≤ (l.map f).sum
  | [], _ => by simp
  | a :: l, h => by
    rw [List.length_cons, List.map_cons, List.sum_cons]
    have := h a List.mem_cons_self
    have := len_le_sum (f := f) fun x hx => h x (List.mem_cons_of_mem _ hx)
    omega
theorem ms_1 {a b : Addr} {X Y Z : List PyData} {t u : Bool} (h : a ≠ b) : mset [(b, t, X), (a, u, Y)] b Z = [(b, t, Z), (a, u, Y)] := by
  simp [mset, h]
theorem ms_2 {a b : Addr} {X Y Z : List PyData} {t u : Bool} (h : a ≠ b) : mset [(b, t, X), (a, u, Y)] a Z = [(b, t, X), (a, u, Z)] := by
  simp [mset, Ne.symm h]
mutual
def subs : Kd → List PyData
  | .base b => [toD (.base b)]
  | .any n => [toD (.any n)]
  | .lst k => toD (.lst k) :: subs k
  | .fn a b => toD (.fn a b) :: (subs a ++ subs b)
  | .rcd f => toD (.rcd f) :: subsF f
def subsF : Kf → List PyData
  | .nil => []
  | .cons _ k r => subs k ++ subsF r
end
theorem subsF_map : ∀ f, subsF f = ((fields f).map (·.2)).flatMap subs
  | .nil => rfl
  | .cons l k r => by
    show subs k ++ subsF r = _
    rw [subsF_map r]; rfl
theorem subs_kids (k : Kd) : subs k = toD k :: (kids k).flatMap subs := by
  cases k with
  | base b => rfl
  | any n => rfl
  | lst k => simp [subs, kids]
  | fn a b => simp [subs, kids]
  | rcd f => simp only [subs, kids, subsF_map]
theorem kids_wf {k : Kd} (h : wf k) : ∀ e ∈ kids k, wf e := by
  cases k with
  | base b => intro e he; cases he
  | any n => intro e he; cases he
  | lst k => intro e he; simp [kids] at he; rw [he]; exact h
  | fn a b => intro e he; simp [kids] at he; rcases he with rfl | rfl; exact h.1; exact h.2
  | rcd f =>
    intro e he
    obtain ⟨p, hp, rfl⟩ := List.mem_map.mp he
    exact (wfF_iff f).mp h.2 p hp
theorem kids_sz {k : Kd} {n : Nat} (h : sz k ≤ n) : ∀ e ∈ kids k, sz e ≤ n := fun e he => by
  rw [sz_kids] at h
  have : sz e ≤ ((kids k).map sz).sum := mem_le_sum (List.mem_map_of_mem he)
  omega
theorem subs_len (k : Kd) : (subs k).length = sz k := by
  have key : ∀ n, ∀ k, sz k ≤ n → (subs k).length = sz k := by
    intro n
    induction n with
    | zero => intro k h; rw [sz_kids] at h; omega
    | succ n ih =>
      intro k h
      rw [subs_kids, sz_kids, List.length_cons, List.length_flatMap]
      congr 2
      apply List.map_congr_left
      intro e he
      rw [sz_kids] at h
      have : sz e ≤ ((kids k).map sz).sum := mem_le_sum (List.mem_map_of_mem he)
      exact ih e (by omega)
  exact key _ k (Nat.le_refl _)
section
variable {P : Program} {w : World} {K : PySem.W.Frag} {mg : Str → Option Value} {base : Heap} {aB : Addr} (T : Txt K mg aB)
include T in
theorem ok_kinds_inside (F : Dfn K mg "kinds_inside" s_kinds_inside ["kind"]) (c_kind_parts : Cal P w K mg base 1 "kind_parts" ["kind"] (spK kidsD K)) : Cal P w K mg base 2 "kinds_inside" ["kind"] (spK (fun k => .list (subs k)) K) := by
  refine F.ok sc_kinds_inside (fun vs H Q E h => spP_len (n := 1) (fun _ => k1) h) (fun f cdv A outer s H vs Q E hr h => ⟨_, (pss_cons (ps_set (i := 1) sc_kinds_inside.nd rfl (by first | exact .inl rfl | exact .inr rfl) (pe_lst pa_nil))
      (pss_cons (ps_set (i := 2) sc_kinds_inside.nd rfl (by first | exact .inl rfl | exact .inr rfl) (pe_lst (pa_cons (pv 0) pa_nil)))
      (pss_cons (ps_while PassesOwn.never (k_tru (K := K) rfl (pv 2)) (pss_cons (ps_set (i := 3) sc_kinds_inside.nd rfl (by first | exact .inl rfl | exact .inr rfl) (pe_bm0 PySem.F.plainAttrs_list PySem.F.slot_list_pop PySem.F.type_list_pop mt_pop (pv 2)))
      (pss_cons (ps_expr (pe_bm PySem.F.plainAttrs_list PySem.F.slot_list_append PySem.F.type_list_append mt_append (pv 1) (pa_cons (pv 3) pa_nil)))
      (pss_one (ps_for PassesOwn.never rfl (k_rev (K := K) rfl (by rfl) T.n_reversed (pe_cal c_kind_parts hr (pa_cons (pv 3) pa_nil))) (pg_name (i := 4) sc_kinds_inside.nd rfl (by first | exact .inl rfl | exact .inr rfl)) (pss_one (ps_expr (pe_bm PySem.F.plainAttrs_list PySem.F.slot_list_append PySem.F.type_list_append mt_append (pv 2) (pa_cons (pv 4) pa_nil)))))))))
      (pss_one (ps_ret (pv 1)))))), to_spP (n := 1) (fun _ => k1) (fun ds hp => ?_) h⟩)
  dsimp only [cxOf, L2.Cx.nox, L2.Cx.wish]
  obtain ⟨k0, ⟨hw, hz⟩, rfl⟩ := hp
  change WS K _ [.dat (toD k0), .no, .no, .no, .no] [] _
  refine ws_seq (ws_new (wa_nil (m0 ⟨by simp, fun a _ => ?_⟩)))
  refine ws_seq (ws_new (wa_cons (w_var rfl (wa_nil (m1 ⟨by simp, fun b hb => ?_⟩)))))
  have hab : a ≠ b := hb (a, true, []) (List.mem_singleton.mpr rfl)
  change WS K _ [.dat (toD k0), .own a, .own b, .no, .no] [(b, true, [toD k0]), (a, true, [])] _
  have fl : ∀ (F : List PyData) (ks : List Kd), F ++ ks.reverse.flatMap subs = subs k0 → F.length ≤ 10000 ∧ ks.length ≤ 10000 := fun F ks e => by
    have l := congrArg List.length e
    rw [List.length_append, subs_len] at l
    have l2 : ks.reverse.length ≤ (ks.reverse.flatMap subs).length := by
      rw [List.length_flatMap]
      exact len_le_sum fun e _ => by rw [subs_len, sz_kids]; omega
    rw [List.length_reverse] at l2
    omega
  refine ws_seq (ws_while (fun m as' M' => ∃ (F : List PyData) (ks : List Kd) (x y : Sv), as' = [.dat (toD k0), .own a, .own b, x, y] ∧ M' = [(b, true, ks.map toD), (a, true, F)] ∧ F ++ ks.reverse.flatMap subs = subs k0 ∧ m = (ks.map sz).sum ∧ ∀ e ∈ ks, wf e)
    (sz k0) ⟨[], [k0], .no, .no, rfl, rfl, by simp, by simp, fun e he => by rw [List.mem_singleton.mp he]; exact hw⟩ ?_)
  rintro m as' M' ⟨F, ks, x, y, rfl, rfl, hF, rfl, hks⟩
  refine wt_own rfl (List.mem_cons_self) ?_
  rcases List.eq_nil_or_concat ks with rfl | ⟨init, e, rfl⟩
  · refine iteN rfl ?_
    refine ws_frz (p := a) (xs := F) (by simp) ?_
    have hF : F = subs k0 := by simpa using hF
    have e1 : mdel [(b, true, ([] : List Kd).map toD), (a, true, F)] a = [(b, true, [])] := by
      simp [mdel, Ne.symm hab]
    have e2 : [Sv.dat (toD k0), .own a, .own b, x, y].map (afrz a F) = [.dat (toD k0), .dat (.list F), .own b, afrz a F x, afrz a F y] := by
      simp [afrz, Ne.symm hab]
    rw [e1, e2]
    refine ws_ret (w_var rfl ?_)
    exact kfin (by rw [hF])
  · rw [List.concat_eq_append] at hF hks ⊢
    have hne : ((init ++ [e]).map toD).isEmpty = false := by simp
    rw [hne]
    refine iteK rfl ?_
    have hb1 := fl _ _ hF
    have hl1 : (init ++ [e]).length = init.length + 1 := by simp
    refine ws_seq (ws_pop rfl (List.mem_cons_self) (d := toD e) (by simp) ?_)
    rw [ms_1 hab, show ((init ++ [e]).map toD).dropLast = init.map toD by simp]
    change WS K _ [.dat (toD k0), .own a, .own b, .dat (toD e), y] [(b, true, init.map toD), (a, true, F)] _
    refine ws_seq (ws_app (p := a) (fl := true) (xs := F) rfl (by simp) (w_var rfl ⟨true, F, by simp, by omega, ?_⟩))
    rw [ms_2 hab]
    have hwe : wf e := hks e (by simp)
    have hsz : sz e ≤ 10000 := by
      have l := congrArg List.length hF
      rw [List.length_append, subs_len, List.length_flatMap] at l
      have : (subs e).length ≤ ((init ++ [e]).reverse.map fun k => (subs k).length).sum := mem_le_sum (List.mem_map_of_mem (f := fun k => (subs k).length) (by simp))
      rw [subs_len] at this
      omega
    refine ws_for ga_name (wi_rev (w_call (wa_cons (w_var rfl (wa_nil (m1 ⟨⟨e, ⟨hwe, hsz⟩, rfl⟩, fun d hd => ?_⟩))))))
    rw [hd e rfl]
    refine ⟨_, .inr rfl, ?_⟩
    have hkl : (kids e).length ≤ 10000 := by
      have : (kids e).length ≤ ((kids e).map sz).sum := len_le_sum fun e _ => by rw [sz_kids]; omega
      have := sz_kids e
      omega
    refine ⟨fun i as' M' => ∃ y, as' = [.dat (toD k0), .own a, .own b, .dat (toD e), y] ∧ M' = [(b, true, init.map toD ++ ((kids e).map toD).reverse.take i), (a, true, F ++ [toD e])], ⟨y, rfl, by simp⟩, ?_, ?_⟩
    · rintro i d as' M' hd ⟨y, rfl, rfl⟩
      have hi := (List.getElem?_eq_some_iff.mp hd).1
      rw [List.length_reverse, List.length_map] at hi
      change WS K _ [.dat (toD k0), .own a, .own b, .dat (toD e), .dat d] _ _
      refine ws_app (p := b) rfl (List.mem_cons_self) (w_var rfl ⟨true, _, List.mem_cons_self, by rw [List.length_append, List.length_map, List.length_take]; omega, ?_⟩)
      rw [ms_1 hab]
      refine ⟨_, rfl, ?_⟩
      rw [List.take_add_one, hd, List.append_assoc]
      rfl
    · rintro as' M' ⟨y, rfl, rfl⟩
      refine ⟨((init ++ (kids e).reverse).map sz).sum, ?_, F ++ [toD e], init ++ (kids e).reverse, _, _, rfl, ?_, ?_, rfl, ?_⟩
      · have := sz_kids e
        rw [List.map_append, List.sum_append, List.map_append, List.sum_append, List.map_reverse, List.sum_reverse]
        simp
        omega
      · rw [List.take_length, List.map_append, List.map_reverse]
      · rw [← hF, List.reverse_append, List.reverse_reverse, List.flatMap_append, List.append_assoc]
        simp [subs_kids e]
      · intro x hx
        rcases List.mem_append.mp hx with hx | hx
        · exact hks x (by simp [hx])
        · exact kids_wf hwe x (List.mem_reverse.mp hx)
end
end Kk

set_option Elab.async false
set_option linter.all false
set_option maxRecDepth 100000
set_option maxHeartbeats 4000000
namespace Kk
open PySem PySem.Spec PyProof.Rows L2 Ab
/-- one step of the reading -/
local macro_rules | `(tactic| walk_at "w") => `(tactic| first
  | (with_reducible refine ws_seq ?_) | (with_reducible refine ws_next ?_) | (with_reducible refine ws_set ?_) | (with_reducible refine ws_par ?_) | (with_reducible refine ws_ret ?_) | (with_reducible refine ws_if ?_) | (with_reducible refine ws_drop ?_)
  | (refine w_var rfl ?_) | (with_reducible refine w_int ?_) | (with_reducible refine w_str ?_) | (with_reducible refine w_bl ?_) | (with_reducible refine w_non ?_)
  | (with_reducible refine wa_nil ?_) | (with_reducible refine wa_cons ?_) | (with_reducible refine w_tup ?_) | (with_reducible refine w_lst ?_)
  | (with_reducible refine wt_test ?_) | (with_reducible refine wt_B ?_) | (with_reducible refine wt_not ?_) | (with_reducible refine wt_and ?_) | (with_reducible refine wt_or ?_)
  | (with_reducible refine w_andV ?_) | (with_reducible refine w_orV ?_) | (with_reducible refine w_notV ?_) | (with_reducible refine w_ite ?_)
  | (with_reducible refine w_op ao_eq ?_) | (with_reducible refine w_op ao_ne ?_) | (with_reducible refine w_op ao_ix ?_) | (with_reducible refine w_op ao_plus ?_) | (with_reducible refine w_op ao_less ?_) | (with_reducible refine w_op ao_le ?_) | (with_reducible refine w_op ao_gt ?_) | (with_reducible refine w_op ao_ge ?_)
  | (with_reducible refine w_op ao_sub ?_) | (with_reducible refine w_op ao_mul ?_) | (with_reducible refine w_op ao_mod ?_) | (with_reducible refine w_op ao_div ?_) | (with_reducible refine w_op ao_pow ?_) | (with_reducible refine w_op ao_isNo ?_) | (with_reducible refine w_op ao_inSg ?_) | (with_reducible refine w_op ao_inSeq ?_) | (with_reducible refine w_op ao_ninSeq ?_)
  | (with_reducible refine w_cb ac_len ?_) | (with_reducible refine w_cb ac_tupleOf ?_) | (with_reducible refine w_cb ac_intOf ?_) | (with_reducible refine w_cb ac_all ?_) | (with_reducible refine w_cb ac_any ?_)
  | (with_reducible refine w_isi (by decide) ?_) | (with_reducible refine w_isi2 (by decide) (by decide) ?_) | (with_reducible refine w_sl ?_) | (with_reducible refine wo_none ?_) | (with_reducible refine wo_some ?_)
  | (with_reducible refine w_chain ao_le ao_le ?_) | (with_reducible refine w_call ?_))
local macro_rules | `(tactic| walk_at "v") => `(tactic| first
  | (with_reducible refine m0 ?_) | (with_reducible refine m1 ?_) | (with_reducible refine m2 ?_) | (with_reducible refine m3 ?_) | (with_reducible refine m5 ?_)
  | (with_reducible refine exb ?_) | (with_reducible refine exi ?_) | (with_reducible refine exl ?_) | (with_reducible refine exql ?_) | (with_reducible refine exqt ?_)
  | (refine fixt rfl ?_) | (refine fixl rfl ?_) | (refine fslt rfl ?_) | (refine fsll rfl ?_)
  | (with_reducible refine flent ?_; dsimp only [List.length_cons, List.length_nil]) | (with_reducible refine flenl ?_; dsimp only [List.length_cons, List.length_nil])
  | (with_reducible refine fii (by first | trivial | decide) ?_) | (with_reducible refine fpi ?_) | (with_reducible refine flti ?_) | (with_reducible refine fint ?_) | (with_reducible refine ftupl ?_) | (with_reducible refine ftupt ?_)
  | (with_reducible refine feq (by decide +kernel) (by decide +kernel) ?_) | (with_reducible refine fne (by decide +kernel) (by decide +kernel) ?_)
  | (with_reducible refine iteK rfl ?_) | (with_reducible refine iteN rfl ?_) | (with_reducible refine iteK (by decide +kernel) ?_) | (with_reducible refine iteN (by decide +kernel) ?_))
local macro_rules | `(tactic| walk_at "ww") => `(tactic| repeat (first | walk_at "w" | walk_at "v"))
def headIs (w : Str) : PyData → Bool
  | .tuple (.str v :: _) => v == w
  | _ => false
def hasW (w : Str) (k : Kd) : Bool := (subs k).any (headIs w)
theorem subs_toD (k : Kd) : ∀ x ∈ subs k, ∃ e, x = toD e := by
  have key : ∀ n, ∀ k, sz k ≤ n → ∀ x ∈ subs k, ∃ e, x = toD e := by
    intro n
    induction n with
    | zero => intro k h; rw [sz_kids] at h; omega
    | succ n ih =>
      intro k h x hx
      rw [subs_kids] at hx
      rcases List.mem_cons.mp hx with rfl | hx
      · exact ⟨k, rfl⟩
      · obtain ⟨e, he, hx⟩ := List.mem_flatMap.mp hx
        rw [sz_kids] at h
        have : sz e ≤ ((kids k).map sz).sum := mem_le_sum (List.mem_map_of_mem he)
        exact ih e (by omega) x hx
  exact key _ k (Nat.le_refl _)
/-- the word of a kind, asked by its first item -/
theorem word_of {k : Kd} {P : PyData → Prop} (h : ∀ w : Str, (match k with | .base _ => w = ⟨#[105]⟩ ∨ w = ⟨#[116]⟩ | .any _ => w = "any" | .lst _ => w = "list" | .fn _ _ => w = "function" | .rcd _ => w = "record") → P (.str w)) : fIx (toD k) (.int 0) P := by
  cases k with
  | base b => exact ix_base fun c hc => h _ (by rcases hc with rfl | rfl; exact .inl rfl; exact .inr rfl)
  | any n => exact fixj (j := 0) rfl (h _ rfl)
  | lst n => exact fixj (j := 0) rfl (h _ rfl)
  | fn a b => exact fixj (j := 0) rfl (h _ rfl)
  | rcd n => exact fixj (j := 0) rfl (h _ rfl)
/-- .. and compared with a word -/
theorem word_is {k : Kd} {w v : Str} (hv : v = "any" ∨ v = "list" ∨ v = "function" ∨ v = "record") (h : match k with | .base _ => w = ⟨#[105]⟩ ∨ w = ⟨#[116]⟩ | .any _ => w = "any" | .lst _ => w = "list" | .fn _ _ => w = "function" | .rcd _ => w = "record") :
    SeqAt.shaped (.str w) = true ∧ SeqAt.shaped (.str v) = true ∧ PyData.eqv (.str w) (.str v) = headIs v (toD k) := by
  cases k with
  | base b => rcases h with rfl | rfl <;> rcases hv with rfl | rfl | rfl | rfl <;> exact ⟨by decide +kernel, by decide +kernel, by show _ = false; decide +kernel⟩
  | any n => have h : w = "any" := h; subst h; rcases hv with rfl | rfl | rfl | rfl <;> exact ⟨by decide +kernel, by decide +kernel, rfl⟩
  | lst n => have h : w = "list" := h; subst h; rcases hv with rfl | rfl | rfl | rfl <;> exact ⟨by decide +kernel, by decide +kernel, rfl⟩
  | fn a b => have h : w = "function" := h; subst h; rcases hv with rfl | rfl | rfl | rfl <;> exact ⟨by decide +kernel, by decide +kernel, rfl⟩
  | rcd n => have h : w = "record" := h; subst h; rcases hv with rfl | rfl | rfl | rfl <;> exact ⟨by decide +kernel, by decide +kernel, rfl⟩
section
variable {P : Program} {w : World} {K : PySem.W.Frag} {mg : Str → Option Value} {base : Heap} {aB : Addr} (T : Txt K mg aB)
/-- kind[0] == 'word' -/
theorem w_word {te : TE} {as : List Sv} {M : Mm} {R : PyData → Mm → Prop} {v : Str} {k : Kd} (hv : v = "any" ∨ v = "list" ∨ v = "function" ∨ v = "record") (h : W K te as M fun d M1 => d = toD k ∧ R (.bool (headIs v (toD k))) M1) : W K (tOp (rEqD K) (tOp (rIx K) te (tC (.int 0))) (tC (.str v))) as M R := by
  refine w_op ao_eq (w_op ao_ix (h.imp fun d M1 ⟨e, r⟩ => ?_))
  subst e
  refine w_int (word_of fun w hw => w_str ?_)
  obtain ⟨a, b, c⟩ := word_is hv hw
  exact ⟨a, b, by rw [c]; exact r⟩
include T in
theorem ok_has_open (F : Dfn K mg "has_open" s_has_open ["kind"]) (c_kinds_inside : Cal P w K mg base 2 "kinds_inside" ["kind"] (spK (fun k => .list (subs k)) K)) : Cal P w K mg base 3 "has_open" ["kind"] (spK (fun k => .bool (hasW "any" k)) K) := by
  refine F.ok sc_has_open (fun vs H Q E h => spP_len (n := 1) (fun _ => k1) h) (fun f cdv A outer s H vs Q E hr h => ⟨_, (pss_one (ps_ret (pe_callB (k_any (K := K) rfl rfl) (by rfl) T.n_any (by decide +kernel) (pa_cons (pe_lc (own := [("part", 1)]) (by rfl) sc_has_open.nd (k_seq (K := K) rfl (pe_cal c_kinds_inside hr (pa_cons (pv 0) pa_nil))) (blkOk_by (N := ["kind", "part"]) (sc := defScope s_has_open) (by decide +kernel)) (fun _ _ _ _ _ => (pg_name (i := 1) sc_has_open.nd rfl (by first | exact .inl rfl | exact .inr rfl))) (fun _ _ _ _ _ => pts_nil) (fun _ _ _ _ _ => (pe_cmpR (k_eq (K := K) rfl hr) (pe_ix (k_ix (K := K) rfl) (pv 1) pe_int (fun _ _ => rfl)) pe_str (nomark _)))) pa_nil)))), to_spP (n := 1) (fun _ => k1) (fun ds hp => ?_) h⟩)
  obtain ⟨k, ⟨hw, hz⟩, rfl⟩ := hp
  change WS K _ [.dat (toD k), .no] [] _
  refine ws_ret (w_cb ac_any (wa_cons (w_map (by decide) (wi_seq (w_call (wa_cons (w_var rfl (wa_nil (m1 ⟨⟨k, ⟨hw, hz⟩, rfl⟩, fun d hd => ?_⟩)))))))))
  rw [hd k rfl]
  refine ⟨_, .inl rfl, fun d => .bool (headIs "any" d), by rw [subs_len]; omega, fun x hx => ?_, ?_⟩
  · obtain ⟨e, rfl⟩ := subs_toD k x hx
    exact w_word (.inl rfl) (w_var rfl ⟨rfl, rfl, rfl⟩)
  · refine wa_nil (m1 (fany (bs := (subs k).map (headIs "any")) (by rw [List.map_map]; rfl) ?_))
    refine kfin ?_
    rw [List.any_map]; rfl
include T in
theorem ok_has_function (F : Dfn K mg "has_function" s_has_function ["kind"]) (c_kinds_inside : Cal P w K mg base 2 "kinds_inside" ["kind"] (spK (fun k => .list (subs k)) K)) : Cal P w K mg base 3 "has_function" ["kind"] (spK (fun k => .bool (hasW "function" k)) K) := by
  refine F.ok sc_has_function (fun vs H Q E h => spP_len (n := 1) (fun _ => k1) h) (fun f cdv A outer s H vs Q E hr h => ⟨_, (pss_one (ps_ret (pe_callB (k_any (K := K) rfl rfl) (by rfl) T.n_any (by decide +kernel) (pa_cons (pe_lc (own := [("part", 1)]) (by rfl) sc_has_function.nd (k_seq (K := K) rfl (pe_cal c_kinds_inside hr (pa_cons (pv 0) pa_nil))) (blkOk_by (N := ["kind", "part"]) (sc := defScope s_has_function) (by decide +kernel)) (fun _ _ _ _ _ => (pg_name (i := 1) sc_has_function.nd rfl (by first | exact .inl rfl | exact .inr rfl))) (fun _ _ _ _ _ => pts_nil) (fun _ _ _ _ _ => (pe_cmpR (k_eq (K := K) rfl hr) (pe_ix (k_ix (K := K) rfl) (pv 1) pe_int (fun _ _ => rfl)) pe_str (nomark _)))) pa_nil)))), to_spP (n := 1) (fun _ => k1) (fun ds hp => ?_) h⟩)
  obtain ⟨k, ⟨hw, hz⟩, rfl⟩ := hp
  change WS K _ [.dat (toD k), .no] [] _
  refine ws_ret (w_cb ac_any (wa_cons (w_map (by decide) (wi_seq (w_call (wa_cons (w_var rfl (wa_nil (m1 ⟨⟨k, ⟨hw, hz⟩, rfl⟩, fun d hd => ?_⟩)))))))))
  rw [hd k rfl]
  refine ⟨_, .inl rfl, fun d => .bool (headIs "function" d), by rw [subs_len]; omega, fun x hx => ?_, ?_⟩
  · obtain ⟨e, rfl⟩ := subs_toD k x hx
    exact w_word (.inr (.inr (.inl rfl))) (w_var rfl ⟨rfl, rfl, rfl⟩)
  · refine wa_nil (m1 (fany (bs := (subs k).map (headIs "function")) (by rw [List.map_map]; rfl) ?_))
    refine kfin ?_
    rw [List.any_map]; rfl
def ansK (k : Kd) : PyData := .bool (headIs "list" (toD k) && (!hasW "any" k && !hasW "function" k))
include T in
theorem ok_is_answer_kind (F : Dfn K mg "is_answer_kind" s_is_answer_kind ["kind"]) (c_has_open : Cal P w K mg base 3 "has_open" ["kind"] (spK (fun k => .bool (hasW "any" k)) K)) (c_has_function : Cal P w K mg base 3 "has_function" ["kind"] (spK (fun k => .bool (hasW "function" k)) K)) :
    Cal P w K mg base 4 "is_answer_kind" ["kind"] (spK ansK K) := by
  refine F.ok sc_is_answer_kind (fun vs H Q E h => spP_len (n := 1) (fun _ => k1) h) (fun f cdv A outer s H vs Q E hr h => ⟨_, (pss_one (ps_ret (pe_and (pe_cmpR (k_eq (K := K) rfl hr) (pe_ix (k_ix (K := K) rfl) (pv 0) pe_int (fun _ _ => rfl)) pe_str (nomark _)) (pe_and (pe_not (pe_cal c_has_open hr (pa_cons (pv 0) pa_nil))) (pe_one (pe_not (pe_cal c_has_function hr (pa_cons (pv 0) pa_nil)))))))), to_spP (n := 1) (fun _ => k1) (fun ds hp => ?_) h⟩)
  obtain ⟨k, ⟨hw, hz⟩, rfl⟩ := hp
  change WS K _ [.dat (toD k)] [] _
  refine ws_ret (w_andV (w_word (.inr (.inl rfl)) (w_var rfl ⟨rfl, exb (iteB (fun h1 => ?_) fun h1 => ?_)⟩)))
  · refine w_andV (w_notV (w_call (wa_cons (w_var rfl (wa_nil (m1 ⟨⟨k, ⟨hw, hz⟩, rfl⟩, fun d hd => ?_⟩))))))
    rw [hd k rfl]
    refine exb (exb (iteB (fun h2 => ?_) fun h2 => ?_))
    · refine w_notV (w_call (wa_cons (w_var rfl (wa_nil (m1 ⟨⟨k, ⟨hw, hz⟩, rfl⟩, fun d hd => ?_⟩)))))
      rw [hd k rfl]
      exact exb (kfin (by unfold ansK; rw [h1, h2]; rfl))
    · exact kfin (by unfold ansK; rw [h1, h2]; rfl)
  · exact kfin (by unfold ansK; rw [h1]; rfl)
end
end Kk

set_option Elab.async false
set_option linter.all false
set_option maxRecDepth 100000
set_option maxHeartbeats 4000000
namespace Kk
open PySem PySem.Spec PyProof.Rows L2 Ab
/-- one step of the reading -/
local macro_rules | `(tactic| walk_at "w") => `(tactic| first
  | (with_reducible refine ws_seq ?_) | (with_reducible refine ws_next ?_) | (with_reducible refine ws_set ?_) | (with_reducible refine ws_par ?_) | (with_reducible refine ws_ret ?_) | (with_reducible refine ws_if ?_) | (with_reducible refine ws_drop ?_)
  | (refine w_var rfl ?_) | (with_reducible refine w_int ?_) | (with_reducible refine w_str ?_) | (with_reducible refine w_bl ?_) | (with_reducible refine w_non ?_)
  | (with_reducible refine wa_nil ?_) | (with_reducible refine wa_cons ?_) | (with_reducible refine w_tup ?_) | (with_reducible refine w_lst ?_)
  | (with_reducible refine wt_test ?_) | (with_reducible refine wt_B ?_) | (with_reducible refine wt_not ?_) | (with_reducible refine wt_and ?_) | (with_reducible refine wt_or ?_)
  | (with_reducible refine w_andV ?_) | (with_reducible refine w_orV ?_) | (with_reducible refine w_notV ?_) | (with_reducible refine w_ite ?_)
  | (with_reducible refine w_op ao_eq ?_) | (with_reducible refine w_op ao_ne ?_) | (with_reducible refine w_op ao_ix ?_) | (with_reducible refine w_op ao_plus ?_) | (with_reducible refine w_op ao_less ?_) | (with_reducible refine w_op ao_le ?_) | (with_reducible refine w_op ao_gt ?_) | (with_reducible refine w_op ao_ge ?_)
  | (with_reducible refine w_op ao_sub ?_) | (with_reducible refine w_op ao_mul ?_) | (with_reducible refine w_op ao_mod ?_) | (with_reducible refine w_op ao_div ?_) | (with_reducible refine w_op ao_pow ?_) | (with_reducible refine w_op ao_isNo ?_) | (with_reducible refine w_op ao_inSg ?_) | (with_reducible refine w_op ao_inSeq ?_) | (with_reducible refine w_op ao_ninSeq ?_)
  | (with_reducible refine w_cb ac_len ?_) | (with_reducible refine w_cb ac_tupleOf ?_) | (with_reducible refine w_cb ac_intOf ?_) | (with_reducible refine w_cb ac_all ?_) | (with_reducible refine w_cb ac_any ?_)
  | (with_reducible refine w_isi (by decide) ?_) | (with_reducible refine w_isi2 (by decide) (by decide) ?_) | (with_reducible refine w_sl ?_) | (with_reducible refine wo_none ?_) | (with_reducible refine wo_some ?_)
  | (with_reducible refine w_chain ao_le ao_le ?_) | (with_reducible refine w_call ?_))
local macro_rules | `(tactic| walk_at "v") => `(tactic| first
  | (with_reducible refine m0 ?_) | (with_reducible refine m1 ?_) | (with_reducible refine m2 ?_) | (with_reducible refine m3 ?_) | (with_reducible refine m5 ?_)
  | (with_reducible refine exb ?_) | (with_reducible refine exi ?_) | (with_reducible refine exl ?_) | (with_reducible refine exql ?_) | (with_reducible refine exqt ?_)
  | (refine fixt rfl ?_) | (refine fixl rfl ?_) | (refine fslt rfl ?_) | (refine fsll rfl ?_)
  | (with_reducible refine flent ?_; dsimp only [List.length_cons, List.length_nil]) | (with_reducible refine flenl ?_; dsimp only [List.length_cons, List.length_nil])
  | (with_reducible refine fii (by first | trivial | decide) ?_) | (with_reducible refine fpi ?_) | (with_reducible refine flti ?_) | (with_reducible refine fint ?_) | (with_reducible refine ftupl ?_) | (with_reducible refine ftupt ?_)
  | (with_reducible refine feq (by decide +kernel) (by decide +kernel) ?_) | (with_reducible refine fne (by decide +kernel) (by decide +kernel) ?_)
  | (with_reducible refine iteK rfl ?_) | (with_reducible refine iteN rfl ?_) | (with_reducible refine iteK (by decide +kernel) ?_) | (with_reducible refine iteN (by decide +kernel) ?_))
local macro_rules | `(tactic| walk_at "ww") => `(tactic| repeat (first | walk_at "w" | walk_at "v"))

/-! ### places of lists, flat paths -/
theorem sum_le {α : Type} {f g : α → Nat} : ∀ {l : List α}, (∀ x ∈ l, f x ≤ g x) → (l.map f).sum ≤ (l.map g).sum
  | [], _ => Nat.le_refl _
  | a :: l, h => by
    rw [List.map_cons, List.map_cons, List.sum_cons, List.sum_cons]
    have := h a List.mem_cons_self
    have := sum_le (f := f) (g := g) fun x hx => h x (List.mem_cons_of_mem _ hx)
    omega
def starS : PyData := .str "*"
mutual
def plc : Kd → List PyData → List (List PyData)
  | .lst k, s => s :: plc k (s ++ [starS])
  | .rcd f, s => plcF f s
  | .base _, _ => []
  | .any _, _ => []
  | .fn _ _, _ => []
def plcF : Kf → List PyData → List (List PyData)
  | .nil, _ => []
  | .cons l k r, s => plc k (s ++ [.str l]) ++ plcF r s
end
mutual
def flt : Kd → List PyData → List (List PyData)
  | .base _, s => [s]
  | .rcd f, s => fltF f s
  | .lst _, _ => []
  | .any _, _ => []
  | .fn _ _, _ => []
def fltF : Kf → List PyData → List (List PyData)
  | .nil, _ => []
  | .cons l k r, s => flt k (s ++ [.str l]) ++ fltF r s
end
/-- what is laid behind a kind on the way -/
def nx (s : List PyData) : Kd → List (List PyData × Kd)
  | .lst k => [(s ++ [starS], k)]
  | .rcd f => (fields f).map fun p => (s ++ [.str p.1], p.2)
  | _ => []
def nxf (s : List PyData) : Kd → List (List PyData × Kd)
  | .rcd f => (fields f).map fun p => (s ++ [.str p.1], p.2)
  | _ => []
theorem plcF_map : ∀ f s, plcF f s = ((fields f).map fun p => (s ++ [PyData.str p.1], p.2)).flatMap fun q => plc q.2 q.1
  | .nil, _ => rfl
  | .cons l k r, s => by
    show plc k (s ++ [.str l]) ++ plcF r s = _
    rw [plcF_map r s]; rfl
theorem fltF_map : ∀ f s, fltF f s = ((fields f).map fun p => (s ++ [PyData.str p.1], p.2)).flatMap fun q => flt q.2 q.1
  | .nil, _ => rfl
  | .cons l k r, s => by
    show flt k (s ++ [.str l]) ++ fltF r s = _
    rw [fltF_map r s]; rfl
def hdp (s : List PyData) : Kd → List (List PyData)
  | .lst _ => [s]
  | _ => []
def hdf (s : List PyData) : Kd → List (List PyData)
  | .base _ => [s]
  | _ => []
theorem plc_nx (k : Kd) (s : List PyData) : plc k s = hdp s k ++ (nx s k).flatMap fun q => plc q.2 q.1 := by
  cases k with
  | lst k => simp [plc, nx, hdp]
  | rcd f => simp only [plc, nx, hdp, plcF_map]; rfl
  | base b => rfl
  | any n => rfl
  | fn a b => rfl
theorem flt_nx (k : Kd) (s : List PyData) : flt k s = hdf s k ++ (nxf s k).flatMap fun q => flt q.2 q.1 := by
  cases k with
  | lst k => rfl
  | rcd f => simp only [flt, nxf, hdf, fltF_map]; rfl
  | base b => rfl
  | any n => rfl
  | fn a b => rfl
theorem nx_sz {k : Kd} {s : List PyData} : ((nx s k).map fun q => sz q.2).sum + 1 ≤ sz k := by
  rw [sz_kids]
  cases k with
  | lst k => simp [nx, kids]
  | rcd f => simp only [nx, kids, List.map_map]; exact Nat.le_refl _
  | base b => exact Nat.le_add_left _ _
  | any n => exact Nat.le_add_left _ _
  | fn a b => exact Nat.le_add_left _ _
theorem nxf_sz {k : Kd} {s : List PyData} : ((nxf s k).map fun q => sz q.2).sum + 1 ≤ sz k := by
  rw [sz_kids]
  cases k with
  | rcd f => simp only [nxf, kids, List.map_map]; exact Nat.le_refl _
  | lst k => exact Nat.le_add_left _ _
  | base b => exact Nat.le_add_left _ _
  | any n => exact Nat.le_add_left _ _
  | fn a b => exact Nat.le_add_left _ _
theorem nx_in {k : Kd} {s : List PyData} {q : List PyData × Kd} (h : q ∈ nx s k) (hw : wf k) : wf q.2 ∧ sz q.2 + 1 ≤ sz k ∧ q.1.length = s.length + 1 := by
  have z : sz q.2 + 1 ≤ sz k := by
    have := nx_sz (k := k) (s := s)
    have := mem_le_sum (List.mem_map_of_mem (f := fun q : List PyData × Kd => sz q.2) h)
    omega
  cases k with
  | lst k => simp [nx] at h; subst h; exact ⟨hw, z, by simp⟩
  | rcd f =>
    obtain ⟨p, hp, rfl⟩ := List.mem_map.mp h
    exact ⟨(wfF_iff f).mp hw.2 p hp, z, by simp⟩
  | base b => cases h
  | any n => cases h
  | fn a b => cases h
theorem nxf_in {k : Kd} {s : List PyData} {q : List PyData × Kd} (h : q ∈ nxf s k) (hw : wf k) : wf q.2 ∧ sz q.2 + 1 ≤ sz k ∧ q.1.length = s.length + 1 := by
  cases k with
  | rcd f => exact nx_in (k := .rcd f) h hw
  | lst k => cases h
  | base b => cases h
  | any n => cases h
  | fn a b => cases h
def pr (q : List PyData × Kd) : PyData := .tuple [.tuple q.1, toD q.2]
def plcD (k : Kd) : PyData := .tuple ((plc k []).map .tuple)
def fltD (k : Kd) : PyData := .tuple ((flt k []).map .tuple)
theorem plc_len (k : Kd) : ∀ s, (plc k s).length ≤ sz k := by
  have key : ∀ n, ∀ k, sz k ≤ n → ∀ s, (plc k s).length ≤ sz k := by
    intro n
    induction n with
    | zero => intro k h; rw [sz_kids] at h; omega
    | succ n ih =>
      intro k h s
      rw [plc_nx, List.length_append, List.length_flatMap]
      have h1 := nx_sz (k := k) (s := s)
      have h2 : ((nx s k).map fun q => (plc q.2 q.1).length).sum ≤ ((nx s k).map fun q => sz q.2).sum := by
        apply sum_le
        intro q hq
        have := mem_le_sum (List.mem_map_of_mem (f := fun q : List PyData × Kd => sz q.2) hq)
        exact ih q.2 (by omega) q.1
      have h3 : (hdp s k).length ≤ 1 := by cases k <;> simp [hdp]
      omega
  exact key _ k (Nat.le_refl _)
theorem ms_p {a b : Addr} {X Y Z : List PyData} {t u : Bool} (h : a ≠ b) : mset [(b, t, X), (a, u, Y)] b Z = [(b, t, Z), (a, u, Y)] := ms_1 h
theorem eq_rec (k : Kd) : headIs "record" (toD k) = (match k with | .rcd _ => true | _ => false) := by
  cases k with
  | rcd f => show (("record" : Str) == "record") = true; decide +kernel
  | base b => rfl
  | any n => show (("any" : Str) == "record") = false; decide +kernel
  | lst n => show (("list" : Str) == "record") = false; decide +kernel
  | fn a b => show (("function" : Str) == "record") = false; decide +kernel
theorem eq_lst (k : Kd) : headIs "list" (toD k) = (match k with | .lst _ => true | _ => false) := by
  cases k with
  | lst f => show (("list" : Str) == "list") = true; decide +kernel
  | base b => rfl
  | any n => show (("any" : Str) == "list") = false; decide +kernel
  | rcd n => show (("record" : Str) == "list") = false; decide +kernel
  | fn a b => show (("function" : Str) == "list") = false; decide +kernel
section
variable {P : Program} {w : World} {K : PySem.W.Frag} {mg : Str → Option Value} {base : Heap} {aB : Addr} (T : Txt K mg aB)

include T in
theorem ok_list_places (F : Dfn K mg "list_places" s_list_places ["kind"]) : Cal P w K mg base 2 "list_places" ["kind"] (spK plcD K) := by
  refine F.ok sc_list_places (fun vs H Q E h => spP_len (n := 1) (fun _ => k1) h) (fun f cdv A outer s H vs Q E hr h => ⟨_, (pss_cons (ps_set (i := 1) sc_list_places.nd rfl (by first | exact .inl rfl | exact .inr rfl) (pe_lst pa_nil))
      (pss_cons (ps_set (i := 2) sc_list_places.nd rfl (by first | exact .inl rfl | exact .inr rfl) (pe_lst (pa_cons (pe_tup (pa_cons (pe_tup pa_nil) (pa_cons (pv 0) pa_nil))) pa_nil)))
      (pss_cons (ps_while PassesOwn.never (k_tru (K := K) rfl (pv 2)) (pss_cons (ps_asg (pe_bm0 PySem.F.plainAttrs_list PySem.F.slot_list_pop PySem.F.type_list_pop mt_pop (pv 2)) (k_tup (K := K) (n := 2) rfl rfl (pgs_cons (pg_name (i := 3) sc_list_places.nd rfl (by first | exact .inl rfl | exact .inr rfl)) (pgs_cons (pg_name (i := 4) sc_list_places.nd rfl (by first | exact .inl rfl | exact .inr rfl)) pgs_nil))))
      (pss_one (ps_if (pt_cmpR (k_eq (K := K) rfl hr) (pe_ix (k_ix (K := K) rfl) (pv 4) pe_int (fun _ _ => rfl)) pe_str (nomark _)) (pss_cons (ps_expr (pe_bm PySem.F.plainAttrs_list PySem.F.slot_list_append PySem.F.type_list_append mt_append (pv 1) (pa_cons (pv 3) pa_nil)))
      (pss_one (ps_expr (pe_bm PySem.F.plainAttrs_list PySem.F.slot_list_append PySem.F.type_list_append mt_append (pv 2) (pa_cons (pe_tup (pa_cons (pe_op (k_plus (K := K) rfl) (pv 3) (pe_tup (pa_cons pe_str pa_nil))) (pa_cons (pe_ix (k_ix (K := K) rfl) (pv 4) pe_int (fun _ _ => rfl)) pa_nil))) pa_nil))))) (pss_one (ps_if (pt_cmpR (k_eq (K := K) rfl hr) (pe_ix (k_ix (K := K) rfl) (pv 4) pe_int (fun _ _ => rfl)) pe_str (nomark _)) (pss_one (ps_for PassesOwn.never rfl (k_rev (K := K) rfl (by rfl) T.n_reversed (pe_ix (k_ix (K := K) rfl) (pv 4) pe_int (fun _ _ => rfl))) (k_tup (K := K) (n := 2) rfl rfl (pgs_cons (pg_name (i := 5) sc_list_places.nd rfl (by first | exact .inl rfl | exact .inr rfl)) (pgs_cons (pg_name (i := 6) sc_list_places.nd rfl (by first | exact .inl rfl | exact .inr rfl)) pgs_nil))) (pss_one (ps_expr (pe_bm PySem.F.plainAttrs_list PySem.F.slot_list_append PySem.F.type_list_append mt_append (pv 2) (pa_cons (pe_tup (pa_cons (pe_op (k_plus (K := K) rfl) (pv 3) (pe_tup (pa_cons (pv 5) pa_nil))) (pa_cons (pv 6) pa_nil))) pa_nil)))))) pss_nil))))))
      (pss_one (ps_ret (pe_callTy (k_tuple (K := K) rfl) (by rfl) T.n_tuple (by decide +kernel) (pa_cons (pv 1) pa_nil))))))), to_spP (n := 1) (fun _ => k1) (fun ds hp => ?_) h⟩)
  dsimp only [cxOf, L2.Cx.nox, L2.Cx.wish]
  obtain ⟨k0, ⟨hw, hz⟩, rfl⟩ := hp
  change WS K _ [.dat (toD k0), .no, .no, .no, .no, .no, .no] [] _
  refine ws_seq (ws_new (wa_nil (m0 ⟨by simp, fun a _ => ?_⟩)))
  refine ws_seq (ws_new (wa_cons (w_tup (wa_cons (w_tup (wa_nil (m0 ⟨by simp, ?_⟩))))))) 
  refine wa_cons (w_var rfl (wa_nil (m2 ⟨by simp, wa_nil (m1 ⟨by simp, fun b hb => ?_⟩)⟩)))
  have hab : a ≠ b := hb (a, true, []) (List.mem_singleton.mpr rfl)
  change WS K _ [.dat (toD k0), .own a, .own b, .no, .no, .no, .no] [(b, true, [pr ([], k0)]), (a, true, [])] _
  refine ws_seq (ws_while (fun m as' M' => ∃ (F : List (List PyData)) (qs : List (List PyData × Kd)) (x y z u : Sv), as' = [.dat (toD k0), .own a, .own b, x, y, z, u] ∧ M' = [(b, true, qs.map pr), (a, true, F.map .tuple)] ∧ F ++ qs.reverse.flatMap (fun q => plc q.2 q.1) = plc k0 [] ∧
      m = (qs.map fun q => sz q.2).sum ∧ F.length + m ≤ 10000 ∧ ∀ q ∈ qs, wf q.2 ∧ q.1.length + sz q.2 ≤ 10001)
    (sz k0) ⟨[], [([], k0)], .no, .no, .no, .no, rfl, rfl, by simp, by simp, by simpa using hz, fun e he => by rw [List.mem_singleton.mp he]; exact ⟨hw, by simpa using by omega⟩⟩ ?_)
  rintro m as' M' ⟨F, qs, x, y, z, u, rfl, rfl, hF, rfl, hFl, hqs⟩
  refine wt_own rfl (List.mem_cons_self) ?_
  rcases List.eq_nil_or_concat qs with rfl | ⟨init, q, rfl⟩
  · refine iteN rfl ?_
    refine ws_frz (p := a) (xs := F.map .tuple) (by simp) ?_
    have hF : F = plc k0 [] := by simpa using hF
    have e1 : mdel [(b, true, ([] : List (List PyData × Kd)).map pr), (a, true, F.map .tuple)] a = [(b, true, [])] := by
      simp [mdel, Ne.symm hab]
    have e2 : [Sv.dat (toD k0), .own a, .own b, x, y, z, u].map (afrz a (F.map .tuple)) = [.dat (toD k0), .dat (.list (F.map .tuple)), .own b, afrz a (F.map .tuple) x, afrz a (F.map .tuple) y, afrz a (F.map .tuple) z, afrz a (F.map .tuple) u] := by
      simp [afrz, Ne.symm hab]
    rw [e1, e2]
    refine ws_ret (w_cb ac_tupleOf (wa_cons (w_var rfl (wa_nil (m1 (ftupl ?_))))))
    exact kfin (by rw [hF]; rfl)
  · rw [List.concat_eq_append] at hF hqs hFl ⊢
    obtain ⟨s, e⟩ := q
    have hne : ((init ++ [(s, e)]).map pr).isEmpty = false := by simp
    rw [hne]
    refine iteK rfl ?_
    have hq := hqs (s, e) (by simp)
    have hq1 : wf e := hq.1
    have hq2 : s.length + sz e ≤ 10001 := hq.2
    have hms : ((init ++ [(s, e)]).map fun q => sz q.2).sum = (init.map fun q => sz q.2).sum + sz e := by simp
    have hin : init.length ≤ (init.map fun q => sz q.2).sum := len_le_sum fun q _ => by rw [sz_kids]; omega
    have hse : 1 ≤ sz e := by rw [sz_kids]; omega
    rw [hms] at hFl
    refine ws_seq (ws_popG ga_pair rfl (List.mem_cons_self) (d := pr (s, e)) (by simp) ⟨.tuple s, toD e, .inl rfl, ?_⟩)
    rw [ms_p hab, show ((init ++ [(s, e)]).map pr).dropLast = init.map pr by simp]
    change WS K _ [.dat (toD k0), .own a, .own b, .dat (.tuple s), .dat (toD e), z, u] [(b, true, init.map pr), (a, true, F.map .tuple)] _
    -- what holds behind the turn
    have again : ∀ (ch : List (List PyData × Kd)) (z u : Sv), ch = (nx s e).reverse → ∃ j, j < ((init ++ [(s, e)]).map fun q => sz q.2).sum ∧ ∃ (F' : List (List PyData)) (qs : List (List PyData × Kd)) (x' y' z' u' : Sv), [Sv.dat (toD k0), .own a, .own b, .dat (.tuple s), .dat (toD e), z, u] = [.dat (toD k0), .own a, .own b, x', y', z', u'] ∧
        [(b, true, (init ++ ch).map pr), (a, true, (F ++ hdp s e).map .tuple)] = [(b, true, qs.map pr), (a, true, F'.map .tuple)] ∧ F' ++ qs.reverse.flatMap (fun q => plc q.2 q.1) = plc k0 [] ∧ j = (qs.map fun q => sz q.2).sum ∧ F'.length + j ≤ 10000 ∧ ∀ q ∈ qs, wf q.2 ∧ q.1.length + sz q.2 ≤ 10001 := by
      rintro ch z u rfl
      have hnx := nx_sz (k := e) (s := s)
      have hs2 : ((init ++ (nx s e).reverse).map fun q => sz q.2).sum = (init.map fun q => sz q.2).sum + ((nx s e).map fun q => sz q.2).sum := by
        rw [List.map_append, List.sum_append, List.map_reverse, List.sum_reverse]
      refine ⟨_, ?_, F ++ hdp s e, init ++ (nx s e).reverse, _, _, _, _, rfl, rfl, ?_, rfl, ?_, ?_⟩
      · rw [hs2, hms]; omega
      · rw [← hF, List.reverse_append, List.reverse_reverse, List.flatMap_append, List.append_assoc]
        simp [plc_nx e s]
      · rw [hs2, List.length_append]
        have : (hdp s e).length ≤ 1 := by cases e <;> simp [hdp]
        omega
      · intro q hq
        rcases List.mem_append.mp hq with hq | hq
        · exact hqs q (by simp [hq])
        · obtain ⟨i1, i2, i3⟩ := nx_in (List.mem_reverse.mp hq) hq1
          exact ⟨i1, by omega⟩

    refine ws_if (wt_test (w_word (.inr (.inl rfl)) (w_var rfl ⟨rfl, exb ?_⟩)))
    rw [eq_lst]
    cases e with
    | lst k =>
      refine iteK rfl ?_
      refine ws_seq (ws_app (p := a) (fl := true) (xs := F.map .tuple) rfl (by simp) (w_var rfl ⟨true, F.map .tuple, by simp, by rw [List.length_map]; omega, ?_⟩))
      rw [ms_2 hab]
      refine ws_app (p := b) rfl (List.mem_cons_self) (w_tup (wa_cons (w_op ao_plus (w_var rfl (w_tup (wa_cons (w_str (wa_nil (m1 ⟨by simp, ?_⟩)))))))))
      refine fpt (by simp; omega) (wa_cons (w_op ao_ix (w_var rfl (w_int (fixj (j := 1) rfl (wa_nil (m2 ⟨by simp, true, _, List.mem_cons_self, by rw [List.length_map]; omega, ?_⟩)))))))
      rw [ms_p hab]
      have t := again [(s ++ [starS], k)] z u rfl
      rw [show (init ++ [(s ++ [starS], k)]).map pr = init.map pr ++ [pr (s ++ [starS], k)] by simp, show (F ++ hdp s (Kd.lst k)).map PyData.tuple = F.map .tuple ++ [.tuple s] by simp [hdp]] at t
      exact t
    | rcd f =>
      refine iteN rfl ?_
      refine ws_if (wt_test (w_word (.inr (.inr (.inr rfl))) (w_var rfl ⟨rfl, exb ?_⟩)))
      rw [eq_rec]
      refine iteK rfl ?_

      refine ws_for ga_pair (wi_rev (w_op ao_ix (w_var rfl (w_int (fixt rfl ?_)))))
      refine ⟨_, .inr rfl, ?_⟩
      have lf : (fields f).length ≤ 5 := by
        have := (lab_facts hq1.1).1
        rw [labels_fields, List.length_map] at this
        exact this
      refine ⟨fun i as' M' => ∃ z u, as' = [.dat (toD k0), .own a, .own b, .dat (.tuple s), .dat (toD (.rcd f)), z, u] ∧ M' = [(b, true, init.map pr ++ (((fields f).map fun p => pr (s ++ [.str p.1], p.2)).reverse.take i)), (a, true, F.map .tuple)], ⟨z, u, rfl, by simp⟩, ?_, ?_⟩
      · rintro i d as' M' hd ⟨z, u, rfl, rfl⟩
        have hi := (List.getElem?_eq_some_iff.mp hd).1
        rw [List.length_reverse, toF_fields, List.length_map] at hi
        rw [toF_fields, ← List.map_reverse, List.getElem?_map] at hd
        cases hp : (fields f).reverse[i]? with
        | none => rw [hp] at hd; cases hd
        | some p =>
          rw [hp] at hd
          cases hd
          refine ⟨.str p.1, toD p.2, .inl rfl, ?_⟩
          change WS K _ [.dat (toD k0), .own a, .own b, .dat (.tuple s), .dat (toD (.rcd f)), .dat (.str p.1), .dat (toD p.2)] _ _
          refine ws_app (p := b) rfl (List.mem_cons_self) (w_tup (wa_cons (w_op ao_plus (w_var rfl (w_tup (wa_cons (w_var rfl (wa_nil (m1 ⟨by simp, ?_⟩)))))))))
          refine fpt (by simp; omega) (wa_cons (w_var rfl (wa_nil (m2 ⟨by simp, true, _, List.mem_cons_self, by rw [List.length_append, List.length_map, List.length_take]; omega, ?_⟩))))
          rw [ms_p hab]
          refine ⟨_, _, rfl, ?_⟩
          have e3 : ((fields f).map fun p => pr (s ++ [.str p.1], p.2)).reverse[i]? = some (pr (s ++ [.str p.1], p.2)) := by
            rw [← List.map_reverse, List.getElem?_map, hp]; rfl
          rw [List.take_add_one, e3, List.append_assoc]
          rfl
      · rintro as' M' ⟨z, u, rfl, rfl⟩
        have t := again _ z u rfl
        have e4 : (init ++ (nx s (Kd.rcd f)).reverse).map pr = init.map pr ++ (((fields f).map fun p => pr (s ++ [.str p.1], p.2)).reverse.take (toF f).reverse.length) := by
          rw [toF_fields, List.length_reverse, List.length_map, List.take_of_length_le (by simp), List.map_append, List.map_reverse]
          congr 2
          show ((fields f).map _).map pr = _
          rw [List.map_map]; rfl
        rw [e4, show F ++ hdp s (Kd.rcd f) = F from List.append_nil F] at t
        exact t

    | base k =>
      refine iteN rfl ?_
      refine ws_if (wt_test (w_word (.inr (.inr (.inr rfl))) (w_var rfl ⟨rfl, exb ?_⟩)))
      rw [eq_rec]
      refine iteN rfl (ws_next ?_)
      have t := again [] z u rfl
      rw [List.append_nil, show F ++ hdp s (Kd.base k) = F from List.append_nil F] at t
      exact t
    | any k =>
      refine iteN rfl ?_
      refine ws_if (wt_test (w_word (.inr (.inr (.inr rfl))) (w_var rfl ⟨rfl, exb ?_⟩)))
      rw [eq_rec]
      refine iteN rfl (ws_next ?_)
      have t := again [] z u rfl
      rw [List.append_nil, show F ++ hdp s (Kd.any k) = F from List.append_nil F] at t
      exact t
    | fn k1 k2 =>
      refine iteN rfl ?_
      refine ws_if (wt_test (w_word (.inr (.inr (.inr rfl))) (w_var rfl ⟨rfl, exb ?_⟩)))
      rw [eq_rec]
      refine iteN rfl (ws_next ?_)
      have t := again [] z u rfl
      rw [List.append_nil, show F ++ hdp s (Kd.fn k1 k2) = F from List.append_nil F] at t
      exact t


include T in
theorem ok_ask_count (F : Dfn K mg "ask_count" s_ask_count ["kind"]) (c_list_places : Cal P w K mg base 2 "list_places" ["kind"] (spK plcD K)) : Cal P w K mg base 3 "ask_count" ["kind"] (spK (fun k => .int ((plc k []).length : Int)) K) := by
  refine F.ok sc_ask_count (fun vs H Q E h => spP_len (n := 1) (fun _ => k1) h) (fun f cdv A outer s H vs Q E hr h => ⟨_, (pss_one (ps_ret (pe_callB (k_len (K := K) rfl) (by rfl) T.n_len (by decide +kernel) (pa_cons (pe_cal c_list_places hr (pa_cons (pv 0) pa_nil)) pa_nil)))), to_spP (n := 1) (fun _ => k1) (fun ds hp => ?_) h⟩)
  obtain ⟨k, ⟨hw, hz⟩, rfl⟩ := hp
  change WS K _ [.dat (toD k)] [] _
  refine ws_ret (w_cb ac_len (wa_cons (w_call (wa_cons (w_var rfl (wa_nil (m1 ⟨⟨k, ⟨hw, hz⟩, rfl⟩, fun d hd => ?_⟩)))))))
  rw [hd k rfl]
  refine wa_nil (m1 (flent ?_))
  exact kfin (by rw [List.length_map])
end
end Kk

set_option Elab.async false
set_option linter.all false
set_option maxRecDepth 100000
set_option maxHeartbeats 4000000
namespace Kk
open PySem PySem.Spec PyProof.Rows L2 Ab
/-- one step of the reading -/
local macro_rules | `(tactic| walk_at "w") => `(tactic| first
  | (with_reducible refine ws_seq ?_) | (with_reducible refine ws_next ?_) | (with_reducible refine ws_set ?_) | (with_reducible refine ws_par ?_) | (with_reducible refine ws_ret ?_) | (with_reducible refine ws_if ?_) | (with_reducible refine ws_drop ?_)
  | (refine w_var rfl ?_) | (with_reducible refine w_int ?_) | (with_reducible refine w_str ?_) | (with_reducible refine w_bl ?_) | (with_reducible refine w_non ?_)
  | (with_reducible refine wa_nil ?_) | (with_reducible refine wa_cons ?_) | (with_reducible refine w_tup ?_) | (with_reducible refine w_lst ?_)
  | (with_reducible refine wt_test ?_) | (with_reducible refine wt_B ?_) | (with_reducible refine wt_not ?_) | (with_reducible refine wt_and ?_) | (with_reducible refine wt_or ?_)
  | (with_reducible refine w_andV ?_) | (with_reducible refine w_orV ?_) | (with_reducible refine w_notV ?_) | (with_reducible refine w_ite ?_)
  | (with_reducible refine w_op ao_eq ?_) | (with_reducible refine w_op ao_ne ?_) | (with_reducible refine w_op ao_ix ?_) | (with_reducible refine w_op ao_plus ?_) | (with_reducible refine w_op ao_less ?_) | (with_reducible refine w_op ao_le ?_) | (with_reducible refine w_op ao_gt ?_) | (with_reducible refine w_op ao_ge ?_)
  | (with_reducible refine w_op ao_sub ?_) | (with_reducible refine w_op ao_mul ?_) | (with_reducible refine w_op ao_mod ?_) | (with_reducible refine w_op ao_div ?_) | (with_reducible refine w_op ao_pow ?_) | (with_reducible refine w_op ao_isNo ?_) | (with_reducible refine w_op ao_inSg ?_) | (with_reducible refine w_op ao_inSeq ?_) | (with_reducible refine w_op ao_ninSeq ?_)
  | (with_reducible refine w_cb ac_len ?_) | (with_reducible refine w_cb ac_tupleOf ?_) | (with_reducible refine w_cb ac_intOf ?_) | (with_reducible refine w_cb ac_all ?_) | (with_reducible refine w_cb ac_any ?_)
  | (with_reducible refine w_isi (by decide) ?_) | (with_reducible refine w_isi2 (by decide) (by decide) ?_) | (with_reducible refine w_sl ?_) | (with_reducible refine wo_none ?_) | (with_reducible refine wo_some ?_)
  | (with_reducible refine w_chain ao_le ao_le ?_) | (with_reducible refine w_call ?_))
local macro_rules | `(tactic| walk_at "v") => `(tactic| first
  | (with_reducible refine m0 ?_) | (with_reducible refine m1 ?_) | (with_reducible refine m2 ?_) | (with_reducible refine m3 ?_) | (with_reducible refine m5 ?_)
  | (with_reducible refine exb ?_) | (with_reducible refine exi ?_) | (with_reducible refine exl ?_) | (with_reducible refine exql ?_) | (with_reducible refine exqt ?_)
  | (refine fixt rfl ?_) | (refine fixl rfl ?_) | (refine fslt rfl ?_) | (refine fsll rfl ?_)
  | (with_reducible refine flent ?_; dsimp only [List.length_cons, List.length_nil]) | (with_reducible refine flenl ?_; dsimp only [List.length_cons, List.length_nil])
  | (with_reducible refine fii (by first | trivial | decide) ?_) | (with_reducible refine fpi ?_) | (with_reducible refine flti ?_) | (with_reducible refine fint ?_) | (with_reducible refine ftupl ?_) | (with_reducible refine ftupt ?_)
  | (with_reducible refine feq (by decide +kernel) (by decide +kernel) ?_) | (with_reducible refine fne (by decide +kernel) (by decide +kernel) ?_)
  | (with_reducible refine iteK rfl ?_) | (with_reducible refine iteN rfl ?_) | (with_reducible refine iteK (by decide +kernel) ?_) | (with_reducible refine iteN (by decide +kernel) ?_))
local macro_rules | `(tactic| walk_at "ww") => `(tactic| repeat (first | walk_at "w" | walk_at "v"))

def good (k : Kd) : Prop := wf k ∧ dep k ≤ 12
abbrev spG (f : Kd → PyData) (K : PySem.W.Frag) : Sp := spP (fun ds => ∃ k, (good k ∧ sz k ≤ 10000) ∧ ds = [toD k]) (fun ds x => ∀ k, ds = [toD k] → x = f k) K
theorem g1 {ds : List PyData} (h : ∃ k, (good k ∧ sz k ≤ 10000) ∧ ds = [toD k]) : ds.length = 1 := by
  obtain ⟨k, _, rfl⟩ := h; rfl
theorem nxf_inG {k : Kd} {s : List PyData} {q : List PyData × Kd} (h : q ∈ nxf s k) (hw : good k) : good q.2 ∧ sz q.2 + 1 ≤ sz k ∧ q.1.length = s.length + 1 := by
  obtain ⟨a, b, c⟩ := nxf_in h hw.1
  refine ⟨⟨a, ?_⟩, b, c⟩
  cases k with
  | rcd f =>
    obtain ⟨p, hp, rfl⟩ := List.mem_map.mp h
    have z : depF f + 1 ≤ 12 := hw.2
    exact depF_le (by omega) p hp
  | lst k => cases h
  | base b => cases h
  | any n => cases h
  | fn a b => cases h
def isBs : Kd → Bool
  | .base _ => true
  | _ => false
theorem base_of (e : Kd) (hs : SeqAt.shaped (toD e) = true) : fIsBase [toD e] = some (.bool (isBs e)) := by
  show (if SeqAt.shaped (toD e) = true then some (PyData.bool (bases.any fun z => PyData.eqv z (toD e))) else none) = _
  rw [if_pos hs]
  cases e with
  | base b => cases b <;> exact congrArg (fun x => some (PyData.bool x)) (show _ = true by decide +kernel)
  | any n => rfl
  | lst n => rfl
  | fn a b => rfl
  | rcd f => rfl
section
variable {P : Program} {w : World} {K : PySem.W.Frag} {mg : Str → Option Value} {base : Heap} {aB : Addr} (T : Txt K mg aB)

include T in
theorem ok_flat_paths (F : Dfn K mg "flat_paths" s_flat_paths ["kind"]) (c_is_base : Cal P w K mg base 1 "is_base" ["kind"] (spF fIsBase K)) : Cal P w K mg base 2 "flat_paths" ["kind"] (spG fltD K) := by
  refine F.ok sc_flat_paths (fun vs H Q E h => spP_len (n := 1) (fun _ => g1) h) (fun f cdv A outer s H vs Q E hr h => ⟨_, (pss_cons (ps_set (i := 1) sc_flat_paths.nd rfl (by first | exact .inl rfl | exact .inr rfl) (pe_lst pa_nil))
      (pss_cons (ps_set (i := 2) sc_flat_paths.nd rfl (by first | exact .inl rfl | exact .inr rfl) (pe_lst (pa_cons (pe_tup (pa_cons (pe_tup pa_nil) (pa_cons (pv 0) pa_nil))) pa_nil)))
      (pss_cons (ps_while PassesOwn.never (k_tru (K := K) rfl (pv 2)) (pss_cons (ps_asg (pe_bm0 PySem.F.plainAttrs_list PySem.F.slot_list_pop PySem.F.type_list_pop mt_pop (pv 2)) (k_tup (K := K) (n := 2) rfl rfl (pgs_cons (pg_name (i := 3) sc_flat_paths.nd rfl (by first | exact .inl rfl | exact .inr rfl)) (pgs_cons (pg_name (i := 4) sc_flat_paths.nd rfl (by first | exact .inl rfl | exact .inr rfl)) pgs_nil))))
      (pss_one (ps_if (pt_val (pe_cal c_is_base hr (pa_cons (pv 4) pa_nil))) (pss_one (ps_expr (pe_bm PySem.F.plainAttrs_list PySem.F.slot_list_append PySem.F.type_list_append mt_append (pv 1) (pa_cons (pv 3) pa_nil)))) (pss_one (ps_if (pt_cmpR (k_eq (K := K) rfl hr) (pe_ix (k_ix (K := K) rfl) (pv 4) pe_int (fun _ _ => rfl)) pe_str (nomark _)) (pss_one (ps_for PassesOwn.never rfl (k_rev (K := K) rfl (by rfl) T.n_reversed (pe_ix (k_ix (K := K) rfl) (pv 4) pe_int (fun _ _ => rfl))) (k_tup (K := K) (n := 2) rfl rfl (pgs_cons (pg_name (i := 5) sc_flat_paths.nd rfl (by first | exact .inl rfl | exact .inr rfl)) (pgs_cons (pg_name (i := 6) sc_flat_paths.nd rfl (by first | exact .inl rfl | exact .inr rfl)) pgs_nil))) (pss_one (ps_expr (pe_bm PySem.F.plainAttrs_list PySem.F.slot_list_append PySem.F.type_list_append mt_append (pv 2) (pa_cons (pe_tup (pa_cons (pe_op (k_plus (K := K) rfl) (pv 3) (pe_tup (pa_cons (pv 5) pa_nil))) (pa_cons (pv 6) pa_nil))) pa_nil)))))) pss_nil))))))
      (pss_one (ps_ret (pe_callTy (k_tuple (K := K) rfl) (by rfl) T.n_tuple (by decide +kernel) (pa_cons (pv 1) pa_nil))))))), to_spP (n := 1) (fun _ => g1) (fun ds hp => ?_) h⟩)
  dsimp only [cxOf, L2.Cx.nox, L2.Cx.wish]
  obtain ⟨k0, ⟨hw, hz⟩, rfl⟩ := hp
  change WS K _ [.dat (toD k0), .no, .no, .no, .no, .no, .no] [] _
  refine ws_seq (ws_new (wa_nil (m0 ⟨by simp, fun a _ => ?_⟩)))
  refine ws_seq (ws_new (wa_cons (w_tup (wa_cons (w_tup (wa_nil (m0 ⟨by simp, ?_⟩))))))) 
  refine wa_cons (w_var rfl (wa_nil (m2 ⟨by simp, wa_nil (m1 ⟨by simp, fun b hb => ?_⟩)⟩)))
  have hab : a ≠ b := hb (a, true, []) (List.mem_singleton.mpr rfl)
  change WS K _ [.dat (toD k0), .own a, .own b, .no, .no, .no, .no] [(b, true, [pr ([], k0)]), (a, true, [])] _
  refine ws_seq (ws_while (fun m as' M' => ∃ (F : List (List PyData)) (qs : List (List PyData × Kd)) (x y z u : Sv), as' = [.dat (toD k0), .own a, .own b, x, y, z, u] ∧ M' = [(b, true, qs.map pr), (a, true, F.map .tuple)] ∧ F ++ qs.reverse.flatMap (fun q => flt q.2 q.1) = flt k0 [] ∧
      m = (qs.map fun q => sz q.2).sum ∧ F.length + m ≤ 10000 ∧ ∀ q ∈ qs, good q.2 ∧ q.1.length + sz q.2 ≤ 10001)
    (sz k0) ⟨[], [([], k0)], .no, .no, .no, .no, rfl, rfl, by simp, by simp, by simpa using hz, fun e he => by rw [List.mem_singleton.mp he]; exact ⟨hw, by simpa using by omega⟩⟩ ?_)
  rintro m as' M' ⟨F, qs, x, y, z, u, rfl, rfl, hF, rfl, hFl, hqs⟩
  refine wt_own rfl (List.mem_cons_self) ?_
  rcases List.eq_nil_or_concat qs with rfl | ⟨init, q, rfl⟩
  · refine iteN rfl ?_
    refine ws_frz (p := a) (xs := F.map .tuple) (by simp) ?_
    have hF : F = flt k0 [] := by simpa using hF
    have e1 : mdel [(b, true, ([] : List (List PyData × Kd)).map pr), (a, true, F.map .tuple)] a = [(b, true, [])] := by
      simp [mdel, Ne.symm hab]
    have e2 : [Sv.dat (toD k0), .own a, .own b, x, y, z, u].map (afrz a (F.map .tuple)) = [.dat (toD k0), .dat (.list (F.map .tuple)), .own b, afrz a (F.map .tuple) x, afrz a (F.map .tuple) y, afrz a (F.map .tuple) z, afrz a (F.map .tuple) u] := by
      simp [afrz, Ne.symm hab]
    rw [e1, e2]
    refine ws_ret (w_cb ac_tupleOf (wa_cons (w_var rfl (wa_nil (m1 (ftupl ?_))))))
    exact kfin (by rw [hF]; rfl)
  · rw [List.concat_eq_append] at hF hqs hFl ⊢
    obtain ⟨s, e⟩ := q
    have hne : ((init ++ [(s, e)]).map pr).isEmpty = false := by simp
    rw [hne]
    refine iteK rfl ?_
    have hq := hqs (s, e) (by simp)
    have hq1 : good e := hq.1
    have hq2 : s.length + sz e ≤ 10001 := hq.2
    have hms : ((init ++ [(s, e)]).map fun q => sz q.2).sum = (init.map fun q => sz q.2).sum + sz e := by simp
    have hin : init.length ≤ (init.map fun q => sz q.2).sum := len_le_sum fun q _ => by rw [sz_kids]; omega
    have hse : 1 ≤ sz e := by rw [sz_kids]; omega
    rw [hms] at hFl
    refine ws_seq (ws_popG ga_pair rfl (List.mem_cons_self) (d := pr (s, e)) (by simp) ⟨.tuple s, toD e, .inl rfl, ?_⟩)
    rw [ms_p hab, show ((init ++ [(s, e)]).map pr).dropLast = init.map pr by simp]
    change WS K _ [.dat (toD k0), .own a, .own b, .dat (.tuple s), .dat (toD e), z, u] [(b, true, init.map pr), (a, true, F.map .tuple)] _
    -- what holds behind the turn
    have again : ∀ (ch : List (List PyData × Kd)) (z u : Sv), ch = (nxf s e).reverse → ∃ j, j < ((init ++ [(s, e)]).map fun q => sz q.2).sum ∧ ∃ (F' : List (List PyData)) (qs : List (List PyData × Kd)) (x' y' z' u' : Sv), [Sv.dat (toD k0), .own a, .own b, .dat (.tuple s), .dat (toD e), z, u] = [.dat (toD k0), .own a, .own b, x', y', z', u'] ∧
        [(b, true, (init ++ ch).map pr), (a, true, (F ++ hdf s e).map .tuple)] = [(b, true, qs.map pr), (a, true, F'.map .tuple)] ∧ F' ++ qs.reverse.flatMap (fun q => flt q.2 q.1) = flt k0 [] ∧ j = (qs.map fun q => sz q.2).sum ∧ F'.length + j ≤ 10000 ∧ ∀ q ∈ qs, good q.2 ∧ q.1.length + sz q.2 ≤ 10001 := by
      rintro ch z u rfl
      have hnx := nxf_sz (k := e) (s := s)
      have hs2 : ((init ++ (nxf s e).reverse).map fun q => sz q.2).sum = (init.map fun q => sz q.2).sum + ((nxf s e).map fun q => sz q.2).sum := by
        rw [List.map_append, List.sum_append, List.map_reverse, List.sum_reverse]
      refine ⟨_, ?_, F ++ hdf s e, init ++ (nxf s e).reverse, _, _, _, _, rfl, rfl, ?_, rfl, ?_, ?_⟩
      · rw [hs2, hms]; omega
      · rw [← hF, List.reverse_append, List.reverse_reverse, List.flatMap_append, List.append_assoc]
        simp [flt_nx e s]
      · rw [hs2, List.length_append]
        have : (hdf s e).length ≤ 1 := by cases e <;> simp [hdf]
        omega
      · intro q hq
        rcases List.mem_append.mp hq with hq | hq
        · exact hqs q (by simp [hq])
        · obtain ⟨i1, i2, i3⟩ := nxf_inG (List.mem_reverse.mp hq) hq1
          exact ⟨i1, by omega⟩

    have hgk : SeqAt.shaped (toD e) = true := gk_shaped (gk_toD e 20 hq1.1 (Nat.le_trans hq1.2 (by decide))) (Nat.le_refl _)
    refine ws_if (wt_B (w_call (wa_cons (w_var rfl (wa_nil (m1 (callF (base_of e hgk) (exb ?_))))))))
    cases e with
    | base k =>
      refine iteK rfl ?_
      refine ws_app (p := a) (fl := true) (xs := F.map .tuple) rfl (by simp) (w_var rfl ⟨true, F.map .tuple, by simp, by rw [List.length_map]; omega, ?_⟩)
      rw [ms_2 hab]
      have t := again [] z u rfl
      rw [List.append_nil, show (F ++ hdf s (Kd.base k)).map PyData.tuple = F.map .tuple ++ [.tuple s] by simp [hdf]] at t
      exact t
    | rcd f =>
      refine iteN rfl ?_
      refine ws_if (wt_test (w_word (.inr (.inr (.inr rfl))) (w_var rfl ⟨rfl, exb ?_⟩)))
      rw [eq_rec]
      refine iteK rfl ?_

      refine ws_for ga_pair (wi_rev (w_op ao_ix (w_var rfl (w_int (fixt rfl ?_)))))
      refine ⟨_, .inr rfl, ?_⟩
      have lf : (fields f).length ≤ 5 := by
        have := (lab_facts hq1.1.1).1
        rw [labels_fields, List.length_map] at this
        exact this
      refine ⟨fun i as' M' => ∃ z u, as' = [.dat (toD k0), .own a, .own b, .dat (.tuple s), .dat (toD (.rcd f)), z, u] ∧ M' = [(b, true, init.map pr ++ (((fields f).map fun p => pr (s ++ [.str p.1], p.2)).reverse.take i)), (a, true, F.map .tuple)], ⟨z, u, rfl, by simp⟩, ?_, ?_⟩
      · rintro i d as' M' hd ⟨z, u, rfl, rfl⟩
        have hi := (List.getElem?_eq_some_iff.mp hd).1
        rw [List.length_reverse, toF_fields, List.length_map] at hi
        rw [toF_fields, ← List.map_reverse, List.getElem?_map] at hd
        cases hp : (fields f).reverse[i]? with
        | none => rw [hp] at hd; cases hd
        | some p =>
          rw [hp] at hd
          cases hd
          refine ⟨.str p.1, toD p.2, .inl rfl, ?_⟩
          change WS K _ [.dat (toD k0), .own a, .own b, .dat (.tuple s), .dat (toD (.rcd f)), .dat (.str p.1), .dat (toD p.2)] _ _
          refine ws_app (p := b) rfl (List.mem_cons_self) (w_tup (wa_cons (w_op ao_plus (w_var rfl (w_tup (wa_cons (w_var rfl (wa_nil (m1 ⟨by simp, ?_⟩)))))))))
          refine fpt (by simp; omega) (wa_cons (w_var rfl (wa_nil (m2 ⟨by simp, true, _, List.mem_cons_self, by rw [List.length_append, List.length_map, List.length_take]; omega, ?_⟩))))
          rw [ms_p hab]
          refine ⟨_, _, rfl, ?_⟩
          have e3 : ((fields f).map fun p => pr (s ++ [.str p.1], p.2)).reverse[i]? = some (pr (s ++ [.str p.1], p.2)) := by
            rw [← List.map_reverse, List.getElem?_map, hp]; rfl
          rw [List.take_add_one, e3, List.append_assoc]
          rfl
      · rintro as' M' ⟨z, u, rfl, rfl⟩
        have t := again _ z u rfl
        have e4 : (init ++ (nxf s (Kd.rcd f)).reverse).map pr = init.map pr ++ (((fields f).map fun p => pr (s ++ [.str p.1], p.2)).reverse.take (toF f).reverse.length) := by
          rw [toF_fields, List.length_reverse, List.length_map, List.take_of_length_le (by simp), List.map_append, List.map_reverse]
          congr 2
          show ((fields f).map _).map pr = _
          rw [List.map_map]; rfl
        rw [e4, show F ++ hdf s (Kd.rcd f) = F from List.append_nil F] at t
        exact t

    | lst k =>
      refine iteN rfl ?_
      refine ws_if (wt_test (w_word (.inr (.inr (.inr rfl))) (w_var rfl ⟨rfl, exb ?_⟩)))
      rw [eq_rec]
      refine iteN rfl (ws_next ?_)
      have t := again [] z u rfl
      rw [List.append_nil, show F ++ hdf s (Kd.lst k) = F from List.append_nil F] at t
      exact t

    | any k =>
      refine iteN rfl ?_
      refine ws_if (wt_test (w_word (.inr (.inr (.inr rfl))) (w_var rfl ⟨rfl, exb ?_⟩)))
      rw [eq_rec]
      refine iteN rfl (ws_next ?_)
      have t := again [] z u rfl
      rw [List.append_nil, show F ++ hdf s (Kd.any k) = F from List.append_nil F] at t
      exact t

    | fn k1 k2 =>
      refine iteN rfl ?_
      refine ws_if (wt_test (w_word (.inr (.inr (.inr rfl))) (w_var rfl ⟨rfl, exb ?_⟩)))
      rw [eq_rec]
      refine iteN rfl (ws_next ?_)
      have t := again [] z u rfl
      rw [List.append_nil, show F ++ hdf s (Kd.fn k1 k2) = F from List.append_nil F] at t
      exact t

end
end Kk

set_option Elab.async false
set_option linter.all false
set_option maxRecDepth 100000
set_option maxHeartbeats 4000000
namespace Kk
open PySem PySem.Spec PyProof.Rows L2 Ab
/-- one step of the reading -/
local macro_rules | `(tactic| walk_at "w") => `(tactic| first
  | (with_reducible refine ws_seq ?_) | (with_reducible refine ws_next ?_) | (with_reducible refine ws_set ?_) | (with_reducible refine ws_par ?_) | (with_reducible refine ws_ret ?_) | (with_reducible refine ws_if ?_) | (with_reducible refine ws_drop ?_)
  | (refine w_var rfl ?_) | (with_reducible refine w_int ?_) | (with_reducible refine w_str ?_) | (with_reducible refine w_bl ?_) | (with_reducible refine w_non ?_)
  | (with_reducible refine wa_nil ?_) | (with_reducible refine wa_cons ?_) | (with_reducible refine w_tup ?_) | (with_reducible refine w_lst ?_)
  | (with_reducible refine wt_test ?_) | (with_reducible refine wt_B ?_) | (with_reducible refine wt_not ?_) | (with_reducible refine wt_and ?_) | (with_reducible refine wt_or ?_)
  | (with_reducible refine w_andV ?_) | (with_reducible refine w_orV ?_) | (with_reducible refine w_notV ?_) | (with_reducible refine w_ite ?_)
  | (with_reducible refine w_op ao_eq ?_) | (with_reducible refine w_op ao_ne ?_) | (with_reducible refine w_op ao_ix ?_) | (with_reducible refine w_op ao_plus ?_) | (with_reducible refine w_op ao_less ?_) | (with_reducible refine w_op ao_le ?_) | (with_reducible refine w_op ao_gt ?_) | (with_reducible refine w_op ao_ge ?_)
  | (with_reducible refine w_op ao_sub ?_) | (with_reducible refine w_op ao_mul ?_) | (with_reducible refine w_op ao_mod ?_) | (with_reducible refine w_op ao_div ?_) | (with_reducible refine w_op ao_pow ?_) | (with_reducible refine w_op ao_isNo ?_) | (with_reducible refine w_op ao_inSg ?_) | (with_reducible refine w_op ao_inSeq ?_) | (with_reducible refine w_op ao_ninSeq ?_)
  | (with_reducible refine w_cb ac_len ?_) | (with_reducible refine w_cb ac_tupleOf ?_) | (with_reducible refine w_cb ac_intOf ?_) | (with_reducible refine w_cb ac_all ?_) | (with_reducible refine w_cb ac_any ?_)
  | (with_reducible refine w_isi (by decide) ?_) | (with_reducible refine w_isi2 (by decide) (by decide) ?_) | (with_reducible refine w_sl ?_) | (with_reducible refine wo_none ?_) | (with_reducible refine wo_some ?_)
  | (with_reducible refine w_chain ao_le ao_le ?_) | (with_reducible refine w_call ?_))
local macro_rules | `(tactic| walk_at "v") => `(tactic| first
  | (with_reducible refine m0 ?_) | (with_reducible refine m1 ?_) | (with_reducible refine m2 ?_) | (with_reducible refine m3 ?_) | (with_reducible refine m5 ?_)
  | (with_reducible refine exb ?_) | (with_reducible refine exi ?_) | (with_reducible refine exl ?_) | (with_reducible refine exql ?_) | (with_reducible refine exqt ?_)
  | (refine fixt rfl ?_) | (refine fixl rfl ?_) | (refine fslt rfl ?_) | (refine fsll rfl ?_)
  | (with_reducible refine flent ?_; dsimp only [List.length_cons, List.length_nil]) | (with_reducible refine flenl ?_; dsimp only [List.length_cons, List.length_nil])
  | (with_reducible refine fii (by first | trivial | decide) ?_) | (with_reducible refine fpi ?_) | (with_reducible refine flti ?_) | (with_reducible refine fint ?_) | (with_reducible refine ftupl ?_) | (with_reducible refine ftupt ?_)
  | (with_reducible refine feq (by decide +kernel) (by decide +kernel) ?_) | (with_reducible refine fne (by decide +kernel) (by decide +kernel) ?_)
  | (with_reducible refine iteK rfl ?_) | (with_reducible refine iteN rfl ?_) | (with_reducible refine iteK (by decide +kernel) ?_) | (with_reducible refine iteN (by decide +kernel) ?_))
local macro_rules | `(tactic| walk_at "ww") => `(tactic| repeat (first | walk_at "w" | walk_at "v"))
/-! ### steps -/
def lookF : List (Str × Kd) → Str → Option Kd
  | [], _ => none
  | p :: r, z => if p.1 = z then some p.2 else lookF r z
def beh : Kd → Str → Option Kd
  | .lst k, z => if z = "*" then some k else none
  | .rcd f, z => lookF (fields f) z
  | _, _ => none
def optD : Option Kd → PyData
  | none => .none
  | some k => toD k
def stepOk (z : Str) : Prop := (PyData.str z).canLay0 = true
theorem step_sh {z : Str} (h : stepOk z) : SeqAt.shaped (.str z) = true := by
  unfold SeqAt.shaped
  rw [h]; rfl
theorem str_eqv {a b : Str} : PyData.eqv (.str a) (.str b) = decide (a = b) := by
  show (a == b) = _
  rw [Bool.eq_iff_iff]; simp
def walkK : Kd → List Str → Option Kd
  | k, [] => some k
  | k, z :: r => (beh k z).bind fun e => walkK e r
section
variable {P : Program} {w : World} {K : PySem.W.Frag} {mg : Str → Option Value} {base : Heap} {aB : Addr} (T : Txt K mg aB)
abbrev spBeh (K : PySem.W.Frag) : Sp := spP (fun ds => ∃ k z, wf k ∧ stepOk z ∧ ds = [toD k, PyData.str z]) (fun ds x => ∀ k z, ds = [toD k, PyData.str z] → x = optD (beh k z)) K
include T in
theorem ok_kind_behind (F : Dfn K mg "_kind_behind" s_kind_behind ["kind", "step"]) : Cal P w K mg base 1 "_kind_behind" ["kind", "step"] (spBeh K) := by
  have hn : ∀ ds, (∃ k z, wf k ∧ stepOk z ∧ ds = [toD k, PyData.str z]) → ds.length = 2 := by rintro ds ⟨k, z, _, _, rfl⟩; rfl
  refine F.ok sc_kind_behind (fun vs H Q E h => spP_len hn h) (fun f cdv A outer s H vs Q E hr h => ⟨_, (pss_cons (ps_if (PW.pt (pw_and (pt_cmpR (k_eq (K := K) rfl hr) (pe_ix (k_ix (K := K) rfl) (pv 0) pe_int (fun _ _ => rfl)) pe_str (nomark _)) (pw_and1 (pt_cmpR (k_eq (K := K) rfl hr) (pv 1) pe_str (nomark _))))) (pss_one (ps_ret (pe_ix (k_ix (K := K) rfl) (pv 0) pe_int (fun _ _ => rfl)))) pss_nil)
      (pss_cons (ps_if (pt_cmpR (k_eq (K := K) rfl hr) (pe_ix (k_ix (K := K) rfl) (pv 0) pe_int (fun _ _ => rfl)) pe_str (nomark _)) (pss_one (ps_for PassesOwn.never rfl (k_seq (K := K) rfl (pe_ix (k_ix (K := K) rfl) (pv 0) pe_int (fun _ _ => rfl))) (k_tup (K := K) (n := 2) rfl rfl (pgs_cons (pg_name (i := 2) sc_kind_behind.nd rfl (by first | exact .inl rfl | exact .inr rfl)) (pgs_cons (pg_name (i := 3) sc_kind_behind.nd rfl (by first | exact .inl rfl | exact .inr rfl)) pgs_nil))) (pss_one (ps_if (pt_cmpR (k_eq (K := K) rfl hr) (pv 2) (pv 1) (nomark _)) (pss_one (ps_ret (pv 3))) pss_nil)))) pss_nil)
      (pss_one (ps_ret pe_non)))), to_spP hn (fun ds hp => ?_) h⟩)
  obtain ⟨k, z, hw, hz, rfl⟩ := hp
  have fin : ∀ x, x = optD (beh k z) → ∀ k' z', [toD k, PyData.str z] = [toD k', PyData.str z'] → x = optD (beh k' z') := fun x e k' z' h => by
    injection h with h1 h2; injection h2 with h2; injection h2 with h2
    rw [e, toD_inj k k' h1, h2]
  change WS K _ [.dat (toD k), .dat (.str z), .no, .no] [] _
  refine ws_seq (ws_if (wt_and (wt_test (w_word (.inr (.inl rfl)) (w_var rfl ⟨rfl, exb ?_⟩)))))
  rw [eq_lst]
  have rest : ∀ (hk : (match k with | .lst _ => z ≠ "*" | _ => True)), WS K (tSeq (tIfS (tTest (tOp (rEqD K) (tOp (rIx K) (tVar 0) (tC (.int 0))) (tC (.str "record")))) (tFor (iSeq K (tOp (rIx K) (tVar 0) (tC (.int 1)))) (gSeq K 2 (gCons (gName 2) (gCons (gName 3) gNil)))
      (tIfS (tTest (tOp (rEqD K) (tVar 2) (tVar 1))) (tRet (tVar 3)) tNext)) tNext) (tRet (tC .non))) [.dat (toD k), .dat (.str z), .no, .no] [] ⟨fun _ _ => ∀ k' z', [toD k, PyData.str z] = [toD k', PyData.str z'] → PyData.none = optD (beh k' z'), fun d _ => ∀ k' z', [toD k, PyData.str z] = [toD k', PyData.str z'] → d = optD (beh k' z'), fun _ _ => False, fun _ _ => False⟩ := by
    intro hk
    refine ws_seq (ws_if (wt_test (w_word (.inr (.inr (.inr rfl))) (w_var rfl ⟨rfl, exb ?_⟩))))
    rw [eq_rec]
    cases k with
    | rcd f =>
      refine iteK rfl ?_
      refine ws_for ga_pair (wi_seq (w_op ao_ix (w_var rfl (w_int (fixj (j := 1) rfl ?_)))))
      refine ⟨_, .inr rfl, fun i as' M' => ∃ x y, as' = [.dat (toD (.rcd f)), .dat (.str z), x, y] ∧ M' = [] ∧ beh (.rcd f) z = lookF ((fields f).drop i) z, ⟨_, _, rfl, rfl, rfl⟩, ?_, ?_⟩
      · rintro i d as' M' hd ⟨x, y, rfl, rfl, hb⟩
        rw [toF_fields, List.getElem?_map] at hd
        cases hp : (fields f)[i]? with
        | none => rw [hp] at hd; cases hd
        | some p =>
          rw [hp] at hd
          cases hd
          have hi := (List.getElem?_eq_some_iff.mp hp).1
          have e1 : (fields f).drop i = p :: (fields f).drop (i + 1) := by
            rw [List.drop_eq_getElem_cons hi, (List.getElem?_eq_some_iff.mp hp).2]
          have hm : p.1 ∈ labels f := by rw [labels_fields]; exact List.mem_map_of_mem (List.mem_of_getElem? hp)
          have hs := ((lab_facts hw.1).2.2 p.1 hm).2.2.1
          refine ⟨.str p.1, toD p.2, .inl rfl, ?_⟩
          change WS K _ [.dat (toD (.rcd f)), .dat (.str z), .dat (.str p.1), .dat (toD p.2)] _ _
          refine ws_if (wt_test (w_op ao_eq (w_var rfl (w_var rfl (feq (step_sh hs) (step_sh hz) (exb ?_))))))
          rw [str_eqv]
          rw [e1] at hb
          by_cases hq : p.1 = z
          · refine iteK (decide_eq_true hq) (ws_ret (w_var rfl ?_))
            refine fin _ ?_
            rw [hb]
            show _ = optD (if p.1 = z then some p.2 else _)
            rw [if_pos hq]; rfl
          · refine iteN (decide_eq_false hq) (ws_next ⟨_, _, rfl, rfl, ?_⟩)
            rw [hb]
            show (if p.1 = z then some p.2 else lookF ((fields f).drop (i + 1)) z) = _
            rw [if_neg hq]
      · rintro as' M' ⟨x, y, rfl, rfl, hb⟩
        refine ws_ret (w_non (fin _ ?_))
        rw [hb, List.drop_eq_nil_of_le (by rw [toF_fields, List.length_map]; exact Nat.le_refl _)]
        rfl
    | base b => exact iteN rfl (ws_next (ws_ret (w_non (fin _ rfl))))
    | any b => exact iteN rfl (ws_next (ws_ret (w_non (fin _ rfl))))
    | fn a b => exact iteN rfl (ws_next (ws_ret (w_non (fin _ rfl))))
    | lst b =>
      refine iteN rfl (ws_next (ws_ret (w_non (fin _ ?_))))
      show _ = optD (if z = "*" then some b else none)
      rw [if_neg hk]; rfl
  cases k with
  | lst e =>
    refine iteK rfl (wt_test (w_op ao_eq (w_var rfl (w_str (feq (step_sh hz) (by decide +kernel) (exb ?_))))))
    rw [str_eqv]
    by_cases hq : z = "*"
    · refine iteK (decide_eq_true hq) (ws_ret (w_op ao_ix (w_var rfl (w_int (fixj (j := 1) rfl (fin _ ?_))))))
      show _ = optD (if z = "*" then some e else none)
      rw [if_pos hq]; rfl
    · exact iteN (decide_eq_false hq) (ws_next (rest hq))
  | rcd f => exact iteN rfl (ws_next (rest trivial))
  | base b => exact iteN rfl (ws_next (rest trivial))
  | any b => exact iteN rfl (ws_next (rest trivial))
  | fn a b => exact iteN rfl (ws_next (rest trivial))
end
end Kk

set_option Elab.async false
set_option linter.all false
set_option maxRecDepth 100000
set_option maxHeartbeats 4000000
namespace Kk
open PySem PySem.Spec PyProof.Rows L2 Ab
/-- one step of the reading -/
local macro_rules | `(tactic| walk_at "w") => `(tactic| first
  | (with_reducible refine ws_seq ?_) | (with_reducible refine ws_next ?_) | (with_reducible refine ws_set ?_) | (with_reducible refine ws_par ?_) | (with_reducible refine ws_ret ?_) | (with_reducible refine ws_if ?_) | (with_reducible refine ws_drop ?_)
  | (refine w_var rfl ?_) | (with_reducible refine w_int ?_) | (with_reducible refine w_str ?_) | (with_reducible refine w_bl ?_) | (with_reducible refine w_non ?_)
  | (with_reducible refine wa_nil ?_) | (with_reducible refine wa_cons ?_) | (with_reducible refine w_tup ?_) | (with_reducible refine w_lst ?_)
  | (with_reducible refine wt_test ?_) | (with_reducible refine wt_B ?_) | (with_reducible refine wt_not ?_) | (with_reducible refine wt_and ?_) | (with_reducible refine wt_or ?_)
  | (with_reducible refine w_andV ?_) | (with_reducible refine w_orV ?_) | (with_reducible refine w_notV ?_) | (with_reducible refine w_ite ?_)
  | (with_reducible refine w_op ao_eq ?_) | (with_reducible refine w_op ao_ne ?_) | (with_reducible refine w_op ao_ix ?_) | (with_reducible refine w_op ao_plus ?_) | (with_reducible refine w_op ao_less ?_) | (with_reducible refine w_op ao_le ?_) | (with_reducible refine w_op ao_gt ?_) | (with_reducible refine w_op ao_ge ?_)
  | (with_reducible refine w_op ao_sub ?_) | (with_reducible refine w_op ao_mul ?_) | (with_reducible refine w_op ao_mod ?_) | (with_reducible refine w_op ao_div ?_) | (with_reducible refine w_op ao_pow ?_) | (with_reducible refine w_op ao_isNo ?_) | (with_reducible refine w_op ao_inSg ?_) | (with_reducible refine w_op ao_inSeq ?_) | (with_reducible refine w_op ao_ninSeq ?_)
  | (with_reducible refine w_cb ac_len ?_) | (with_reducible refine w_cb ac_tupleOf ?_) | (with_reducible refine w_cb ac_intOf ?_) | (with_reducible refine w_cb ac_all ?_) | (with_reducible refine w_cb ac_any ?_)
  | (with_reducible refine w_isi (by decide) ?_) | (with_reducible refine w_isi2 (by decide) (by decide) ?_) | (with_reducible refine w_sl ?_) | (with_reducible refine wo_none ?_) | (with_reducible refine wo_some ?_)
  | (with_reducible refine w_chain ao_le ao_le ?_) | (with_reducible refine w_call ?_))
local macro_rules | `(tactic| walk_at "v") => `(tactic| first
  | (with_reducible refine m0 ?_) | (with_reducible refine m1 ?_) | (with_reducible refine m2 ?_) | (with_reducible refine m3 ?_) | (with_reducible refine m5 ?_)
  | (with_reducible refine exb ?_) | (with_reducible refine exi ?_) | (with_reducible refine exl ?_) | (with_reducible refine exql ?_) | (with_reducible refine exqt ?_)
  | (refine fixt rfl ?_) | (refine fixl rfl ?_) | (refine fslt rfl ?_) | (refine fsll rfl ?_)
  | (with_reducible refine flent ?_; dsimp only [List.length_cons, List.length_nil]) | (with_reducible refine flenl ?_; dsimp only [List.length_cons, List.length_nil])
  | (with_reducible refine fii (by first | trivial | decide) ?_) | (with_reducible refine fpi ?_) | (with_reducible refine flti ?_) | (with_reducible refine fint ?_) | (with_reducible refine ftupl ?_) | (with_reducible refine ftupt ?_)
  | (with_reducible refine feq (by decide +kernel) (by decide +kernel) ?_) | (with_reducible refine fne (by decide +kernel) (by decide +kernel) ?_)
  | (with_reducible refine iteK rfl ?_) | (with_reducible refine iteN rfl ?_) | (with_reducible refine iteK (by decide +kernel) ?_) | (with_reducible refine iteN (by decide +kernel) ?_))
local macro_rules | `(tactic| walk_at "ww") => `(tactic| repeat (first | walk_at "w" | walk_at "v"))
/-! ### NoPlace, kind_at -/
abbrev sInit : Stmt := inClass (topS 3) 0
theorem scInit : FnScope ["self", "steps"] ["self", "steps"] (defScope sInit) := ⟨rfl, rfl, rfl, by decide +kernel, rfl, by decide +kernel, by decide +kernel⟩
/-- what the top has written of NoPlace -/
structure NpT (K : PySem.W.Frag) (mg : Str → Option Value) (C fI : Addr) : Prop where
  gC : mg "NoPlace" = some (.ref C)
  oex : OexC K C
  xf : XfC K C
  no : PySem.W.findIn K (.ref C) "steps" = some none
  iC : PySem.W.findIn K (.ref C) "__init__" = some (some (.ref fI))
  tI : PySem.W.typeIn K (.ref fI) = some (.type "function")
  te : PySem.W.exmOne K (.ref C) (.ref C) = some true
  fn : ∃ fd, Fun K "__init__" "NoPlace.__init__" sInit fI fd ∧ Binds K fd ["self", "steps"] []
def spInit (K : PySem.W.Frag) (C : Addr) : Sp := fun vs H Q _ => ∃ (a : Addr) (v : V), vs = [.ref a, v] ∧ H a = some (exo a C none) ∧ ∀ dx, H dx = none → dx ≠ a → Q .non (upd (upd H dx (exd dx [("steps", v)])) a (exo a C (some dx)))
/-- a def that may raise -/
structure CalX (P : Program) (w : World) (K : PySem.W.Frag) (mg : Str → Option Value) (base : Heap) (k : Nat) (x : Str) (ps : List Str) (sp : Sp) : Prop where
  ex : ∃ f fd, FnOk P w K mg base (L2.CX P w) k f fd ps sp ∧ mg x = some (.ref f) ∧ PySem.W.keepIn K (.ref f) = true ∧ Binds K fd ps []
theorem CalX.mono {P : Program} {w : World} {K : PySem.W.Frag} {mg : Str → Option Value} {base : Heap} {j k : Nat} {x : Str} {ps : List Str} {sp : Sp} (c : CalX P w K mg base j x ps sp) (h : j ≤ k) : CalX P w K mg base k x ps sp := by
  obtain ⟨f, fd, a, b, d, e⟩ := c.ex
  exact ⟨f, fd, a.mono h, b, d, e⟩
theorem CalX.imp {P : Program} {w : World} {K : PySem.W.Frag} {mg : Str → Option Value} {base : Heap} {k : Nat} {x : Str} {ps : List Str} {sp sp' : Sp} (c : CalX P w K mg base k x ps sp) (h : ∀ vs H Q E, sp' vs H Q E → sp vs H Q E) : CalX P w K mg base k x ps sp' := by
  obtain ⟨f, fd, a, b, d, e⟩ := c.ex
  exact ⟨f, fd, a.imp h, b, d, e⟩
theorem pe_calX {X : Cx} {k : Nat} {x : Str} {ps : List Str} {sp : Sp} {p pos : Pos} {e : Expr} {es : List Expr} {t : TA} (c : CalX X.prog X.w X.K X.mg X.base k x ps sp) (hr : Room k X.A) (ha : PA X (e :: es) t) (hg : Gl X x := by rfl) (hdb : (x == ("__debug__" : Str)) = false := by decide)
    (he : starEach (e :: es) X.env = (false, eval e X.env) :: starEach es X.env := by rfl) (hpl : (backTo pos (starEach es X.env)).any (·.1) = false := by rfl) : PE X (.Call (.Name x p) (e :: es) [] pos) (tCall sp [] E0 t) := by
  obtain ⟨f, fd, F, hm, hk, hb⟩ := c.ex
  exact pe_call F hr hg hm hk hb .nil passL ha hdb he hpl
theorem _root_.Ab.Dfn.okX {P : Program} {w : World} {K : PySem.W.Frag} {mg : Str → Option Value} {base : Heap} {x : Str} {st : Stmt} {N ps : List Str} {k : Nat} {sp : Sp} (F : Dfn K mg x st ps) (S : FnScope N ps (defScope st)) (len : ∀ vs H Q E, sp vs H Q E → vs.length = ps.length)
    (hbody : ∀ (f : Addr) (cdv : Value) (A : Around) (outer : List Env) (s : Shared) (H : Hp) (vs : List V) (Q : VK) (E : XK), Room k (A.deeper (envOfC x (defScope st) s.heap.objs.size f cdv)) → sp vs H Q E →
      ∃ t, PSs (cxOf (L2.CX P w) P w K mg base N x (defScope st) f cdv A outer s H E) (defBody st) t ∧ t { nx := fun _ H' => Q .non H', rt := Q } (L2.start N vs) H) : CalX P w K mg base (k + 1) x ps sp := by
  obtain ⟨f, fd, a, b, c⟩ := F.ex
  exact ⟨f, fd, a.okX S len (fun cdv A outer s H vs Q E hr h => hbody f cdv A outer s H vs Q E hr h), b, a.kp, c⟩
section
variable {P : Program} {w : World} {K : PySem.W.Frag} {mg : Str → Option Value} {base : Heap} {C fI : Addr}
theorem ok_init (T : NpT K mg C fI) : ∃ fd, FnOk P w K mg base CX0 1 fI fd ["self", "steps"] (spInit K C) ∧ Binds K fd ["self", "steps"] [] := by
  obtain ⟨fd, F, b⟩ := T.fn
  refine ⟨fd, F.ok scInit (fun vs H Q E h => ?_) (fun cdv A outer s H vs Q E hr h => ?_), b⟩
  · obtain ⟨a, v, rfl, _⟩ := h; rfl
  · obtain ⟨a, v, rfl, ha, q⟩ := h
    refine ⟨_, pss_one (ps_ost (pv 0) (pv 1)), ?_⟩
    exact ⟨v, rfl, .ref a, rfl, a, C, rfl, T.oex, T.no, .inl ⟨ha, fun dx h1 h2 => q dx h1 h2⟩⟩
/-- at a frame of its own: what statements do -/
def WX (K : PySem.W.Frag) (S : Sy) (H0 : Hp) (ts : TS) (as : List Sv) (M : Mm) (A : AE) : Prop := ∀ σ H (D : Ends), Ok0 K S H0 H M → Rs K (Gh S M H) σ as →
  (∀ σ' H' as' M', Ok0 K S H0 H' M' → Rs K (Gh S M' H') σ' as' → Same (Gh S M H) (Gh S M' H') → A.nx as' M' → D.nx σ' H') → (∀ v H' d M', Ok0 K S H0 H' M' → Dp K (Gh S M' H') v d → A.rt d M' → D.rt v H') → ts D σ H
variable {S : Sy} {H0 : Hp} {as : List Sv} {M : Mm} {A : AE} {te : TE} {t : TT} {s1 s2 : TS}
theorem wx_seq (h : WX K S H0 s1 as M { A with nx := fun as' M' => WX K S H0 s2 as' M' A }) : WX K S H0 (tSeq s1 s2) as M A := fun σ H D k r n rt =>
  h σ H { D with nx := s2 D } k r (fun σ' H' as' M' k' r' e' p => p σ' H' D k' r' (fun σ'' H'' as'' M'' k'' r'' e'' => n σ'' H'' as'' M'' k'' r'' (e'.trans e'')) rt) rt
theorem wx_set {i : Nat} (h : W K te as M fun d M' => A.nx (as.set i (.dat d)) M') : WX K S H0 (tAsg te (gName i)) as M A := fun σ H D k r n _ =>
  h S H0 σ H k r _ fun v H1 d M1 k1 e1 b1 p => n _ H1 (as.set i (.dat d)) M1 k1 ((r.mono e1).set i (s := .dat d) ⟨v, rfl, b1⟩) e1 p
theorem wx_ret (h : W K te as M A.rt) : WX K S H0 (tRet te) as M A := fun σ H D k r _ rt => h S H0 σ H k r _ fun v H1 d M1 k1 e1 b1 p => rt v H1 d M1 k1 b1 p
theorem wx_next (p : A.nx as M) : WX K S H0 tNext as M A := fun σ H D k r n _ => n σ H as M k r (Same.refl _) p
theorem wx_if (h : WT K t as M fun b M' => if b = true then WX K S H0 s1 as M' A else WX K S H0 s2 as M' A) : WX K S H0 (tIfS t s1 s2) as M A := fun σ H D k r n rt => h S H0 σ H k r _ fun b H1 M1 k1 e1 p => by
  have go : ∀ s, WX K S H0 s as M1 A → s D σ H1 := fun s hs => hs σ H1 D k1 (r.mono e1) (fun σ'' H'' as'' M'' k'' r'' e'' => n σ'' H'' as'' M'' k'' r'' (e1.trans e'')) rt
  cases b with
  | true => exact go s1 p
  | false => exact go s2 p
theorem wx_for {g : TG} {wi : TI} {tb : TS} {ts : List Nat} {f : PyData → List Sv → (List Sv → Prop) → Prop} (hg : GA K g ts f) (h : WI K wi as M fun xs M1 => ∃ IV : Nat → List Sv → Mm → Prop, IV 0 as M1 ∧
    (∀ i x as' M', xs[i]? = some x → IV i as' M' → f x as' fun as2 => WX K S H0 tb as2 M' { A with nx := IV (i + 1) }) ∧ (∀ as' M', IV xs.length as' M' → A.nx as' M')) : WX K S H0 (tFor wi g tb) as M A := fun σ H D k r n rt =>
  h S H0 σ H k r _ fun J H1 xs M1 k1 e1 hJ ⟨IV, i0, step, fin⟩ => by
    refine ⟨fun i m σ' H' => m = xs.length - i ∧ i ≤ xs.length ∧ ∃ as' M', IV i as' M' ∧ Ok0 K S H0 H' M' ∧ Rs K (Gh S M' H') σ' as' ∧ Same (Gh S M1 H1) (Gh S M' H'), ⟨xs.length, by simp, Nat.zero_le _, as, M1, i0, k1, r.mono e1, Same.refl _⟩, ?_⟩
    rintro i m σ' H' ⟨rfl, hi, as', M', hI, k', r', e'⟩
    by_cases hlt : i < xs.length
    · refine .inr ⟨hJ.go _ _ i e' same_hide hlt, fun σ'' H'' => ∃ as' M', IV (i + 1) as' M' ∧ Ok0 K S H0 H'' M' ∧ Rs K (Gh S M' H'') σ'' as' ∧ Same (Gh S M1 H1) (Gh S M' H''), fun σ'' H'' ⟨as'', M'', q⟩ => ⟨xs.length - (i + 1), by omega, rfl, hlt, as'', M'', q⟩, fun v H2 y => ?_⟩
      obtain ⟨eh, yd⟩ := hJ.yld _ _ i v H2 e' same_hide y
      subst eh
      have hx : xs[i]? = some xs[i] := List.getElem?_eq_getElem hlt
      refine hg (Gh S M' H2) H2 v xs[i] σ' as' _ same_hide (yd _ hx) r' (step i _ as' M' hx hI) _ fun σ2 as2 r2 _ p => ?_
      exact p σ2 H2 _ k' r2 (fun σ3 H3 as3 M3 k3 r3 e3 p3 => ⟨as3, M3, p3, k3, r3, e'.trans e3⟩) rt
    · have e : i = xs.length := by omega
      subst e
      exact .inl ⟨hJ.stop _ _ e' same_hide, n σ' H' as' M' k' r' (e1.trans e') (fin as' M' hI)⟩
/-- raise NoPlace(e) -/
theorem wx_raise {E : XK} (h : W K te as M fun d M' => M' = [] ∧ ∀ v H' dx, (∀ a o, S.B a = false → H0 a = some o → H' a = some o) → S.I H' → Dp K (Hide S.B H') v d → H' dx = some (.xd [("steps", v)]) → E (.ref C) (some dx) H') :
    WX K S H0 (fun _ σ H => tMkO C (spInit K C) [] (tCons te tNil) σ H fun cls d H' => E cls d H') as M A := fun σ H D k r _ _ =>
  h S H0 σ H k r _ fun v H1 d M1 k1 e1 b1 ⟨em, p⟩ => by
    subst em
    refine ⟨by simp, fun a ha => ⟨a, v, rfl, upd_same, fun dx h1 h2 => ⟨rfl, dx, [("steps", v)], upd_same, ?_, ?_, ?_⟩⟩⟩
    · rw [upd_ne h2, upd_same]
    · rw [upd_ne h2] at h1; exact h1
    · have hd : H1 dx = none := by rw [upd_ne h2] at h1; exact h1
      have kp : ∀ b o, H1 b = some o → (upd (del (upd (upd (upd H1 a (exo a C none)) dx (exd dx [("steps", v)])) a (exo a C (some dx))) a) dx (.xd [("steps", v)])) b = some o := fun b o e => by
        have n1 : b ≠ dx := ne_of_none e hd
        have n2 : b ≠ a := ne_of_none e ha
        rw [upd_ne n1, del_ne n2, upd_ne n2, upd_ne n1, upd_ne n2]
        exact e
      refine p v _ dx (fun b o e2 e3 => kp b o (k1.xt b o e2 e3)) (S.mono H1 _ (fun b o _ e2 => kp b o e2) k1.inv) ?_ upd_same
      refine dp_mono (fun b o e => ?_) _ _ b1
      obtain ⟨x1, x2⟩ := hide_some e
      rw [hide_f (bm_false.mp x1).1]
      exact kp b o x2
end
/-- kind_at: the kind to which the steps lead; or E -/
def spKA (C : Addr) (K : PySem.W.Frag) : Sp := fun vs H Q E => ∃ (S : Sy) (k : Kd) (ss : List Str), S.I H ∧ wf k ∧ ss.length ≤ 1000 ∧ (∀ z ∈ ss, stepOk z) ∧ DpAll K (Hide S.B H) vs [toD k, .tuple (ss.map PyData.str)] ∧
  (∀ e, walkK k ss = some e → ∀ v H', (∀ a o, S.B a = false → H a = some o → H' a = some o) → S.I H' → Dp K (Hide S.B H') v (toD e) → Q v H') ∧
  (walkK k ss = none → ∀ v H' dx, (∀ a o, S.B a = false → H a = some o → H' a = some o) → S.I H' → Dp K (Hide S.B H') v (.tuple (ss.map PyData.str)) → H' dx = some (.xd [("steps", v)]) → E (.ref C) (some dx) H')
theorem beh_wf {k e : Kd} {z : Str} (hw : wf k) (h : beh k z = some e) : wf e := by
  cases k with
  | lst a =>
    have h : (if z = "*" then some a else none) = some e := h
    by_cases hz : z = "*"
    · rw [if_pos hz] at h; cases h; exact hw
    · rw [if_neg hz] at h; cases h
  | rcd f =>
    have key : ∀ l : List (Str × Kd), (∀ p ∈ l, wf p.2) → lookF l z = some e → wf e := by
      intro l
      induction l with
      | nil => intro _ h; cases h
      | cons p l ih =>
        intro hl h
        have h : (if p.1 = z then some p.2 else lookF l z) = some e := h
        by_cases hz : p.1 = z
        · rw [if_pos hz] at h; cases h; exact hl p List.mem_cons_self
        · rw [if_neg hz] at h; exact ih (fun q hq => hl q (List.mem_cons_of_mem _ hq)) h
    exact key _ ((wfF_iff f).mp hw.2) h
  | base b => cases h
  | any b => cases h
  | fn a b => cases h
theorem toD_isNo {k : Kd} {P : PyData → Prop} (h : P (.bool false)) : fIsNo (toD k) .none P := by cases k <;> exact h
section
variable {P : Program} {w : World} {K : PySem.W.Frag} {mg : Str → Option Value} {base : Heap} {aB C fI : Addr} (T : Txt K mg aB) (N : NpT K mg C fI)
include T N in
theorem ok_kind_at (F : Dfn K mg "kind_at" s_kind_at ["kind", "steps"]) (q_kind_behind : Cal P w K mg base 1 "_kind_behind" ["kind", "step"] (spBeh K)) : CalX P w K mg base 4 "kind_at" ["kind", "steps"] (spKA C K) := by
  have c_kind_behind := q_kind_behind.mono (show 1 ≤ 3 by decide)
  obtain ⟨fdI, G1, b1⟩ := ok_init (P := P) (w := w) (base := base) N
  have hl : ∀ vs H Q E, spKA C K vs H Q E → vs.length = 2 := fun vs H Q E h => by
    obtain ⟨S, k, ss, _, _, _, _, hd, _⟩ := h
    exact dps_len hd
  refine F.okX sc_kind_at hl (fun f cdv A outer s H vs Q E hr h => ⟨_, (pss_cons (ps_set (i := 2) sc_kind_at.nd rfl (by first | exact .inl rfl | exact .inr rfl) (pv 0))
      (pss_cons (ps_for (passes_of rfl) rfl (k_seq (K := K) rfl (pv 1)) (pg_name (i := 3) sc_kind_at.nd rfl (by first | exact .inl rfl | exact .inr rfl)) (pss_cons (ps_set (i := 2) sc_kind_at.nd rfl (by first | exact .inl rfl | exact .inr rfl) (pe_cal c_kind_behind hr (pa_cons (pv 2) (pa_cons (pv 3) pa_nil))))
      (pss_one (ps_if (pt_cmpR op_isNo (pv 2) pe_non (nomark _)) (pss_one (ps_raise rfl (takes_of rfl rfl rfl rfl) (pmk_oex N.oex N.iC N.tI G1 (hr.mono (by decide)) b1 .nil pass0 (by rfl) N.gC (pa_cons (pe_callTy (k_tuple (K := K) rfl) (by rfl) T.n_tuple (by decide +kernel) (pa_cons (pv 1) pa_nil)) pa_nil)))) pss_nil))))
      (pss_one (ps_ret (pv 2))))), ?_⟩)
  obtain ⟨S, k, ss, iv, hw, hlen, hst, hd, hok, hno⟩ := h
  have k0 : Ok0 K S H H [] := ⟨fun _ _ _ e => e, iv, List.nodup_nil, (fun z hz => by cases hz), (fun z hz => by cases hz)⟩
  have hg : Gh S [] H = Hide S.B H := by unfold Gh; rw [bm_nil]
  have r0 : Rs K (Gh S [] H) (L2.start ["kind", "steps", "here", "step"] vs) [.dat (toD k), .dat (.tuple (ss.map PyData.str)), .no, .no] := by
    unfold L2.start
    rw [dps_len hd, hg]
    exact ra_start 2 (dat_ra hd)
  have key : WX K S H (tSeq (tAsg (tVar 0) (gName 2)) (tSeq (tFor (iSeq K (tVar 1)) (gName 3) (tSeq (tAsg (tCall (spBeh K) [] E0 (tCons (tVar 2) (tCons (tVar 3) tNil))) (gName 2))
      (tIfS (tTest (tOp rIsNo (tVar 2) (tC .non))) (fun _ σ H => tMkO C (spInit K C) [] (tCons (tCB (rTupleOf K) (tCons (tVar 1) tNil)) tNil) σ H fun cls d H' => E cls d H') tNext))) (tRet (tVar 2))))
      [.dat (toD k), .dat (.tuple (ss.map PyData.str)), .no, .no] [] ⟨fun _ _ => False, fun d M' => M' = [] ∧ ∃ e, walkK k ss = some e ∧ d = toD e, fun _ _ => False, fun _ _ => False⟩ := by
    refine wx_seq (wx_set (w_var rfl ?_))
    refine wx_seq (wx_for ga_name (wi_seq (w_var rfl ⟨_, .inr rfl, fun i as' M' => ∃ e x, as' = [.dat (toD k), .dat (.tuple (ss.map PyData.str)), .dat (toD e), x] ∧ M' = [] ∧ wf e ∧ walkK k ss = walkK e (ss.drop i), ⟨k, .no, rfl, rfl, hw, rfl⟩, ?_, ?_⟩)))
    · rintro i d as' M' hd ⟨e, x, rfl, rfl, hwe, hwk⟩
      rw [List.getElem?_map] at hd
      cases hz : ss[i]? with
      | none => rw [hz] at hd; cases hd
      | some z =>
        rw [hz] at hd
        cases hd
        have hi := (List.getElem?_eq_some_iff.mp hz).1
        have e1 : ss.drop i = z :: ss.drop (i + 1) := by rw [List.drop_eq_getElem_cons hi, (List.getElem?_eq_some_iff.mp hz).2]
        have hzo := hst z (List.mem_of_getElem? hz)
        rw [e1] at hwk
        change WX K S H _ [.dat (toD k), .dat (.tuple (ss.map PyData.str)), .dat (toD e), .dat (.str z)] _ _
        refine wx_seq (wx_set (w_call (wa_cons (w_var rfl (wa_cons (w_var rfl (wa_nil (m2 ⟨⟨e, z, hwe, hzo, rfl⟩, fun d hd => ?_⟩))))))))
        rw [hd e z rfl]
        have hwk : walkK k ss = (beh e z).bind fun e => walkK e (ss.drop (i + 1)) := hwk
        refine wx_if (wt_test (w_op ao_isNo (w_var rfl (w_non ?_))))
        cases hb : beh e z with
        | none =>
          refine (show fIsNo .none .none _ from exb (iteK rfl (wx_raise (w_cb ac_tupleOf (wa_cons (w_var rfl (wa_nil (m1 (ftupt ⟨rfl, ?_⟩)))))))))
          rw [hb] at hwk
          exact hno hwk
        | some e2 =>
          refine toD_isNo (exb (iteN rfl (wx_next ⟨e2, _, rfl, rfl, beh_wf hwe hb, ?_⟩)))
          rw [hwk, hb]; rfl
    · rintro as' M' ⟨e, x, rfl, rfl, hwe, hwk⟩
      refine wx_ret (w_var rfl ⟨rfl, e, ?_, rfl⟩)
      rw [hwk, List.drop_eq_nil_of_le (by rw [List.length_map]; exact Nat.le_refl _)]
      rfl
  exact key _ H _ k0 r0 (fun _ _ _ _ _ _ _ p => p.elim) (fun v H' d M' k' dp p => by
    obtain ⟨em, e, he, ed⟩ := p
    subst em ed
    have g2 : Gh S [] H' = Hide S.B H' := by unfold Gh; rw [bm_nil]
    rw [g2] at dp
    exact hok e he v H' k'.xt k'.inv dp)
end
end Kk

set_option Elab.async false
set_option linter.all false
set_option maxRecDepth 100000
set_option maxHeartbeats 4000000
namespace Kk
open PySem PySem.Spec PyProof.Rows L2 Ab
/-- one step of the reading -/
local macro_rules | `(tactic| walk_at "w") => `(tactic| first
  | (with_reducible refine ws_seq ?_) | (with_reducible refine ws_next ?_) | (with_reducible refine ws_set ?_) | (with_reducible refine ws_par ?_) | (with_reducible refine ws_ret ?_) | (with_reducible refine ws_if ?_) | (with_reducible refine ws_drop ?_)
  | (refine w_var rfl ?_) | (with_reducible refine w_int ?_) | (with_reducible refine w_str ?_) | (with_reducible refine w_bl ?_) | (with_reducible refine w_non ?_)
  | (with_reducible refine wa_nil ?_) | (with_reducible refine wa_cons ?_) | (with_reducible refine w_tup ?_) | (with_reducible refine w_lst ?_)
  | (with_reducible refine wt_test ?_) | (with_reducible refine wt_B ?_) | (with_reducible refine wt_not ?_) | (with_reducible refine wt_and ?_) | (with_reducible refine wt_or ?_)
  | (with_reducible refine w_andV ?_) | (with_reducible refine w_orV ?_) | (with_reducible refine w_notV ?_) | (with_reducible refine w_ite ?_)
  | (with_reducible refine w_op ao_eq ?_) | (with_reducible refine w_op ao_ne ?_) | (with_reducible refine w_op ao_ix ?_) | (with_reducible refine w_op ao_plus ?_) | (with_reducible refine w_op ao_less ?_) | (with_reducible refine w_op ao_le ?_) | (with_reducible refine w_op ao_gt ?_) | (with_reducible refine w_op ao_ge ?_)
  | (with_reducible refine w_op ao_sub ?_) | (with_reducible refine w_op ao_mul ?_) | (with_reducible refine w_op ao_mod ?_) | (with_reducible refine w_op ao_div ?_) | (with_reducible refine w_op ao_pow ?_) | (with_reducible refine w_op ao_isNo ?_) | (with_reducible refine w_op ao_inSg ?_) | (with_reducible refine w_op ao_inSeq ?_) | (with_reducible refine w_op ao_ninSeq ?_)
  | (with_reducible refine w_cb ac_len ?_) | (with_reducible refine w_cb ac_tupleOf ?_) | (with_reducible refine w_cb ac_intOf ?_) | (with_reducible refine w_cb ac_all ?_) | (with_reducible refine w_cb ac_any ?_)
  | (with_reducible refine w_isi (by decide) ?_) | (with_reducible refine w_isi2 (by decide) (by decide) ?_) | (with_reducible refine w_sl ?_) | (with_reducible refine wo_none ?_) | (with_reducible refine wo_some ?_)
  | (with_reducible refine w_chain ao_le ao_le ?_) | (with_reducible refine w_call ?_))
local macro_rules | `(tactic| walk_at "v") => `(tactic| first
  | (with_reducible refine m0 ?_) | (with_reducible refine m1 ?_) | (with_reducible refine m2 ?_) | (with_reducible refine m3 ?_) | (with_reducible refine m5 ?_)
  | (with_reducible refine exb ?_) | (with_reducible refine exi ?_) | (with_reducible refine exl ?_) | (with_reducible refine exql ?_) | (with_reducible refine exqt ?_)
  | (refine fixt rfl ?_) | (refine fixl rfl ?_) | (refine fslt rfl ?_) | (refine fsll rfl ?_)
  | (with_reducible refine flent ?_; dsimp only [List.length_cons, List.length_nil]) | (with_reducible refine flenl ?_; dsimp only [List.length_cons, List.length_nil])
  | (with_reducible refine fii (by first | trivial | decide) ?_) | (with_reducible refine fpi ?_) | (with_reducible refine flti ?_) | (with_reducible refine fint ?_) | (with_reducible refine ftupl ?_) | (with_reducible refine ftupt ?_)
  | (with_reducible refine feq (by decide +kernel) (by decide +kernel) ?_) | (with_reducible refine fne (by decide +kernel) (by decide +kernel) ?_)
  | (with_reducible refine iteK rfl ?_) | (with_reducible refine iteN rfl ?_) | (with_reducible refine iteK (by decide +kernel) ?_) | (with_reducible refine iteN (by decide +kernel) ?_))
local macro_rules | `(tactic| walk_at "ww") => `(tactic| repeat (first | walk_at "w" | walk_at "v"))
/-! ### the law's own: pool, draw -/
theorem cmr {i j : Int} (h : -(2 ^ 64) < j ∧ j < 2 ^ 64) : CMul i j := .inr h
def fitI (C : Int → Int → Prop) (g : Int → Int → PyData) {i j : Int} {P : PyData → Prop} (c : C i j) (h : P (g i j)) : fI C g (.int i) (.int j) P := ⟨c, h⟩
theorem ms_one {p : Addr} {fl : Bool} {X Y : List PyData} : mset [(p, fl, X)] p Y = [(p, fl, Y)] := by simp [mset]
def intL (ns : List Int) : PyData := .list (ns.map .int)
section
variable {P : Program} {w : World} {K : PySem.W.Frag} {mg : Str → Option Value} {base : Heap} {aB : Addr} (T : Txt K mg aB)
def prePool (ds : List PyData) : Prop := ∃ (ns : List Int) (n : Nat), ds = [intL ns, .int (n : Int)] ∧ ns.length ≤ 63
include T in
theorem ok_law_pool (F : Dfn K mg "_law_pool" s_law_pool ["_law_script", "_law_at"]) : Cal P w K mg base 1 "_law_pool" ["_law_script", "_law_at"] (spN prePool (fun _ pl => poolD pl) K) := by
  have hn : ∀ ds, prePool ds → ds.length = 2 := by rintro ds ⟨ns, n, rfl, _⟩; rfl
  refine F.ok sc_law_pool (fun vs H Q E h => spN_len hn h) (fun f cdv A outer s H vs Q E hr h => ⟨_, (pss_cons (ps_set (i := 2) sc_law_pool.nd rfl (by first | exact .inl rfl | exact .inr rfl) (pe_ifExp (pt_cmpR op_less (pv 1) (pe_callB (k_len (K := K) rfl) (by rfl) T.n_len (by decide +kernel) (pa_cons (pv 0) pa_nil)) (nomark _)) (pe_ix (k_ix (K := K) rfl) (pv 0) (pv 1) (fun _ _ => rfl)) pe_int))
      (pss_cons (ps_set (i := 3) sc_law_pool.nd rfl (by first | exact .inl rfl | exact .inr rfl) (pe_ifExp (pt_cmpR op_geI (pv 2) pe_int (nomark _)) (pe_op op_mulI (pv 2) pe_int) (pe_op op_subI pe_int (pe_op op_mulI (pv 2) pe_int))))
      (pss_cons (ps_set (i := 4) sc_law_pool.nd rfl (by first | exact .inl rfl | exact .inr rfl) (pe_op op_modI (pe_callTy call_intOf (by rfl) T.n_int (by decide +kernel) (pa_cons (pe_op (k_plus (K := K) rfl) (pe_op (k_plus (K := K) rfl) (pe_op (k_plus (K := K) rfl) (pe_op op_mulI (pv 3) pe_int) (pe_op op_mulI (pv 1) pe_int)) (pe_op op_mulI (pe_callB (k_len (K := K) rfl) (by rfl) T.n_len (by decide +kernel) (pa_cons (pv 0) pa_nil)) pe_int)) pe_int) pa_nil)) pe_int))
      (pss_one (ps_ret (pe_lst (pa_cons (pe_ifExp (pt_cmpR op_geI (pv 3) (pe_op op_powI pe_int pe_int) (nomark _)) (pv 3) pe_int) (pa_cons (pv 4) (pa_cons pe_int pa_nil))))))))), to_spN hn (fun ds hp => ?_) h⟩)
  obtain ⟨ns, n, rfl, hl⟩ := hp
  change WN K _ [.dat (intL ns), .dat (.int (n : Int)), .no, .no, .no] [] _
  -- cell
  have c1 : ∀ (cell : Int), WN K (tSeq (tAsg (tIf (tTest (tOp rGeI (tVar 2) (tC (.int 0)))) (tOp rMulI (tVar 2) (tC (.int 2))) (tOp rSubI (tC (.int 1)) (tOp rMulI (tVar 2) (tC (.int 2))))) (gName 3))
      (tSeq (tAsg (tOp rModI (tCB rIntOf (tCons (tOp (rPlus K) (tOp (rPlus K) (tOp (rPlus K) (tOp rMulI (tVar 3) (tC (.int 48271))) (tOp rMulI (tVar 1) (tC (.int 69621)))) (tOp rMulI (tCB (rLenA K) (tCons (tVar 0) tNil)) (tC (.int 7919)))) (tC (.int 104729))) tNil)) (tC (.int 2147483647))) (gName 4))
        (tRet (tLst (tCons (tIf (tTest (tOp rGeI (tVar 3) (tOp rPowI (tC (.int 10)) (tC (.int 18))))) (tVar 3) (tC (.int 0))) (tCons (tVar 4) (tCons (tC (.int 0)) tNil)))))))
      [.dat (intL ns), .dat (.int (n : Int)), .dat (.int cell), .no, .no] [] poolD := by
    intro cell
    have c2 : ∀ (size : Int), 0 ≤ size → WN K (tSeq (tAsg (tOp rModI (tCB rIntOf (tCons (tOp (rPlus K) (tOp (rPlus K) (tOp (rPlus K) (tOp rMulI (tVar 3) (tC (.int 48271))) (tOp rMulI (tVar 1) (tC (.int 69621)))) (tOp rMulI (tCB (rLenA K) (tCons (tVar 0) tNil)) (tC (.int 7919)))) (tC (.int 104729))) tNil)) (tC (.int 2147483647))) (gName 4))
        (tRet (tLst (tCons (tIf (tTest (tOp rGeI (tVar 3) (tOp rPowI (tC (.int 10)) (tC (.int 18))))) (tVar 3) (tC (.int 0))) (tCons (tVar 4) (tCons (tC (.int 0)) tNil))))))
        [.dat (intL ns), .dat (.int (n : Int)), .dat (.int cell), .dat (.int size), .no] [] poolD := by
      intro size hs
      refine wn_seq (ws_set (w_op ao_mod (w_cb ac_intOf (wa_cons ?_))))
      refine w_op ao_plus (w_op ao_plus (w_op ao_plus (w_op ao_mul (w_var rfl (w_int (fii (cmr (by decide)) ?_))))))
      refine w_op ao_mul (w_var rfl (w_int (fii (cmr (by decide)) (fpi ?_))))
      refine w_op ao_mul (w_cb ac_len (wa_cons (w_var rfl (wa_nil (m1 (flenl (w_int (fii (cmr (by decide)) (fpi ?_)))))))))
      refine w_int (fpi (wa_nil (m1 (fint (w_int (fii (by decide) ?_))))))
      refine wn_ret (wa_cons (w_ite (wt_test (w_op ao_ge (w_var rfl (w_op ao_pow (w_int (w_int (fii (by refine ⟨by decide, by decide, by decide⟩) (fii trivial (exb ?_)))))))))))
      have m := Int.emod_nonneg (size * 48271 + (n : Int) * 69621 + ((ns.map PyData.int).length : Int) * 7919 + 104729) (show (2147483647 : Int) ≠ 0 by decide)
      have m2 := Int.emod_lt_of_pos (size * 48271 + (n : Int) * 69621 + ((ns.map PyData.int).length : Int) * 7919 + 104729) (show (0 : Int) < 2147483647 by decide)
      refine iteB (fun _ => ?_) (fun _ => ?_)
      · exact w_var rfl (wa_cons (w_var rfl (wa_cons (w_int (wa_nil (m3 ⟨by simp, size, _, 0, rfl, hs, m, m2, by decide⟩))))))
      · exact w_int (wa_cons (w_var rfl (wa_cons (w_int (wa_nil (m3 ⟨by simp, 0, _, 0, rfl, by decide, m, m2, by decide⟩))))))
    refine wn_seq (ws_set (w_ite (wt_test (w_op ao_ge (w_var rfl (w_int (fii trivial (exb ?_))))))))
    refine iteB (fun h => ?_) (fun h => ?_)
    · have h : 0 ≤ cell := of_decide_eq_true h
      exact w_op ao_mul (w_var rfl (w_int (fii (cmr (by decide)) (c2 (cell * 2) (by omega)))))
    · have h : ¬ 0 ≤ cell := of_decide_eq_false h
      exact w_op ao_sub (w_int (w_op ao_mul (w_var rfl (w_int (fii (cmr (by decide)) (fii trivial (c2 (1 - cell * 2) (by omega))))))))
  refine wn_seq (ws_set (w_ite (wt_test (w_op ao_less (w_var rfl (w_cb ac_len (wa_cons (w_var rfl (wa_nil (m1 (flenl (flti (exb ?_))))))))))))) 
  refine iteB (fun h => ?_) (fun h => ?_)
  · have h : (n : Int) < ((ns.map PyData.int).length : Int) := of_decide_eq_true h
    have hn2 : n < ns.length := by rw [List.length_map] at h; omega
    refine w_op ao_ix (w_var rfl (w_var rfl (fixl (a := .int ns[n]) (atI_nat (by rw [List.getElem?_map, List.getElem?_eq_getElem hn2]; rfl)) ?_)))
    exact c1 ns[n]
  · exact w_int (c1 0)
def preDraw (ds : List PyData) : Prop := ∃ m : Int, ds = [.int m] ∧ 0 < m ∧ m < 1000000
def postDraw (ds : List PyData) (x : PyData) : Prop := ∀ m : Int, ds = [.int m] → ∃ n : Nat, x = .int (n : Int) ∧ (n : Int) < m
include T in
theorem ok_law_draw (F : Dfn K mg "_law_draw" s_law_draw ["_law_pool_here", "_law_many"]) : Cal P w K mg base 1 "_law_draw" ["_law_pool_here", "_law_many"] (spQ preDraw postDraw K) := by
  have hn : ∀ ds, preDraw ds → ds.length = 1 := by rintro ds ⟨m, rfl, _⟩; rfl
  refine F.ok sc_law_draw (fun vs H Q E h => spQ_len hn h) (fun f cdv A outer s H vs Q E hr h => ⟨_, (pss_cons (ps_if (pt_cmpR op_gtI (pe_ix (k_ix (K := K) rfl) (pv 0) pe_int (fun _ _ => rfl)) pe_int (nomark _)) (pss_cons (ps_set (i := 2) sc_law_draw.nd rfl (by first | exact .inl rfl | exact .inr rfl) (pe_op op_modI (pe_ix (k_ix (K := K) rfl) (pv 0) pe_int (fun _ _ => rfl)) (pv 1)))
      (pss_cons (ps_asg (pe_op op_divW (pe_ix (k_ix (K := K) rfl) (pv 0) pe_int (fun _ _ => rfl)) (pv 1)) (pg_sub (pv 0) pe_int set_list))
      (pss_one (ps_ret (pv 2))))) pss_nil)
      (pss_cons (ps_asg (pe_op (k_plus (K := K) rfl) (pe_ix (k_ix (K := K) rfl) (pv 0) pe_int (fun _ _ => rfl)) pe_int) (pg_sub (pv 0) pe_int set_list))
      (pss_cons (ps_asg (pe_op op_modI (pe_callTy call_intOf (by rfl) T.n_int (by decide +kernel) (pa_cons (pe_op (k_plus (K := K) rfl) (pe_op (k_plus (K := K) rfl) (pe_op op_mulI (pe_ix (k_ix (K := K) rfl) (pv 0) pe_int (fun _ _ => rfl)) pe_int) (pe_op op_mulI (pe_ix (k_ix (K := K) rfl) (pv 0) pe_int (fun _ _ => rfl)) pe_int)) pe_int) pa_nil)) pe_int) (pg_sub (pv 0) pe_int set_list))
      (pss_one (ps_ret (pe_op op_modI (pe_callTy call_intOf (by rfl) T.n_int (by decide +kernel) (pa_cons (pe_op (k_plus (K := K) rfl) (pe_op op_divW (pe_ix (k_ix (K := K) rfl) (pv 0) pe_int (fun _ _ => rfl)) pe_int) (pe_op op_divW (pe_op op_mulI (pe_ix (k_ix (K := K) rfl) (pv 0) pe_int (fun _ _ => rfl)) pe_int) pe_int)) pa_nil)) (pv 1))))))), to_spQ hn (fun p pl ds hpl hp => ?_) h⟩)
  obtain ⟨m, rfl, hm, hm2⟩ := hp
  obtain ⟨b, s0, c, rfl, hb, hs, hs2, hc⟩ := hpl
  change WS K _ [.own p, .dat (.int m), .no] [(p, false, [.int b, .int s0, .int c])] _
  have mem : ∀ X : List PyData, (p, false, X) ∈ [(p, false, X)] := fun X => List.mem_cons_self
  have post : ∀ z : Int, 0 ≤ z → z < m → postDraw [.int m] (.int z) := fun z h1 h2 m' e => by
    injection e with e; injection e with e
    subst e
    exact ⟨z.toNat, by rw [Int.toNat_of_nonneg h1], by rw [Int.toNat_of_nonneg h1]; exact h2⟩
  have hdw : CDivW 0 m := wide_div (b := 20) hm (by omega) (by decide) (by decide)
  refine ws_seq (ws_if (wt_test (w_op ao_gt (w_ixown rfl (w_int ⟨_, _, mem _, fixl rfl (w_int (fii trivial (exb ?_)))⟩)))))
  refine iteB (fun h => ?_) (fun h => ?_)
  · refine ws_seq (ws_set (w_op ao_mod (w_ixown rfl (w_int ⟨_, _, mem _, fixl rfl (w_var rfl (fii hm ?_))⟩))))
    refine ws_seq (ws_setown (k := 0) rfl (w_op ao_div (w_ixown rfl (w_int ⟨_, _, mem _, fixl rfl (w_var rfl (fii hdw ⟨_, _, mem _, by simp, ?_⟩))⟩))))
    rw [ms_one]
    refine ws_ret (w_var rfl ⟨_, rfl, ⟨_, s0, c, rfl, Int.ediv_nonneg hb (by omega), hs, hs2, hc⟩, post _ (Int.emod_nonneg _ (by omega)) (Int.emod_lt_of_pos _ hm)⟩)
  · refine ws_next ?_
    refine ws_seq (ws_setown (k := 2) rfl (w_op ao_plus (w_ixown rfl (w_int ⟨_, _, mem _, fixl rfl (w_int (fpi ⟨_, _, mem _, by simp, ?_⟩))⟩))))
    rw [ms_one]
    refine ws_seq (ws_setown (k := 1) rfl (w_op ao_mod (w_cb ac_intOf (wa_cons (w_op ao_plus (w_op ao_plus (w_op ao_mul (w_ixown rfl (w_int ⟨_, _, mem _, fixl rfl (w_int (fii (cmr (by decide)) ?_))⟩)))))))))
    refine w_op ao_mul (w_ixown rfl (w_int ⟨_, _, mem _, fixl rfl (w_int (fii (cmr (by decide)) (fpi (w_int (fpi (wa_nil (m1 (fint (w_int (fii (by decide) ⟨_, _, mem _, by simp, ?_⟩))))))))))⟩))
    rw [ms_one]
    have z1 := Int.emod_nonneg (s0 * 16807 + (c + 1) * 7919 + 12345) (show (2147483647 : Int) ≠ 0 by decide)
    have z2 := Int.emod_lt_of_pos (s0 * 16807 + (c + 1) * 7919 + 12345) (show (0 : Int) < 2147483647 by decide)
    refine ws_ret (w_op ao_mod (w_cb ac_intOf (wa_cons (w_op ao_plus (w_op ao_div (w_ixown rfl (w_int ⟨_, _, mem _, fixl rfl (w_int (fii (wide_div (b := 4) (by decide) (by decide) (by decide) (by decide)) ?_))⟩)))))))
    refine w_op ao_div (w_op ao_mul (w_ixown rfl (w_int ⟨_, _, mem _, fixl rfl (w_int (fii (cmr (by decide)) (w_int (fii (wide_div (b := 20) (by decide) (by decide) (by decide) (by decide)) (fpi (wa_nil (m1 (fint (w_var rfl (fii hm ?_))))))))))⟩)))
    exact ⟨_, rfl, ⟨b, _, c + 1, rfl, hb, z1, z2, by omega⟩, post _ (Int.emod_nonneg _ (by omega)) (Int.emod_lt_of_pos _ hm)⟩
end
end Kk

set_option Elab.async false
set_option linter.all false
set_option maxRecDepth 100000
set_option maxHeartbeats 4000000
namespace Kk
open PySem PySem.Spec PyProof.Rows L2 Ab
/-- one step of the reading -/
local macro_rules | `(tactic| walk_at "w") => `(tactic| first
  | (with_reducible refine ws_seq ?_) | (with_reducible refine ws_next ?_) | (with_reducible refine ws_set ?_) | (with_reducible refine ws_par ?_) | (with_reducible refine ws_ret ?_) | (with_reducible refine ws_if ?_) | (with_reducible refine ws_drop ?_)
  | (refine w_var rfl ?_) | (with_reducible refine w_int ?_) | (with_reducible refine w_str ?_) | (with_reducible refine w_bl ?_) | (with_reducible refine w_non ?_)
  | (with_reducible refine wa_nil ?_) | (with_reducible refine wa_cons ?_) | (with_reducible refine w_tup ?_) | (with_reducible refine w_lst ?_)
  | (with_reducible refine wt_test ?_) | (with_reducible refine wt_B ?_) | (with_reducible refine wt_not ?_) | (with_reducible refine wt_and ?_) | (with_reducible refine wt_or ?_)
  | (with_reducible refine w_andV ?_) | (with_reducible refine w_orV ?_) | (with_reducible refine w_notV ?_) | (with_reducible refine w_ite ?_)
  | (with_reducible refine w_op ao_eq ?_) | (with_reducible refine w_op ao_ne ?_) | (with_reducible refine w_op ao_ix ?_) | (with_reducible refine w_op ao_plus ?_) | (with_reducible refine w_op ao_less ?_) | (with_reducible refine w_op ao_le ?_) | (with_reducible refine w_op ao_gt ?_) | (with_reducible refine w_op ao_ge ?_)
  | (with_reducible refine w_op ao_sub ?_) | (with_reducible refine w_op ao_mul ?_) | (with_reducible refine w_op ao_mod ?_) | (with_reducible refine w_op ao_div ?_) | (with_reducible refine w_op ao_pow ?_) | (with_reducible refine w_op ao_isNo ?_) | (with_reducible refine w_op ao_inSg ?_) | (with_reducible refine w_op ao_inSeq ?_) | (with_reducible refine w_op ao_ninSeq ?_)
  | (with_reducible refine w_cb ac_len ?_) | (with_reducible refine w_cb ac_tupleOf ?_) | (with_reducible refine w_cb ac_intOf ?_) | (with_reducible refine w_cb ac_all ?_) | (with_reducible refine w_cb ac_any ?_)
  | (with_reducible refine w_isi (by decide) ?_) | (with_reducible refine w_isi2 (by decide) (by decide) ?_) | (with_reducible refine w_sl ?_) | (with_reducible refine wo_none ?_) | (with_reducible refine wo_some ?_)
  | (with_reducible refine w_chain ao_le ao_le ?_) | (with_reducible refine w_call ?_))
local macro_rules | `(tactic| walk_at "v") => `(tactic| first
  | (with_reducible refine m0 ?_) | (with_reducible refine m1 ?_) | (with_reducible refine m2 ?_) | (with_reducible refine m3 ?_) | (with_reducible refine m5 ?_)
  | (with_reducible refine exb ?_) | (with_reducible refine exi ?_) | (with_reducible refine exl ?_) | (with_reducible refine exql ?_) | (with_reducible refine exqt ?_)
  | (refine fixt rfl ?_) | (refine fixl rfl ?_) | (refine fslt rfl ?_) | (refine fsll rfl ?_)
  | (with_reducible refine flent ?_; dsimp only [List.length_cons, List.length_nil]) | (with_reducible refine flenl ?_; dsimp only [List.length_cons, List.length_nil])
  | (with_reducible refine fii (by first | trivial | decide) ?_) | (with_reducible refine fpi ?_) | (with_reducible refine flti ?_) | (with_reducible refine fint ?_) | (with_reducible refine ftupl ?_) | (with_reducible refine ftupt ?_)
  | (with_reducible refine feq (by decide +kernel) (by decide +kernel) ?_) | (with_reducible refine fne (by decide +kernel) (by decide +kernel) ?_)
  | (with_reducible refine iteK rfl ?_) | (with_reducible refine iteN rfl ?_) | (with_reducible refine iteK (by decide +kernel) ?_) | (with_reducible refine iteN (by decide +kernel) ?_))
local macro_rules | `(tactic| walk_at "ww") => `(tactic| repeat (first | walk_at "w" | walk_at "v"))
theorem isn0 {P : PyData → Prop} (h : P (.bool true)) : fIsNo .none .none P := h
theorem isnb {b : Bool} {P : PyData → Prop} (h : P (.bool false)) : fIsNo (.bool b) .none P := h
theorem isni {b : Int} {P : PyData → Prop} (h : P (.bool false)) : fIsNo (.int b) .none P := h
theorem isns {b : Str} {P : PyData → Prop} (h : P (.bool false)) : fIsNo (.str b) .none P := h
theorem isnl {b : List PyData} {P : PyData → Prop} (h : P (.bool false)) : fIsNo (.list b) .none P := h
theorem isnt {b : List PyData} {P : PyData → Prop} (h : P (.bool false)) : fIsNo (.tuple b) .none P := h
local macro_rules | `(tactic| walk_at "v") => `(tactic| first | (with_reducible refine isn0 ?_) | (with_reducible refine isnb ?_) | (with_reducible refine isni ?_) | (with_reducible refine isns ?_) | (with_reducible refine isnl ?_) | (with_reducible refine isnt ?_))
/-! ### exact, relisted -/
inductive EX : Nat → PyData → Prop
  | non {n : Nat} : EX n .none
  | bl {n : Nat} {b : Bool} : EX n (.bool b)
  | int {n : Nat} {i : Int} : EX n (.int i)
  | str {n : Nat} {z : Str} : (PyData.str z).canLay0 = true → EX n (.str z)
  | lst {n : Nat} {xs : List PyData} : xs.length ≤ 10000 → (∀ x ∈ xs, EX n x) → EX (n + 1) (.list xs)
  | tup {n : Nat} {xs : List PyData} : xs.length ≤ 10000 → (∀ x ∈ xs, EX n x) → EX (n + 1) (.tuple xs)
theorem EX.mono {n m : Nat} {d : PyData} (h : EX n d) (hm : n ≤ m) : EX m d := by
  induction h generalizing m with
  | non => exact .non
  | bl => exact .bl
  | int => exact .int
  | str h => exact .str h
  | lst hl _ ih =>
    obtain ⟨k, rfl⟩ : ∃ k, m = k + 1 := ⟨m - 1, by omega⟩
    exact .lst hl fun x hx => ih x hx (by omega)
  | tup hl _ ih =>
    obtain ⟨k, rfl⟩ : ∃ k, m = k + 1 := ⟨m - 1, by omega⟩
    exact .tup hl fun x hx => ih x hx (by omega)
abbrev spEx (n : Nat) (K : PySem.W.Frag) : Sp := spP (fun ds => ∃ d, ds = [d, d] ∧ EX n d) (fun _ x => x = .bool true) K
mutual
def rel : PyData → PyData
  | .tuple xs => .list (rels xs)
  | d => d
def rels : List PyData → List PyData
  | [] => []
  | x :: xs => rel x :: rels xs
end
theorem rels_map : ∀ xs, rels xs = xs.map rel
  | [] => rfl
  | x :: xs => by
    show rel x :: rels xs = _
    rw [rels_map xs]; rfl
/-- tuples within tuples of so many steps -/
inductive TX : Nat → PyData → Prop
  | int {n : Nat} {i : Int} : TX n (.int i)
  | str {n : Nat} {z : Str} : TX n (.str z)
  | tup {n : Nat} {xs : List PyData} : xs.length ≤ 10000 → (∀ x ∈ xs, TX n x) → TX (n + 1) (.tuple xs)
abbrev spRel (n : Nat) (K : PySem.W.Frag) : Sp := spP (fun ds => ∃ d, ds = [d] ∧ TX n d) (fun ds x => ∀ d, ds = [d] → x = rel d) K
theorem neb (b : Bool) : (!PyData.eqv (.bool b) (.bool b)) = false := by cases b <;> rfl
section
variable {P : Program} {w : World} {K : PySem.W.Frag} {mg : Str → Option Value} {base : Heap} {aB : Addr} (T : Txt K mg aB)
include T in
theorem ok_law_exact1 (n : Nat) (F : Dfn K mg "_law_exact" s_law_exact ["_law_told", "_law_due"]) (c_law_exact : ∀ m, n = m + 1 → Cal P w K mg base n "_law_exact" ["_law_told", "_law_due"] (spEx m K)) :
    Cal P w K mg base (n + 1) "_law_exact" ["_law_told", "_law_due"] (spEx n K) := by
  have hn : ∀ ds, (∃ d, ds = [d, d] ∧ EX n d) → ds.length = 2 := by rintro ds ⟨d, rfl, _⟩; rfl
  have hc : ∃ m, (∀ d, EX n d → (match d with | .list _ => n = m + 1 | .tuple _ => n = m + 1 | _ => True)) ∧ Cal P w K mg base n "_law_exact" ["_law_told", "_law_due"] (spP (fun ds => n = m + 1 ∧ ∃ d, ds = [d, d] ∧ EX m d) (fun _ x => x = .bool true) K) := by
    cases n with
    | zero =>
      refine ⟨0, fun d h => by cases h <;> trivial, cal_void F fun vs H Q E h => ?_⟩
      obtain ⟨S, ds, _, ⟨e, _⟩, _⟩ := h
      omega
    | succ m =>
      refine ⟨m, fun d h => by cases h <;> trivial, ?_⟩
      obtain ⟨f, fd, a, b, c, e⟩ := (c_law_exact m rfl).ex
      exact ⟨f, fd, a.imp fun vs H Q E h => by
        obtain ⟨S, ds, i, ⟨_, p⟩, r⟩ := h
        exact ⟨S, ds, i, p, r⟩, b, c, e⟩
  obtain ⟨m, hm, c_law_exact⟩ := hc
  refine F.ok sc_law_exact (fun vs H Q E h => spP_len hn h) (fun f cdv A outer s H vs Q E hr h => ⟨_, (pss_cons (ps_if (pt_val (pe_callB (k_isiT (K := K) rfl) (by rfl) T.n_isinstance (by decide +kernel) (pa_cons (pv 1) (pa_cons (pe_tup (pa_cons (pe_bltn (v := .ty "list") (u := .type "list") (by rfl) T.n_list (by decide +kernel) rfl) (pa_cons (pe_bltn (v := .ty "tuple") (u := .type "tuple") (by rfl) T.n_tuple (by decide +kernel) rfl) pa_nil))) pa_nil)))) (pss_cons (ps_if (PW.pt (pw_or (pt_cmpR (k_ne (K := K) rfl hr) (pe_callB (k_isi (K := K) rfl) (by rfl) T.n_isinstance (by decide +kernel) (pa_cons (pv 1) (pa_cons (pe_bltn (v := .ty "list") (u := .type "list") (by rfl) T.n_list (by decide +kernel) rfl) pa_nil))) (pe_callB (k_isi (K := K) rfl) (by rfl) T.n_isinstance (by decide +kernel) (pa_cons (pv 0) (pa_cons (pe_bltn (v := .ty "list") (u := .type "list") (by rfl) T.n_list (by decide +kernel) rfl) pa_nil))) (nomark _)) (pw_or1 (pt_cmpR (k_ne (K := K) rfl hr) (pe_callB (k_isi (K := K) rfl) (by rfl) T.n_isinstance (by decide +kernel) (pa_cons (pv 1) (pa_cons (pe_bltn (v := .ty "tuple") (u := .type "tuple") (by rfl) T.n_tuple (by decide +kernel) rfl) pa_nil))) (pe_callB (k_isi (K := K) rfl) (by rfl) T.n_isinstance (by decide +kernel) (pa_cons (pv 0) (pa_cons (pe_bltn (v := .ty "tuple") (u := .type "tuple") (by rfl) T.n_tuple (by decide +kernel) rfl) pa_nil))) (nomark _))))) (pss_one (ps_ret pe_bl)) pss_nil)
      (pss_cons (ps_if (pt_cmpR (k_ne (K := K) rfl hr) (pe_callB (k_len (K := K) rfl) (by rfl) T.n_len (by decide +kernel) (pa_cons (pv 0) pa_nil)) (pe_callB (k_len (K := K) rfl) (by rfl) T.n_len (by decide +kernel) (pa_cons (pv 1) pa_nil)) (nomark _)) (pss_one (ps_ret pe_bl)) pss_nil)
      (pss_one (ps_ret (pe_cmpR (k_eq (K := K) rfl hr) (pe_lc (own := [("_law_k", 2)]) (by rfl) sc_law_exact.nd (pi_range1 (by rfl) T.n_range (pa_cons (pe_callB (k_len (K := K) rfl) (by rfl) T.n_len (by decide +kernel) (pa_cons (pv 1) pa_nil)) pa_nil)) (blkOk_by (N := ["_law_told", "_law_due", "_law_k"]) (sc := defScope s_law_exact) (by decide +kernel)) (fun _ _ _ _ _ => (pg_name (i := 2) sc_law_exact.nd rfl (by first | exact .inl rfl | exact .inr rfl))) (fun _ _ _ _ _ => (pts_one (pt_not (pt_val (pe_cal c_law_exact hr (pa_cons (pe_ix (k_ix (K := K) rfl) (pv 0) (pv 2) (fun _ _ => rfl)) (pa_cons (pe_ix (k_ix (K := K) rfl) (pv 1) (pv 2) (fun _ _ => rfl)) pa_nil))))))) (fun _ _ _ _ _ => (pv 2))) (pe_lst pa_nil) (nomark _)))))) pss_nil)
      (pss_cons (ps_if (pt_cmpR op_isNo (pv 1) pe_non (nomark _)) (pss_one (ps_ret (pe_cmpR op_isNo (pv 0) pe_non (nomark _)))) pss_nil)
      (pss_cons (ps_if (pt_val (pe_callB (k_isi (K := K) rfl) (by rfl) T.n_isinstance (by decide +kernel) (pa_cons (pv 1) (pa_cons (pe_bltn (v := .ty "bool") (u := .type "bool") (by rfl) T.n_bool (by decide +kernel) rfl) pa_nil)))) (pss_one (ps_ret (pe_and (pe_callB (k_isi (K := K) rfl) (by rfl) T.n_isinstance (by decide +kernel) (pa_cons (pv 0) (pa_cons (pe_bltn (v := .ty "bool") (u := .type "bool") (by rfl) T.n_bool (by decide +kernel) rfl) pa_nil))) (pe_one (pe_cmpR (k_eq (K := K) rfl hr) (pv 0) (pv 1) (nomark _)))))) pss_nil)
      (pss_cons (ps_if (pt_val (pe_callB (k_isi (K := K) rfl) (by rfl) T.n_isinstance (by decide +kernel) (pa_cons (pv 1) (pa_cons (pe_bltn (v := .ty "str") (u := .type "str") (by rfl) T.n_str (by decide +kernel) rfl) pa_nil)))) (pss_one (ps_ret (pe_and (pe_callB (k_isi (K := K) rfl) (by rfl) T.n_isinstance (by decide +kernel) (pa_cons (pv 0) (pa_cons (pe_bltn (v := .ty "str") (u := .type "str") (by rfl) T.n_str (by decide +kernel) rfl) pa_nil))) (pe_one (pe_cmpR (k_eq (K := K) rfl hr) (pv 0) (pv 1) (nomark _)))))) pss_nil)
      (pss_one (ps_ret (pe_and (pe_callB (k_isi (K := K) rfl) (by rfl) T.n_isinstance (by decide +kernel) (pa_cons (pv 0) (pa_cons (pe_bltn (v := .ty "int") (u := .type "int") (by rfl) T.n_int (by decide +kernel) rfl) pa_nil))) (pe_and (pe_not (pe_callB (k_isi (K := K) rfl) (by rfl) T.n_isinstance (by decide +kernel) (pa_cons (pv 0) (pa_cons (pe_bltn (v := .ty "bool") (u := .type "bool") (by rfl) T.n_bool (by decide +kernel) rfl) pa_nil)))) (pe_one (pe_cmpR (k_eq (K := K) rfl hr) (pv 0) (pv 1) (nomark _))))))))))), to_spP hn (fun ds hp => ?_) h⟩)
  obtain ⟨d, rfl, hd⟩ := hp
  have hmd := hm d hd
  change WS K _ [.dat d, .dat d, .no] [] _
  cases hd with
  | non =>
    walk_at "ww"
    rfl
  | bl =>
    walk_at "ww"
    refine feq rfl rfl ?_
    rename_i b
    show PyData.bool (PyData.eqv (.bool b) (.bool b)) = _
    cases b <;> rfl
  | int =>
    walk_at "ww"
    refine feq rfl rfl ?_
    rename_i i
    show PyData.bool (i == i) = _
    rw [beq_self_eq_true]
  | str hz =>
    walk_at "ww"
    refine feq (step_sh hz) (step_sh hz) ?_
    rename_i z
    show PyData.bool (PyData.eqv (.str z) (.str z)) = _
    rw [str_eqv, decide_eq_true rfl]
  | @lst m' xs hl hx =>
    have em : m' = m := by have : m' + 1 = m + 1 := hmd; omega
    subst em
    walk_at "ww"
    refine fne rfl rfl (exb (iteN (neb _) ?_))
    walk_at "ww"
    refine fne rfl rfl ?_
    refine exb (iteN (neb _) ?_)
    walk_at "ww"
    refine flenl ?_
    refine fne rfl rfl ?_
    refine exb (iteN ?_ ?_)
    · show (!(((xs.length : Nat) : Int) == ((xs.length : Nat) : Int))) = false
      rw [beq_self_eq_true]; rfl
    walk_at "ww"
    refine w_filt (by decide) (wi_rng (wa_cons (w_cb ac_len (wa_cons (w_var rfl (wa_nil (m1 (flenl (wa_nil ?_)))))))))
    refine ⟨_, rfl, by omega, by omega, fun _ => false, fun x => x, by simp; omega, fun x hxm => ?_, ?_⟩
    · obtain ⟨j, hj, rfl⟩ := List.mem_map.mp hxm
      have hj : j < xs.length := by simpa using List.mem_range.mp hj
      have hat : atI xs (j : Int) = some xs[j] := atI_nat (List.getElem?_eq_getElem hj)
      change WT K _ [.dat (.list xs), .dat (.list xs), .dat (.int (j : Int))] [] _
      refine wt_not (wt_B (w_call (wa_cons (w_op ao_ix (w_var rfl (w_var rfl (fixl hat (wa_cons (w_op ao_ix (w_var rfl (w_var rfl (fixl hat (wa_nil (m2 ⟨⟨rfl, xs[j], rfl, hx _ (List.getElem_mem hj)⟩, fun d hd => ?_⟩))))))))))))))
      subst hd
      exact exb ⟨rfl, rfl, fun h => by cases h⟩
    · rw [show (((List.range ((xs.length : Nat) : Int).toNat).map fun (i : Nat) => PyData.int (i : Int)).filter fun _ => false) = [] by simp]
      refine w_lst (wa_nil (m0 ⟨by simp, feq (by rfl) (by rfl) ?_⟩))
      rfl
  | @tup m' xs hl hx =>
    have em : m' = m := by have : m' + 1 = m + 1 := hmd; omega
    subst em
    walk_at "ww"
    refine fne rfl rfl (exb (iteN (neb _) ?_))
    walk_at "ww"
    refine fne rfl rfl ?_
    refine exb (iteN (neb _) ?_)
    walk_at "ww"
    refine flent ?_
    refine fne rfl rfl ?_
    refine exb (iteN ?_ ?_)
    · show (!(((xs.length : Nat) : Int) == ((xs.length : Nat) : Int))) = false
      rw [beq_self_eq_true]; rfl
    walk_at "ww"
    refine w_filt (by decide) (wi_rng (wa_cons (w_cb ac_len (wa_cons (w_var rfl (wa_nil (m1 (flent (wa_nil ?_)))))))))
    refine ⟨_, rfl, by omega, by omega, fun _ => false, fun x => x, by simp; omega, fun x hxm => ?_, ?_⟩
    · obtain ⟨j, hj, rfl⟩ := List.mem_map.mp hxm
      have hj : j < xs.length := by simpa using List.mem_range.mp hj
      have hat : atI xs (j : Int) = some xs[j] := atI_nat (List.getElem?_eq_getElem hj)
      change WT K _ [.dat (.tuple xs), .dat (.tuple xs), .dat (.int (j : Int))] [] _
      refine wt_not (wt_B (w_call (wa_cons (w_op ao_ix (w_var rfl (w_var rfl (fixt hat (wa_cons (w_op ao_ix (w_var rfl (w_var rfl (fixt hat (wa_nil (m2 ⟨⟨rfl, xs[j], rfl, hx _ (List.getElem_mem hj)⟩, fun d hd => ?_⟩))))))))))))))
      subst hd
      exact exb ⟨rfl, rfl, fun h => by cases h⟩
    · rw [show (((List.range ((xs.length : Nat) : Int).toNat).map fun (i : Nat) => PyData.int (i : Int)).filter fun _ => false) = [] by simp]
      refine w_lst (wa_nil (m0 ⟨by simp, feq (by rfl) (by rfl) ?_⟩))
      rfl
include T in
theorem ok_law_exact (F : Dfn K mg "_law_exact" s_law_exact ["_law_told", "_law_due"]) : ∀ n, Cal P w K mg base (n + 1) "_law_exact" ["_law_told", "_law_due"] (spEx n K)
  | 0 => ok_law_exact1 T 0 F fun m h => by omega
  | n + 1 => ok_law_exact1 T (n + 1) F fun m h => by
    have e : n = m := by omega
    subst e
    exact ok_law_exact F n
include T in
theorem ok_law_relisted1 (n : Nat) (F : Dfn K mg "_law_relisted" s_law_relisted ["_law_thing"]) (q_law_relisted : ∀ m, n = m + 1 → Cal P w K mg base n "_law_relisted" ["_law_thing"] (spRel m K)) :
    Cal P w K mg base (n + 1) "_law_relisted" ["_law_thing"] (spRel n K) := by
  have hn : ∀ ds, (∃ d, ds = [d] ∧ TX n d) → ds.length = 1 := by rintro ds ⟨d, rfl, _⟩; rfl
  have hc : ∃ m, (∀ d, TX n d → (match d with | .tuple _ => n = m + 1 | _ => True)) ∧ Cal P w K mg base n "_law_relisted" ["_law_thing"] (spP (fun ds => n = m + 1 ∧ ∃ d, ds = [d] ∧ TX m d) (fun ds x => ∀ d, ds = [d] → x = rel d) K) := by
    cases n with
    | zero =>
      refine ⟨0, fun d h => by cases h <;> trivial, cal_void F fun vs H Q E h => ?_⟩
      obtain ⟨S, ds, _, ⟨e, _⟩, _⟩ := h
      omega
    | succ m =>
      refine ⟨m, fun d h => by cases h <;> trivial, ?_⟩
      obtain ⟨f, fd, a, b, c, e⟩ := (q_law_relisted m rfl).ex
      exact ⟨f, fd, a.imp fun vs H Q E h => by
        obtain ⟨S, ds, i, ⟨_, p⟩, r⟩ := h
        exact ⟨S, ds, i, p, r⟩, b, c, e⟩
  obtain ⟨m, hm, c_law_relisted⟩ := hc
  refine F.ok sc_law_relisted (fun vs H Q E h => spP_len hn h) (fun f cdv A outer s H vs Q E hr h => ⟨_, (pss_cons (ps_if (pt_val (pe_callB (k_isi (K := K) rfl) (by rfl) T.n_isinstance (by decide +kernel) (pa_cons (pv 0) (pa_cons (pe_bltn (v := .ty "tuple") (u := .type "tuple") (by rfl) T.n_tuple (by decide +kernel) rfl) pa_nil)))) (pss_one (ps_ret (pe_lc (own := [("_law_part", 1)]) (by rfl) sc_law_relisted.nd (k_seq (K := K) rfl (pv 0)) (blkOk_by (N := ["_law_thing", "_law_part"]) (sc := defScope s_law_relisted) (by decide +kernel)) (fun _ _ _ _ _ => (pg_name (i := 1) sc_law_relisted.nd rfl (by first | exact .inl rfl | exact .inr rfl))) (fun _ _ _ _ _ => pts_nil) (fun _ _ _ _ _ => (pe_cal c_law_relisted hr (pa_cons (pv 1) pa_nil)))))) pss_nil)
      (pss_one (ps_ret (pv 0)))), to_spP hn (fun ds hp => ?_) h⟩)
  obtain ⟨d, rfl, hd⟩ := hp
  have hmd := hm d hd
  have fin : ∀ x, x = rel d → ∀ d', [d] = [d'] → x = rel d' := fun x e d' h => by injection h with h; rw [e, h]
  change WS K _ [.dat d, .no] [] _
  cases hd with
  | int => walk_at "ww"; exact fin _ rfl
  | str => walk_at "ww"; exact fin _ rfl
  | @tup m' xs hl hx =>
    have em : m' = m := by have : m' + 1 = m + 1 := hmd; omega
    subst em
    walk_at "ww"
    refine w_map (by decide) (wi_seq (w_var rfl ⟨xs, .inr rfl, rel, by omega, fun x hxm => ?_, ?_⟩))
    · change W K _ [.dat (.tuple xs), .dat x] [] _
      refine w_call (wa_cons (w_var rfl (wa_nil (m1 ⟨⟨rfl, x, rfl, hx x hxm⟩, fun d hd => ⟨hd x rfl, rfl⟩⟩))))
    · refine fin _ ?_
      show _ = PyData.list (rels xs)
      rw [rels_map]
include T in
theorem ok_law_relisted (F : Dfn K mg "_law_relisted" s_law_relisted ["_law_thing"]) : ∀ n, Cal P w K mg base (n + 1) "_law_relisted" ["_law_thing"] (spRel n K)
  | 0 => ok_law_relisted1 T 0 F fun m h => by omega
  | n + 1 => ok_law_relisted1 T (n + 1) F fun m h => by
    have e : n = m := by omega
    subst e
    exact ok_law_relisted F n
end
end Kk

set_option Elab.async false
set_option linter.all false
set_option maxRecDepth 100000
set_option maxHeartbeats 4000000
namespace Kk
open PySem PySem.Spec PyProof.Rows L2 Ab
/-- one step of the reading -/
local macro_rules | `(tactic| walk_at "w") => `(tactic| first
  | (with_reducible refine ws_seq ?_) | (with_reducible refine ws_next ?_) | (with_reducible refine ws_set ?_) | (with_reducible refine ws_par ?_) | (with_reducible refine ws_ret ?_) | (with_reducible refine ws_if ?_) | (with_reducible refine ws_drop ?_)
  | (refine w_var rfl ?_) | (with_reducible refine w_int ?_) | (with_reducible refine w_str ?_) | (with_reducible refine w_bl ?_) | (with_reducible refine w_non ?_)
  | (with_reducible refine wa_nil ?_) | (with_reducible refine wa_cons ?_) | (with_reducible refine w_tup ?_) | (with_reducible refine w_lst ?_)
  | (with_reducible refine wt_test ?_) | (with_reducible refine wt_B ?_) | (with_reducible refine wt_not ?_) | (with_reducible refine wt_and ?_) | (with_reducible refine wt_or ?_)
  | (with_reducible refine w_andV ?_) | (with_reducible refine w_orV ?_) | (with_reducible refine w_notV ?_) | (with_reducible refine w_ite ?_)
  | (with_reducible refine w_op ao_eq ?_) | (with_reducible refine w_op ao_ne ?_) | (with_reducible refine w_op ao_ix ?_) | (with_reducible refine w_op ao_plus ?_) | (with_reducible refine w_op ao_less ?_) | (with_reducible refine w_op ao_le ?_) | (with_reducible refine w_op ao_gt ?_) | (with_reducible refine w_op ao_ge ?_)
  | (with_reducible refine w_op ao_sub ?_) | (with_reducible refine w_op ao_mul ?_) | (with_reducible refine w_op ao_mod ?_) | (with_reducible refine w_op ao_div ?_) | (with_reducible refine w_op ao_pow ?_) | (with_reducible refine w_op ao_isNo ?_) | (with_reducible refine w_op ao_inSg ?_) | (with_reducible refine w_op ao_inSeq ?_) | (with_reducible refine w_op ao_ninSeq ?_)
  | (with_reducible refine w_cb ac_len ?_) | (with_reducible refine w_cb ac_tupleOf ?_) | (with_reducible refine w_cb ac_intOf ?_) | (with_reducible refine w_cb ac_all ?_) | (with_reducible refine w_cb ac_any ?_)
  | (with_reducible refine w_isi (by decide) ?_) | (with_reducible refine w_isi2 (by decide) (by decide) ?_) | (with_reducible refine w_sl ?_) | (with_reducible refine wo_none ?_) | (with_reducible refine wo_some ?_)
  | (with_reducible refine w_chain ao_le ao_le ?_) | (with_reducible refine w_call ?_))
local macro_rules | `(tactic| walk_at "v") => `(tactic| first
  | (with_reducible refine m0 ?_) | (with_reducible refine m1 ?_) | (with_reducible refine m2 ?_) | (with_reducible refine m3 ?_) | (with_reducible refine m5 ?_)
  | (with_reducible refine exb ?_) | (with_reducible refine exi ?_) | (with_reducible refine exl ?_) | (with_reducible refine exql ?_) | (with_reducible refine exqt ?_)
  | (refine fixt rfl ?_) | (refine fixl rfl ?_) | (refine fslt rfl ?_) | (refine fsll rfl ?_)
  | (with_reducible refine flent ?_; dsimp only [List.length_cons, List.length_nil]) | (with_reducible refine flenl ?_; dsimp only [List.length_cons, List.length_nil])
  | (with_reducible refine fii (by first | trivial | decide) ?_) | (with_reducible refine fpi ?_) | (with_reducible refine flti ?_) | (with_reducible refine fint ?_) | (with_reducible refine ftupl ?_) | (with_reducible refine ftupt ?_)
  | (with_reducible refine feq (by decide +kernel) (by decide +kernel) ?_) | (with_reducible refine fne (by decide +kernel) (by decide +kernel) ?_)
  | (with_reducible refine iteK rfl ?_) | (with_reducible refine iteN rfl ?_) | (with_reducible refine iteK (by decide +kernel) ?_) | (with_reducible refine iteN (by decide +kernel) ?_))
local macro_rules | `(tactic| walk_at "ww") => `(tactic| repeat (first | walk_at "w" | walk_at "v"))

theorem l100 {xs : List PyData} {R : Prop} (h : xs.length ≤ 100000) (r : R) : xs.length ≤ 100000 ∧ R := ⟨h, r⟩
local macro_rules | `(tactic| walk_at "v") => `(tactic| first | (with_reducible refine l100 (by simp; done) ?_) | (with_reducible refine isn0 ?_))
/-! ### any_kind -/
theorem wt_yes {K : PySem.W.Frag} {as : List Sv} {M : Mm} {PT : Bool → Mm → Prop} (h : PT true M) : WT K tYes as M PT := fun S H0 σ H k r Q q => q true H M k (Same.refl _) h
def bnd : Nat → Nat
  | 0 => 1
  | n + 1 => 3 * bnd n + 1
def postAny (n : Nat) (x : PyData) : Prop := ∃ k, x = toD k ∧ wf k ∧ dep k ≤ n + 1 ∧ sz k ≤ bnd n
abbrev spAny (n : Nat) (K : PySem.W.Frag) : Sp := spQ (fun ds => ds = [PyData.int (n : Int)]) (fun _ x => postAny n x) K
def ofL : List (Str × Kd) → Kf
  | [] => .nil
  | p :: r => .cons p.1 p.2 (ofL r)
theorem ofL_fields : ∀ l, fields (ofL l) = l
  | [] => rfl
  | p :: r => by
    show (p.1, p.2) :: fields (ofL r) = _
    rw [ofL_fields r]
theorem ofL_dep : ∀ {l : List (Str × Kd)} {n : Nat}, (∀ p ∈ l, dep p.2 ≤ n) → depF (ofL l) ≤ n
  | [], _, _ => Nat.zero_le _
  | p :: r, n, h => by
    show max (dep p.2) (depF (ofL r)) ≤ n
    have := h p List.mem_cons_self
    have := ofL_dep (l := r) fun q hq => h q (List.mem_cons_of_mem _ hq)
    omega
theorem sum_le_mul {α : Type} {f : α → Nat} {b : Nat} : ∀ {l : List α}, (∀ x ∈ l, f x ≤ b) → (l.map f).sum ≤ l.length * b
  | [], _ => by simp
  | a :: l, h => by
    rw [List.map_cons, List.sum_cons, List.length_cons, Nat.add_mul]
    have := h a List.mem_cons_self
    have := sum_le_mul (l := l) fun x hx => h x (List.mem_cons_of_mem _ hx)
    omega
theorem post_lst {n : Nat} {k : Kd} (hw : wf k) (hd : dep k ≤ n + 1) (hs : sz k ≤ bnd n) : postAny (n + 1) (.tuple [.str "list", toD k]) :=
  ⟨.lst k, rfl, hw, by show dep k + 1 ≤ _; omega, by show sz k + 1 ≤ 3 * bnd n + 1; omega⟩
theorem post_fn {n : Nat} {a b : Kd} (hw : wf a) (hd : dep a ≤ n + 1) (hs : sz a ≤ bnd n) (hw2 : wf b) (hd2 : dep b ≤ n + 1) (hs2 : sz b ≤ bnd n) : postAny (n + 1) (.tuple [.str "function", toD a, toD b]) :=
  ⟨.fn a b, rfl, ⟨hw, hw2⟩, by show max (dep a) (dep b) + 1 ≤ _; omega, by show sz a + sz b + 1 ≤ 3 * bnd n + 1; omega⟩
theorem post_rcd {n : Nat} {l : List (Str × Kd)} (hl : labOk (l.map (·.1))) (h : ∀ p ∈ l, wf p.2 ∧ dep p.2 ≤ n + 1 ∧ sz p.2 ≤ bnd n) (h3 : l.length ≤ 3) : postAny (n + 1) (.tuple [.str "record", .tuple (l.map fun p => PyData.tuple [.str p.1, toD p.2])]) := by
  refine ⟨.rcd (ofL l), ?_, ⟨?_, ?_⟩, ?_, ?_⟩
  · show _ = PyData.tuple [.str "record", .tuple (toF (ofL l))]
    rw [toF_fields, ofL_fields]
  · rw [labels_fields, ofL_fields]; exact hl
  · rw [wfF_iff, ofL_fields]; exact fun p hp => (h p hp).1
  · show depF (ofL l) + 1 ≤ _
    have := ofL_dep fun p hp => (h p hp).2.1
    omega
  · show szF (ofL l) + 1 ≤ 3 * bnd n + 1
    rw [szF_sum, ofL_fields]
    have := sum_le_mul (f := fun p : Str × Kd => sz p.2) fun p hp => (h p hp).2.2
    have := Nat.mul_le_mul_right (bnd n) h3
    omega
theorem post_base {n : Nat} {b : Bs} : postAny n (.str b.nm) := ⟨.base b, rfl, trivial, by show 1 ≤ _; omega, by
  show 1 ≤ bnd n
  cases n with
  | zero => exact Nat.le_refl _
  | succ n => show 1 ≤ 3 * bnd n + 1; omega⟩
theorem post_any {n m : Nat} : postAny n (.tuple [.str "any", .int (m : Int)]) := ⟨.any m, rfl, trivial, by show 1 ≤ _; omega, by
  show 1 ≤ bnd n
  cases n with
  | zero => exact Nat.le_refl _
  | succ n => show 1 ≤ 3 * bnd n + 1; omega⟩
theorem cut_five (a n : Nat) (ha : a < 5) (hn : n < 4) : cutD [PyData.str "a", .str "b2", .str "list", .str "text", .str "zzzzzzzz"] (some (a : Int)) (some ((a : Int) + (n : Int))) = ((five.drop a).take n).map .str := by
  match a, ha, n, hn with
  | 0, _, 0, _ | 0, _, 1, _ | 0, _, 2, _ | 0, _, 3, _ => rfl
  | 1, _, 0, _ | 1, _, 1, _ | 1, _, 2, _ | 1, _, 3, _ => rfl
  | 2, _, 0, _ | 2, _, 1, _ | 2, _, 2, _ | 2, _, 3, _ => rfl
  | 3, _, 0, _ | 3, _, 1, _ | 3, _, 2, _ | 3, _, 3, _ => rfl
  | 4, _, 0, _ | 4, _, 1, _ | 4, _, 2, _ | 4, _, 3, _ => rfl
section
variable {P : Program} {w : World} {K : PySem.W.Frag} {mg : Str → Option Value} {base : Heap} {aB : Addr} (T : Txt K mg aB)
/-- a draw -/
theorem w_draw {p : Addr} {fl : Bool} {pl : List PyData} {i : Nat} {m : Int} {as : List Sv} {R : PyData → Mm → Prop} (hi : as[i]? = some (.own p)) (hpl : poolD pl) (hm : 0 < m) (hm2 : m < 1000000) (h : ∀ (n : Nat) pl', (n : Int) < m → poolD pl' → R (.int (n : Int)) [(p, fl, pl')]) :
    W K (tCall (spQ preDraw postDraw K) [] E0 (tCons (tVar i) (tCons (tC (.int m)) tNil))) as [(p, fl, pl)] R := by
  refine w_callQ (wa_mut hi (wa_cons (w_int (wa_nil ⟨p, fl, pl, [.int m], rfl, rfl, hpl, ⟨m, rfl, hm, hm2⟩, fun d pl' hpl' hd => ?_⟩))))
  obtain ⟨n, rfl, hn⟩ := hd m rfl
  exact h n pl' hn hpl'
/-- a kind of one step less -/
theorem w_anyk {p : Addr} {fl : Bool} {pl : List PyData} {n m : Nat} {as : List Sv} {R : PyData → Mm → Prop} (hi : as[0]? = some (.own p)) (h1 : as[1]? = some (.dat (.int ((m + 1 : Nat) : Int)))) (hn : n = m + 1) (hpl : poolD pl) (h : ∀ k pl', poolD pl' → wf k → dep k ≤ m + 1 → sz k ≤ bnd m → R (toD k) [(p, fl, pl')]) :
    W K (tCall (spQ (fun ds => n = m + 1 ∧ ds = [PyData.int (m : Int)]) (fun _ x => postAny m x) K) [] E0 (tCons (tVar 0) (tCons (tOp rSubI (tVar 1) (tC (.int 1))) tNil))) as [(p, fl, pl)] R := by
  refine w_callQ (wa_mut hi (wa_cons (w_op ao_sub (w_var h1 (w_int (fii trivial (wa_nil ⟨p, fl, pl, [.int (((m + 1 : Nat) : Int) - 1)], rfl, rfl, hpl, ⟨hn, by rw [show ((m + 1 : Nat) : Int) - 1 = (m : Int) by omega]⟩, fun d pl' hpl' hd => ?_⟩)))))))
  obtain ⟨k, rfl, a, b, c⟩ := hd
  exact h k pl' hpl' a b c
include T in
theorem ok_law_any_kind1 (n : Nat) (F : Dfn K mg "_law_any_kind" s_law_any_kind ["_law_pool_here", "_law_left"]) (q_law_draw : Cal P w K mg base 1 "_law_draw" ["_law_pool_here", "_law_many"] (spQ preDraw postDraw K))
    (q_law_any_kind : ∀ m, n = m + 1 → Cal P w K mg base (n + 1) "_law_any_kind" ["_law_pool_here", "_law_left"] (spAny m K)) : Cal P w K mg base (n + 2) "_law_any_kind" ["_law_pool_here", "_law_left"] (spAny n K) := by
  have hn : ∀ ds, ds = [PyData.int (n : Int)] → ds.length = 1 := by rintro ds rfl; rfl
  have c_law_draw := q_law_draw.mono (show 1 ≤ n + 1 by omega)
  have hc : ∃ m, (n = 0 ∨ n = m + 1) ∧ Cal P w K mg base (n + 1) "_law_any_kind" ["_law_pool_here", "_law_left"] (spQ (fun ds => n = m + 1 ∧ ds = [PyData.int (m : Int)]) (fun _ x => postAny m x) K) := by
    cases n with
    | zero =>
      refine ⟨0, .inl rfl, cal_void F fun vs H Q E h => ?_⟩
      obtain ⟨S, p, ws, ds, l, pl, _, _, _, _, _, _, _, ⟨e, _⟩, _⟩ := h
      omega
    | succ m =>
      refine ⟨m, .inr rfl, ?_⟩
      obtain ⟨f, fd, a, b, c, e⟩ := (q_law_any_kind m rfl).ex
      exact ⟨f, fd, a.imp fun vs H Q E h => by
        obtain ⟨S, p, ws, ds, l, pl, e1, i, e2, e3, e4, e5, e6, ⟨_, e7⟩, r⟩ := h
        exact ⟨S, p, ws, ds, l, pl, e1, i, e2, e3, e4, e5, e6, e7, r⟩, b, c, e⟩
  obtain ⟨m, hm, c_law_any_kind⟩ := hc
  refine F.ok sc_law_any_kind (fun vs H Q E h => spQ_len hn h) (fun f cdv A outer s H vs Q E hr h => ⟨_, (pss_cons (ps_set (i := 2) sc_law_any_kind.nd rfl (by first | exact .inl rfl | exact .inr rfl) (pe_cal c_law_draw hr (pa_cons (pv 0) (pa_cons pe_int pa_nil))))
      (pss_cons (ps_if (PW.pt (pw_or (pt_cmpR (k_eq (K := K) rfl hr) (pv 1) pe_int (nomark _)) (pw_or1 (pt_cmpR op_less (pv 2) pe_int (nomark _))))) (pss_one (ps_ret (pe_ix (k_ix (K := K) rfl) (pe_lst (pa_cons pe_str (pa_cons pe_str (pa_cons pe_str pa_nil)))) (pe_op op_modI (pv 2) pe_int) (fun _ _ => rfl)))) pss_nil)
      (pss_cons (ps_if (pt_cmpR (k_eq (K := K) rfl hr) (pv 2) pe_int (nomark _)) (pss_one (ps_ret (pe_tup (pa_cons pe_str (pa_cons (pe_cal c_law_draw hr (pa_cons (pv 0) (pa_cons pe_int pa_nil))) pa_nil))))) pss_nil)
      (pss_cons (ps_if (PW.pt (pw_or (pt_cmpR (k_eq (K := K) rfl hr) (pv 2) pe_int (nomark _)) (pw_or1 (pt_cmpR (k_eq (K := K) rfl hr) (pv 2) pe_int (nomark _))))) (pss_one (ps_ret (pe_tup (pa_cons pe_str (pa_cons (pe_cal c_law_any_kind hr (pa_cons (pv 0) (pa_cons (pe_op op_subI (pv 1) pe_int) pa_nil))) pa_nil))))) pss_nil)
      (pss_cons (ps_if (pt_cmpR (k_eq (K := K) rfl hr) (pv 2) pe_int (nomark _)) (pss_one (ps_ret (pe_tup (pa_cons pe_str (pa_cons (pe_cal c_law_any_kind hr (pa_cons (pv 0) (pa_cons (pe_op op_subI (pv 1) pe_int) pa_nil))) (pa_cons (pe_cal c_law_any_kind hr (pa_cons (pv 0) (pa_cons (pe_op op_subI (pv 1) pe_int) pa_nil))) pa_nil)))))) pss_nil)
      (pss_cons (ps_set (i := 3) sc_law_any_kind.nd rfl (by first | exact .inl rfl | exact .inr rfl) (pe_cal c_law_draw hr (pa_cons (pv 0) (pa_cons pe_int pa_nil))))
      (pss_cons (ps_set (i := 4) sc_law_any_kind.nd rfl (by first | exact .inl rfl | exact .inr rfl) (pe_slice (k_sl (K := K) rfl) (pe_lst (pa_cons pe_str (pa_cons pe_str (pa_cons pe_str (pa_cons pe_str (pa_cons pe_str pa_nil)))))) (po_some (pv 3)) (po_some (pe_op (k_plus (K := K) rfl) (pv 3) (pe_cal c_law_draw hr (pa_cons (pv 0) (pa_cons pe_int pa_nil)))))))
      (pss_one (ps_ret (pe_tup (pa_cons pe_str (pa_cons (pe_callTy (k_tuple (K := K) rfl) (by rfl) T.n_tuple (by decide +kernel) (pa_cons (pe_lc (own := [("_law_label", 5)]) (by rfl) sc_law_any_kind.nd (k_seq (K := K) rfl (pv 4)) (blkOk_by (N := ["_law_pool_here", "_law_left", "_law_way", "_law_first", "_law_labels", "_law_label"]) (sc := defScope s_law_any_kind) (by decide +kernel)) (fun _ _ _ _ _ => (pg_name (i := 5) sc_law_any_kind.nd rfl (by first | exact .inl rfl | exact .inr rfl))) (fun _ _ _ _ _ => pts_nil) (fun _ _ _ _ _ => (pe_tup (pa_cons (pv 5) (pa_cons (pe_cal c_law_any_kind hr (pa_cons (pv 0) (pa_cons (pe_op op_subI (pv 1) pe_int) pa_nil))) pa_nil))))) pa_nil)) pa_nil)))))))))))), to_spQ hn (fun p pl ds hpl hp => ?_) h⟩)
  subst hp
  change WS K _ [.own p, .dat (.int (n : Int)), .no, .no, .no, .no] [(p, false, pl)] _
  refine ws_seq (ws_set (w_draw rfl hpl (by decide) (by decide) fun way pl1 hway hpl1 => ?_))
  change WS K _ [.own p, .dat (.int (n : Int)), .dat (.int (way : Int)), .no, .no, .no] [(p, false, pl1)] _
  have hw8 : way = 0 ∨ way = 1 ∨ way = 2 ∨ way = 3 ∨ way = 4 ∨ way = 5 ∨ way = 6 ∨ way = 7 := by omega
  refine ws_seq (ws_if (wt_or (wt_test (w_op ao_eq (w_var rfl (w_int (feq rfl rfl (exb ?_))))))))
  show if ((n : Int) == 0) = true then _ else _
  rcases hm with rfl | rfl
  · refine iteK rfl (iteK rfl ?_)
    rcases hw8 with rfl | rfl | rfl | rfl | rfl | rfl | rfl | rfl
    all_goals walk_at "ww"
    all_goals exact ⟨_, rfl, hpl1, by first | exact post_base (b := .int) | exact post_base (b := .text) | exact post_base (b := .truth)⟩
  have n0 : (((m + 1 : Nat) : Int) == 0) = false := by rw [beq_eq_false_iff_ne]; omega
  refine iteN n0 ?_
  rcases hw8 with rfl | rfl | rfl | rfl | rfl | rfl | rfl | rfl
  · walk_at "ww"
    exact ⟨_, rfl, hpl1, post_base (b := .int)⟩
  · walk_at "ww"
    exact ⟨_, rfl, hpl1, post_base (b := .text)⟩
  · walk_at "ww"
    exact ⟨_, rfl, hpl1, post_base (b := .truth)⟩
  · walk_at "ww"
    refine w_draw rfl hpl1 (by decide) (by decide) fun z pl2 hz hpl2 => ?_
    exact wa_nil (m2 ⟨by simp, _, rfl, hpl2, post_any⟩)
  · walk_at "ww"
    refine w_anyk rfl rfl rfl hpl1 fun k pl2 hpl2 hw hd hs => ?_
    exact wa_nil (m2 ⟨by simp, _, rfl, hpl2, post_lst hw hd hs⟩)
  · walk_at "ww"
    refine w_anyk rfl rfl rfl hpl1 fun k pl2 hpl2 hw hd hs => ?_
    exact wa_nil (m2 ⟨by simp, _, rfl, hpl2, post_lst hw hd hs⟩)
  · walk_at "ww"
    refine w_anyk rfl rfl rfl hpl1 fun k pl2 hpl2 hw hd hs => ?_
    refine wa_cons (w_anyk rfl rfl rfl hpl2 fun k2 pl3 hpl3 hw2 hd2 hs2 => ?_)
    exact wa_nil (m3 ⟨by simp, _, rfl, hpl3, post_fn hw hd hs hw2 hd2 hs2⟩)
  · walk_at "ww"
    refine w_draw rfl hpl1 (by decide) (by decide) fun a pl2 ha hpl2 => ?_
    walk_at "ww"
    refine w_draw rfl hpl2 (by decide) (by decide) fun b pl3 hb hpl3 => ?_
    walk_at "ww"
    rw [cut_five a b (by omega) (by omega)]
    refine w_lc ga_name (by decide) (wi_seq (w_var rfl ⟨_, .inl rfl, fun i acc M' => ∃ (l : List (Str × Kd)) (pl' : List PyData), acc = (l.map fun p => PyData.tuple [.str p.1, toD p.2]) ∧ M' = [(p, false, pl')] ∧ poolD pl' ∧ l.map (·.1) = ((five.drop a).take b).take i ∧ (∀ p ∈ l, wf p.2 ∧ dep p.2 ≤ m + 1 ∧ sz p.2 ≤ bnd m), ⟨[], pl3, rfl, rfl, hpl3, by simp, fun p hp => by cases hp⟩, ?_, ?_⟩))
    · rintro i x acc Mi hx ⟨l, pl', rfl, rfl, hpl', hl, hall⟩
      rw [List.getElem?_map] at hx
      cases hz : ((five.drop a).take b)[i]? with
      | none => rw [hz] at hx; cases hx
      | some z =>
        rw [hz] at hx
        cases hx
        change WT K tYes [.own p, .dat (.int ((m + 1 : Nat) : Int)), .dat (.int ((7 : Nat) : Int)), .dat (.int (a : Int)), .dat (.list _), .dat (.str z)] _ _
        refine wt_yes (iteK rfl (w_tup (wa_cons (w_var rfl (wa_cons (w_anyk rfl rfl rfl hpl' fun k pl4 hpl4 hw hd hs => ?_))))))
        have hb3 : l.length ≤ 3 := by
          have := congrArg List.length hl
          rw [List.length_map, List.length_take, List.length_take] at this
          omega
        refine wa_nil (m2 ⟨by simp, by rw [List.length_map]; omega, l ++ [(z, k)], pl4, by rw [List.map_append]; rfl, rfl, hpl4, ?_, fun q hq => ?_⟩)
        · rw [List.map_append, hl, List.take_add_one, hz]; rfl
        · rcases List.mem_append.mp hq with hq | hq
          · exact hall q hq
          · rw [List.mem_singleton.mp hq]; exact ⟨hw, hd, hs⟩
    · rintro acc M' ⟨l, pl', rfl, rfl, hpl', hl, hall⟩
      have hl : l.map (·.1) = (five.drop a).take b := by
        rw [hl, List.length_map, List.take_length]
      have hb3 : l.length ≤ 3 := by
        have := congrArg List.length hl
        rw [List.length_map, List.length_take] at this
        omega
      refine wa_nil (m1 (ftupl (wa_nil (m2 ⟨by simp, _, rfl, hpl', post_rcd (by rw [hl]; exact ⟨a, b, by omega, by omega, rfl⟩) hall hb3⟩))))
include T in
theorem ok_law_any_kind (F : Dfn K mg "_law_any_kind" s_law_any_kind ["_law_pool_here", "_law_left"]) (q_law_draw : Cal P w K mg base 1 "_law_draw" ["_law_pool_here", "_law_many"] (spQ preDraw postDraw K)) : ∀ n, Cal P w K mg base (n + 2) "_law_any_kind" ["_law_pool_here", "_law_left"] (spAny n K)
  | 0 => ok_law_any_kind1 T 0 F q_law_draw fun m h => by omega
  | n + 1 => ok_law_any_kind1 T (n + 1) F q_law_draw fun m h => by
    have e : n = m := by omega
    subst e
    exact ok_law_any_kind F q_law_draw n
end
end Kk

set_option Elab.async false
set_option linter.all false
set_option maxRecDepth 100000
set_option maxHeartbeats 4000000
namespace Kk
open PySem PySem.Spec PyProof.Rows L2 Ab
/-- one step of the reading -/
local macro_rules | `(tactic| walk_at "w") => `(tactic| first
  | (with_reducible refine ws_seq ?_) | (with_reducible refine ws_next ?_) | (with_reducible refine ws_set ?_) | (with_reducible refine ws_par ?_) | (with_reducible refine ws_ret ?_) | (with_reducible refine ws_if ?_) | (with_reducible refine ws_drop ?_)
  | (refine w_var rfl ?_) | (with_reducible refine w_int ?_) | (with_reducible refine w_str ?_) | (with_reducible refine w_bl ?_) | (with_reducible refine w_non ?_)
  | (with_reducible refine wa_nil ?_) | (with_reducible refine wa_cons ?_) | (with_reducible refine w_tup ?_) | (with_reducible refine w_lst ?_)
  | (with_reducible refine wt_test ?_) | (with_reducible refine wt_B ?_) | (with_reducible refine wt_not ?_) | (with_reducible refine wt_and ?_) | (with_reducible refine wt_or ?_)
  | (with_reducible refine w_andV ?_) | (with_reducible refine w_orV ?_) | (with_reducible refine w_notV ?_) | (with_reducible refine w_ite ?_)
  | (with_reducible refine w_op ao_eq ?_) | (with_reducible refine w_op ao_ne ?_) | (with_reducible refine w_op ao_ix ?_) | (with_reducible refine w_op ao_plus ?_) | (with_reducible refine w_op ao_less ?_) | (with_reducible refine w_op ao_le ?_) | (with_reducible refine w_op ao_gt ?_) | (with_reducible refine w_op ao_ge ?_)
  | (with_reducible refine w_op ao_sub ?_) | (with_reducible refine w_op ao_mul ?_) | (with_reducible refine w_op ao_mod ?_) | (with_reducible refine w_op ao_div ?_) | (with_reducible refine w_op ao_pow ?_) | (with_reducible refine w_op ao_isNo ?_) | (with_reducible refine w_op ao_inSg ?_) | (with_reducible refine w_op ao_inSeq ?_) | (with_reducible refine w_op ao_ninSeq ?_)
  | (with_reducible refine w_cb ac_len ?_) | (with_reducible refine w_cb ac_tupleOf ?_) | (with_reducible refine w_cb ac_intOf ?_) | (with_reducible refine w_cb ac_all ?_) | (with_reducible refine w_cb ac_any ?_)
  | (with_reducible refine w_isi (by decide) ?_) | (with_reducible refine w_isi2 (by decide) (by decide) ?_) | (with_reducible refine w_sl ?_) | (with_reducible refine wo_none ?_) | (with_reducible refine wo_some ?_)
  | (with_reducible refine w_chain ao_le ao_le ?_) | (with_reducible refine w_call ?_))
local macro_rules | `(tactic| walk_at "v") => `(tactic| first
  | (with_reducible refine m0 ?_) | (with_reducible refine m1 ?_) | (with_reducible refine m2 ?_) | (with_reducible refine m3 ?_) | (with_reducible refine m5 ?_)
  | (with_reducible refine exb ?_) | (with_reducible refine exi ?_) | (with_reducible refine exl ?_) | (with_reducible refine exql ?_) | (with_reducible refine exqt ?_)
  | (refine fixt rfl ?_) | (refine fixl rfl ?_) | (refine fslt rfl ?_) | (refine fsll rfl ?_)
  | (with_reducible refine flent ?_; dsimp only [List.length_cons, List.length_nil]) | (with_reducible refine flenl ?_; dsimp only [List.length_cons, List.length_nil])
  | (with_reducible refine fii (by first | trivial | decide) ?_) | (with_reducible refine fpi ?_) | (with_reducible refine flti ?_) | (with_reducible refine fint ?_) | (with_reducible refine ftupl ?_) | (with_reducible refine ftupt ?_)
  | (with_reducible refine feq (by decide +kernel) (by decide +kernel) ?_) | (with_reducible refine fne (by decide +kernel) (by decide +kernel) ?_)
  | (with_reducible refine iteK rfl ?_) | (with_reducible refine iteN rfl ?_) | (with_reducible refine iteK (by decide +kernel) ?_) | (with_reducible refine iteN (by decide +kernel) ?_))
local macro_rules | `(tactic| walk_at "ww") => `(tactic| repeat (first | walk_at "w" | walk_at "v"))

theorem l100' {xs : List PyData} {R : Prop} (h : xs.length ≤ 100000) (r : R) : xs.length ≤ 100000 ∧ R := ⟨h, r⟩
local macro_rules | `(tactic| walk_at "v") => `(tactic| first | (with_reducible refine l100' (by simp; done) ?_))
/-! ### led_to, kind_has -/
mutual
def led : Kd → List PyData → List (List PyData × Kd)
  | .lst k, s => (s, .lst k) :: led k (s ++ [starS])
  | .rcd f, s => (s, .rcd f) :: ledF f s
  | .base b, s => [(s, .base b)]
  | .any n, s => [(s, .any n)]
  | .fn a b, s => [(s, .fn a b)]
def ledF : Kf → List PyData → List (List PyData × Kd)
  | .nil, _ => []
  | .cons l k r, s => led k (s ++ [.str l]) ++ ledF r s
end
theorem ledF_map : ∀ f s, ledF f s = ((fields f).map fun p => (s ++ [PyData.str p.1], p.2)).flatMap fun q => led q.2 q.1
  | .nil, _ => rfl
  | .cons l k r, s => by
    show led k (s ++ [.str l]) ++ ledF r s = _
    rw [ledF_map r s]; rfl
theorem led_nx (k : Kd) (s : List PyData) : led k s = (s, k) :: (nx s k).flatMap fun q => led q.2 q.1 := by
  cases k with
  | lst k => simp [led, nx]
  | rcd f => simp only [led, nx, ledF_map]
  | base b => rfl
  | any n => rfl
  | fn a b => rfl
theorem led_len (k : Kd) : ∀ s, (led k s).length ≤ sz k := by
  have key : ∀ n, ∀ k, sz k ≤ n → ∀ s, (led k s).length ≤ sz k := by
    intro n
    induction n with
    | zero => intro k h; rw [sz_kids] at h; omega
    | succ n ih =>
      intro k h s
      rw [led_nx, List.length_cons, List.length_flatMap]
      have h1 := nx_sz (k := k) (s := s)
      have h2 : ((nx s k).map fun q => (led q.2 q.1).length).sum ≤ ((nx s k).map fun q => sz q.2).sum := by
        apply sum_le
        intro q hq
        have := mem_le_sum (List.mem_map_of_mem (f := fun q : List PyData × Kd => sz q.2) hq)
        exact ih q.2 (by omega) q.1
      omega
  exact key _ k (Nat.le_refl _)
def ledP (q : List PyData × Kd) : PyData := .tuple [.tuple q.1, toD q.2]
def preLed (n : Nat) (ds : List PyData) : Prop := ∃ k s, ds = [toD k, .tuple s] ∧ wf k ∧ dep k ≤ n + 1 ∧ s.length + n ≤ 1000 ∧ sz k ≤ 10000
def postLed (ds : List PyData) (x : PyData) : Prop := ∀ k s, ds = [toD k, .tuple s] → x = .list ((led k s).map ledP)
abbrev spLed (n : Nat) (K : PySem.W.Frag) : Sp := spP (preLed n) postLed K
section
variable {P : Program} {w : World} {K : PySem.W.Frag} {mg : Str → Option Value} {base : Heap} {aB : Addr} (T : Txt K mg aB)
include T in
theorem ok_law_led_to1 (n : Nat) (F : Dfn K mg "_law_led_to" s_law_led_to ["_law_kind", "_law_steps"]) (q_law_led_to : ∀ m, n = m + 1 → Cal P w K mg base n "_law_led_to" ["_law_kind", "_law_steps"] (spLed m K)) :
    Cal P w K mg base (n + 1) "_law_led_to" ["_law_kind", "_law_steps"] (spLed n K) := by
  have hn : ∀ ds, preLed n ds → ds.length = 2 := by rintro ds ⟨k, s, rfl, _⟩; rfl
  have hc : ∃ m, (n = 0 ∨ n = m + 1) ∧ Cal P w K mg base n "_law_led_to" ["_law_kind", "_law_steps"] (spP (fun ds => n = m + 1 ∧ preLed m ds) postLed K) := by
    cases n with
    | zero =>
      refine ⟨0, .inl rfl, cal_void F fun vs H Q E h => ?_⟩
      obtain ⟨S, ds, _, ⟨e, _⟩, _⟩ := h
      omega
    | succ m =>
      refine ⟨m, .inr rfl, ?_⟩
      obtain ⟨f, fd, a, b, c, e⟩ := (q_law_led_to m rfl).ex
      exact ⟨f, fd, a.imp fun vs H Q E h => by
        obtain ⟨S, ds, i, ⟨_, p⟩, r⟩ := h
        exact ⟨S, ds, i, p, r⟩, b, c, e⟩
  obtain ⟨m, hm, c_law_led_to⟩ := hc
  refine F.ok sc_law_led_to (fun vs H Q E h => spP_len hn h) (fun f cdv A outer s H vs Q E hr h => ⟨_, (pss_cons (ps_set (i := 2) sc_law_led_to.nd rfl (by first | exact .inl rfl | exact .inr rfl) (pe_lst (pa_cons (pe_tup (pa_cons (pv 1) (pa_cons (pv 0) pa_nil))) pa_nil)))
      (pss_cons (ps_if (PW.pt (pw_and (pt_not (pt_val (pe_callB (k_isi (K := K) rfl) (by rfl) T.n_isinstance (by decide +kernel) (pa_cons (pv 0) (pa_cons (pe_bltn (v := .ty "str") (u := .type "str") (by rfl) T.n_str (by decide +kernel) rfl) pa_nil))))) (pw_and1 (pt_cmpR (k_eq (K := K) rfl hr) (pe_ix (k_ix (K := K) rfl) (pv 0) pe_int (fun _ _ => rfl)) pe_str (nomark _))))) (pss_one (ps_set (i := 2) sc_law_led_to.nd rfl (by first | exact .inl rfl | exact .inr rfl) (pe_op (k_plus (K := K) rfl) (pv 2) (pe_cal c_law_led_to hr (pa_cons (pe_ix (k_ix (K := K) rfl) (pv 0) pe_int (fun _ _ => rfl)) (pa_cons (pe_op (k_plus (K := K) rfl) (pv 1) (pe_tup (pa_cons pe_str pa_nil))) pa_nil)))))) pss_nil)
      (pss_cons (ps_if (PW.pt (pw_and (pt_not (pt_val (pe_callB (k_isi (K := K) rfl) (by rfl) T.n_isinstance (by decide +kernel) (pa_cons (pv 0) (pa_cons (pe_bltn (v := .ty "str") (u := .type "str") (by rfl) T.n_str (by decide +kernel) rfl) pa_nil))))) (pw_and1 (pt_cmpR (k_eq (K := K) rfl hr) (pe_ix (k_ix (K := K) rfl) (pv 0) pe_int (fun _ _ => rfl)) pe_str (nomark _))))) (pss_one (ps_for PassesOwn.never rfl (k_seq (K := K) rfl (pe_ix (k_ix (K := K) rfl) (pv 0) pe_int (fun _ _ => rfl))) (k_tup (K := K) (n := 2) rfl rfl (pgs_cons (pg_name (i := 3) sc_law_led_to.nd rfl (by first | exact .inl rfl | exact .inr rfl)) (pgs_cons (pg_name (i := 4) sc_law_led_to.nd rfl (by first | exact .inl rfl | exact .inr rfl)) pgs_nil))) (pss_one (ps_set (i := 2) sc_law_led_to.nd rfl (by first | exact .inl rfl | exact .inr rfl) (pe_op (k_plus (K := K) rfl) (pv 2) (pe_cal c_law_led_to hr (pa_cons (pv 4) (pa_cons (pe_op (k_plus (K := K) rfl) (pv 1) (pe_tup (pa_cons (pv 3) pa_nil))) pa_nil)))))))) pss_nil)
      (pss_one (ps_ret (pv 2)))))), to_spP hn (fun ds hp => ?_) h⟩)
  obtain ⟨k, s0, rfl, hw, hd, hl, hs⟩ := hp
  have fin : ∀ x, x = .list ((led k s0).map ledP) → postLed [toD k, .tuple s0] x := fun x e k' s' h => by
    injection h with h1 h2; injection h2 with h2; injection h2 with h2
    rw [e, toD_inj k k' h1, h2]
  change WS K _ [.dat (toD k), .dat (.tuple s0), .no, .no, .no] [] _
  cases k with
  | base b =>
    walk_at "ww"
    exact fin _ rfl
  | any b =>
    walk_at "ww"
    exact fin _ rfl
  | fn a b =>
    walk_at "ww"
    exact fin _ rfl
  | lst e =>
    have hm' : n = m + 1 := by
      rcases hm with rfl | rfl
      · have : dep e + 1 ≤ 0 + 1 := hd
        cases e <;> simp [dep] at this
      · rfl
    have hd' : dep e + 1 ≤ n + 1 := hd
    have hs' : sz e + 1 ≤ 10000 := hs
    have h1 := led_len e (s0 ++ [.str "*"])
    walk_at "ww"
    refine fpt (by simp; omega) (wa_nil (m2 ⟨⟨hm', e, s0 ++ [starS], rfl, hw, by omega, by simp; omega, by omega⟩, fun d hd => ?_⟩))
    rw [hd e _ rfl]
    refine fpl (by rw [List.length_map]; simp; omega) ?_
    walk_at "ww"
    exact fin _ (by simp [led, ledP, starS])
  | rcd f =>
    have hd' : depF f + 1 ≤ n + 1 := hd
    have hs' : szF f + 1 ≤ 10000 := hs
    have hle : ∀ i, (((fields f).take i).flatMap fun p => led p.2 (s0 ++ [PyData.str p.1])).length ≤ 10000 := fun i => by
      have h1 := led_len (.rcd f) s0
      have e : led (.rcd f) s0 = (s0, .rcd f) :: (((fields f).take i ++ (fields f).drop i).flatMap fun p => led p.2 (s0 ++ [PyData.str p.1])) := by
        rw [List.take_append_drop, led_nx]; simp [nx, List.flatMap_map]
      rw [e, List.flatMap_append] at h1
      simp only [List.length_cons, List.length_append] at h1
      omega
    walk_at "ww"
    refine ws_for ga_pair (wi_seq (w_op ao_ix (w_var rfl (w_int (fixj (j := 1) rfl ?_)))))
    refine ⟨_, .inr rfl, fun i as' M' => ∃ x y, as' = [.dat (toD (.rcd f)), .dat (.tuple s0), .dat (.list (ledP (s0, .rcd f) :: (((fields f).take i).flatMap fun p => led p.2 (s0 ++ [PyData.str p.1])).map ledP)), x, y] ∧ M' = [], ⟨_, _, rfl, rfl⟩, ?_, ?_⟩
    · rintro i d as' M' hd ⟨x, y, rfl, rfl⟩
      rw [toF_fields, List.getElem?_map] at hd
      cases hp : (fields f)[i]? with
      | none => rw [hp] at hd; cases hd
      | some p =>
        rw [hp] at hd
        cases hd
        have hmem := List.mem_of_getElem? hp
        have hd2 := depF_le (Nat.le_refl (depF f)) p hmem
        have hm' : n = m + 1 := by
          rcases hm with rfl | rfl
          · have : 1 ≤ dep p.2 := by cases p.2 <;> simp [dep]
            omega
          · rfl
        have hs2 : sz p.2 ≤ szF f := by rw [szF_sum]; exact mem_le_sum (List.mem_map_of_mem (f := fun p : Str × Kd => sz p.2) hmem)
        have h1 := led_len p.2 (s0 ++ [.str p.1])
        have h2 := hle i
        refine ⟨.str p.1, toD p.2, .inl rfl, ?_⟩
        change WS K _ [.dat (toD (.rcd f)), .dat (.tuple s0), .dat (.list (ledP (s0, .rcd f) :: (((fields f).take i).flatMap fun p => led p.2 (s0 ++ [PyData.str p.1])).map ledP)), .dat (.str p.1), .dat (toD p.2)] _ _
        walk_at "ww"
        refine fpt (by simp; omega) (wa_nil (m2 ⟨⟨hm', p.2, s0 ++ [.str p.1], rfl, (wfF_iff f).mp hw.2 p hmem, by omega, by simp; omega, by omega⟩, fun d hd => ?_⟩))
        rw [hd p.2 _ rfl]
        refine fpl (by rw [List.length_cons, List.length_map, List.length_map]; omega) ?_
        refine ⟨.dat (.str p.1), .dat (toD p.2), ?_, rfl⟩
        rw [List.take_add_one, hp]
        simp
    · rintro as' M' ⟨x, y, rfl, rfl⟩
      refine ws_ret (w_var rfl (fin _ ?_))
      rw [led_nx, toF_fields, List.length_map, List.take_length]
      simp [nx, List.flatMap_map]
include T in
theorem ok_law_led_to (F : Dfn K mg "_law_led_to" s_law_led_to ["_law_kind", "_law_steps"]) : ∀ n, Cal P w K mg base (n + 1) "_law_led_to" ["_law_kind", "_law_steps"] (spLed n K)
  | 0 => ok_law_led_to1 T 0 F fun m h => by omega
  | n + 1 => ok_law_led_to1 T (n + 1) F fun m h => by
    have e : n = m := by omega
    subst e
    exact ok_law_led_to F n

theorem shaped_lst {xs : List PyData} (h : ∀ x ∈ xs, x.canLay0 = true ∧ x.depth ≤ 60) : SeqAt.shaped (.list xs) = true := by
  obtain ⟨a, b⟩ := sq_lay (s := .list xs) (xs := xs) (.inl rfl)
  unfold SeqAt.shaped
  rw [a, b, layAll fun x hx => (h x hx).1, decide_eq_true (by have := depAll (n := 60) fun x hx => (h x hx).2; omega)]
  rfl
theorem ne_nil {xs : List PyData} : (!PyData.eqv (.list xs) (.list [])) = !xs.isEmpty := by
  cases xs <;> rfl
theorem hasW_kids (wd : Str) (k : Kd) : hasW wd k = (headIs wd (toD k) || (kids k).any (hasW wd)) := by
  unfold hasW
  rw [subs_kids, List.any_cons, List.any_flatMap]
def preHas (n : Nat) (ds : List PyData) : Prop := ∃ k wd, ds = [toD k, PyData.str wd] ∧ (wd = "any" ∨ wd = "function") ∧ wf k ∧ dep k ≤ n + 1 ∧ n ≤ 11
def postHas (ds : List PyData) (x : PyData) : Prop := ∀ k wd, ds = [toD k, PyData.str wd] → x = .bool (hasW wd k)
abbrev spHas (n : Nat) (K : PySem.W.Frag) : Sp := spP (preHas n) postHas K
theorem fil_ne {α : Type} (l : List α) (b : α → Bool) (g : α → PyData) : (!((l.filter b).map g).isEmpty) = l.any b := by
  induction l with
  | nil => rfl
  | cons a l ih =>
    rw [List.filter_cons, List.any_cons]
    cases e : b a with
    | true => simp
    | false => simpa using ih
theorem fil_ne2 {α : Type} (l : List α) (m : α → PyData) (b : PyData → Bool) (g : PyData → PyData) : (!(((l.map m).filter b).map g).isEmpty) = l.any fun x => b (m x) := by
  rw [fil_ne, List.any_map]; rfl
/-- the kind that a couple or a kind stands for, as a test of data -/
noncomputable def kinB {α : Type} (t : α → Bool) (l : List α) (m : α → PyData) (x : PyData) : Bool := l.any fun e => t e && (Classical.propDecidable (m e = x)).decide
theorem kinB_eq {α : Type} {t : α → Bool} {l : List α} {m : α → PyData} (hm : ∀ a b, m a = m b → a = b) {e : α} (he : e ∈ l) : kinB t l m (m e) = t e := by
  unfold kinB
  rw [Bool.eq_iff_iff, List.any_eq_true]
  constructor
  · rintro ⟨x, _, hx⟩
    rw [Bool.and_eq_true] at hx
    rw [← hm _ _ (@of_decide_eq_true _ (Classical.propDecidable _) hx.2)]
    exact hx.1
  · intro h
    exact ⟨e, he, by rw [h, Bool.true_and]; exact @decide_eq_true _ (Classical.propDecidable _) rfl⟩
theorem kinB_any {α : Type} {t : α → Bool} {l : List α} {m : α → PyData} (hm : ∀ a b, m a = m b → a = b) : (l.any fun x => kinB t l m (m x)) = l.any t := by
  rw [Bool.eq_iff_iff, List.any_eq_true, List.any_eq_true]
  exact ⟨fun ⟨x, a, b⟩ => ⟨x, a, by rw [kinB_eq hm a] at b; exact b⟩, fun ⟨x, a, b⟩ => ⟨x, a, by rw [kinB_eq hm a]; exact b⟩⟩
def cpl (p : Str × Kd) : PyData := .tuple [.str p.1, toD p.2]
theorem cpl_inj (a b : Str × Kd) (h : cpl a = cpl b) : a = b := by
  obtain ⟨a1, a2⟩ := a
  obtain ⟨b1, b2⟩ := b
  have h : PyData.tuple [.str a1, toD a2] = .tuple [.str b1, toD b2] := h
  injection h with h; injection h with h1 h2; injection h1 with h1; injection h2 with h2
  rw [h1, toD_inj _ _ h2]
def hd0 : PyData → PyData
  | .tuple (a :: _) => a
  | _ => .none
/-- a row of kinds, filtered by the word -/
theorem w_has {n m : Nat} {wi : TI} {wd : Str} {ks : List Kd} {vs : List Nat} {as : List Sv} {R : PyData → Mm → Prop} (hi : 2 ∈ vs) (h1 : (awipe as vs)[1]? = some (.dat (.str wd))) (hl : 2 < as.length) (hn : n = m + 1) (hwd : wd = "any" ∨ wd = "function") (hm : m ≤ 11)
    (hk : ∀ e ∈ ks, wf e ∧ dep e ≤ m + 1) (hks : ks.length ≤ 100) (h : ∀ Q : List PyData → Mm → Prop, Q (ks.map toD) [] → WI K wi as [] Q) (hr : R (.bool (ks.any (hasW wd))) []) :
    W K (tLc wi (gName 2) (tB (tCall (spP (fun ds => n = m + 1 ∧ preHas m ds) postHas K) [] E0 (tCons (tVar 2) (tCons (tVar 1) tNil)))) (tVar 2) vs) as [] (fun a M1 => W K (tLst tNil) as M1 fun b M2 => fNe a b fun d => R d M2) := by
  refine w_filt hi (h _ ⟨kinB (hasW wd) ks toD, fun x => x, by rw [List.length_map]; omega, fun x hx => ?_, ?_⟩)
  · obtain ⟨e, he, rfl⟩ := List.mem_map.mp hx
    have l2 : ((awipe as vs).set 2 (.dat (toD e)))[2]? = some (.dat (toD e)) := List.getElem?_set_self (by rw [awipe_len]; exact hl)
    have l1 : ((awipe as vs).set 2 (.dat (toD e)))[1]? = some (.dat (.str wd)) := by rw [List.getElem?_set_ne (by decide)]; exact h1
    refine wt_B (w_call (wa_cons (w_var l2 (wa_cons (w_var l1 (wa_nil (m2 ⟨⟨hn, e, wd, rfl, hwd, (hk e he).1, (hk e he).2, hm⟩, fun d hd => ?_⟩)))))))
    rw [hd e wd rfl]
    exact exb ⟨(kinB_eq toD_inj he).symm, rfl, fun _ => w_var l2 ⟨rfl, rfl⟩⟩
  · refine w_lst (wa_nil (m0 ⟨by simp, ?_⟩))
    refine fne (shaped_lst fun x hx => ?_) (by rfl) ?_
    · obtain ⟨y, hy, rfl⟩ := List.mem_map.mp hx
      obtain ⟨e, he, rfl⟩ := List.mem_map.mp (List.mem_filter.mp hy).1
      have := gk_lay (gk_toD e (m + 1) (hk e he).1 (hk e he).2)
      exact ⟨this.1, by have := this.2; show (toD e).depth ≤ 60; omega⟩
    · rw [ne_nil, fil_ne2]
      rw [kinB_any toD_inj]
      exact hr
/-- .. of couples -/
theorem w_has2 {n m : Nat} {wi : TI} {wd : Str} {ks : List (Str × Kd)} {vs : List Nat} {as : List Sv} {R : PyData → Mm → Prop} (hi : 2 ∈ vs) (hj : 3 ∈ vs) (h1 : (awipe as vs)[1]? = some (.dat (.str wd))) (hl : 3 < as.length) (hn : ∀ p ∈ ks, n = m + 1) (hwd : wd = "any" ∨ wd = "function") (hm : m ≤ 11)
    (hk : ∀ e ∈ ks, wf e.2 ∧ dep e.2 ≤ m + 1) (hla : ∀ e ∈ ks, (PyData.str e.1).canLay0 = true) (hks : ks.length ≤ 100) (h : ∀ Q : List PyData → Mm → Prop, Q (ks.map cpl) [] → WI K wi as [] Q) (hr : R (.bool (ks.any fun p => hasW wd p.2)) []) :
    W K (tLc wi (gSeq K 2 (gCons (gName 3) (gCons (gName 2) gNil))) (tB (tCall (spP (fun ds => n = m + 1 ∧ preHas m ds) postHas K) [] E0 (tCons (tVar 2) (tCons (tVar 1) tNil)))) (tVar 3) vs) as [] (fun a M1 => W K (tLst tNil) as M1 fun b M2 => fNe a b fun d => R d M2) := by
  refine w_filt2 hj hi (h _ ⟨kinB (fun p => hasW wd p.2) ks cpl, hd0, by rw [List.length_map]; omega, fun x hx => ?_, ?_⟩)
  · obtain ⟨e, he, rfl⟩ := List.mem_map.mp hx
    refine ⟨.str e.1, toD e.2, .inl rfl, ?_⟩
    have l2 : (((awipe as vs).set 3 (.dat (.str e.1))).set 2 (.dat (toD e.2)))[2]? = some (.dat (toD e.2)) := List.getElem?_set_self (by rw [List.length_set, awipe_len]; omega)
    have l1 : (((awipe as vs).set 3 (.dat (.str e.1))).set 2 (.dat (toD e.2)))[1]? = some (.dat (.str wd)) := by rw [List.getElem?_set_ne (by decide), List.getElem?_set_ne (by decide)]; exact h1
    have l3 : (((awipe as vs).set 3 (.dat (.str e.1))).set 2 (.dat (toD e.2)))[3]? = some (.dat (.str e.1)) := by rw [List.getElem?_set_ne (by decide)]; exact List.getElem?_set_self (by rw [awipe_len]; omega)
    refine wt_B (w_call (wa_cons (w_var l2 (wa_cons (w_var l1 (wa_nil (m2 ⟨⟨hn e he, e.2, wd, rfl, hwd, (hk e he).1, (hk e he).2, hm⟩, fun d hd => ?_⟩)))))))
    rw [hd e.2 wd rfl]
    exact exb ⟨(kinB_eq (t := fun p : Str × Kd => hasW wd p.2) cpl_inj he).symm, rfl, fun _ => w_var l3 ⟨rfl, rfl⟩⟩
  · refine w_lst (wa_nil (m0 ⟨by simp, ?_⟩))
    refine fne (shaped_lst fun x hx => ?_) (by rfl) ?_
    · obtain ⟨y, hy, rfl⟩ := List.mem_map.mp hx
      obtain ⟨e, he, rfl⟩ := List.mem_map.mp (List.mem_filter.mp hy).1
      exact ⟨hla e he, by show (PyData.str e.1).depth ≤ 60; simp [PyData.depth]⟩
    · rw [ne_nil, fil_ne2, kinB_any cpl_inj]
      exact hr
include T in
theorem ok_law_kind_has1 (n : Nat) (F : Dfn K mg "_law_kind_has" s_law_kind_has ["_law_kind", "_law_word"]) (q_law_kind_has : ∀ m, n = m + 1 → Cal P w K mg base n "_law_kind_has" ["_law_kind", "_law_word"] (spHas m K)) :
    Cal P w K mg base (n + 1) "_law_kind_has" ["_law_kind", "_law_word"] (spHas n K) := by
  have hn : ∀ ds, preHas n ds → ds.length = 2 := by rintro ds ⟨k, s, rfl, _⟩; rfl
  have hc : ∃ m, (n = 0 ∧ m = 0 ∨ n = m + 1) ∧ Cal P w K mg base n "_law_kind_has" ["_law_kind", "_law_word"] (spP (fun ds => n = m + 1 ∧ preHas m ds) postHas K) := by
    cases n with
    | zero =>
      refine ⟨0, .inl ⟨rfl, rfl⟩, cal_void F fun vs H Q E h => ?_⟩
      obtain ⟨S, ds, _, ⟨e, _⟩, _⟩ := h
      omega
    | succ m =>
      refine ⟨m, .inr rfl, ?_⟩
      obtain ⟨f, fd, a, b, c, e⟩ := (q_law_kind_has m rfl).ex
      exact ⟨f, fd, a.imp fun vs H Q E h => by
        obtain ⟨S, ds, i, ⟨_, p⟩, r⟩ := h
        exact ⟨S, ds, i, p, r⟩, b, c, e⟩
  obtain ⟨m, hm, c_law_kind_has⟩ := hc
  refine F.ok sc_law_kind_has (fun vs H Q E h => spP_len hn h) (fun f cdv A outer s H vs Q E hr h => ⟨_, (pss_cons (ps_if (pt_val (pe_callB (k_isi (K := K) rfl) (by rfl) T.n_isinstance (by decide +kernel) (pa_cons (pv 0) (pa_cons (pe_bltn (v := .ty "str") (u := .type "str") (by rfl) T.n_str (by decide +kernel) rfl) pa_nil)))) (pss_one (ps_ret pe_bl)) pss_nil)
      (pss_cons (ps_if (pt_cmpR (k_eq (K := K) rfl hr) (pe_ix (k_ix (K := K) rfl) (pv 0) pe_int (fun _ _ => rfl)) (pv 1) (nomark _)) (pss_one (ps_ret pe_bl)) pss_nil)
      (pss_cons (ps_if (pt_cmpR (k_eq (K := K) rfl hr) (pe_ix (k_ix (K := K) rfl) (pv 0) pe_int (fun _ _ => rfl)) pe_str (nomark _)) (pss_one (ps_ret pe_bl)) pss_nil)
      (pss_cons (ps_if (pt_cmpR (k_eq (K := K) rfl hr) (pe_ix (k_ix (K := K) rfl) (pv 0) pe_int (fun _ _ => rfl)) pe_str (nomark _)) (pss_one (ps_ret (pe_cmpR (k_ne (K := K) rfl hr) (pe_lc (own := [("_law_label", 3), ("_law_inner", 2)]) (by rfl) sc_law_kind_has.nd (k_seq (K := K) rfl (pe_ix (k_ix (K := K) rfl) (pv 0) pe_int (fun _ _ => rfl))) (blkOk_by (N := ["_law_kind", "_law_word", "_law_inner", "_law_label"]) (sc := defScope s_law_kind_has) (by decide +kernel)) (fun _ _ _ _ _ => (k_tup (K := K) (n := 2) rfl rfl (pgs_cons (pg_name (i := 3) sc_law_kind_has.nd rfl (by first | exact .inl rfl | exact .inr rfl)) (pgs_cons (pg_name (i := 2) sc_law_kind_has.nd rfl (by first | exact .inl rfl | exact .inr rfl)) pgs_nil)))) (fun _ _ _ _ _ => (pts_one (pt_val (pe_cal c_law_kind_has hr (pa_cons (pv 2) (pa_cons (pv 1) pa_nil)))))) (fun _ _ _ _ _ => (pv 3))) (pe_lst pa_nil) (nomark _)))) pss_nil)
      (pss_one (ps_ret (pe_cmpR (k_ne (K := K) rfl hr) (pe_lc (own := [("_law_inner", 2)]) (by rfl) sc_law_kind_has.nd (k_seq (K := K) rfl (pe_slice (k_sl (K := K) rfl) (pv 0) (po_some pe_int) po_none)) (blkOk_by (N := ["_law_kind", "_law_word", "_law_inner", "_law_label"]) (sc := defScope s_law_kind_has) (by decide +kernel)) (fun _ _ _ _ _ => (pg_name (i := 2) sc_law_kind_has.nd rfl (by first | exact .inl rfl | exact .inr rfl))) (fun _ _ _ _ _ => (pts_one (pt_val (pe_cal c_law_kind_has hr (pa_cons (pv 2) (pa_cons (pv 1) pa_nil)))))) (fun _ _ _ _ _ => (pv 2))) (pe_lst pa_nil) (nomark _)))))))), to_spP hn (fun ds hp => ?_) h⟩)
  obtain ⟨k, wd, rfl, hwd, hw, hd, hn11⟩ := hp
  have fin : ∀ x, x = .bool (hasW wd k) → postHas [toD k, .str wd] x := fun x e k' s' h => by
    injection h with h1 h2; injection h2 with h2; injection h2 with h2
    rw [e, toD_inj k k' h1, h2]
  change WS K _ [.dat (toD k), .dat (.str wd), .no, .no] [] _
  have hkid : ∀ e ∈ kids k, n = m + 1 ∧ wf e ∧ dep e ≤ m + 1 := fun e he => by
    have he2 : dep e + 1 ≤ dep k := by
      cases k with
      | base b => cases he
      | any b => cases he
      | lst a => simp [kids] at he; subst he; exact Nat.le_refl _
      | fn a b => simp [kids] at he; rcases he with rfl | rfl <;> simp [dep] <;> omega
      | rcd f =>
        obtain ⟨p, hp, rfl⟩ := List.mem_map.mp he
        have := depF_le (Nat.le_refl (depF f)) p hp
        show dep p.2 + 1 ≤ depF f + 1
        omega
    have h1 : 1 ≤ dep e := by cases e <;> simp [dep]
    rcases hm with ⟨rfl, rfl⟩ | rfl
    · omega
    · exact ⟨rfl, kids_wf hw e he, by omega⟩
  cases k with
  | base b =>
    walk_at "ww"
    exact fin _ (by rcases hwd with rfl | rfl <;> rfl)
  | any b =>
    rcases hwd with rfl | rfl
    · walk_at "ww"
      exact fin _ (by rw [hasW_kids]; rfl)
    · walk_at "ww"
      exact fin _ (by rw [hasW_kids, show headIs "function" (toD (.any b)) = false from by show (("any" : Str) == "function") = false; decide +kernel]; rfl)
  | fn a b =>
    obtain ⟨e1, wa, da⟩ := hkid a (by simp [kids])
    obtain ⟨_, wb, db⟩ := hkid b (by simp [kids])
    rcases hwd with rfl | rfl
    · walk_at "ww"
      refine w_has (ks := [a, b]) (by decide) rfl (by simp) e1 (.inl rfl) (by omega) (fun e he => ?_) (by simp) (fun Q hQ => ?_) ?_
      · simp at he
        rcases he with rfl | rfl
        · exact ⟨wa, da⟩
        · exact ⟨wb, db⟩
      · exact wi_seq (w_sl (w_var rfl (wo_some (w_int (exi (wo_none (fslt rfl ⟨_, .inr rfl, hQ⟩)))))))
      · exact fin _ (by rw [hasW_kids]; rfl)
    · walk_at "ww"
      exact fin _ (by rw [hasW_kids]; rfl)
  | lst a =>
    obtain ⟨e1, wa, da⟩ := hkid a (by simp [kids])
    rcases hwd with rfl | rfl
    · walk_at "ww"
      refine w_has (ks := [a]) (by decide) rfl (by simp) e1 (.inl rfl) (by omega) (fun e he => ?_) (by simp) (fun Q hQ => ?_) ?_
      · simp at he
        subst he
        exact ⟨wa, da⟩
      · exact wi_seq (w_sl (w_var rfl (wo_some (w_int (exi (wo_none (fslt rfl ⟨_, .inr rfl, hQ⟩)))))))
      · exact fin _ (by rw [hasW_kids]; rfl)
    · walk_at "ww"
      refine w_has (ks := [a]) (by decide) rfl (by simp) e1 (.inr rfl) (by omega) (fun e he => ?_) (by simp) (fun Q hQ => ?_) ?_
      · simp at he
        subst he
        exact ⟨wa, da⟩
      · exact wi_seq (w_sl (w_var rfl (wo_some (w_int (exi (wo_none (fslt rfl ⟨_, .inr rfl, hQ⟩)))))))
      · exact fin _ (by rw [hasW_kids]; rfl)
  | rcd f =>
    have hrec : ∀ wd : Str, wd = "any" ∨ wd = "function" → hasW wd (.rcd f) = ((fields f).any fun p => hasW wd p.2) := fun wd h => by
      rw [hasW_kids, show headIs wd (toD (.rcd f)) = false from by rcases h with rfl | rfl <;> (show (("record" : Str) == _) = false; decide +kernel), Bool.false_or]
      show ((fields f).map (·.2)).any _ = _
      rw [List.any_map]; rfl
    have lf := lab_facts hw.1
    have h5 : (fields f).length ≤ 5 := by have := lf.1; rw [labels_fields, List.length_map] at this; exact this
    have hk2 : ∀ p ∈ fields f, n = m + 1 ∧ wf p.2 ∧ dep p.2 ≤ m + 1 := fun p hp => hkid p.2 (List.mem_map_of_mem hp)
    have hla : ∀ p ∈ fields f, (PyData.str p.1).canLay0 = true := fun p hp => (lf.2.2 p.1 (by rw [labels_fields]; exact List.mem_map_of_mem hp)).2.2.1
    rcases hwd with rfl | rfl
    · walk_at "ww"
      refine w_has2 (ks := fields f) (by decide) (by decide) rfl (by simp) (fun p hp => (hk2 p hp).1) (.inl rfl) (by omega) (fun p hp => (hk2 p hp).2) hla (by omega) (fun Q hQ => ?_) ?_
      · exact wi_seq (w_op ao_ix (w_var rfl (w_int (fixj (j := 1) rfl ⟨_, .inr rfl, by rw [toF_fields]; exact hQ⟩))))
      · exact fin _ (by rw [hrec _ (.inl rfl)])
    · walk_at "ww"
      refine w_has2 (ks := fields f) (by decide) (by decide) rfl (by simp) (fun p hp => (hk2 p hp).1) (.inr rfl) (by omega) (fun p hp => (hk2 p hp).2) hla (by omega) (fun Q hQ => ?_) ?_
      · exact wi_seq (w_op ao_ix (w_var rfl (w_int (fixj (j := 1) rfl ⟨_, .inr rfl, by rw [toF_fields]; exact hQ⟩))))
      · exact fin _ (by rw [hrec _ (.inr rfl)])
include T in
theorem ok_law_kind_has (F : Dfn K mg "_law_kind_has" s_law_kind_has ["_law_kind", "_law_word"]) : ∀ n, Cal P w K mg base (n + 1) "_law_kind_has" ["_law_kind", "_law_word"] (spHas n K)
  | 0 => ok_law_kind_has1 T 0 F fun m h => by omega
  | n + 1 => ok_law_kind_has1 T (n + 1) F fun m h => by
    have e : n = m := by omega
    subst e
    exact ok_law_kind_has F n
end
end Kk

set_option Elab.async false
set_option linter.all false
set_option maxRecDepth 100000
set_option maxHeartbeats 4000000
namespace Kk
open PySem PySem.Spec PyProof.Rows L2 Ab
/-- one step of the reading -/
local macro_rules | `(tactic| walk_at "w") => `(tactic| first
  | (with_reducible refine ws_seq ?_) | (with_reducible refine ws_next ?_) | (with_reducible refine ws_set ?_) | (with_reducible refine ws_par ?_) | (with_reducible refine ws_ret ?_) | (with_reducible refine ws_if ?_) | (with_reducible refine ws_drop ?_)
  | (refine w_var rfl ?_) | (with_reducible refine w_int ?_) | (with_reducible refine w_str ?_) | (with_reducible refine w_bl ?_) | (with_reducible refine w_non ?_)
  | (with_reducible refine wa_nil ?_) | (with_reducible refine wa_cons ?_) | (with_reducible refine w_tup ?_) | (with_reducible refine w_lst ?_)
  | (with_reducible refine wt_test ?_) | (with_reducible refine wt_B ?_) | (with_reducible refine wt_not ?_) | (with_reducible refine wt_and ?_) | (with_reducible refine wt_or ?_)
  | (with_reducible refine w_andV ?_) | (with_reducible refine w_orV ?_) | (with_reducible refine w_notV ?_) | (with_reducible refine w_ite ?_)
  | (with_reducible refine w_op ao_eq ?_) | (with_reducible refine w_op ao_ne ?_) | (with_reducible refine w_op ao_ix ?_) | (with_reducible refine w_op ao_plus ?_) | (with_reducible refine w_op ao_less ?_) | (with_reducible refine w_op ao_le ?_) | (with_reducible refine w_op ao_gt ?_) | (with_reducible refine w_op ao_ge ?_)
  | (with_reducible refine w_op ao_sub ?_) | (with_reducible refine w_op ao_mul ?_) | (with_reducible refine w_op ao_mod ?_) | (with_reducible refine w_op ao_div ?_) | (with_reducible refine w_op ao_pow ?_) | (with_reducible refine w_op ao_isNo ?_) | (with_reducible refine w_op ao_inSg ?_) | (with_reducible refine w_op ao_inSeq ?_) | (with_reducible refine w_op ao_ninSeq ?_)
  | (with_reducible refine w_cb ac_len ?_) | (with_reducible refine w_cb ac_tupleOf ?_) | (with_reducible refine w_cb ac_intOf ?_) | (with_reducible refine w_cb ac_all ?_) | (with_reducible refine w_cb ac_any ?_)
  | (with_reducible refine w_isi (by decide) ?_) | (with_reducible refine w_isi2 (by decide) (by decide) ?_) | (with_reducible refine w_sl ?_) | (with_reducible refine wo_none ?_) | (with_reducible refine wo_some ?_)
  | (with_reducible refine w_chain ao_le ao_le ?_) | (with_reducible refine w_call ?_))
local macro_rules | `(tactic| walk_at "v") => `(tactic| first
  | (with_reducible refine m0 ?_) | (with_reducible refine m1 ?_) | (with_reducible refine m2 ?_) | (with_reducible refine m3 ?_) | (with_reducible refine m5 ?_)
  | (with_reducible refine exb ?_) | (with_reducible refine exi ?_) | (with_reducible refine exl ?_) | (with_reducible refine exql ?_) | (with_reducible refine exqt ?_)
  | (refine fixt rfl ?_) | (refine fixl rfl ?_) | (refine fslt rfl ?_) | (refine fsll rfl ?_)
  | (with_reducible refine flent ?_; dsimp only [List.length_cons, List.length_nil]) | (with_reducible refine flenl ?_; dsimp only [List.length_cons, List.length_nil])
  | (with_reducible refine fii (by first | trivial | decide) ?_) | (with_reducible refine fpi ?_) | (with_reducible refine flti ?_) | (with_reducible refine fint ?_) | (with_reducible refine ftupl ?_) | (with_reducible refine ftupt ?_)
  | (with_reducible refine feq (by decide +kernel) (by decide +kernel) ?_) | (with_reducible refine fne (by decide +kernel) (by decide +kernel) ?_)
  | (with_reducible refine iteK rfl ?_) | (with_reducible refine iteN rfl ?_) | (with_reducible refine iteK (by decide +kernel) ?_) | (with_reducible refine iteN (by decide +kernel) ?_))
local macro_rules | `(tactic| walk_at "ww") => `(tactic| repeat (first | walk_at "w" | walk_at "v"))

/-! ### wrong_steps -/
theorem shaped_tup {xs : List PyData} (h : ∀ x ∈ xs, x.canLay0 = true ∧ x.depth ≤ 60) : SeqAt.shaped (.tuple xs) = true := by
  obtain ⟨a, b⟩ := sq_lay (s := .tuple xs) (xs := xs) (.inr rfl)
  unfold SeqAt.shaped
  rw [a, b, layAll fun x hx => (h x hx).1, decide_eq_true (by have := depAll (n := 60) fun x hx => (h x hx).2; omega)]
  rfl
theorem steps_shaped {ss : List Str} (h : ∀ z ∈ ss, stepOk z) : SeqAt.shaped (.tuple (ss.map PyData.str)) = true := shaped_tup fun x hx => by
  obtain ⟨z, hz, rfl⟩ := List.mem_map.mp hx
  exact ⟨h z hz, by simp [PyData.depth]⟩
theorem eqv_strs (ss : List Str) : PyData.eqv (.tuple (ss.map PyData.str)) (.tuple (ss.map PyData.str)) = true := by
  have key : ∀ l : List Str, PyData.eqvAll (l.map PyData.str) (l.map PyData.str) = true := by
    intro l
    induction l with
    | nil => rfl
    | cons z l ih =>
      rw [List.map_cons, PyData.eqvAll, ih, str_eqv, decide_eq_true rfl]; rfl
  rw [PyData.eqv]
  exact key ss
abbrev spWS (K : PySem.W.Frag) : Sp := spP (fun ds => ∃ k ss, ds = [toD k, PyData.tuple (ss.map PyData.str)] ∧ wf k ∧ ss.length ≤ 1000 ∧ (∀ z ∈ ss, stepOk z) ∧ walkK k ss = none) (fun _ x => x = .bool true) K
section
variable {P : Program} {w : World} {K : PySem.W.Frag} {mg : Str → Option Value} {base : Heap} {aB C fI : Addr} (T : Txt K mg aB) (N : NpT K mg C fI)
include T N in
theorem ok_law_wrong_steps (F : Dfn K mg "_law_wrong_steps" s_law_wrong_steps ["_law_kind", "_law_steps"]) (c_kind_at : CalX P w K mg base 4 "kind_at" ["kind", "steps"] (spKA C K)) : Cal P w K mg base 5 "_law_wrong_steps" ["_law_kind", "_law_steps"] (spWS K) := by
  have hn : ∀ ds, (∃ k ss, ds = [toD k, PyData.tuple (ss.map PyData.str)] ∧ wf k ∧ ss.length ≤ 1000 ∧ (∀ z ∈ ss, stepOk z) ∧ walkK k ss = none) → ds.length = 2 := by rintro ds ⟨k, ss, rfl, _⟩; rfl
  obtain ⟨fA, fdA, GT, gT, kT, bT⟩ := c_kind_at.ex
  refine F.ok sc_law_wrong_steps (fun vs H Q E h => spP_len hn h) (fun f cdv A outer s H vs Q E hr h => ⟨tSeq (fun D σ H => tDrop (tCallS (spKA C K) (WE (wAs K (.ref C) 2 (fun a cls d => tRet (tOp (rEqD K) (tXf a cls d C "steps" (tVar 2)) (tVar 1))) (fun _ _ _ _ => False) D)) (tCons (tVar 0) (tCons (tVar 1) tNil))) D σ H) (tRet (tC (.bl false))), ?_, ?_⟩)
  · exact pss_cons (ps_try_as (i := 2) (tb := fun W => tDrop (tCallS (spKA C K) (WE W) (tCons (tVar 0) (tCons (tVar 1) tNil)))) (ts := fun a cls d => tRet (tOp (rEqD K) (tXf a cls d C "steps" (tVar 2)) (tVar 1))) (Wout := fun _ _ _ _ => False) rfl rfl sc_law_wrong_steps.nd rfl rfl ⟨rfl, by decide, Or.inl N.gC⟩ takes0
      (fun W pn xe tk _ => pss_one (ps_expr (by exact (pe_callS GT hr rfl gT kT bT (fun σ => passAt tk σ) (by exact (pa_cons (pv 0) (pa_cons (pv 1) pa_nil)))))))
      (fun a oe cls d pn hz hf => pss_one (ps_ret (by exact (pe_cmpR (op_eqD hr.units) (pe_xf N.xf N.no hz hf (pv 2)) (pv 1) (nomark _)))))) (pss_one (ps_ret pe_bl))
  · obtain ⟨S, ds, iv, ⟨k, ss, rfl, hw, hl, hst, hno⟩, hd, q⟩ := h
    match vs, hd with
    | [v0, v1], hd =>
      refine ⟨v0, rfl, v1, rfl, S, k, ss, iv, hw, hl, hst, hd, fun e he => ?_, fun _ v H' dx xt iv' dv hx => ?_⟩
      · rw [hno] at he; cases he
      · refine ⟨true, N.te, fun _ a ha => ?_, fun z => Bool.noConfusion z⟩
        refine ⟨_, rfl, rfl, rfl, dx, _, v, rfl, hx, rfl, v1, rfl, ?_⟩
        have sm : Same (Hide S.B H) (Hide S.B H') := fun b o e => by
          obtain ⟨e1, e2⟩ := hide_some e
          rw [hide_f e1]
          exact xt b o e1 e2
        have d1 : Dp K (Hide S.B H') v1 (.tuple (ss.map PyData.str)) := by
          cases hd with
          | cons _ h2 =>
            cases h2 with
            | cons h2 _ => exact dp_mono sm _ _ h2
        refine ao_eq S.B H' v v1 _ _ (fun d => d = .bool true) (fun c hc => S.trk H' c iv' hc) dv d1 ⟨steps_shaped hst, steps_shaped hst, by rw [eqv_strs]⟩ _ fun u d H3 hc hu hd3 => ?_
        subst hd3
        cases hu
        rcases hc with rfl | ⟨p, o, hp, rfl⟩
        · exact q (.bl true) H3 (.bool true) xt iv' (.bl _) rfl
        · refine q (.bl true) _ (.bool true) (fun b o' e1 e2 => ?_) (S.mono H' _ (fun b o' _ e2 => ?_) iv') (.bl _) rfl
          · have e3 := xt b o' e1 e2
            rw [upd_ne (ne_of_none e3 hp)]; exact e3
          · rw [upd_ne (ne_of_none e2 hp)]; exact e2
end
end Kk

set_option Elab.async false
set_option linter.all false
set_option maxRecDepth 100000
set_option maxHeartbeats 4000000
namespace Kk
open PySem PySem.Spec PyProof.Rows L2 Ab
/-! ### what the law's kinds are -/
theorem lay_w {z : Str} (h : z ∈ (["int", "text", "truth", "any", "list", "function", "record"] : List Str)) : (PyData.str z).canLay0 = true := by
  simp only [List.mem_cons, List.mem_nil_iff, or_false] at h
  rcases h with rfl | rfl | rfl | rfl | rfl | rfl | rfl <;> decide +kernel
theorem ex2 {n : Nat} {a b : PyData} (ha : EX n a) (hb : EX n b) : EX (n + 1) (.tuple [a, b]) := .tup (by simp) fun x hx => by
  simp only [List.mem_cons, List.mem_nil_iff, or_false] at hx
  rcases hx with rfl | rfl <;> assumption
theorem ex3 {n : Nat} {a b c : PyData} (ha : EX n a) (hb : EX n b) (hc : EX n c) : EX (n + 1) (.tuple [a, b, c]) := .tup (by simp) fun x hx => by
  simp only [List.mem_cons, List.mem_nil_iff, or_false] at hx
  rcases hx with rfl | rfl | rfl <;> assumption
theorem tx2 {n : Nat} {a b : PyData} (ha : TX n a) (hb : TX n b) : TX (n + 1) (.tuple [a, b]) := .tup (by simp) fun x hx => by
  simp only [List.mem_cons, List.mem_nil_iff, or_false] at hx
  rcases hx with rfl | rfl <;> assumption
theorem tx3 {n : Nat} {a b c : PyData} (ha : TX n a) (hb : TX n b) (hc : TX n c) : TX (n + 1) (.tuple [a, b, c]) := .tup (by simp) fun x hx => by
  simp only [List.mem_cons, List.mem_nil_iff, or_false] at hx
  rcases hx with rfl | rfl | rfl <;> assumption
theorem TX.mono {n m : Nat} {d : PyData} (h : TX n d) (hm : n ≤ m) : TX m d := by
  induction h generalizing m with
  | int => exact .int
  | str => exact .str
  | tup hl _ ih =>
    obtain ⟨k, rfl⟩ : ∃ k, m = k + 1 := ⟨m - 1, by omega⟩
    exact .tup hl fun x hx => ih x hx (by omega)
theorem fld5 {f : Kf} (h : labOk (labels f)) : (fields f).length ≤ 5 := by
  have := (lab_facts h).1
  rw [labels_fields, List.length_map] at this
  exact this
theorem toF5 {f : Kf} (h : labOk (labels f)) : (toF f).length ≤ 10000 := by
  rw [toF_fields, List.length_map]
  have := fld5 h
  omega
theorem bs_lay (b : Bs) : (PyData.str b.nm).canLay0 = true := by cases b <;> exact lay_w (by simp [Bs.nm])
mutual
theorem ex_toD : ∀ k, wf k → EX (3 * dep k) (toD k)
  | .base b, _ => .str (bs_lay b)
  | .any n, _ => (ex2 (n := 0) (.str (lay_w (by simp))) .int).mono (by simp [dep])
  | .lst k, h => (ex2 (n := 3 * dep k) (.str (lay_w (by simp))) (ex_toD k h)).mono (by simp only [dep]; omega)
  | .fn a b, h => (ex3 (n := 3 * max (dep a) (dep b)) (.str (lay_w (by simp))) ((ex_toD a h.1).mono (by omega)) ((ex_toD b h.2).mono (by omega))).mono (by simp only [dep]; omega)
  | .rcd f, h => (ex2 (n := 3 * depF f + 2) (.str (lay_w (by simp))) (.tup (n := 3 * depF f + 1) (toF5 h.1) (ex_toF f (fun l hl => ((lab_facts h.1).2.2 l hl).2.2.1) h.2))).mono (by simp only [dep]; omega)
theorem ex_toF : ∀ f, (∀ l ∈ labels f, (PyData.str l).canLay0 = true) → wfF f → ∀ x ∈ toF f, EX (3 * depF f + 1) x
  | .nil, _, _, x, hx => by cases hx
  | .cons l k r, hl, h, x, hx => by
    rcases List.mem_cons.mp (show x ∈ PyData.tuple [.str l, toD k] :: toF r from hx) with rfl | hx
    · exact (ex2 (n := 3 * dep k) (.str (hl l List.mem_cons_self)) (ex_toD k h.1)).mono (by simp only [depF]; omega)
    · exact (ex_toF r (fun l' h' => hl l' (List.mem_cons_of_mem _ h')) h.2 x hx).mono (by simp only [depF]; omega)
end
mutual
theorem tx_toD : ∀ k, wf k → TX (3 * dep k) (toD k)
  | .base b, _ => .str
  | .any n, _ => (tx2 (n := 0) .str .int).mono (by simp [dep])
  | .lst k, h => (tx2 (n := 3 * dep k) .str (tx_toD k h)).mono (by simp only [dep]; omega)
  | .fn a b, h => (tx3 (n := 3 * max (dep a) (dep b)) .str ((tx_toD a h.1).mono (by omega)) ((tx_toD b h.2).mono (by omega))).mono (by simp only [dep]; omega)
  | .rcd f, h => (tx2 (n := 3 * depF f + 2) .str (.tup (n := 3 * depF f + 1) (toF5 h.1) (tx_toF f h.2))).mono (by simp only [dep]; omega)
theorem tx_toF : ∀ f, wfF f → ∀ x ∈ toF f, TX (3 * depF f + 1) x
  | .nil, _, x, hx => by cases hx
  | .cons l k r, h, x, hx => by
    rcases List.mem_cons.mp (show x ∈ PyData.tuple [.str l, toD k] :: toF r from hx) with rfl | hx
    · exact (tx2 (n := 3 * dep k) .str (tx_toD k h.1)).mono (by simp only [depF]; omega)
    · exact (tx_toF r h.2 x hx).mono (by simp only [depF]; omega)
end
theorem rels_toF (f : Kf) : rels (toF f) = (fields f).map fun p => PyData.list [.str p.1, rel (toD p.2)] := by
  rw [rels_map, toF_fields, List.map_map]
  rfl
mutual
theorem gk_rel : ∀ (k : Kd) (r : Nat), wf k → dep k ≤ r → GK r (rel (toD k))
  | .base b, 0, _, h => by simp [dep] at h
  | .base b, r + 1, _, _ => .base (by cases b <;> simp [toD, Bs.nm, bases, rel])
  | .any n, 0, _, h => by simp [dep] at h
  | .any n, r + 1, _, _ => .any (.inl rfl) (Int.natCast_nonneg n)
  | .lst k, 0, _, h => by simp [dep] at h
  | .lst k, r + 1, hw, h => .lst (.inl rfl) (gk_rel k r hw (by simp [dep] at h; omega))
  | .fn a b, 0, _, h => by simp [dep] at h
  | .fn a b, r + 1, hw, h => .fn (.inl rfl) (gk_rel a r hw.1 (by simp [dep] at h; omega)) (gk_rel b r hw.2 (by simp [dep] at h; omega))
  | .rcd f, 0, _, h => by simp [dep] at h
  | .rcd f, r + 1, hw, h => by
    have lf := lab_facts hw.1
    have len := fld5 hw.1
    refine .rcd (cl := rels (toF f)) (fs := (fields f).map fun p => (p.1, rel (toD p.2))) (.inl rfl) (.inl rfl) (by rw [rels_toF]; simp) (by simpa using len) (fun i c p h1 h2 => ?_) (gkF_rel f r hw.2 (by simp [dep] at h; omega)) ?_
    · rw [rels_toF, List.getElem?_map] at h1
      rw [List.getElem?_map] at h2
      cases e : (fields f)[i]? with
      | none => rw [e] at h1; cases h1
      | some q =>
        rw [e] at h1 h2
        cases h1; cases h2
        have hm : q.1 ∈ labels f := by rw [labels_fields]; exact List.mem_map_of_mem (List.mem_of_getElem? e)
        obtain ⟨a, b, c, _⟩ := lf.2.2 q.1 hm
        exact ⟨.inl rfl, a, b, c⟩
    · rw [List.map_map]
      have := lf.2.1
      rw [labels_fields] at this
      exact this
theorem gkF_rel : ∀ (f : Kf) (r : Nat), wfF f → depF f ≤ r → ∀ p ∈ (fields f).map (fun p => (p.1, rel (toD p.2))), GK r p.2
  | .nil, _, _, _, p, hp => by cases hp
  | .cons l k f, r, hw, h, p, hp => by
    have h : max (dep k) (depF f) ≤ r := h
    rcases List.mem_cons.mp (show p ∈ (l, rel (toD k)) :: (fields f).map (fun p => (p.1, rel (toD p.2))) from hp) with rfl | hp
    · exact gk_rel k r hw.1 (by omega)
    · exact gkF_rel f r hw.2 (by omega) p hp
end
mutual
theorem tn_rel : ∀ k, tn (rel (toD k)) = toD k
  | .base _ => rfl
  | .any _ => rfl
  | .lst k => by
    show PyData.tuple [.str "list", tn (rel (toD k))] = _
    rw [tn_rel k]; rfl
  | .fn a b => by
    show PyData.tuple [.str "function", tn (rel (toD a)), tn (rel (toD b))] = _
    rw [tn_rel a, tn_rel b]; rfl
  | .rcd f => by
    show PyData.tuple [.str "record", .tuple (tns (rels (toF f)))] = _
    rw [tn_relF f]; rfl
theorem tn_relF : ∀ f, tns (rels (toF f)) = toF f
  | .nil => rfl
  | .cons l k r => by
    show PyData.tuple [.str l, tn (rel (toD k))] :: tns (rels (toF r)) = _
    rw [tn_rel k, tn_relF r]; rfl
end
/-! ### what is reached -/
def isL : Kd → Bool
  | .lst _ => true
  | _ => false
def isB : Kd → Bool
  | .base _ => true
  | _ => false
def hasStar (s : List PyData) : Bool := s.any fun z => PyData.eqv z (.str "*")
mutual
theorem led_lists : ∀ k s, ((led k s).filter fun q => isL q.2).map (·.1) = plc k s
  | .lst k, s => by
    show (((s, Kd.lst k) :: led k (s ++ [starS])).filter fun q => isL q.2).map (·.1) = s :: plc k (s ++ [starS])
    rw [List.filter_cons_of_pos (by rfl), List.map_cons, led_lists k]
  | .rcd f, s => by
    show ((ledF f s).filter _).map (·.1) = plcF f s
    exact led_listsF f s
  | .base _, _ => rfl
  | .any _, _ => rfl
  | .fn _ _, _ => rfl
theorem led_listsF : ∀ f s, ((ledF f s).filter fun q => isL q.2).map (·.1) = plcF f s
  | .nil, _ => rfl
  | .cons l k r, s => by
    show ((led k (s ++ [.str l]) ++ ledF r s).filter _).map (·.1) = plc k (s ++ [.str l]) ++ plcF r s
    rw [List.filter_append, List.map_append, led_lists k, led_listsF r]
end
def flatT (q : List PyData × Kd) : Bool := isB q.2 && !hasStar q.1
theorem star_app {s t : List PyData} : hasStar (s ++ t) = (hasStar s || hasStar t) := List.any_append
mutual
theorem led_star : ∀ k s, hasStar s = true → (led k s).filter flatT = []
  | .lst k, s, h => by
    show (((s, Kd.lst k) :: led k (s ++ [starS])).filter flatT) = []
    rw [List.filter_cons_of_neg (by simp [flatT, isB]), led_star k _ (by rw [star_app, h]; rfl)]
  | .rcd f, s, h => by
    show (((s, Kd.rcd f) :: ledF f s).filter flatT) = []
    rw [List.filter_cons_of_neg (by simp [flatT, isB]), led_starF f s h]
  | .base b, s, h => by
    show ([(s, Kd.base b)].filter flatT) = []
    rw [List.filter_cons_of_neg (by simp [flatT, h])]; rfl
  | .any _, s, h => rfl
  | .fn _ _, s, h => rfl
theorem led_starF : ∀ f s, hasStar s = true → (ledF f s).filter flatT = []
  | .nil, _, _ => rfl
  | .cons l k r, s, h => by
    show ((led k (s ++ [.str l]) ++ ledF r s).filter flatT) = []
    rw [List.filter_append, led_star k _ (by rw [star_app, h]; rfl), led_starF r s h]; rfl
end
theorem lab_star {l : Str} (h : l ≠ "*") : hasStar [PyData.str l] = false := by
  show (PyData.eqv (.str l) (.str "*") || false) = false
  rw [str_eqv, decide_eq_false h]; rfl
mutual
theorem led_flat : ∀ k s, wf k → hasStar s = false → ((led k s).filter flatT).map (·.1) = flt k s
  | .lst k, s, _, h => by
    show (((s, Kd.lst k) :: led k (s ++ [starS])).filter flatT).map (·.1) = []
    rw [List.filter_cons_of_neg (by simp [flatT, isB]), led_star k _ (by rw [star_app, h]; rfl)]; rfl
  | .rcd f, s, hw, h => by
    show (((s, Kd.rcd f) :: ledF f s).filter flatT).map (·.1) = fltF f s
    rw [List.filter_cons_of_neg (by simp [flatT, isB]), led_flatF f s (fun l hl => ((lab_facts hw.1).2.2 l hl).2.2.2.2) hw.2 h]
  | .base b, s, _, h => by
    show ([(s, Kd.base b)].filter flatT).map (·.1) = [s]
    rw [List.filter_cons_of_pos (by simp [flatT, h, isB])]; rfl
  | .any _, _, _, _ => rfl
  | .fn _ _, _, _, _ => rfl
theorem led_flatF : ∀ f s, (∀ l ∈ labels f, l ≠ "*") → wfF f → hasStar s = false → ((ledF f s).filter flatT).map (·.1) = fltF f s
  | .nil, _, _, _, _ => rfl
  | .cons l k r, s, hl, hw, h => by
    show ((led k (s ++ [.str l]) ++ ledF r s).filter flatT).map (·.1) = flt k (s ++ [.str l]) ++ fltF r s
    rw [List.filter_append, List.map_append, led_flat k _ hw.1 (by rw [star_app, h, lab_star (hl l List.mem_cons_self)]; rfl), led_flatF r s (fun l' h' => hl l' (List.mem_cons_of_mem _ h')) hw.2 h]
end
theorem labs_nd {ls : List Str} (h : labOk ls) : ls.Nodup := by
  obtain ⟨a, n, ha, hn, rfl⟩ := h
  have t : (List.range 5).all (fun a => (List.range 4).all fun n => decide (((five.drop a).take n).Nodup)) = true := by decide +kernel
  exact of_decide_eq_true (List.all_eq_true.mp (List.all_eq_true.mp t a (List.mem_range.mpr ha)) n (List.mem_range.mpr hn))
theorem look_mem : ∀ {l : List (Str × Kd)} {p : Str × Kd}, (l.map (·.1)).Nodup → p ∈ l → lookF l p.1 = some p.2
  | [], _, _, h => by cases h
  | q :: l, p, nd, h => by
    rw [List.map_cons, List.nodup_cons] at nd
    show (if q.1 = p.1 then some q.2 else lookF l p.1) = _
    rcases List.mem_cons.mp h with rfl | h
    · rw [if_pos rfl]
    · rw [if_neg (fun e => nd.1 (by rw [e]; exact List.mem_map_of_mem h)), look_mem nd.2 h]
theorem look_none : ∀ {l : List (Str × Kd)} {z : Str}, z ∉ l.map (·.1) → lookF l z = none
  | [], _, _ => rfl
  | q :: l, z, h => by
    show (if q.1 = z then some q.2 else lookF l z) = _
    rw [if_neg (fun e => h (by rw [← e]; exact List.mem_cons_self)), look_none fun m => h (List.mem_cons_of_mem _ m)]
def Way (k : Kd) (s0 : List PyData) (q : List PyData × Kd) : Prop := ∃ ss : List Str, q.1 = s0 ++ ss.map PyData.str ∧ walkK k ss = some q.2 ∧ (∀ z ∈ ss, stepOk z) ∧ ss.length + dep q.2 ≤ dep k ∧ wf q.2
theorem star_ok : stepOk "*" := by unfold stepOk; decide +kernel
theorem q_ok : stepOk "q" := by unfold stepOk; decide +kernel
mutual
theorem led_way : ∀ k s, wf k → ∀ q ∈ led k s, Way k s q
  | .lst k, s, hw, q, hq => by
    rcases List.mem_cons.mp (show q ∈ (s, Kd.lst k) :: led k (s ++ [starS]) from hq) with rfl | hq
    · exact ⟨[], by simp, rfl, (fun z hz => by cases hz), by simp, hw⟩
    · obtain ⟨ss, e1, e2, e3, e4, e5⟩ := led_way k _ hw q hq
      refine ⟨"*" :: ss, by rw [e1]; simp [starS], ?_, fun z hz => ?_, by simp only [List.length_cons, dep]; omega, e5⟩
      · show (Option.bind (if ("*" : Str) = "*" then some k else none) fun e => walkK e ss) = _
        rw [if_pos rfl]; exact e2
      · rcases List.mem_cons.mp hz with rfl | hz
        · exact star_ok
        · exact e3 z hz
  | .rcd f, s, hw, q, hq => by
    rcases List.mem_cons.mp (show q ∈ (s, Kd.rcd f) :: ledF f s from hq) with rfl | hq
    · exact ⟨[], by simp, rfl, (fun z hz => by cases hz), by simp, hw⟩
    · obtain ⟨p, hp, ss, e1, e2, e3, e4, e5⟩ := led_wayF f s hw.2 q hq
      have hm : p.1 ∈ labels f := by rw [labels_fields]; exact List.mem_map_of_mem hp
      refine ⟨p.1 :: ss, e1, ?_, fun z hz => ?_, by simp only [List.length_cons, dep]; have := depF_le (Nat.le_refl (depF f)) p hp; omega, e5⟩
      · show (Option.bind (lookF (fields f) p.1) fun e => walkK e ss) = _
        rw [look_mem (by rw [← labels_fields]; exact labs_nd hw.1) hp]; exact e2
      · rcases List.mem_cons.mp hz with rfl | hz
        · exact ((lab_facts hw.1).2.2 _ hm).2.2.1
        · exact e3 z hz
  | .base b, s, hw, q, hq => by
    rw [List.mem_singleton.mp (show q ∈ [(s, Kd.base b)] from hq)]
    exact ⟨[], by simp, rfl, (fun z hz => by cases hz), by simp, hw⟩
  | .any b, s, hw, q, hq => by
    rw [List.mem_singleton.mp (show q ∈ [(s, Kd.any b)] from hq)]
    exact ⟨[], by simp, rfl, (fun z hz => by cases hz), by simp, hw⟩
  | .fn a b, s, hw, q, hq => by
    rw [List.mem_singleton.mp (show q ∈ [(s, Kd.fn a b)] from hq)]
    exact ⟨[], by simp, rfl, (fun z hz => by cases hz), by simp, hw⟩
theorem led_wayF : ∀ f s, wfF f → ∀ q ∈ ledF f s, ∃ p ∈ fields f, ∃ ss : List Str, q.1 = s ++ (p.1 :: ss).map PyData.str ∧ walkK p.2 ss = some q.2 ∧ (∀ z ∈ ss, stepOk z) ∧ ss.length + dep q.2 ≤ dep p.2 ∧ wf q.2
  | .nil, _, _, q, hq => by cases hq
  | .cons l k r, s, hw, q, hq => by
    rcases List.mem_append.mp (show q ∈ led k (s ++ [.str l]) ++ ledF r s from hq) with hq | hq
    · obtain ⟨ss, e1, e2, e3, e4, e5⟩ := led_way k _ hw.1 q hq
      exact ⟨(l, k), List.mem_cons_self, ss, by rw [e1]; simp, e2, e3, e4, e5⟩
    · obtain ⟨p, hp, h⟩ := led_wayF r s hw.2 q hq
      exact ⟨p, List.mem_cons_of_mem _ hp, h⟩
end
theorem walk_app : ∀ (ss r : List Str) (k : Kd), walkK k (ss ++ r) = (walkK k ss).bind fun e => walkK e r
  | [], _, _ => rfl
  | z :: ss, r, k => by
    show ((beh k z).bind fun e => walkK e (ss ++ r)) = ((beh k z).bind fun e => walkK e ss).bind _
    cases beh k z with
    | none => rfl
    | some e => exact walk_app ss r e
theorem beh_q {e : Kd} (hw : wf e) : beh e "q" = none := by
  cases e with
  | lst k => show (if ("q" : Str) = "*" then some k else none) = none; rw [if_neg (by decide +kernel)]
  | rcd f => exact look_none fun m => ((lab_facts hw.1).2.2 "q" (by rw [labels_fields]; exact m)).2.2.2.1 rfl
  | base b => rfl
  | any b => rfl
  | fn a b => rfl
theorem beh_star {e : Kd} (hw : wf e) (h : isL e = false) : beh e "*" = none := by
  cases e with
  | lst k => cases h
  | rcd f => exact look_none fun m => ((lab_facts hw.1).2.2 "*" (by rw [labels_fields]; exact m)).2.2.2.2 rfl
  | base b => rfl
  | any b => rfl
  | fn a b => rfl
/-- rows filtered, read as data -/
theorem ledP_inj (a b : List PyData × Kd) (h : ledP a = ledP b) : a = b := by
  obtain ⟨a1, a2⟩ := a
  obtain ⟨b1, b2⟩ := b
  have h : PyData.tuple [.tuple a1, toD a2] = .tuple [.tuple b1, toD b2] := h
  injection h with h; injection h with h1 h2; injection h1 with h1; injection h2 with h2
  rw [h1, toD_inj _ _ h2]
theorem fil_map {α : Type} {t : α → Bool} {l : List α} {m : α → PyData} {g : PyData → PyData} (hm : ∀ a b, m a = m b → a = b) : ((l.map m).filter (kinB t l m)).map g = (l.filter t).map fun x => g (m x) := by
  rw [List.filter_map, List.map_map]
  have : l.filter (kinB t l m ∘ m) = l.filter t := List.filter_congr fun x hx => kinB_eq hm hx
  rw [this]; rfl
end Kk

set_option Elab.async false
set_option linter.all false
set_option maxRecDepth 100000
set_option maxHeartbeats 4000000
namespace Kk
open PySem PySem.Spec PyProof.Rows L2 Ab
/-- one step of the reading -/
local macro_rules | `(tactic| walk_at "w") => `(tactic| first
  | (with_reducible refine ws_seq ?_) | (with_reducible refine ws_next ?_) | (with_reducible refine ws_set ?_) | (with_reducible refine ws_par ?_) | (with_reducible refine ws_ret ?_) | (with_reducible refine ws_if ?_) | (with_reducible refine ws_drop ?_)
  | (refine w_var rfl ?_) | (with_reducible refine w_int ?_) | (with_reducible refine w_str ?_) | (with_reducible refine w_bl ?_) | (with_reducible refine w_non ?_)
  | (with_reducible refine wa_nil ?_) | (with_reducible refine wa_cons ?_) | (with_reducible refine w_tup ?_) | (with_reducible refine w_lst ?_)
  | (with_reducible refine wt_test ?_) | (with_reducible refine wt_B ?_) | (with_reducible refine wt_not ?_) | (with_reducible refine wt_and ?_) | (with_reducible refine wt_or ?_)
  | (with_reducible refine w_andV ?_) | (with_reducible refine w_orV ?_) | (with_reducible refine w_notV ?_) | (with_reducible refine w_ite ?_)
  | (with_reducible refine w_op ao_eq ?_) | (with_reducible refine w_op ao_ne ?_) | (with_reducible refine w_op ao_ix ?_) | (with_reducible refine w_op ao_plus ?_) | (with_reducible refine w_op ao_less ?_) | (with_reducible refine w_op ao_le ?_) | (with_reducible refine w_op ao_gt ?_) | (with_reducible refine w_op ao_ge ?_)
  | (with_reducible refine w_op ao_sub ?_) | (with_reducible refine w_op ao_mul ?_) | (with_reducible refine w_op ao_mod ?_) | (with_reducible refine w_op ao_div ?_) | (with_reducible refine w_op ao_pow ?_) | (with_reducible refine w_op ao_isNo ?_) | (with_reducible refine w_op ao_inSg ?_) | (with_reducible refine w_op ao_inSeq ?_) | (with_reducible refine w_op ao_ninSeq ?_)
  | (with_reducible refine w_cb ac_len ?_) | (with_reducible refine w_cb ac_tupleOf ?_) | (with_reducible refine w_cb ac_intOf ?_) | (with_reducible refine w_cb ac_all ?_) | (with_reducible refine w_cb ac_any ?_)
  | (with_reducible refine w_isi (by decide) ?_) | (with_reducible refine w_isi2 (by decide) (by decide) ?_) | (with_reducible refine w_sl ?_) | (with_reducible refine wo_none ?_) | (with_reducible refine wo_some ?_)
  | (with_reducible refine w_chain ao_le ao_le ?_) | (with_reducible refine w_call ?_))
local macro_rules | `(tactic| walk_at "v") => `(tactic| first
  | (with_reducible refine m0 ?_) | (with_reducible refine m1 ?_) | (with_reducible refine m2 ?_) | (with_reducible refine m3 ?_) | (with_reducible refine m5 ?_)
  | (with_reducible refine exb ?_) | (with_reducible refine exi ?_) | (with_reducible refine exl ?_) | (with_reducible refine exql ?_) | (with_reducible refine exqt ?_)
  | (refine fixt rfl ?_) | (refine fixl rfl ?_) | (refine fslt rfl ?_) | (refine fsll rfl ?_)
  | (with_reducible refine flent ?_; dsimp only [List.length_cons, List.length_nil]) | (with_reducible refine flenl ?_; dsimp only [List.length_cons, List.length_nil])
  | (with_reducible refine fii (by first | trivial | decide) ?_) | (with_reducible refine fpi ?_) | (with_reducible refine flti ?_) | (with_reducible refine fint ?_) | (with_reducible refine ftupl ?_) | (with_reducible refine ftupt ?_)
  | (with_reducible refine feq (by decide +kernel) (by decide +kernel) ?_) | (with_reducible refine fne (by decide +kernel) (by decide +kernel) ?_)
  | (with_reducible refine iteK rfl ?_) | (with_reducible refine iteN rfl ?_) | (with_reducible refine iteK (by decide +kernel) ?_) | (with_reducible refine iteN (by decide +kernel) ?_))
local macro_rules | `(tactic| walk_at "ww") => `(tactic| repeat (first | walk_at "w" | walk_at "v"))

/-! ### the law -/
theorem l100s {xs : List PyData} {R : Prop} (h : xs.length ≤ 100000) (r : R) : xs.length ≤ 100000 ∧ R := ⟨h, r⟩
local macro_rules | `(tactic| walk_at "v") => `(tactic| first | (with_reducible refine l100s (by simp; done) ?_))
theorem isD_str (k : Kd) : isD (toD k) "str" = isB k := by cases k <;> rfl
theorem is_base_toD {k : Kd} (hw : wf k) (hd : dep k ≤ 12) : fIsBase [toD k] = some (.bool (isB k)) := by
  show (if SeqAt.shaped (toD k) = true then some (PyData.bool (bases.any fun z => PyData.eqv z (toD k))) else none) = _
  rw [if_pos (gk_shaped (gk_toD k 12 hw hd) (by decide))]
  cases k with
  | base b => cases b <;> first | rfl | (show some (PyData.bool _) = some (.bool true); congr 2)
  | any b => rfl
  | lst b => rfl
  | fn a b => rfl
  | rcd f => rfl
theorem ex_steps {ss : List Str} (h : ∀ z ∈ ss, stepOk z) (hl : ss.length ≤ 10000) : EX 1 (.tuple (ss.map PyData.str)) := .tup (by rw [List.length_map]; exact hl) fun x hx => by
  obtain ⟨z, hz, rfl⟩ := List.mem_map.mp hx
  exact .str (h z hz)
theorem way_steps {k : Kd} {q : List PyData × Kd} (hd : dep k ≤ 6) (h : Way k [] q) : EX 1 (.tuple q.1) := by
  obtain ⟨ss, e1, _, e3, e4, _⟩ := h
  rw [e1, List.nil_append]
  exact ex_steps e3 (by omega)
theorem ex_plc {k : Kd} (hw : wf k) (hd : dep k ≤ 6) (hs : sz k ≤ 10000) : EX 18 (plcD k) := by
  refine (EX.tup (n := 1) (by rw [List.length_map]; have := plc_len k []; omega) fun x hx => ?_).mono (by decide)
  obtain ⟨s, hs, rfl⟩ := List.mem_map.mp hx
  rw [← led_lists] at hs
  obtain ⟨q, hq, rfl⟩ := List.mem_map.mp hs
  exact way_steps hd (led_way k [] hw q (List.mem_filter.mp hq).1)
theorem ex_flt {k : Kd} (hw : wf k) (hd : dep k ≤ 6) (hs : sz k ≤ 10000) : EX 18 (fltD k) := by
  have e := led_flat k [] hw rfl
  refine (EX.tup (n := 1) ?_ fun x hx => ?_).mono (by decide)
  · rw [List.length_map, ← e, List.length_map]
    have := List.length_filter_le flatT (led k [])
    have := led_len k []
    omega
  · obtain ⟨s, hs, rfl⟩ := List.mem_map.mp hx
    rw [← e] at hs
    obtain ⟨q, hq, rfl⟩ := List.mem_map.mp hs
    exact way_steps hd (led_way k [] hw q (List.mem_filter.mp hq).1)
abbrev spLaw (K : PySem.W.Frag) : Sp := spP (fun ds => ∃ ns : List Int, ds = [intL ns] ∧ ns.length ≤ 63) (fun _ x => x = .bool true) K
section
variable {P0 : Program} {w : World} {K : PySem.W.Frag} {mg : Str → Option Value} {base : Heap} {aB C fI : Addr} (T : Txt K mg aB)
theorem w_callG {ta : TA} {as : List Sv} {M : Mm} {P : PyData → Mm → Prop} {pre : List PyData → Prop} {post : List PyData → PyData → Prop} {E : XK} {sp' : Sp} (i : ∀ vs H Q, spP pre post K vs H Q E → sp' vs H Q E) (h : WA K ta as M fun ss M1 => ∃ ds : List PyData, ss = ds.map .dat ∧ pre ds ∧ ∀ d, post ds d → P d M1) : W K (tCall sp' [] E ta) as M P := fun S H0 σ H k r Q q =>
  h S H0 σ H k r _ fun vs H1 ss M1 k1 e1 b1 ⟨ds, es, hp, p⟩ => by
    subst es
    rw [List.append_nil]
    refine i _ _ _ ⟨syAt S M1 H1 fun z hz => by obtain ⟨us, a, _⟩ := k1.mem z hz; rw [a]; simp, ds, ⟨k1.inv, fun _ _ => rfl⟩, hp, ra_dat b1, fun v H' d xt iv dp pd => ?_⟩
    have sm : Same (Gh S M1 H1) (Gh S M1 H') := gh_any xt
    refine q v H' d M1 ⟨fun a o e3 e4 => ?_, iv.1, k1.nd, k1.loc, fun z hz => ?_⟩ (e1.trans sm) dp (p d pd)
    · have e5 := k1.xt a o e3 e4
      by_cases e6 : Bm S M1 a = false
      · exact xt a o e6 e5
      · have e7 : Bm S M1 a = true := by simpa using e6
        rcases (Bool.or_eq_true _ _).mp e7 with e | e
        · rw [e3] at e; cases e
        · obtain ⟨z, hz, y⟩ := List.any_eq_true.mp e
          have y : z.1 = a := by simpa using y
          rw [← y, iv.2 z hz, y]
          exact e5
    · obtain ⟨us, a, b⟩ := k1.mem z hz
      exact ⟨us, by rw [iv.2 z hz]; exact a, dps_mono sm _ _ b⟩
theorem w_ex {n : Nat} {d : PyData} {ta : TA} {as : List Sv} {M : Mm} {R : PyData → Mm → Prop} (hx : EX n d) (h : WA K ta as M fun ss M1 => ss = [.dat d, .dat d] ∧ R (.bool true) M1) : W K (tCall (spEx n K) [] E0 ta) as M R :=
  w_call fun S H0 σ H k r Q q => h S H0 σ H k r Q fun vs H1 ss M1 k1 e1 b1 p1 => q vs H1 ss M1 k1 e1 b1 (by
    obtain ⟨es, hr⟩ := p1
    exact ⟨[d, d], es, ⟨d, rfl, hx⟩, fun x hx => by rw [hx]; exact hr⟩)
theorem w_kindat {k e : Kd} {ss : List Str} {ta : TA} {as : List Sv} {M : Mm} {R : PyData → Mm → Prop} (hw : wf k) (hl : ss.length ≤ 1000) (hst : ∀ z ∈ ss, stepOk z) (he : walkK k ss = some e)
    (h : WA K ta as M fun us M1 => us = [.dat (toD k), .dat (.tuple (ss.map PyData.str))] ∧ R (toD e) M1) : W K (tCall (spKA C K) [] E0 ta) as M R := by
  refine w_callG (pre := fun ds => ds = [toD k, .tuple (ss.map PyData.str)]) (post := fun _ x => x = toD e) (fun vs H Q h => ?_) fun S H0 σ H kk r Q q => h S H0 σ H kk r Q fun vs H1 us M1 k1 e1 b1 p1 => q vs H1 us M1 k1 e1 b1 ?_
  · obtain ⟨S, ds, iv, rfl, hd, q⟩ := h
    refine ⟨S, k, ss, iv, hw, hl, hst, hd, fun e' he' v H' xt iv' dv => ?_, fun hn => ?_⟩
    · rw [he] at he'
      cases he'
      exact q v H' _ xt iv' dv rfl
    · rw [he] at hn; cases hn
  · obtain ⟨es, hr⟩ := p1
    exact ⟨[toD k, .tuple (ss.map PyData.str)], es, rfl, fun d hd => by rw [hd]; exact hr⟩
end
end Kk

set_option Elab.async false
set_option linter.all false
set_option maxRecDepth 100000
set_option maxHeartbeats 4000000
namespace Kk
open PySem PySem.Spec PyProof.Rows L2 Ab
/-- one step of the reading -/
local macro_rules | `(tactic| walk_at "w") => `(tactic| first
  | (with_reducible refine ws_seq ?_) | (with_reducible refine ws_next ?_) | (with_reducible refine ws_set ?_) | (with_reducible refine ws_par ?_) | (with_reducible refine ws_ret ?_) | (with_reducible refine ws_if ?_) | (with_reducible refine ws_drop ?_)
  | (refine w_var rfl ?_) | (with_reducible refine w_int ?_) | (with_reducible refine w_str ?_) | (with_reducible refine w_bl ?_) | (with_reducible refine w_non ?_)
  | (with_reducible refine wa_nil ?_) | (with_reducible refine wa_cons ?_) | (with_reducible refine w_tup ?_) | (with_reducible refine w_lst ?_)
  | (with_reducible refine wt_test ?_) | (with_reducible refine wt_B ?_) | (with_reducible refine wt_not ?_) | (with_reducible refine wt_and ?_) | (with_reducible refine wt_or ?_)
  | (with_reducible refine w_andV ?_) | (with_reducible refine w_orV ?_) | (with_reducible refine w_notV ?_) | (with_reducible refine w_ite ?_)
  | (with_reducible refine w_op ao_eq ?_) | (with_reducible refine w_op ao_ne ?_) | (with_reducible refine w_op ao_ix ?_) | (with_reducible refine w_op ao_plus ?_) | (with_reducible refine w_op ao_less ?_) | (with_reducible refine w_op ao_le ?_) | (with_reducible refine w_op ao_gt ?_) | (with_reducible refine w_op ao_ge ?_)
  | (with_reducible refine w_op ao_sub ?_) | (with_reducible refine w_op ao_mul ?_) | (with_reducible refine w_op ao_mod ?_) | (with_reducible refine w_op ao_div ?_) | (with_reducible refine w_op ao_pow ?_) | (with_reducible refine w_op ao_isNo ?_) | (with_reducible refine w_op ao_inSg ?_) | (with_reducible refine w_op ao_inSeq ?_) | (with_reducible refine w_op ao_ninSeq ?_)
  | (with_reducible refine w_cb ac_len ?_) | (with_reducible refine w_cb ac_tupleOf ?_) | (with_reducible refine w_cb ac_intOf ?_) | (with_reducible refine w_cb ac_all ?_) | (with_reducible refine w_cb ac_any ?_)
  | (with_reducible refine w_isi (by decide) ?_) | (with_reducible refine w_isi2 (by decide) (by decide) ?_) | (with_reducible refine w_sl ?_) | (with_reducible refine wo_none ?_) | (with_reducible refine wo_some ?_)
  | (with_reducible refine w_chain ao_le ao_le ?_) | (with_reducible refine w_call ?_))
local macro_rules | `(tactic| walk_at "v") => `(tactic| first
  | (with_reducible refine m0 ?_) | (with_reducible refine m1 ?_) | (with_reducible refine m2 ?_) | (with_reducible refine m3 ?_) | (with_reducible refine m5 ?_)
  | (with_reducible refine exb ?_) | (with_reducible refine exi ?_) | (with_reducible refine exl ?_) | (with_reducible refine exql ?_) | (with_reducible refine exqt ?_)
  | (refine fixt rfl ?_) | (refine fixl rfl ?_) | (refine fslt rfl ?_) | (refine fsll rfl ?_)
  | (with_reducible refine flent ?_; dsimp only [List.length_cons, List.length_nil]) | (with_reducible refine flenl ?_; dsimp only [List.length_cons, List.length_nil])
  | (with_reducible refine fii (by first | trivial | decide) ?_) | (with_reducible refine fpi ?_) | (with_reducible refine flti ?_) | (with_reducible refine fint ?_) | (with_reducible refine ftupl ?_) | (with_reducible refine ftupt ?_)
  | (with_reducible refine feq (by decide +kernel) (by decide +kernel) ?_) | (with_reducible refine fne (by decide +kernel) (by decide +kernel) ?_)
  | (with_reducible refine iteK rfl ?_) | (with_reducible refine iteN rfl ?_) | (with_reducible refine iteK (by decide +kernel) ?_) | (with_reducible refine iteN (by decide +kernel) ?_))
local macro_rules | `(tactic| walk_at "ww") => `(tactic| repeat (first | walk_at "w" | walk_at "v"))

theorem l100t {xs : List PyData} {R : Prop} (h : xs.length ≤ 100000) (r : R) : xs.length ≤ 100000 ∧ R := ⟨h, r⟩
local macro_rules | `(tactic| walk_at "v") => `(tactic| first | (with_reducible refine l100t (by simp; done) ?_))
theorem if_kind {K : PySem.W.Frag} {A : AE} {as : List Sv} {M : Mm} {s1 s2 : TS} {b : Bool} {k0 : Kd} (hw : wf k0) (hd : dep k0 ≤ 5) (hs : sz k0 ≤ 9999) (h1 : A.nx (as.set 2 (.dat (toD (.lst k0)))) M → WS K s1 as M A) (h2 : A.nx (as.set 2 (.dat (toD k0))) M → WS K s2 as M A)
    (h : ∀ k, wf k → dep k ≤ 6 → sz k ≤ 10000 → A.nx (as.set 2 (.dat (toD k))) M) : if b = true then WS K s1 as M A else WS K s2 as M A :=
  iteB (fun _ => h1 (h _ hw (by simp only [dep]; omega) (by simp only [sz]; omega))) (fun _ => h2 (h _ hw (by omega) (by omega)))
theorem fil_lists (k : Kd) : (((led k []).map ledP).filter (kinB (fun q : List PyData × Kd => isL q.2) (led k []) ledP)).map hd0 = (plc k []).map .tuple := by
  rw [fil_map ledP_inj, ← led_lists, List.map_map]
  rfl
theorem fil_flat {k : Kd} (hw : wf k) : (((led k []).map ledP).filter (kinB flatT (led k []) ledP)).map hd0 = (flt k []).map .tuple := by
  rw [fil_map ledP_inj, ← led_flat k [] hw rfl, List.map_map]
  rfl
section
variable {P : Program} {w : World} {K : PySem.W.Frag} {mg : Str → Option Value} {base : Heap} {aB C fI : Addr} (T : Txt K mg aB)
theorem w_due {k : Kd} {as : List Sv} {M : Mm} {R : PyData → Mm → Prop} (h2 : as[2]? = some (.dat (toD k))) (h8 : as[8]? = some (.dat (.bool (hasW "any" k)))) (h9 : as[9]? = some (.dat (.bool (hasW "function" k)))) (r : R (ansK k) M) :
    W K (tAndV (tNotV (tCB (rIsi K) (tCons (tVar 2) (tCons (tC (V.ty "str")) tNil)))) (tAndV (tOp (rEqD K) (tOp (rIx K) (tVar 2) (tC (.int 0))) (tC (.str "list"))) (tAndV (tNotV (tVar 8)) (tNotV (tVar 9))))) as M R := by
  refine w_andV (w_notV (w_isi (by decide) (w_var h2 ?_)))
  rw [isD_str]
  refine exb (exb (iteB (fun h1 => ?_) fun h1 => ?_))
  · refine w_andV (w_word (.inr (.inl rfl)) (w_var h2 ⟨rfl, exb (iteB (fun h3 => ?_) fun h3 => ?_)⟩))
    · refine w_andV (w_notV (w_var h8 (exb (exb (iteB (fun h4 => ?_) fun h4 => ?_)))))
      · refine w_notV (w_var h9 (exb ?_))
        have e : ansK k = .bool (!hasW "function" k) := by unfold ansK; rw [h3, h4]; rfl
        rw [← e]; exact r
      · have e : ansK k = .bool false := by unfold ansK; rw [h3, h4]; rfl
        rw [← e]; exact r
    · have e : ansK k = .bool false := by unfold ansK; rw [h3]; rfl
      rw [← e]; exact r
  · have e : ansK k = .bool false := by
      cases k with
      | base b => rfl
      | any b => cases h1
      | lst b => cases h1
      | fn a b => cases h1
      | rcd b => cases h1
    rw [← e]; exact r
include T in
theorem ok_law {f0 : Addr} {fd0 : FuncData} (F : Fun K "law" "law" s_law f0 fd0)
    (q_law_pool : Cal P w K mg base 1 "_law_pool" ["_law_script", "_law_at"] (spN prePool (fun _ pl => poolD pl) K))
    (q_law_draw : Cal P w K mg base 1 "_law_draw" ["_law_pool_here", "_law_many"] (spQ preDraw postDraw K))
    (q_law_any_kind : Cal P w K mg base 6 "_law_any_kind" ["_law_pool_here", "_law_left"] (spAny 4 K))
    (q_law_exact : Cal P w K mg base 19 "_law_exact" ["_law_told", "_law_due"] (spEx 18 K))
    (q_law_relisted : Cal P w K mg base 19 "_law_relisted" ["_law_thing"] (spRel 18 K))
    (q_law_led_to : Cal P w K mg base 6 "_law_led_to" ["_law_kind", "_law_steps"] (spLed 5 K))
    (q_law_kind_has : Cal P w K mg base 6 "_law_kind_has" ["_law_kind", "_law_word"] (spHas 5 K))
    (q_law_wrong_steps : Cal P w K mg base 5 "_law_wrong_steps" ["_law_kind", "_law_steps"] (spWS K))
    (q_check_kind : Cal P w K mg base 27 "check_kind" ["kind"] (spP (fun ds => ∃ d, ds = [d] ∧ GK 12 d) (fun ds x => ∀ d, ds = [d] → x = tn d) K))
    (q_is_base : Cal P w K mg base 1 "is_base" ["kind"] (spF fIsBase K))
    (q_list_places : Cal P w K mg base 2 "list_places" ["kind"] (spK plcD K))
    (q_ask_count : Cal P w K mg base 3 "ask_count" ["kind"] (spK (fun k => .int ((plc k []).length : Int)) K))
    (q_flat_paths : Cal P w K mg base 2 "flat_paths" ["kind"] (spG fltD K))
    (q_kind_at : CalX P w K mg base 4 "kind_at" ["kind", "steps"] (spKA C K))
    (q_has_open : Cal P w K mg base 3 "has_open" ["kind"] (spK (fun k => .bool (hasW "any" k)) K))
    (q_has_function : Cal P w K mg base 3 "has_function" ["kind"] (spK (fun k => .bool (hasW "function" k)) K))
    (q_is_answer_kind : Cal P w K mg base 4 "is_answer_kind" ["kind"] (spK ansK K)) :
    FnOk P w K mg base CX0 28 f0 fd0 ["_law_script"] (spLaw K) := by
  have hn : ∀ ds, (∃ ns : List Int, ds = [intL ns] ∧ ns.length ≤ 63) → ds.length = 1 := by rintro ds ⟨ns, rfl, _⟩; rfl
  have c_law_pool := q_law_pool.mono (show 1 ≤ 27 by decide)
  have c_law_draw := q_law_draw.mono (show 1 ≤ 27 by decide)
  have c_law_any_kind := q_law_any_kind.mono (show 6 ≤ 27 by decide)
  have c_law_exact := q_law_exact.mono (show 19 ≤ 27 by decide)
  have c_law_relisted := q_law_relisted.mono (show 19 ≤ 27 by decide)
  have c_law_led_to := q_law_led_to.mono (show 6 ≤ 27 by decide)
  have c_law_kind_has := q_law_kind_has.mono (show 6 ≤ 27 by decide)
  have c_law_wrong_steps := q_law_wrong_steps.mono (show 5 ≤ 27 by decide)
  have c_check_kind := q_check_kind
  have c_is_base := q_is_base.mono (show 1 ≤ 27 by decide)
  have c_list_places := q_list_places.mono (show 2 ≤ 27 by decide)
  have c_ask_count := q_ask_count.mono (show 3 ≤ 27 by decide)
  have c_flat_paths := q_flat_paths.mono (show 2 ≤ 27 by decide)
  have c_kind_at := q_kind_at.mono (show 4 ≤ 27 by decide)
  have c_has_open := q_has_open.mono (show 3 ≤ 27 by decide)
  have c_has_function := q_has_function.mono (show 3 ≤ 27 by decide)
  have c_is_answer_kind := q_is_answer_kind.mono (show 4 ≤ 27 by decide)
  refine F.ok sc_law (fun vs H Q E h => spP_len hn h) (fun cdv A outer s H vs Q E hr h => ⟨_, (pss_cons (ps_set (i := 1) sc_law.nd rfl (by first | exact .inl rfl | exact .inr rfl) (pe_cal c_law_pool hr (pa_cons (pv 0) (pa_cons pe_int pa_nil))))
      (pss_cons (ps_set (i := 2) sc_law.nd rfl (by first | exact .inl rfl | exact .inr rfl) (pe_cal c_law_any_kind hr (pa_cons (pv 1) (pa_cons pe_int pa_nil))))
      (pss_cons (ps_if (pt_cmpR (k_eq (K := K) rfl hr) (pe_cal c_law_draw hr (pa_cons (pv 1) (pa_cons pe_int pa_nil))) pe_int (nomark _)) (pss_one (ps_set (i := 2) sc_law.nd rfl (by first | exact .inl rfl | exact .inr rfl) (pe_tup (pa_cons pe_str (pa_cons (pv 2) pa_nil))))) pss_nil)
      (pss_cons (ps_if (PW.pt (pw_or (pt_not (pt_val (pe_cal c_law_exact hr (pa_cons (pe_cal c_check_kind hr (pa_cons (pv 2) pa_nil)) (pa_cons (pv 2) pa_nil))))) (pw_or1 (pt_not (pt_val (pe_cal c_law_exact hr (pa_cons (pe_cal c_check_kind hr (pa_cons (pe_cal c_law_relisted hr (pa_cons (pv 2) pa_nil)) pa_nil)) (pa_cons (pv 2) pa_nil)))))))) (pss_one (ps_ret pe_bl)) pss_nil)
      (pss_cons (ps_if (pt_not (pt_val (pe_cal c_law_exact hr (pa_cons (pe_cal c_is_base hr (pa_cons (pv 2) pa_nil)) (pa_cons (pe_callB (k_isi (K := K) rfl) (by rfl) T.n_isinstance (by decide +kernel) (pa_cons (pv 2) (pa_cons (pe_bltn (v := .ty "str") (u := .type "str") (by rfl) T.n_str (by decide +kernel) rfl) pa_nil))) pa_nil))))) (pss_one (ps_ret pe_bl)) pss_nil)
      (pss_cons (ps_set (i := 3) sc_law.nd rfl (by first | exact .inl rfl | exact .inr rfl) (pe_cal c_law_led_to hr (pa_cons (pv 2) (pa_cons (pe_tup pa_nil) pa_nil))))
      (pss_cons (ps_set (i := 6) sc_law.nd rfl (by first | exact .inl rfl | exact .inr rfl) (pe_callTy (k_tuple (K := K) rfl) (by rfl) T.n_tuple (by decide +kernel) (pa_cons (pe_lc (own := [("_law_steps", 4), ("_law_inner", 5)]) (by rfl) sc_law.nd (k_seq (K := K) rfl (pv 3)) (blkOk_by (N := ["_law_script", "_law_pool_here", "_law_kind", "_law_reached", "_law_steps", "_law_inner", "_law_lists", "_law_flat", "_law_opened", "_law_worked", "_law_due"]) (sc := defScope s_law) (by decide +kernel)) (fun _ _ _ _ _ => (k_tup (K := K) (n := 2) rfl rfl (pgs_cons (pg_name (i := 4) sc_law.nd rfl (by first | exact .inl rfl | exact .inr rfl)) (pgs_cons (pg_name (i := 5) sc_law.nd rfl (by first | exact .inl rfl | exact .inr rfl)) pgs_nil)))) (fun _ _ _ _ _ => (pts_one (PW.pt (pw_and (pt_not (pt_val (pe_callB (k_isi (K := K) rfl) (by rfl) T.n_isinstance (by decide +kernel) (pa_cons (pv 5) (pa_cons (pe_bltn (v := .ty "str") (u := .type "str") (by rfl) T.n_str (by decide +kernel) rfl) pa_nil))))) (pw_and1 (pt_cmpR (k_eq (K := K) rfl hr) (pe_ix (k_ix (K := K) rfl) (pv 5) pe_int (fun _ _ => rfl)) pe_str (nomark _))))))) (fun _ _ _ _ _ => (pv 4))) pa_nil)))
      (pss_cons (ps_if (PW.pt (pw_or (pt_not (pt_val (pe_cal c_law_exact hr (pa_cons (pe_cal c_list_places hr (pa_cons (pv 2) pa_nil)) (pa_cons (pv 6) pa_nil))))) (pw_or1 (pt_not (pt_val (pe_cal c_law_exact hr (pa_cons (pe_cal c_ask_count hr (pa_cons (pv 2) pa_nil)) (pa_cons (pe_callB (k_len (K := K) rfl) (by rfl) T.n_len (by decide +kernel) (pa_cons (pv 6) pa_nil)) pa_nil)))))))) (pss_one (ps_ret pe_bl)) pss_nil)
      (pss_cons (ps_set (i := 7) sc_law.nd rfl (by first | exact .inl rfl | exact .inr rfl) (pe_callTy (k_tuple (K := K) rfl) (by rfl) T.n_tuple (by decide +kernel) (pa_cons (pe_lc (own := [("_law_steps", 4), ("_law_inner", 5)]) (by rfl) sc_law.nd (k_seq (K := K) rfl (pv 3)) (blkOk_by (N := ["_law_script", "_law_pool_here", "_law_kind", "_law_reached", "_law_steps", "_law_inner", "_law_lists", "_law_flat", "_law_opened", "_law_worked", "_law_due"]) (sc := defScope s_law) (by decide +kernel)) (fun _ _ _ _ _ => (k_tup (K := K) (n := 2) rfl rfl (pgs_cons (pg_name (i := 4) sc_law.nd rfl (by first | exact .inl rfl | exact .inr rfl)) (pgs_cons (pg_name (i := 5) sc_law.nd rfl (by first | exact .inl rfl | exact .inr rfl)) pgs_nil)))) (fun _ _ _ _ _ => (pts_one (PW.pt (pw_and (pt_val (pe_callB (k_isi (K := K) rfl) (by rfl) T.n_isinstance (by decide +kernel) (pa_cons (pv 5) (pa_cons (pe_bltn (v := .ty "str") (u := .type "str") (by rfl) T.n_str (by decide +kernel) rfl) pa_nil)))) (pw_and1 (pt_cmpR (k_nin (K := K) rfl hr) pe_str (pv 4) (by rfl))))))) (fun _ _ _ _ _ => (pv 4))) pa_nil)))
      (pss_cons (ps_if (pt_not (pt_val (pe_cal c_law_exact hr (pa_cons (pe_cal c_flat_paths hr (pa_cons (pv 2) pa_nil)) (pa_cons (pv 7) pa_nil))))) (pss_one (ps_ret pe_bl)) pss_nil)
      (pss_cons (ps_for PassesOwn.never rfl (k_seq (K := K) rfl (pv 3)) (k_tup (K := K) (n := 2) rfl rfl (pgs_cons (pg_name (i := 4) sc_law.nd rfl (by first | exact .inl rfl | exact .inr rfl)) (pgs_cons (pg_name (i := 5) sc_law.nd rfl (by first | exact .inl rfl | exact .inr rfl)) pgs_nil))) (pss_cons (ps_if (PW.pt (pw_or (pt_not (pt_val (pe_cal c_law_exact hr (pa_cons (pe_calX c_kind_at hr (pa_cons (pv 2) (pa_cons (pv 4) pa_nil))) (pa_cons (pv 5) pa_nil))))) (pw_or1 (pt_not (pt_val (pe_cal c_law_wrong_steps hr (pa_cons (pv 2) (pa_cons (pe_op (k_plus (K := K) rfl) (pv 4) (pe_slice (k_sl (K := K) rfl) (pe_tup (pa_cons pe_str (pa_cons pe_str pa_nil))) po_none (po_some (pe_op (k_plus (K := K) rfl) pe_int (pe_cal c_law_draw hr (pa_cons (pv 1) (pa_cons pe_int pa_nil))))))) pa_nil)))))))) (pss_one (ps_ret pe_bl)) pss_nil)
      (pss_one (ps_if (PW.pt (pw_and (PW.pt (pw_or (pt_val (pe_callB (k_isi (K := K) rfl) (by rfl) T.n_isinstance (by decide +kernel) (pa_cons (pv 5) (pa_cons (pe_bltn (v := .ty "str") (u := .type "str") (by rfl) T.n_str (by decide +kernel) rfl) pa_nil)))) (pw_or1 (pt_cmpR (k_ne (K := K) rfl hr) (pe_ix (k_ix (K := K) rfl) (pv 5) pe_int (fun _ _ => rfl)) pe_str (nomark _))))) (pw_and1 (pt_not (pt_val (pe_cal c_law_wrong_steps hr (pa_cons (pv 2) (pa_cons (pe_op (k_plus (K := K) rfl) (pv 4) (pe_tup (pa_cons pe_str pa_nil))) pa_nil)))))))) (pss_one (ps_ret pe_bl)) pss_nil))))
      (pss_cons (ps_set (i := 8) sc_law.nd rfl (by first | exact .inl rfl | exact .inr rfl) (pe_cal c_law_kind_has hr (pa_cons (pv 2) (pa_cons pe_str pa_nil))))
      (pss_cons (ps_set (i := 9) sc_law.nd rfl (by first | exact .inl rfl | exact .inr rfl) (pe_cal c_law_kind_has hr (pa_cons (pv 2) (pa_cons pe_str pa_nil))))
      (pss_cons (ps_if (PW.pt (pw_or (pt_not (pt_val (pe_cal c_law_exact hr (pa_cons (pe_cal c_has_open hr (pa_cons (pv 2) pa_nil)) (pa_cons (pv 8) pa_nil))))) (pw_or1 (pt_not (pt_val (pe_cal c_law_exact hr (pa_cons (pe_cal c_has_function hr (pa_cons (pv 2) pa_nil)) (pa_cons (pv 9) pa_nil)))))))) (pss_one (ps_ret pe_bl)) pss_nil)
      (pss_cons (ps_set (i := 10) sc_law.nd rfl (by first | exact .inl rfl | exact .inr rfl) (pe_and (pe_not (pe_callB (k_isi (K := K) rfl) (by rfl) T.n_isinstance (by decide +kernel) (pa_cons (pv 2) (pa_cons (pe_bltn (v := .ty "str") (u := .type "str") (by rfl) T.n_str (by decide +kernel) rfl) pa_nil)))) (pe_and (pe_cmpR (k_eq (K := K) rfl hr) (pe_ix (k_ix (K := K) rfl) (pv 2) pe_int (fun _ _ => rfl)) pe_str (nomark _)) (pe_and (pe_not (pv 8)) (pe_one (pe_not (pv 9)))))))
      (pss_one (ps_ret (pe_cal c_law_exact hr (pa_cons (pe_cal c_is_answer_kind hr (pa_cons (pv 2) pa_nil)) (pa_cons (pv 10) pa_nil)))))))))))))))))))), to_spP hn (fun ds hp => ?_) h⟩)
  obtain ⟨ns, rfl, hns⟩ := hp
  change WS K _ [.dat (intL ns), .no, .no, .no, .no, .no, .no, .no, .no, .no, .no] [] _
  refine ws_seq (ws_setN (wa_cons (w_var rfl (wa_cons (w_int (wa_nil (m2 ⟨⟨ns, 0, rfl, hns⟩, fun c pl _ hpl => ?_⟩)))))))
  change WS K _ [.dat (intL ns), .own c, .no, .no, .no, .no, .no, .no, .no, .no, .no] [(c, true, pl)] _
  refine ws_seq (ws_set (w_callQ (wa_mut rfl (wa_cons (w_int (wa_nil ⟨c, true, pl, [.int 4], rfl, rfl, hpl, rfl, fun d pl1 hpl1 hd => ?_⟩))))))
  obtain ⟨k0, rfl, hw0, hdk, hs0⟩ := hd
  have hs0 : sz k0 ≤ 121 := hs0
  change WS K _ [.dat (intL ns), .own c, .dat (toD k0), .no, .no, .no, .no, .no, .no, .no, .no] [(c, true, pl1)] _
  refine ws_seq (ws_if (wt_test (w_op ao_eq (w_draw rfl hpl1 (by decide) (by decide) fun n0 pl2 _ hpl2 => w_int (feq rfl rfl (exb ?_))))))
  refine if_kind hw0 (by omega) (by omega) (fun x => ws_set (w_tup (wa_cons (w_str (wa_cons (w_var rfl (wa_nil (m2 ⟨by simp, x⟩)))))))) (fun x => ws_next x) ?_
  intro k hw hdp hs
  change WS K _ [.dat (intL ns), .own c, .dat (toD k), .no, .no, .no, .no, .no, .no, .no, .no] [(c, true, pl2)] _
  have ex18 : EX 18 (toD k) := (ex_toD k hw).mono (by omega)
  -- exact(check_kind(kind), kind), the same of the relisted kind
  refine ws_seq (ws_if (wt_or (wt_not (wt_B (w_ex ex18 (wa_cons (w_call (wa_cons (w_var rfl (wa_nil (m1 ⟨⟨_, rfl, gk_toD k 12 hw (by omega)⟩, fun d hd => ?_⟩))))))))))) 
  rw [hd _ rfl, tn_toD]
  refine wa_cons (w_var rfl (wa_nil ⟨rfl, exb (iteN rfl ?_)⟩))
  refine wt_not (wt_B (w_ex ex18 (wa_cons (w_call (wa_cons (w_call (wa_cons (w_var rfl (wa_nil (m1 ⟨⟨_, rfl, (tx_toD k hw).mono (by omega)⟩, fun d hd => ?_⟩))))))))))
  rw [hd _ rfl]
  refine wa_nil (m1 ⟨⟨_, rfl, gk_rel k 12 hw (by omega)⟩, fun d hd => ?_⟩)
  rw [hd _ rfl, tn_rel]
  refine wa_cons (w_var rfl (wa_nil ⟨rfl, exb (iteN rfl (ws_next ?_))⟩))
  -- is_base
  refine ws_seq (ws_if (wt_not (wt_B (w_ex (d := .bool (isB k)) .bl (wa_cons (w_call (wa_cons (w_var rfl (wa_nil (m1 (callF (is_base_toD hw (by omega)) ?_)))))))))))
  refine wa_cons (w_isi (by decide) (w_var rfl ?_))
  rw [isD_str]
  refine wa_nil ⟨rfl, exb (iteN rfl (ws_next ?_))⟩
  -- what is reached
  refine ws_seq (ws_set (w_call (wa_cons (w_var rfl (wa_cons (w_tup (wa_nil (m0 ⟨by simp, wa_nil (m2 ⟨⟨k, [], rfl, hw, hdp, by decide, hs⟩, fun d hd => ?_⟩)⟩))))))))
  rw [hd k [] rfl]
  have hlen : ((led k []).map ledP).length ≤ 100000 := by rw [List.length_map]; have := led_len k []; omega
  change WS K _ [.dat (intL ns), .own c, .dat (toD k), .dat (.list ((led k []).map ledP)), .no, .no, .no, .no, .no, .no, .no] [(c, true, pl2)] _
  refine ws_seq (ws_set (w_cb ac_tupleOf (wa_cons (w_filt2 (by decide) (by decide) (wi_seq (w_var rfl ⟨_, .inl rfl, kinB (fun q : List PyData × Kd => isL q.2) (led k []) ledP, hd0, hlen, fun x hx => ?_, ?_⟩))))))
  · obtain ⟨⟨s0, e⟩, hq, rfl⟩ := List.mem_map.mp hx
    refine ⟨.tuple s0, toD e, .inl rfl, ?_⟩
    rw [kinB_eq ledP_inj hq]
    change WT K _ [.dat (intL ns), .own c, .dat (toD k), .dat _, .dat (.tuple s0), .dat (toD e), .no, .no, .no, .no, .no] _ _
    cases e with
    | base b => walk_at "ww"; exact ⟨rfl, rfl, fun h => by cases h⟩
    | any b => walk_at "ww"; exact ⟨rfl, rfl, fun h => by cases h⟩
    | fn a b => walk_at "ww"; exact ⟨rfl, rfl, fun h => by cases h⟩
    | rcd b => walk_at "ww"; exact ⟨rfl, rfl, fun h => by cases h⟩
    | lst b => walk_at "ww"; exact ⟨rfl, rfl, fun h => w_var rfl ⟨rfl, rfl⟩⟩
  rw [fil_lists]
  refine wa_nil (m1 (ftupl ?_))
  change WS K _ [.dat (intL ns), .own c, .dat (toD k), .dat (.list ((led k []).map ledP)), .no, .no, .dat (plcD k), .no, .no, .no, .no] [(c, true, pl2)] _
  refine ws_seq (ws_if (wt_or (wt_not (wt_B (w_ex (ex_plc hw hdp hs) (wa_cons (w_call (wa_cons (w_var rfl (wa_nil (m1 ⟨⟨k, ⟨hw, hs⟩, rfl⟩, fun d hd => ?_⟩))))))))))) 
  rw [hd k rfl]
  refine wa_cons (w_var rfl (wa_nil ⟨rfl, exb (iteN rfl ?_)⟩))
  refine wt_not (wt_B (w_ex (d := .int ((plc k []).length : Int)) .int (wa_cons (w_call (wa_cons (w_var rfl (wa_nil (m1 ⟨⟨k, ⟨hw, hs⟩, rfl⟩, fun d hd => ?_⟩))))))))
  rw [hd k rfl]
  refine wa_cons (w_cb ac_len (wa_cons (w_var rfl (wa_nil (m1 (flent ?_))))))
  rw [List.length_map]
  refine wa_nil ⟨rfl, exb (iteN rfl (ws_next ?_))⟩
  -- the flat ones
  refine ws_seq (ws_set (w_cb ac_tupleOf (wa_cons (w_filt2 (by decide) (by decide) (wi_seq (w_var rfl ⟨_, .inl rfl, kinB flatT (led k []) ledP, hd0, hlen, fun x hx => ?_, ?_⟩))))))
  · obtain ⟨⟨s0, e⟩, hq, rfl⟩ := List.mem_map.mp hx
    refine ⟨.tuple s0, toD e, .inl rfl, ?_⟩
    rw [kinB_eq ledP_inj hq]
    change WT K _ [.dat (intL ns), .own c, .dat (toD k), .dat _, .dat (.tuple s0), .dat (toD e), .dat (plcD k), .no, .no, .no, .no] _ _
    cases e with
    | any b => walk_at "ww"; exact ⟨rfl, rfl, fun h => by cases h⟩
    | fn a b => walk_at "ww"; exact ⟨rfl, rfl, fun h => by cases h⟩
    | rcd b => walk_at "ww"; exact ⟨rfl, rfl, fun h => by cases h⟩
    | lst b => walk_at "ww"; exact ⟨rfl, rfl, fun h => by cases h⟩
    | base b =>
      obtain ⟨ss, e1, _, e3, _, _⟩ := led_way k [] hw _ hq
      have e1 : s0 = ss.map PyData.str := e1
      walk_at "ww"
      refine ⟨by decide +kernel, shaped_lst fun x hx => ?_, exb ⟨?_, rfl, fun h => w_var rfl ⟨rfl, rfl⟩⟩⟩
      · rw [e1] at hx
        obtain ⟨z, hz, rfl⟩ := List.mem_map.mp hx
        exact ⟨e3 z hz, by simp [PyData.depth]⟩
      · rfl
  rw [fil_flat hw]
  refine wa_nil (m1 (ftupl ?_))
  change WS K _ [.dat (intL ns), .own c, .dat (toD k), .dat (.list ((led k []).map ledP)), .no, .no, .dat (plcD k), .dat (fltD k), .no, .no, .no] [(c, true, pl2)] _
  refine ws_seq (ws_if (wt_not (wt_B (w_ex (ex_flt hw hdp hs) (wa_cons (w_call (wa_cons (w_var rfl (wa_nil (m1 ⟨⟨k, ⟨⟨hw, by omega⟩, hs⟩, rfl⟩, fun d hd => ?_⟩)))))))))) 
  rw [hd k rfl]
  refine wa_cons (w_var rfl (wa_nil ⟨rfl, exb (iteN rfl (ws_next ?_))⟩))
  -- each place
  refine ws_seq (ws_for ga_pair (wi_seq (w_var rfl ⟨_, .inl rfl, fun i as' M' => ∃ x y pl', as' = [.dat (intL ns), .own c, .dat (toD k), .dat (.list ((led k []).map ledP)), x, y, .dat (plcD k), .dat (fltD k), .no, .no, .no] ∧ M' = [(c, true, pl')] ∧ poolD pl', ⟨_, _, pl2, rfl, rfl, hpl2⟩, ?_, ?_⟩)))
  · rintro i x as' M' hx ⟨x1, y1, pl', rfl, rfl, hpl'⟩
    rw [List.getElem?_map] at hx
    cases hq : (led k [])[i]? with
    | none => rw [hq] at hx; cases hx
    | some q =>
      rw [hq] at hx
      cases hx
      obtain ⟨s0, e⟩ := q
      obtain ⟨ss, e1, e2, e3, e4, e5⟩ := led_way k [] hw _ (List.mem_of_getElem? hq)
      have e1 : s0 = ss.map PyData.str := e1
      have e2 : walkK k ss = some e := e2
      have e4 : ss.length + dep e ≤ dep k := e4
      have e5 : wf e := e5
      subst e1
      have wr : ∀ r : List Str, walkK e r = none → (∀ z ∈ r, stepOk z) → r.length ≤ 2 → (∃ k' ss', [toD k, PyData.tuple (ss.map PyData.str ++ r.map PyData.str)] = [toD k', PyData.tuple (ss'.map PyData.str)] ∧ wf k' ∧ ss'.length ≤ 1000 ∧ (∀ z ∈ ss', stepOk z) ∧ walkK k' ss' = none) := fun r hr1 hr2 hr3 =>
        ⟨k, ss ++ r, by rw [List.map_append], hw, by rw [List.length_append]; omega, fun z hz => by
          rcases List.mem_append.mp hz with hz | hz
          · exact e3 z hz
          · exact hr2 z hz, by rw [walk_app, e2]; exact hr1⟩
      refine ⟨.tuple (ss.map PyData.str), toD e, .inl rfl, ?_⟩
      change WS K _ [.dat (intL ns), .own c, .dat (toD k), .dat _, .dat (.tuple (ss.map PyData.str)), .dat (toD e), .dat (plcD k), .dat (fltD k), .no, .no, .no] _ _
      refine ws_seq (ws_if (wt_or (wt_not (wt_B (w_ex ((ex_toD e e5).mono (show 3 * dep e ≤ 18 by omega)) (wa_cons (w_kindat hw (by omega) e3 e2 (wa_cons (w_var rfl (wa_cons (w_var rfl (wa_nil ⟨rfl, ?_⟩))))))))))))
      refine wa_cons (w_var rfl (wa_nil ⟨rfl, exb (iteN rfl ?_)⟩))
      refine wt_not (wt_B (w_call (wa_cons (w_var rfl (wa_cons (w_op ao_plus (w_var rfl (w_sl (w_tup (wa_cons (w_str (wa_cons (w_str (wa_nil (m2 ⟨by simp, wo_none (wo_some (w_op ao_plus (w_int ?_)))⟩)))))))))))))))
      refine w_draw rfl hpl' (by decide) (by decide) fun n pl3 hn hpl3 => ?_
      have n2 : n = 0 ∨ n = 1 := by omega
      have hmost : ∀ r : List PyData, (ss.map PyData.str).length + r.length ≤ 100000 ↔ ss.length + r.length ≤ 100000 := fun r => by rw [List.length_map]
      have last : ∀ A : AE, (∀ as M, A.nx as M = ∃ x y pl', as = [.dat (intL ns), .own c, .dat (toD k), .dat (.list ((led k []).map ledP)), x, y, .dat (plcD k), .dat (fltD k), .no, .no, .no] ∧ M = [(c, true, pl')] ∧ poolD pl') →
          WS K (tIfS (tAnd (tOr (tB (tCB (rIsi K) (tCons (tVar 5) (tCons (tC (V.ty "str")) tNil)))) (tTest (tOp (rNeD K) (tOp (rIx K) (tVar 5) (tC (.int 0))) (tC (.str "list"))))) (tNot (tB (tCall (spWS K) [] E0 (tCons (tVar 2) (tCons (tOp (rPlus K) (tVar 4) (tTup (tCons (tC (.str "*")) tNil))) tNil)))))) (tRet (tC (.bl false))) tNext)
            [.dat (intL ns), .own c, .dat (toD k), .dat (.list ((led k []).map ledP)), .dat (.tuple (ss.map PyData.str)), .dat (toD e), .dat (plcD k), .dat (fltD k), .no, .no, .no] [(c, true, pl3)] A := fun A hA => by
        have fin : A.nx [.dat (intL ns), .own c, .dat (toD k), .dat (.list ((led k []).map ledP)), .dat (.tuple (ss.map PyData.str)), .dat (toD e), .dat (plcD k), .dat (fltD k), .no, .no, .no] [(c, true, pl3)] := by
          rw [hA]; exact ⟨_, _, pl3, rfl, rfl, hpl3⟩
        have ask : isL e = false → WT K (tNot (tB (tCall (spWS K) [] E0 (tCons (tVar 2) (tCons (tOp (rPlus K) (tVar 4) (tTup (tCons (tC (.str "*")) tNil))) tNil))))) [.dat (intL ns), .own c, .dat (toD k), .dat (.list ((led k []).map ledP)), .dat (.tuple (ss.map PyData.str)), .dat (toD e), .dat (plcD k), .dat (fltD k), .no, .no, .no] [(c, true, pl3)]
            fun b M' => if b = true then WS K (tRet (tC (.bl false))) [.dat (intL ns), .own c, .dat (toD k), .dat (.list ((led k []).map ledP)), .dat (.tuple (ss.map PyData.str)), .dat (toD e), .dat (plcD k), .dat (fltD k), .no, .no, .no] M' A else WS K tNext [.dat (intL ns), .own c, .dat (toD k), .dat (.list ((led k []).map ledP)), .dat (.tuple (ss.map PyData.str)), .dat (toD e), .dat (plcD k), .dat (fltD k), .no, .no, .no] M' A := fun hl => by
          refine wt_not (wt_B (w_call (wa_cons (w_var rfl (wa_cons (w_op ao_plus (w_var rfl (w_tup (wa_cons (w_str (wa_nil (m1 ⟨by simp, fpt ((hmost _).mpr (by simp; omega)) ?_⟩))))))))))))
          refine wa_nil (m2 ⟨wr ["*"] ?_ (fun z hz => by rw [List.mem_singleton.mp hz]; exact star_ok) (by simp), fun d hd => ?_⟩)
          · show (beh e "*").bind _ = none
            rw [beh_star e5 hl]; rfl
          · rw [hd]
            exact exb (iteN rfl (ws_next fin))
        refine ws_if (wt_and (wt_or (wt_B (w_isi (by decide) (w_var rfl ?_)))))
        rw [isD_str]
        refine exb ?_
        cases e with
        | base b => exact iteK rfl (iteK rfl (ask rfl))
        | any b => exact iteN rfl (wt_test (w_op ao_ne (w_op ao_ix (w_var rfl (w_int (fixt rfl (w_str (fne (by decide +kernel) (by decide +kernel) (exb (iteK (by decide +kernel) (ask rfl)))))))))))
        | fn a b => exact iteN rfl (wt_test (w_op ao_ne (w_op ao_ix (w_var rfl (w_int (fixt rfl (w_str (fne (by decide +kernel) (by decide +kernel) (exb (iteK (by decide +kernel) (ask rfl)))))))))))
        | rcd b => exact iteN rfl (wt_test (w_op ao_ne (w_op ao_ix (w_var rfl (w_int (fixt rfl (w_str (fne (by decide +kernel) (by decide +kernel) (exb (iteK (by decide +kernel) (ask rfl)))))))))))
        | lst b => refine iteN rfl ?_; walk_at "ww"; exact fin
      rcases n2 with rfl | rfl
      · refine fpi (exi (fslt (es := [.str "q"]) rfl (fpt ((hmost _).mpr (by simp; omega)) ?_)))
        refine wa_nil (m2 ⟨wr ["q"] ?_ (fun z hz => by rw [List.mem_singleton.mp hz]; exact q_ok) (by simp), fun d hd => ?_⟩)
        · show (beh e "q").bind _ = none
          rw [beh_q e5]; rfl
        · rw [hd]
          exact exb (iteN rfl (ws_next (last _ fun _ _ => rfl)))
      · refine fpi (exi (fslt (es := [.str "q", .str "*"]) rfl (fpt ((hmost _).mpr (by simp; omega)) ?_)))
        refine wa_nil (m2 ⟨wr ["q", "*"] ?_ (fun z hz => by
          simp only [List.mem_cons, List.mem_nil_iff, or_false] at hz
          rcases hz with rfl | rfl
          · exact q_ok
          · exact star_ok) (by simp), fun d hd => ?_⟩)
        · show (beh e "q").bind _ = none
          rw [beh_q e5]; rfl
        · rw [hd]
          exact exb (iteN rfl (ws_next (last _ fun _ _ => rfl)))
  · rintro as' M' ⟨x1, y1, pl3, rfl, rfl, hpl3⟩
    refine ws_seq (ws_set (w_call (wa_cons (w_var rfl (wa_cons (w_str (wa_nil (m2 ⟨⟨k, "any", rfl, .inl rfl, hw, hdp, by decide⟩, fun d hd => ?_⟩))))))))
    rw [hd k _ rfl]
    refine ws_seq (ws_set (w_call (wa_cons (w_var rfl (wa_cons (w_str (wa_nil (m2 ⟨⟨k, "function", rfl, .inr rfl, hw, hdp, by decide⟩, fun d hd => ?_⟩))))))))
    rw [hd k _ rfl]
    change WS K _ [.dat (intL ns), .own c, .dat (toD k), .dat (.list ((led k []).map ledP)), x1, y1, .dat (plcD k), .dat (fltD k), .dat (.bool (hasW "any" k)), .dat (.bool (hasW "function" k)), .no] [(c, true, pl3)] _
    refine ws_seq (ws_if (wt_or (wt_not (wt_B (w_ex (d := .bool (hasW "any" k)) .bl (wa_cons (w_call (wa_cons (w_var rfl (wa_nil (m1 ⟨⟨k, ⟨hw, hs⟩, rfl⟩, fun d hd => ?_⟩))))))))))) 
    rw [hd k rfl]
    refine wa_cons (w_var rfl (wa_nil ⟨rfl, exb (iteN rfl ?_)⟩))
    refine wt_not (wt_B (w_ex (d := .bool (hasW "function" k)) .bl (wa_cons (w_call (wa_cons (w_var rfl (wa_nil (m1 ⟨⟨k, ⟨hw, hs⟩, rfl⟩, fun d hd => ?_⟩))))))))
    rw [hd k rfl]
    refine wa_cons (w_var rfl (wa_nil ⟨rfl, exb (iteN rfl (ws_next ?_))⟩))
    refine ws_seq (ws_set (w_due (k := k) rfl rfl rfl ?_))
    change WS K _ [.dat (intL ns), .own c, .dat (toD k), .dat (.list ((led k []).map ledP)), x1, y1, .dat (plcD k), .dat (fltD k), .dat (.bool (hasW "any" k)), .dat (.bool (hasW "function" k)), .dat (ansK k)] [(c, true, pl3)] _
    refine ws_ret (w_ex (d := ansK k) (show EX 18 (ansK k) from .bl) (wa_cons (w_call (wa_cons (w_var rfl (wa_nil (m1 ⟨⟨k, ⟨hw, hs⟩, rfl⟩, fun d hd => ?_⟩)))))))
    rw [hd k rfl]
    exact wa_cons (w_var rfl (wa_nil ⟨rfl, rfl⟩))
end
end Kk

set_option Elab.async false
set_option linter.all false
set_option maxRecDepth 100000
set_option maxHeartbeats 4000000
namespace Kk
open PySem PySem.Spec PyProof.Rows L2 Ab
/-! ### what the top has written -/
/-- a def's name, its object, its code -/
structure DefIn (K : PySem.W.Frag) (x : Str) (st : Stmt) (f : Addr) : Prop where
  ex : ∃ (oc kV dc pm cd ct : Value) (od an : Option Addr) (sl : Array (Option Value)), K.lookup f = some ⟨oc, od, .func (PySem.W.fnOf x x (defArgs st) (defBody st) (defScope st) .none kV dc pm an cd ct), sl⟩ ∧ PySem.W.codeIn K cd x = true
  nm : PySem.W.nsIn K mainGlobals x = some (some (.ref f))
  kp : PySem.W.keepIn K (.ref f) = true
theorem DefIn.of {K : PySem.W.Frag} {x : Str} {st : Stmt} {f : Addr} {oc kV dc pm cd ct : Value} {od an : Option Addr} {sl : Array (Option Value)} (h3 : PySem.W.nsIn K mainGlobals x = some (some (.ref f)))
    (h1 : K.lookup f = some ⟨oc, od, .func (PySem.W.fnOf x x (defArgs st) (defBody st) (defScope st) .none kV dc pm an cd ct), sl⟩) (h2 : PySem.W.codeIn K cd x = true) (h4 : PySem.W.keepIn K (.ref f) = true) : DefIn K x st f := ⟨⟨_, _, _, _, _, _, _, _, _, h1, h2⟩, h3, h4⟩
theorem gs_of {K : PySem.W.Frag} {x z : Str} {t : Nat} (h : PySem.W.nsIn K mainGlobals x = some (some (.str z t))) : ∃ t, PySem.W.nsIn K mainGlobals x = some (some (.str z t)) := ⟨t, h⟩
theorem gi_of {K : PySem.W.Frag} {x : Str} {z : Int} {t : Nat} (h : PySem.W.nsIn K mainGlobals x = some (some (.int z t))) : ∃ t, PySem.W.nsIn K mainGlobals x = some (some (.int z t)) := ⟨t, h⟩
theorem te_of {K : PySem.W.Frag} {C : Addr} (h1 : PySem.W.subIn K (.ref C) (.type "BaseException") = some true) (h2 : PySem.W.isClsIn K C = true) (h3 : PySem.W.typeIn K (.ref C) = some (.type "type")) (h4 : PySem.W.subIn K (.ref C) (.ref C) = some true) : PySem.W.exmOne K (.ref C) (.ref C) = some true := by
  have h2' : (PySem.W.clsIn K C).isSome = true := h2
  unfold PySem.W.exmOne PySem.W.kitCls
  simp [h1, h2', h3, h4]
theorem dp_ints {K : PySem.W.Frag} {H : Hp} {a : Addr} {ns : List Int} (h : SqL K H a (ns.map V.int)) : Dp K (Hide (fun _ => false) H) (.ref a) (intL ns) := by
  have sm : Same H (Hide (fun _ => false) H) := fun b o e => by rw [hide_f rfl]; exact e
  refine .lst (sm.seq h) ?_
  clear h
  induction ns with
  | nil => exact .nil
  | cons n ns ih => exact .cons (.int n) ih
section
variable {K : PySem.W.Frag} {h : Heap} {mg : Str → Option Value} {f : Addr} (X : K.In h) (G : h.Ns mainGlobals mg)
include X G
theorem d_is_integer (D : DefIn K "is_integer" s_is_integer f) : Dfn K mg "is_integer" s_is_integer ["thing"] := by
  obtain ⟨oc, kV, dc, pm, cd, ct, od, an, sl, l, c⟩ := D.ex
  have F := fun_mk (st := s_is_integer) l c D.kp
  exact ⟨f, _, F, PySem.W.mg_of X G D.nm, F.binds (ps := ["thing"]) fun _ _ _ _ _ _ us hl => match us, hl with | [_], _ => rfl⟩
theorem d_is_sequence (D : DefIn K "is_sequence" s_is_sequence f) : Dfn K mg "is_sequence" s_is_sequence ["thing"] := by
  obtain ⟨oc, kV, dc, pm, cd, ct, od, an, sl, l, c⟩ := D.ex
  have F := fun_mk (st := s_is_sequence) l c D.kp
  exact ⟨f, _, F, PySem.W.mg_of X G D.nm, F.binds (ps := ["thing"]) fun _ _ _ _ _ _ us hl => match us, hl with | [_], _ => rfl⟩
theorem d_is_couple (D : DefIn K "is_couple" s_is_couple f) : Dfn K mg "is_couple" s_is_couple ["thing"] := by
  obtain ⟨oc, kV, dc, pm, cd, ct, od, an, sl, l, c⟩ := D.ex
  have F := fun_mk (st := s_is_couple) l c D.kp
  exact ⟨f, _, F, PySem.W.mg_of X G D.nm, F.binds (ps := ["thing"]) fun _ _ _ _ _ _ us hl => match us, hl with | [_], _ => rfl⟩
theorem d_is_ascending (D : DefIn K "is_ascending" s_is_ascending f) : Dfn K mg "is_ascending" s_is_ascending ["things"] := by
  obtain ⟨oc, kV, dc, pm, cd, ct, od, an, sl, l, c⟩ := D.ex
  have F := fun_mk (st := s_is_ascending) l c D.kp
  exact ⟨f, _, F, PySem.W.mg_of X G D.nm, F.binds (ps := ["things"]) fun _ _ _ _ _ _ us hl => match us, hl with | [_], _ => rfl⟩
theorem d_is_name (D : DefIn K "is_name" s_is_name f) : Dfn K mg "is_name" s_is_name ["thing"] := by
  obtain ⟨oc, kV, dc, pm, cd, ct, od, an, sl, l, c⟩ := D.ex
  have F := fun_mk (st := s_is_name) l c D.kp
  exact ⟨f, _, F, PySem.W.mg_of X G D.nm, F.binds (ps := ["thing"]) fun _ _ _ _ _ _ us hl => match us, hl with | [_], _ => rfl⟩
theorem d_is_base (D : DefIn K "is_base" s_is_base f) : Dfn K mg "is_base" s_is_base ["kind"] := by
  obtain ⟨oc, kV, dc, pm, cd, ct, od, an, sl, l, c⟩ := D.ex
  have F := fun_mk (st := s_is_base) l c D.kp
  exact ⟨f, _, F, PySem.W.mg_of X G D.nm, F.binds (ps := ["kind"]) fun _ _ _ _ _ _ us hl => match us, hl with | [_], _ => rfl⟩
theorem d_check_kind (D : DefIn K "check_kind" s_check_kind f) : Dfn K mg "check_kind" s_check_kind ["kind"] := by
  obtain ⟨oc, kV, dc, pm, cd, ct, od, an, sl, l, c⟩ := D.ex
  have F := fun_mk (st := s_check_kind) l c D.kp
  exact ⟨f, _, F, PySem.W.mg_of X G D.nm, F.binds (ps := ["kind"]) fun _ _ _ _ _ _ us hl => match us, hl with | [_], _ => rfl⟩
theorem d_checked_kind (D : DefIn K "_checked_kind" s_checked_kind f) : Dfn K mg "_checked_kind" s_checked_kind ["kind", "room"] := by
  obtain ⟨oc, kV, dc, pm, cd, ct, od, an, sl, l, c⟩ := D.ex
  have F := fun_mk (st := s_checked_kind) l c D.kp
  exact ⟨f, _, F, PySem.W.mg_of X G D.nm, F.binds (ps := ["kind", "room"]) fun _ _ _ _ _ _ us hl => match us, hl with | [_, _], _ => rfl⟩
theorem d_checked_couples (D : DefIn K "_checked_couples" s_checked_couples f) : Dfn K mg "_checked_couples" s_checked_couples ["couples", "room"] := by
  obtain ⟨oc, kV, dc, pm, cd, ct, od, an, sl, l, c⟩ := D.ex
  have F := fun_mk (st := s_checked_couples) l c D.kp
  exact ⟨f, _, F, PySem.W.mg_of X G D.nm, F.binds (ps := ["couples", "room"]) fun _ _ _ _ _ _ us hl => match us, hl with | [_, _], _ => rfl⟩
theorem d_kind_parts (D : DefIn K "kind_parts" s_kind_parts f) : Dfn K mg "kind_parts" s_kind_parts ["kind"] := by
  obtain ⟨oc, kV, dc, pm, cd, ct, od, an, sl, l, c⟩ := D.ex
  have F := fun_mk (st := s_kind_parts) l c D.kp
  exact ⟨f, _, F, PySem.W.mg_of X G D.nm, F.binds (ps := ["kind"]) fun _ _ _ _ _ _ us hl => match us, hl with | [_], _ => rfl⟩
theorem d_kinds_inside (D : DefIn K "kinds_inside" s_kinds_inside f) : Dfn K mg "kinds_inside" s_kinds_inside ["kind"] := by
  obtain ⟨oc, kV, dc, pm, cd, ct, od, an, sl, l, c⟩ := D.ex
  have F := fun_mk (st := s_kinds_inside) l c D.kp
  exact ⟨f, _, F, PySem.W.mg_of X G D.nm, F.binds (ps := ["kind"]) fun _ _ _ _ _ _ us hl => match us, hl with | [_], _ => rfl⟩
theorem d_has_open (D : DefIn K "has_open" s_has_open f) : Dfn K mg "has_open" s_has_open ["kind"] := by
  obtain ⟨oc, kV, dc, pm, cd, ct, od, an, sl, l, c⟩ := D.ex
  have F := fun_mk (st := s_has_open) l c D.kp
  exact ⟨f, _, F, PySem.W.mg_of X G D.nm, F.binds (ps := ["kind"]) fun _ _ _ _ _ _ us hl => match us, hl with | [_], _ => rfl⟩
theorem d_has_function (D : DefIn K "has_function" s_has_function f) : Dfn K mg "has_function" s_has_function ["kind"] := by
  obtain ⟨oc, kV, dc, pm, cd, ct, od, an, sl, l, c⟩ := D.ex
  have F := fun_mk (st := s_has_function) l c D.kp
  exact ⟨f, _, F, PySem.W.mg_of X G D.nm, F.binds (ps := ["kind"]) fun _ _ _ _ _ _ us hl => match us, hl with | [_], _ => rfl⟩
theorem d_is_answer_kind (D : DefIn K "is_answer_kind" s_is_answer_kind f) : Dfn K mg "is_answer_kind" s_is_answer_kind ["kind"] := by
  obtain ⟨oc, kV, dc, pm, cd, ct, od, an, sl, l, c⟩ := D.ex
  have F := fun_mk (st := s_is_answer_kind) l c D.kp
  exact ⟨f, _, F, PySem.W.mg_of X G D.nm, F.binds (ps := ["kind"]) fun _ _ _ _ _ _ us hl => match us, hl with | [_], _ => rfl⟩
theorem d_list_places (D : DefIn K "list_places" s_list_places f) : Dfn K mg "list_places" s_list_places ["kind"] := by
  obtain ⟨oc, kV, dc, pm, cd, ct, od, an, sl, l, c⟩ := D.ex
  have F := fun_mk (st := s_list_places) l c D.kp
  exact ⟨f, _, F, PySem.W.mg_of X G D.nm, F.binds (ps := ["kind"]) fun _ _ _ _ _ _ us hl => match us, hl with | [_], _ => rfl⟩
theorem d_ask_count (D : DefIn K "ask_count" s_ask_count f) : Dfn K mg "ask_count" s_ask_count ["kind"] := by
  obtain ⟨oc, kV, dc, pm, cd, ct, od, an, sl, l, c⟩ := D.ex
  have F := fun_mk (st := s_ask_count) l c D.kp
  exact ⟨f, _, F, PySem.W.mg_of X G D.nm, F.binds (ps := ["kind"]) fun _ _ _ _ _ _ us hl => match us, hl with | [_], _ => rfl⟩
theorem d_kind_at (D : DefIn K "kind_at" s_kind_at f) : Dfn K mg "kind_at" s_kind_at ["kind", "steps"] := by
  obtain ⟨oc, kV, dc, pm, cd, ct, od, an, sl, l, c⟩ := D.ex
  have F := fun_mk (st := s_kind_at) l c D.kp
  exact ⟨f, _, F, PySem.W.mg_of X G D.nm, F.binds (ps := ["kind", "steps"]) fun _ _ _ _ _ _ us hl => match us, hl with | [_, _], _ => rfl⟩
theorem d_kind_behind (D : DefIn K "_kind_behind" s_kind_behind f) : Dfn K mg "_kind_behind" s_kind_behind ["kind", "step"] := by
  obtain ⟨oc, kV, dc, pm, cd, ct, od, an, sl, l, c⟩ := D.ex
  have F := fun_mk (st := s_kind_behind) l c D.kp
  exact ⟨f, _, F, PySem.W.mg_of X G D.nm, F.binds (ps := ["kind", "step"]) fun _ _ _ _ _ _ us hl => match us, hl with | [_, _], _ => rfl⟩
theorem d_flat_paths (D : DefIn K "flat_paths" s_flat_paths f) : Dfn K mg "flat_paths" s_flat_paths ["kind"] := by
  obtain ⟨oc, kV, dc, pm, cd, ct, od, an, sl, l, c⟩ := D.ex
  have F := fun_mk (st := s_flat_paths) l c D.kp
  exact ⟨f, _, F, PySem.W.mg_of X G D.nm, F.binds (ps := ["kind"]) fun _ _ _ _ _ _ us hl => match us, hl with | [_], _ => rfl⟩
theorem d_law_pool (D : DefIn K "_law_pool" s_law_pool f) : Dfn K mg "_law_pool" s_law_pool ["_law_script", "_law_at"] := by
  obtain ⟨oc, kV, dc, pm, cd, ct, od, an, sl, l, c⟩ := D.ex
  have F := fun_mk (st := s_law_pool) l c D.kp
  exact ⟨f, _, F, PySem.W.mg_of X G D.nm, F.binds (ps := ["_law_script", "_law_at"]) fun _ _ _ _ _ _ us hl => match us, hl with | [_, _], _ => rfl⟩
theorem d_law_draw (D : DefIn K "_law_draw" s_law_draw f) : Dfn K mg "_law_draw" s_law_draw ["_law_pool_here", "_law_many"] := by
  obtain ⟨oc, kV, dc, pm, cd, ct, od, an, sl, l, c⟩ := D.ex
  have F := fun_mk (st := s_law_draw) l c D.kp
  exact ⟨f, _, F, PySem.W.mg_of X G D.nm, F.binds (ps := ["_law_pool_here", "_law_many"]) fun _ _ _ _ _ _ us hl => match us, hl with | [_, _], _ => rfl⟩
theorem d_law_exact (D : DefIn K "_law_exact" s_law_exact f) : Dfn K mg "_law_exact" s_law_exact ["_law_told", "_law_due"] := by
  obtain ⟨oc, kV, dc, pm, cd, ct, od, an, sl, l, c⟩ := D.ex
  have F := fun_mk (st := s_law_exact) l c D.kp
  exact ⟨f, _, F, PySem.W.mg_of X G D.nm, F.binds (ps := ["_law_told", "_law_due"]) fun _ _ _ _ _ _ us hl => match us, hl with | [_, _], _ => rfl⟩
theorem d_law_relisted (D : DefIn K "_law_relisted" s_law_relisted f) : Dfn K mg "_law_relisted" s_law_relisted ["_law_thing"] := by
  obtain ⟨oc, kV, dc, pm, cd, ct, od, an, sl, l, c⟩ := D.ex
  have F := fun_mk (st := s_law_relisted) l c D.kp
  exact ⟨f, _, F, PySem.W.mg_of X G D.nm, F.binds (ps := ["_law_thing"]) fun _ _ _ _ _ _ us hl => match us, hl with | [_], _ => rfl⟩
theorem d_law_any_kind (D : DefIn K "_law_any_kind" s_law_any_kind f) : Dfn K mg "_law_any_kind" s_law_any_kind ["_law_pool_here", "_law_left"] := by
  obtain ⟨oc, kV, dc, pm, cd, ct, od, an, sl, l, c⟩ := D.ex
  have F := fun_mk (st := s_law_any_kind) l c D.kp
  exact ⟨f, _, F, PySem.W.mg_of X G D.nm, F.binds (ps := ["_law_pool_here", "_law_left"]) fun _ _ _ _ _ _ us hl => match us, hl with | [_, _], _ => rfl⟩
theorem d_law_led_to (D : DefIn K "_law_led_to" s_law_led_to f) : Dfn K mg "_law_led_to" s_law_led_to ["_law_kind", "_law_steps"] := by
  obtain ⟨oc, kV, dc, pm, cd, ct, od, an, sl, l, c⟩ := D.ex
  have F := fun_mk (st := s_law_led_to) l c D.kp
  exact ⟨f, _, F, PySem.W.mg_of X G D.nm, F.binds (ps := ["_law_kind", "_law_steps"]) fun _ _ _ _ _ _ us hl => match us, hl with | [_, _], _ => rfl⟩
theorem d_law_kind_has (D : DefIn K "_law_kind_has" s_law_kind_has f) : Dfn K mg "_law_kind_has" s_law_kind_has ["_law_kind", "_law_word"] := by
  obtain ⟨oc, kV, dc, pm, cd, ct, od, an, sl, l, c⟩ := D.ex
  have F := fun_mk (st := s_law_kind_has) l c D.kp
  exact ⟨f, _, F, PySem.W.mg_of X G D.nm, F.binds (ps := ["_law_kind", "_law_word"]) fun _ _ _ _ _ _ us hl => match us, hl with | [_, _], _ => rfl⟩
theorem d_law_wrong_steps (D : DefIn K "_law_wrong_steps" s_law_wrong_steps f) : Dfn K mg "_law_wrong_steps" s_law_wrong_steps ["_law_kind", "_law_steps"] := by
  obtain ⟨oc, kV, dc, pm, cd, ct, od, an, sl, l, c⟩ := D.ex
  have F := fun_mk (st := s_law_wrong_steps) l c D.kp
  exact ⟨f, _, F, PySem.W.mg_of X G D.nm, F.binds (ps := ["_law_kind", "_law_steps"]) fun _ _ _ _ _ _ us hl => match us, hl with | [_, _], _ => rfl⟩
end
/-- the world in which the law stands -/
theorem all_mk {l : PySem.W.OpenLaw} {w : World} {K : PySem.W.Frag} {h : Heap} {mg : Str → Option Value} {fa : Addr} (X : K.In h) (G : h.Ns mainGlobals mg) (hfa : mg "law" = some (.ref fa))
    {f_is_integer f_is_sequence f_is_couple f_is_ascending f_is_name f_is_base f_check_kind f_checked_kind f_checked_couples f_kind_parts f_kinds_inside f_has_open f_has_function f_is_answer_kind f_list_places f_ask_count f_kind_at f_kind_behind f_flat_paths f_law_pool f_law_draw f_law_exact f_law_relisted f_law_any_kind f_law_led_to f_law_kind_has f_law_wrong_steps f_law : Addr}
    (D_is_integer : DefIn K "is_integer" s_is_integer f_is_integer)
    (D_is_sequence : DefIn K "is_sequence" s_is_sequence f_is_sequence)
    (D_is_couple : DefIn K "is_couple" s_is_couple f_is_couple)
    (D_is_ascending : DefIn K "is_ascending" s_is_ascending f_is_ascending)
    (D_is_name : DefIn K "is_name" s_is_name f_is_name)
    (D_is_base : DefIn K "is_base" s_is_base f_is_base)
    (D_check_kind : DefIn K "check_kind" s_check_kind f_check_kind)
    (D_checked_kind : DefIn K "_checked_kind" s_checked_kind f_checked_kind)
    (D_checked_couples : DefIn K "_checked_couples" s_checked_couples f_checked_couples)
    (D_kind_parts : DefIn K "kind_parts" s_kind_parts f_kind_parts)
    (D_kinds_inside : DefIn K "kinds_inside" s_kinds_inside f_kinds_inside)
    (D_has_open : DefIn K "has_open" s_has_open f_has_open)
    (D_has_function : DefIn K "has_function" s_has_function f_has_function)
    (D_is_answer_kind : DefIn K "is_answer_kind" s_is_answer_kind f_is_answer_kind)
    (D_list_places : DefIn K "list_places" s_list_places f_list_places)
    (D_ask_count : DefIn K "ask_count" s_ask_count f_ask_count)
    (D_kind_at : DefIn K "kind_at" s_kind_at f_kind_at)
    (D_kind_behind : DefIn K "_kind_behind" s_kind_behind f_kind_behind)
    (D_flat_paths : DefIn K "flat_paths" s_flat_paths f_flat_paths)
    (D_law_pool : DefIn K "_law_pool" s_law_pool f_law_pool)
    (D_law_draw : DefIn K "_law_draw" s_law_draw f_law_draw)
    (D_law_exact : DefIn K "_law_exact" s_law_exact f_law_exact)
    (D_law_relisted : DefIn K "_law_relisted" s_law_relisted f_law_relisted)
    (D_law_any_kind : DefIn K "_law_any_kind" s_law_any_kind f_law_any_kind)
    (D_law_led_to : DefIn K "_law_led_to" s_law_led_to f_law_led_to)
    (D_law_kind_has : DefIn K "_law_kind_has" s_law_kind_has f_law_kind_has)
    (D_law_wrong_steps : DefIn K "_law_wrong_steps" s_law_wrong_steps f_law_wrong_steps)
    (D_law : DefIn K "law" s_law f_law)
    (z_all : PySem.W.nsIn K mainGlobals "all" = some none)
    (z_any : PySem.W.nsIn K mainGlobals "any" = some none)
    (z_bool : PySem.W.nsIn K mainGlobals "bool" = some none)
    (z_int : PySem.W.nsIn K mainGlobals "int" = some none)
    (z_isinstance : PySem.W.nsIn K mainGlobals "isinstance" = some none)
    (z_len : PySem.W.nsIn K mainGlobals "len" = some none)
    (z_list : PySem.W.nsIn K mainGlobals "list" = some none)
    (z_range : PySem.W.nsIn K mainGlobals "range" = some none)
    (z_reversed : PySem.W.nsIn K mainGlobals "reversed" = some none)
    (z_str : PySem.W.nsIn K mainGlobals "str" = some none)
    (z_tuple : PySem.W.nsIn K mainGlobals "tuple" = some none)
    (g1 : ∃ t, PySem.W.nsIn K mainGlobals "LETTERS" = some (some (.str "abcdefghijklmnopqrstuvwxyz" t)))
    (g2 : ∃ t, PySem.W.nsIn K mainGlobals "NAME_SIGNS" = some (some (.str "abcdefghijklmnopqrstuvwxyz0123456789" t)))
    (g3 : ∃ t, PySem.W.nsIn K mainGlobals "MOST_NAME_SIGNS" = some (some (.int 8 t)))
    (g4 : ∃ t, PySem.W.nsIn K mainGlobals "MOST_FIELDS" = some (some (.int 5 t)))
    (g5 : ∃ t, PySem.W.nsIn K mainGlobals "MOST_DEEP" = some (some (.int 12 t)))
    {aB : Addr} {odB : Option Addr} {itB : Array Value} {nB : Nat} {slB : Array (Option Value)}
    (b1 : PySem.W.nsIn K mainGlobals "BASE_KINDS" = some (some (.ref aB)))
    (b2 : K.lookup aB = some ⟨.type "tuple", odB, .seq itB nB, slB⟩)
    (b3 : ∃ t1 t2 t3, itB = #[.str "int" t1, .str "text" t2, .str "truth" t3])
    {C cA fI N : Addr} {nm q : Str} {bs sub : List Value} {sn : List Str} {ab : Bool} {col : Option Bool} {dd : Option Addr} {m0 m1 m2 m3 m5 : Option Value}
    (e1 : PySem.W.nsIn K mainGlobals "NoPlace" = some (some (.ref C)))
    (e2 : K.lookup C = some (excClassObj nm q C N bs [.ref cA, .type "ValueError", .type "Exception", .type "BaseException", .type "object"] true sn sub ab col dd m0 m1 m2 m3 m5 "ValueError.__new__"))
    (e3 : PySem.W.findIn K (.ref C) "__setattr__" = some (some (.builtin "object.__setattr__"))) (e4 : PySem.W.findIn K (.ref C) "__getattribute__" = some (some (.builtin "BaseException.__getattribute__"))) (e5 : PySem.W.findIn K (.ref C) "__getattr__" = some none) (e6 : PySem.W.findIn K (.ref C) "steps" = some none)
    (e7 : PySem.W.findIn K (.ref C) "__init__" = some (some (.ref fI))) (e8 : PySem.W.typeIn K (.ref fI) = some (.type "function"))
    (e9 : PySem.W.keepIn K (.ref C) = true) (e10 : PySem.W.subIn K (.ref C) (.type "BaseException") = some true) (e11 : PySem.W.typeIn K (.ref C) = some (.type "type")) (e12 : PySem.W.hasDictIn K C = true) (e13 : PySem.W.isClsIn K C = true) (e14 : PySem.W.subIn K (.ref C) (.ref C) = some true)
    {oc kV dc pm cd ct : Value} {od an : Option Addr} {sl : Array (Option Value)}
    (i1 : K.lookup fI = some ⟨oc, od, .func (PySem.W.fnOf "__init__" "NoPlace.__init__" (defArgs sInit) (defBody sInit) (defScope sInit) .none kV dc pm an cd ct), sl⟩) (i2 : PySem.W.codeIn K cd "NoPlace.__init__" = true) (i3 : PySem.W.keepIn K (.ref fI) = true) :
    ∃ fd : FuncData, (∀ (s : Shared) (v : Value), BindsTo s fd ⟨[v], []⟩ [("_law_script", v)]) ∧ ∀ base : Heap, K.In base → base.Ns mainGlobals mg → FnOk l.prog w K mg base CX0 28 fa fd ["_law_script"] (spLaw K) := by
  have e := hfa.symm.trans (PySem.W.mg_of X G D_law.nm)
  cases e
  have T : Txt K mg aB :=
    { n_all := PySem.W.mg_none_of X G z_all, n_any := PySem.W.mg_none_of X G z_any, n_bool := PySem.W.mg_none_of X G z_bool, n_int := PySem.W.mg_none_of X G z_int, n_isinstance := PySem.W.mg_none_of X G z_isinstance, n_len := PySem.W.mg_none_of X G z_len, n_list := PySem.W.mg_none_of X G z_list,
      n_range := PySem.W.mg_none_of X G z_range, n_reversed := PySem.W.mg_none_of X G z_reversed, n_str := PySem.W.mg_none_of X G z_str, n_tuple := PySem.W.mg_none_of X G z_tuple,
      g_LETTERS := g1.elim fun t e => ⟨t, PySem.W.mg_of X G e⟩, g_NAME_SIGNS := g2.elim fun t e => ⟨t, PySem.W.mg_of X G e⟩, g_MOST_NAME_SIGNS := g3.elim fun t e => ⟨t, PySem.W.mg_of X G e⟩, g_MOST_FIELDS := g4.elim fun t e => ⟨t, PySem.W.mg_of X G e⟩, g_MOST_DEEP := g5.elim fun t e => ⟨t, PySem.W.mg_of X G e⟩,
      g_BASE_KINDS := PySem.W.mg_of X G b1,
      k_BASE_KINDS := fun H => by
        obtain ⟨t1, t2, t3, rfl⟩ := b3
        exact .tup (xs := [.str "int", .str "text", .str "truth"]) (.inr ⟨_, _, _, b2, rfl, rfl, by show 3 ≤ sizeLine; decide, .cons ⟨_, rfl⟩ (.cons ⟨_, rfl⟩ (.cons ⟨_, rfl⟩ .nil))⟩) (.cons (.str _) (.cons (.str _) (.cons (.str _) .nil))) }
  have FI := fun_mk (st := sInit) i1 i2 i3
  have N : NpT K mg C fI :=
    { gC := PySem.W.mg_of X G e1, oex := ⟨⟨_, _, _, _, _, _, _, _, _, _, _, _, _, _, _, e2, by show PySem.HandSPX.refsVE [.type "ValueError", .type "Exception", .type "BaseException", .type "object"] = true; decide +kernel⟩, e3, e10, e11, e9⟩, xf := ⟨e4, e5, e10, e12⟩, no := e6, iC := e7, tI := e8, te := te_of e10 e13 e11 e14,
      fn := ⟨_, FI, FI.binds (ps := ["self", "steps"]) fun _ _ _ _ _ _ us hl => match us, hl with | [_, _], _ => rfl⟩ }
  obtain ⟨oc, kV, dc, pm, cd, ct, od, an, sl, ll, lc⟩ := D_law.ex
  have FL := fun_mk (st := s_law) ll lc D_law.kp
  refine ⟨PySem.W.fnOf "law" "law" (defArgs s_law) (defBody s_law) (defScope s_law) .none kV dc pm an cd ct, fun s v => .of_eq rfl, fun base KB GB => ?_⟩
  have F : ∀ {x : Str} {st : Stmt} {ps : List Str}, Dfn K mg x st ps → Dfn K mg x st ps := id
  have c1 := ok_is_integer (P := l.prog) (w := w) (base := base) T (d_is_integer X G D_is_integer)
  have c2 := ok_is_sequence (P := l.prog) (w := w) (base := base) T (d_is_sequence X G D_is_sequence)
  have c3 := ok_is_couple (P := l.prog) (w := w) (base := base) T (d_is_couple X G D_is_couple) c2
  have c4 := ok_is_ascending (P := l.prog) (w := w) (base := base) T (d_is_ascending X G D_is_ascending)
  have c5 := ok_is_name (P := l.prog) (w := w) (base := base) T (d_is_name X G D_is_name)
  have c6 := ok_is_base (P := l.prog) (w := w) (base := base) T (d_is_base X G D_is_base)
  have c7 := ok_checked_kind (P := l.prog) (w := w) (base := base) T (d_checked_kind X G D_checked_kind) (d_checked_couples X G D_checked_couples) c2 c1 c3 c5 c4 c6 12 (by decide)
  have c8 := ok_check_kind (P := l.prog) (w := w) (base := base) T (d_check_kind X G D_check_kind) c7
  have c9 := ok_kind_parts (P := l.prog) (w := w) (base := base) T (d_kind_parts X G D_kind_parts)
  have c10 := ok_kinds_inside (P := l.prog) (w := w) (base := base) T (d_kinds_inside X G D_kinds_inside) c9
  have c11 := ok_has_open (P := l.prog) (w := w) (base := base) T (d_has_open X G D_has_open) c10
  have c12 := ok_has_function (P := l.prog) (w := w) (base := base) T (d_has_function X G D_has_function) c10
  have c13 := ok_is_answer_kind (P := l.prog) (w := w) (base := base) T (d_is_answer_kind X G D_is_answer_kind) c11 c12
  have c14 := ok_list_places (P := l.prog) (w := w) (base := base) T (d_list_places X G D_list_places)
  have c15 := ok_ask_count (P := l.prog) (w := w) (base := base) T (d_ask_count X G D_ask_count) c14
  have c16 := ok_flat_paths (P := l.prog) (w := w) (base := base) T (d_flat_paths X G D_flat_paths) c6
  have c17 := ok_kind_behind (P := l.prog) (w := w) (base := base) T (d_kind_behind X G D_kind_behind)
  have c18 := ok_kind_at (P := l.prog) (w := w) (base := base) T N (d_kind_at X G D_kind_at) c17
  have q1 := ok_law_pool (P := l.prog) (w := w) (base := base) T (d_law_pool X G D_law_pool)
  have q2 := ok_law_draw (P := l.prog) (w := w) (base := base) T (d_law_draw X G D_law_draw)
  have q3 := ok_law_any_kind (P := l.prog) (w := w) (base := base) T (d_law_any_kind X G D_law_any_kind) q2 4
  have q4 := ok_law_exact (P := l.prog) (w := w) (base := base) T (d_law_exact X G D_law_exact) 18
  have q5 := ok_law_relisted (P := l.prog) (w := w) (base := base) T (d_law_relisted X G D_law_relisted) 18
  have q6 := ok_law_led_to (P := l.prog) (w := w) (base := base) T (d_law_led_to X G D_law_led_to) 5
  have q7 := ok_law_kind_has (P := l.prog) (w := w) (base := base) T (d_law_kind_has X G D_law_kind_has) 5
  have q8 := ok_law_wrong_steps (P := l.prog) (w := w) (base := base) T N (d_law_wrong_steps X G D_law_wrong_steps) c18
  exact ok_law T FL q1 q2 q3 q4 q5 q6 q7 q8 c8 c6 c14 c15 c16 c18 c11 c12 c13
end Kk

set_option Elab.async false
set_option linter.all false
open PySem PySem.W PyProof.Rows
set_option maxRecDepth 100000 in
set_option maxHeartbeats 0 in
theorem PySem.Challenge.cw_listasks_k00_kinds_and_the_places_of_the_holds : PySem.Challenge.rw_listasks_k00_kinds_and_the_places_of_the.Holds := by
  w_on; o_law; k_head; (case hw => w_witness2)
  k_fill
  refine L2.walk_of (l := PySem.Challenge.rw_listasks_k00_kinds_and_the_places_of_the) (n := 63) (k := 28) (x := "_law_script") (CX := fun _ => L2.CX0) (sp := fun w => Kk.spLaw _) rfl (by decide) rfl ⟨rfl, by decide, by decide⟩ (fun w h Y => PySem.W.kIn_of Y) ?F
    (fun _ H a ns hl _ hS => ⟨⟨fun _ => false, fun _ => True, fun _ _ _ _ => trivial, fun _ _ _ e => by cases e⟩, [Kk.intL ns], trivial, ⟨ns, rfl, hl⟩, .cons (Kk.dp_ints hS) .nil, fun v H' d _ _ hd e => by subst e; cases hd; rfl⟩) (fun _ _ _ _ _ h => h)
  case F =>
    intro w mg fa h KX G hmg
    refine' Kk.all_mk KX G hmg ?D_is_integer ?D_is_sequence ?D_is_couple ?D_is_ascending ?D_is_name ?D_is_base ?D_check_kind ?D_checked_kind ?D_checked_couples ?D_kind_parts ?D_kinds_inside ?D_has_open ?D_has_function ?D_is_answer_kind ?D_list_places ?D_ask_count ?D_kind_at ?D_kind_behind ?D_flat_paths ?D_law_pool ?D_law_draw ?D_law_exact ?D_law_relisted ?D_law_any_kind ?D_law_led_to ?D_law_kind_has ?D_law_wrong_steps ?D_law ?z_all ?z_any ?z_bool ?z_int ?z_isinstance ?z_len ?z_list ?z_range ?z_reversed ?z_str ?z_tuple ?g1 ?g2 ?g3 ?g4 ?g5 ?b1 ?b2 ?b3 ?e1 ?e2 ?e3 ?e4 ?e5 ?e6 ?e7 ?e8 ?e9 ?e10 ?e11 ?e12 ?e13 ?e14 ?i1 ?i2 ?i3
    (case D_is_integer => (refine' Kk.DefIn.of ?l3 ?l1 ?l2 ?l4; (case l3 => k_is); (case l1 => k_is); (case l2 => k_is); (case l4 => k_is)))
    (case D_is_sequence => (refine' Kk.DefIn.of ?l3 ?l1 ?l2 ?l4; (case l3 => k_is); (case l1 => k_is); (case l2 => k_is); (case l4 => k_is)))
    (case D_is_couple => (refine' Kk.DefIn.of ?l3 ?l1 ?l2 ?l4; (case l3 => k_is); (case l1 => k_is); (case l2 => k_is); (case l4 => k_is)))
    (case D_is_ascending => (refine' Kk.DefIn.of ?l3 ?l1 ?l2 ?l4; (case l3 => k_is); (case l1 => k_is); (case l2 => k_is); (case l4 => k_is)))
    (case D_is_name => (refine' Kk.DefIn.of ?l3 ?l1 ?l2 ?l4; (case l3 => k_is); (case l1 => k_is); (case l2 => k_is); (case l4 => k_is)))
    (case D_is_base => (refine' Kk.DefIn.of ?l3 ?l1 ?l2 ?l4; (case l3 => k_is); (case l1 => k_is); (case l2 => k_is); (case l4 => k_is)))
    (case D_check_kind => (refine' Kk.DefIn.of ?l3 ?l1 ?l2 ?l4; (case l3 => k_is); (case l1 => k_is); (case l2 => k_is); (case l4 => k_is)))
    (case D_checked_kind => (refine' Kk.DefIn.of ?l3 ?l1 ?l2 ?l4; (case l3 => k_is); (case l1 => k_is); (case l2 => k_is); (case l4 => k_is)))
    (case D_checked_couples => (refine' Kk.DefIn.of ?l3 ?l1 ?l2 ?l4; (case l3 => k_is); (case l1 => k_is); (case l2 => k_is); (case l4 => k_is)))
    (case D_kind_parts => (refine' Kk.DefIn.of ?l3 ?l1 ?l2 ?l4; (case l3 => k_is); (case l1 => k_is); (case l2 => k_is); (case l4 => k_is)))
    (case D_kinds_inside => (refine' Kk.DefIn.of ?l3 ?l1 ?l2 ?l4; (case l3 => k_is); (case l1 => k_is); (case l2 => k_is); (case l4 => k_is)))
    (case D_has_open => (refine' Kk.DefIn.of ?l3 ?l1 ?l2 ?l4; (case l3 => k_is); (case l1 => k_is); (case l2 => k_is); (case l4 => k_is)))
    (case D_has_function => (refine' Kk.DefIn.of ?l3 ?l1 ?l2 ?l4; (case l3 => k_is); (case l1 => k_is); (case l2 => k_is); (case l4 => k_is)))
    (case D_is_answer_kind => (refine' Kk.DefIn.of ?l3 ?l1 ?l2 ?l4; (case l3 => k_is); (case l1 => k_is); (case l2 => k_is); (case l4 => k_is)))
    (case D_list_places => (refine' Kk.DefIn.of ?l3 ?l1 ?l2 ?l4; (case l3 => k_is); (case l1 => k_is); (case l2 => k_is); (case l4 => k_is)))
    (case D_ask_count => (refine' Kk.DefIn.of ?l3 ?l1 ?l2 ?l4; (case l3 => k_is); (case l1 => k_is); (case l2 => k_is); (case l4 => k_is)))
    (case D_kind_at => (refine' Kk.DefIn.of ?l3 ?l1 ?l2 ?l4; (case l3 => k_is); (case l1 => k_is); (case l2 => k_is); (case l4 => k_is)))
    (case D_kind_behind => (refine' Kk.DefIn.of ?l3 ?l1 ?l2 ?l4; (case l3 => k_is); (case l1 => k_is); (case l2 => k_is); (case l4 => k_is)))
    (case D_flat_paths => (refine' Kk.DefIn.of ?l3 ?l1 ?l2 ?l4; (case l3 => k_is); (case l1 => k_is); (case l2 => k_is); (case l4 => k_is)))
    (case D_law_pool => (refine' Kk.DefIn.of ?l3 ?l1 ?l2 ?l4; (case l3 => k_is); (case l1 => k_is); (case l2 => k_is); (case l4 => k_is)))
    (case D_law_draw => (refine' Kk.DefIn.of ?l3 ?l1 ?l2 ?l4; (case l3 => k_is); (case l1 => k_is); (case l2 => k_is); (case l4 => k_is)))
    (case D_law_exact => (refine' Kk.DefIn.of ?l3 ?l1 ?l2 ?l4; (case l3 => k_is); (case l1 => k_is); (case l2 => k_is); (case l4 => k_is)))
    (case D_law_relisted => (refine' Kk.DefIn.of ?l3 ?l1 ?l2 ?l4; (case l3 => k_is); (case l1 => k_is); (case l2 => k_is); (case l4 => k_is)))
    (case D_law_any_kind => (refine' Kk.DefIn.of ?l3 ?l1 ?l2 ?l4; (case l3 => k_is); (case l1 => k_is); (case l2 => k_is); (case l4 => k_is)))
    (case D_law_led_to => (refine' Kk.DefIn.of ?l3 ?l1 ?l2 ?l4; (case l3 => k_is); (case l1 => k_is); (case l2 => k_is); (case l4 => k_is)))
    (case D_law_kind_has => (refine' Kk.DefIn.of ?l3 ?l1 ?l2 ?l4; (case l3 => k_is); (case l1 => k_is); (case l2 => k_is); (case l4 => k_is)))
    (case D_law_wrong_steps => (refine' Kk.DefIn.of ?l3 ?l1 ?l2 ?l4; (case l3 => k_is); (case l1 => k_is); (case l2 => k_is); (case l4 => k_is)))
    (case D_law => (refine' Kk.DefIn.of ?l3 ?l1 ?l2 ?l4; (case l3 => k_is); (case l1 => k_is); (case l2 => k_is); (case l4 => k_is)))
    (case z_all => k_is)
    (case z_any => k_is)
    (case z_bool => k_is)
    (case z_int => k_is)
    (case z_isinstance => k_is)
    (case z_len => k_is)
    (case z_list => k_is)
    (case z_range => k_is)
    (case z_reversed => k_is)
    (case z_str => k_is)
    (case z_tuple => k_is)
    (case g1 => (refine' Kk.gs_of ?l1; (case l1 => k_is)))
    (case g2 => (refine' Kk.gs_of ?l1; (case l1 => k_is)))
    (case g3 => (refine' Kk.gi_of ?l1; (case l1 => k_is)))
    (case g4 => (refine' Kk.gi_of ?l1; (case l1 => k_is)))
    (case g5 => (refine' Kk.gi_of ?l1; (case l1 => k_is)))
    (case b1 => k_is)
    (case b2 => k_is)
    (case b3 => exact ⟨_, _, _, rfl⟩)
    (case e1 => k_is)
    (case e2 => k_is)
    (case e3 => k_is)
    (case e4 => k_is)
    (case e5 => k_is)
    (case e6 => k_is)
    (case e7 => k_is)
    (case e8 => k_is)
    (case e9 => k_is)
    (case e10 => k_is)
    (case e11 => k_is)
    (case e12 => k_is)
    (case e13 => k_is)
    (case e14 => k_is)
    (case i1 => k_is)
    (case i2 => k_is)
    (case i3 => k_is)


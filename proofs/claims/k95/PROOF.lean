import PyProof.Rows.All
import Wide.All
import OpenK.AllK
import Wide.FinOn
import HandS.ForMost
import HandS.ForExc
import HandS.IsInst
import HandS.TupAny
import HandS.Rev
import HandS.Deep
import HandS.Flow
import HandS.Wide
import HandS.Conv
import HandS.Steps
import HandS.ExcInit
import HandS.ExcField
import HandS.Style
import KE.KExcIs
import HandS.ExcValue
import HandS.ExcIs
import KE.OsRunLaw
import PySem.Challenge.RW_listasks_k95_errors_side_by_side
set_option Elab.async false
set_option linter.all false
set_option maxRecDepth 100000
set_option maxHeartbeats 4000000
/-! A logic over plain data: states are slots of data and own lists, expressions and statements are read as what they do to these. -/
namespace Ab
open PySem PySem.Spec PyProof.Rows L2

/-! ### heaps with a part that is hidden -/
def Hide (B : Addr → Bool) (H : Hp) : Hp := fun a => if B a = true then none else H a
section
variable {B B' : Addr → Bool} {H H' : Hp} {a : Addr} {o : HO} {K : PySem.W.Frag} {v : V} {d : PyData} {vs : List V} {ds : List PyData}
theorem hide_f (h : B a = false) : Hide B H a = H a := by unfold Hide; rw [h]; rfl
theorem hide_t (h : B a = true) : Hide B H a = none := by unfold Hide; rw [if_pos h]
theorem hide_some (h : Hide B H a = some o) : B a = false ∧ H a = some o := by
  cases e : B a with
  | true => rw [hide_t e] at h; cases h
  | false => rw [hide_f e] at h; exact ⟨rfl, h⟩
theorem same_hide : Same (Hide B H) H := fun a o h => (hide_some h).2
theorem seqT {xs : List V} (e : Same H H') (h : SqT K H a xs) : SqT K H' a xs := by
  rcases h with (h | ⟨o, h⟩) | h
  · exact .inl (.inl (e _ _ h))
  · exact .inl (.inr ⟨o, e _ _ h⟩)
  · exact .inr h
mutual
theorem dp_mono (e : Same H H') : ∀ (d : PyData) (v : V), Dp K H v d → Dp K H' v d
  | .none, _, h => by cases h; exact .non
  | .bool b, _, h => by cases h; exact .bl b
  | .int i, _, h => by cases h; exact .int i
  | .str x, _, h => by cases h; exact .str x
  | .list ds, _, h => by
    cases h with
    | lst hs ha => exact .lst (e.seq hs) (dps_mono e ds _ ha)
  | .tuple ds, _, h => by
    cases h with
    | tup hs ha => exact .tup (seqT e hs) (dps_mono e ds _ ha)
  | .dict _, _, h => by cases h
theorem dps_mono (e : Same H H') : ∀ (ds : List PyData) (vs : List V), DpAll K H vs ds → DpAll K H' vs ds
  | [], _, h => by cases h; exact .nil
  | d :: ds, _, h => by
    cases h with
    | cons h1 h2 => exact .cons (dp_mono e d _ h1) (dps_mono e ds _ h2)
end
theorem dps_len : ∀ {vs : List V} {ds : List PyData}, DpAll K H vs ds → vs.length = ds.length
  | [], _, h => by cases h; rfl
  | _ :: _, _, h => by
    cases h with
    | cons h1 h2 => rw [List.length_cons, List.length_cons, dps_len h2]
theorem dps_at : ∀ {vs : List V} {ds : List PyData} {i : Nat} {d : PyData}, DpAll K H vs ds → ds[i]? = some d → ∃ v, vs[i]? = some v ∧ Dp K H v d
  | [], _, i, d, h, e => by cases h; simp at e
  | v :: _, _, 0, d, h, e => by
    cases h with
    | cons h1 h2 => simp at e; subst e; exact ⟨v, rfl, h1⟩
  | _ :: _, _, i + 1, d, h, e => by
    cases h with
    | cons h1 h2 => simp at e; obtain ⟨v, a, b⟩ := dps_at h2 e; exact ⟨v, by simpa using a, b⟩
theorem dps_at' : ∀ {vs : List V} {ds : List PyData} {i : Nat} {v : V}, DpAll K H vs ds → vs[i]? = some v → ∃ d, ds[i]? = some d ∧ Dp K H v d
  | [], _, i, d, h, e => by simp at e
  | w :: _, _, 0, v, h, e => by
    cases h with
    | cons h1 h2 => simp at e; subst e; exact ⟨_, rfl, h1⟩
  | _ :: _, _, i + 1, v, h, e => by
    cases h with
    | cons h1 h2 => simp at e; obtain ⟨d, a, b⟩ := dps_at' h2 e; exact ⟨d, by simpa using a, b⟩
theorem dps_app : ∀ {vs : List V} {ds : List PyData} {ws : List V} {es : List PyData}, DpAll K H vs ds → DpAll K H ws es → DpAll K H (vs ++ ws) (ds ++ es)
  | [], _, _, _, h, k => by cases h; exact k
  | _ :: _, _, _, _, h, k => by
    cases h with
    | cons h1 h2 => exact .cons h1 (dps_app h2 k)
theorem dps_take : ∀ {vs : List V} {ds : List PyData} (n : Nat), DpAll K H vs ds → DpAll K H (vs.take n) (ds.take n)
  | [], _, n, h => by cases h; simp; exact .nil
  | _ :: _, _, 0, h => by simp; exact .nil
  | _ :: _, _, n + 1, h => by
    cases h with
    | cons h1 h2 => exact .cons h1 (dps_take n h2)
theorem dps_drop : ∀ {vs : List V} {ds : List PyData} (n : Nat), DpAll K H vs ds → DpAll K H (vs.drop n) (ds.drop n)
  | [], _, n, h => by cases h; simp; exact .nil
  | _ :: _, _, 0, h => h
  | _ :: _, _, n + 1, h => by
    cases h with
    | cons h1 h2 => exact dps_drop n h2
theorem dps_dropLast {vs : List V} {ds : List PyData} (h : DpAll K H vs ds) : DpAll K H vs.dropLast ds.dropLast := by
  rw [List.dropLast_eq_take, List.dropLast_eq_take, dps_len h]
  exact dps_take _ h
end

/-! ### frames, slots, own lists -/
/-- what a caller holds: addresses that data never name, and what is true of them -/
structure Sy where
  B : Addr → Bool
  I : Hp → Prop
  mono : ∀ H H', (∀ a o, B a = true → H a = some o → H' a = some o) → I H → I H'
  trk : ∀ H a, I H → B a = true → H a ≠ none
inductive Sv where
  | dat (d : PyData)
  | own (a : Addr)
  | obj (a C : Addr) (fs : List (Str × PyData))
  | no
abbrev Mm := List (Addr × Bool × List PyData)
def Bm (S : Sy) (M : Mm) : Addr → Bool := fun a => S.B a || M.any fun p => p.1 == a
def RSv (K : PySem.W.Frag) (G : Hp) : Option V → Sv → Prop
  | o, .dat d => ∃ v, o = some v ∧ Dp K G v d
  | o, .own a => o = some (.ref a)
  | o, .obj a C fs => o = some (.ref a) ∧ ∃ dx, G a = some (exo a C dx) ∧ ((dx = none ∧ fs = []) ∨ ∃ d fv, dx = some d ∧ G d = some (exd d fv) ∧ fv.map (·.1) = fs.map (·.1) ∧ DpAll K G (fv.map (·.2)) (fs.map (·.2)))
  | _, .no => True
structure Rs (K : PySem.W.Frag) (G : Hp) (σ : L2.St) (as : List Sv) : Prop where
  len : σ.length = as.length
  at_ : ∀ (i : Nat) (s : Sv), as[i]? = some s → ∃ o : Option V, σ[i]? = some o ∧ RSv K G o s
/-- lists may be written -/
def Stb (S : Sy) (p : Addr) : Prop := ∀ H l l', S.I H → H p = some (.lst l) → S.I (upd H p (.lst l'))
structure Ok0 (K : PySem.W.Frag) (S : Sy) (H0 H : Hp) (M : Mm) : Prop where
  xt : ∀ a o, S.B a = false → H0 a = some o → H a = some o
  inv : S.I H
  nd : (M.map (·.1)).Nodup
  loc : ∀ p ∈ M, (p.2.1 = true → S.B p.1 = false ∧ H0 p.1 = none) ∧ (p.2.1 = false → S.B p.1 = true ∧ Stb S p.1)
  mem : ∀ p ∈ M, ∃ vs, H p.1 = some (.lst vs) ∧ DpAll K (Hide (Bm S M) H) vs p.2.2
def Gh (S : Sy) (M : Mm) (H : Hp) : Hp := Hide (Bm S M) H

section
variable {K : PySem.W.Frag} {S : Sy} {H0 H H' : Hp} {σ : L2.St} {as : List Sv} {M : Mm} {G G' : Hp}
theorem RSv.mono {o : Option V} {s : Sv} (e : Same G G') (h : RSv K G o s) : RSv K G' o s := by
  cases s with
  | dat d => obtain ⟨v, a, b⟩ := h; exact ⟨v, a, dp_mono e _ _ b⟩
  | own a => exact h
  | obj a C fs =>
    obtain ⟨h1, dx, h2, h3⟩ := h
    refine ⟨h1, dx, e _ _ h2, ?_⟩
    rcases h3 with h3 | ⟨d, fv, q1, q2, q3, q4⟩
    · exact .inl h3
    · exact .inr ⟨d, fv, q1, e _ _ q2, q3, dps_mono e _ _ q4⟩
  | no => trivial
theorem Rs.mono (e : Same G G') (h : Rs K G σ as) : Rs K G' σ as := ⟨h.len, fun i s q => let ⟨o, a, b⟩ := h.at_ i s q; ⟨o, a, b.mono e⟩⟩
theorem Rs.set {v : V} {s : Sv} (i : Nat) (h : Rs K G σ as) (r : RSv K G (some v) s) : Rs K G (σ.set i (some v)) (as.set i s) := by
  refine ⟨by rw [List.length_set, List.length_set, h.len], fun j t q => ?_⟩
  by_cases e : i = j
  · subst e
    have hl : i < as.length := by
      have := (List.getElem?_eq_some_iff.mp q).1
      simpa using this
    rw [List.getElem?_set_self hl] at q
    cases q
    exact ⟨some v, List.getElem?_set_self (by rw [h.len]; exact hl), r⟩
  · rw [List.getElem?_set_ne e] at q
    obtain ⟨o, a, b⟩ := h.at_ j t q
    exact ⟨o, by rw [List.getElem?_set_ne e]; exact a, b⟩
theorem bm_trk (h : Ok0 K S H0 H M) (a : Addr) (e : Bm S M a = true) : H a ≠ none := by
  rcases (Bool.or_eq_true _ _).mp e with e | e
  · exact S.trk H a h.inv e
  · obtain ⟨p, hp, q⟩ := List.any_eq_true.mp e
    obtain ⟨vs, k, _⟩ := h.mem p hp
    have : p.1 = a := by simpa using q
    rw [← this, k]
    simp
theorem bm_false {a : Addr} : Bm S M a = false ↔ S.B a = false ∧ ∀ p ∈ M, p.1 ≠ a := by
  unfold Bm
  rw [Bool.or_eq_false_iff, List.any_eq_false]
  simp
theorem new_same {p : Addr} {o : HO} {B : Addr → Bool} (hp : H p = none) : Same (Hide B H) (Hide B (upd H p o)) := fun a u e => by
  obtain ⟨e1, e2⟩ := hide_some e
  rw [hide_f e1, upd_ne (ne_of_none e2 hp)]
  exact e2
theorem ok_new {p : Addr} {o : HO} (h : Ok0 K S H0 H M) (hp : H p = none) : Ok0 K S H0 (upd H p o) M := by
  refine ⟨fun a u e1 e2 => ?_, S.mono H _ (fun a u e1 e2 => ?_) h.inv, h.nd, h.loc, fun q hq => ?_⟩
  · have q := h.xt a u e1 e2
    rw [upd_ne (ne_of_none q hp)]; exact q
  · rw [upd_ne (ne_of_none e2 hp)]; exact e2
  · obtain ⟨vs, a, b⟩ := h.mem q hq
    exact ⟨vs, by rw [upd_ne (ne_of_none a hp)]; exact a, dps_mono (new_same hp) _ _ b⟩
theorem new_hid {p : Addr} (h : Ok0 K S H0 H M) (hp : H p = none) : Bm S M p = false := by
  cases e : Bm S M p with
  | false => rfl
  | true => exact absurd hp (bm_trk h p e)
end

/-! ### what is read -/
section
variable (K : PySem.W.Frag)
def W (te : TE) (as : List Sv) (M : Mm) (P : PyData → Mm → Prop) : Prop := ∀ S H0 σ H, Ok0 K S H0 H M → Rs K (Gh S M H) σ as → ∀ Q : VK,
  (∀ v H' d M', Ok0 K S H0 H' M' → Same (Gh S M H) (Gh S M' H') → Dp K (Gh S M' H') v d → P d M' → Q v H') → te σ H Q
def WT (t : TT) (as : List Sv) (M : Mm) (P : Bool → Mm → Prop) : Prop := ∀ S H0 σ H, Ok0 K S H0 H M → Rs K (Gh S M H) σ as → ∀ Q : Bool → Hp → Prop,
  (∀ b H' M', Ok0 K S H0 H' M' → Same (Gh S M H) (Gh S M' H') → P b M' → Q b H') → t σ H Q
def RA (K : PySem.W.Frag) (G : Hp) : List V → List Sv → Prop
  | [], [] => True
  | v :: vs, s :: ss => RSv K G (some v) s ∧ RA K G vs ss
  | _, _ => False
def WA (ta : TA) (as : List Sv) (M : Mm) (P : List Sv → Mm → Prop) : Prop := ∀ S H0 σ H, Ok0 K S H0 H M → Rs K (Gh S M H) σ as → ∀ Q : List V → Hp → Prop,
  (∀ vs H' ss M', Ok0 K S H0 H' M' → Same (Gh S M H) (Gh S M' H') → RA K (Gh S M' H') vs ss → P ss M' → Q vs H') → ta σ H Q
def WO (to : TO) (as : List Sv) (M : Mm) (P : Option Int → Mm → Prop) : Prop := ∀ S H0 σ H, Ok0 K S H0 H M → Rs K (Gh S M H) σ as → ∀ Q : Option Int → Hp → Prop,
  (∀ o H' M', Ok0 K S H0 H' M' → Same (Gh S M H) (Gh S M' H') → P o M' → Q o H') → to σ H Q
structure AE where
  nx : List Sv → Mm → Prop
  rt : PyData → Mm → Prop
  bk : List Sv → Mm → Prop := fun _ _ => False
  ct : List Sv → Mm → Prop := fun _ _ => False
def WS (ts : TS) (as : List Sv) (M : Mm) (A : AE) : Prop := ∀ S H0 σ H (D : Ends), Ok0 K S H0 H M → Rs K (Gh S M H) σ as →
  (∀ σ' H' as' M', Ok0 K S H0 H' M' → Rs K (Gh S M' H') σ' as' → Same (Gh S M H) (Gh S M' H') → A.nx as' M' → D.nx σ' H') →
  (∀ v H' d M', Ok0 K S H0 H' M' → Dp K (Gh S M' H') v d → A.rt d M' → D.rt v H') →
  (∀ σ' H' as' M', Ok0 K S H0 H' M' → Rs K (Gh S M' H') σ' as' → Same (Gh S M H) (Gh S M' H') → A.bk as' M' → D.bk σ' H') →
  (∀ σ' H' as' M', Ok0 K S H0 H' M' → Rs K (Gh S M' H') σ' as' → Same (Gh S M H) (Gh S M' H') → A.ct as' M' → D.ct σ' H') → ts D σ H
end

section
variable {K : PySem.W.Frag} {as : List Sv} {M : Mm} {te ta tb tc : TE} {P : PyData → Mm → Prop}
theorem ra_mono {G G' : Hp} (e : Same G G') : ∀ {vs : List V} {ss : List Sv}, RA K G vs ss → RA K G' vs ss
  | [], [], _ => trivial
  | _ :: _, _ :: _, h => ⟨h.1.mono e, ra_mono e h.2⟩
  | [], _ :: _, h => h.elim
  | _ :: _, [], h => h.elim
theorem ra_len {G : Hp} : ∀ {vs : List V} {ss : List Sv}, RA K G vs ss → vs.length = ss.length
  | [], [], _ => rfl
  | _ :: _, _ :: _, h => by rw [List.length_cons, List.length_cons, ra_len h.2]
  | [], _ :: _, h => h.elim
  | _ :: _, [], h => h.elim
theorem ra_dat {G : Hp} : ∀ {vs : List V} {ds : List PyData}, RA K G vs (ds.map .dat) → DpAll K G vs ds
  | [], [], _ => .nil
  | _ :: _, _ :: _, h => by
    obtain ⟨⟨v, e, q⟩, h2⟩ := h
    cases e
    exact .cons q (ra_dat h2)
  | [], _ :: _, h => h.elim
  | _ :: _, [], h => h.elim
theorem dat_ra {G : Hp} : ∀ {vs : List V} {ds : List PyData}, DpAll K G vs ds → RA K G vs (ds.map .dat)
  | [], [], _ => trivial
  | _ :: _, _ :: _, h => by
    cases h with
    | cons h1 h2 => exact ⟨⟨_, rfl, h1⟩, dat_ra h2⟩
  | [], _ :: _, h => by cases h
  | _ :: _, [], h => by cases h
theorem ra_start {G : Hp} : ∀ {vs : List V} {ss : List Sv} (n : Nat), RA K G vs ss → Rs K G (vs.map some ++ List.replicate n none) (ss ++ List.replicate n .no)
  | [], [], n, _ => ⟨by simp, fun i s q => by
      simp only [List.nil_append] at q
      have hi : i < n := by have := (List.getElem?_eq_some_iff.mp q).1; simpa using this
      rw [List.getElem?_replicate, if_pos hi] at q
      cases q
      exact ⟨none, by simp [List.getElem?_replicate, hi], trivial⟩⟩
  | v :: vs, s :: ss, n, h => by
    have ih := ra_start n h.2
    refine ⟨by have := ih.len; simp only [List.length_append, List.length_map, List.length_cons, List.length_replicate] at this ⊢; omega, fun i t q => ?_⟩
    cases i with
    | zero =>
      simp at q
      subst q
      exact ⟨some v, by simp, h.1⟩
    | succ i =>
      obtain ⟨o, a, b⟩ := ih.at_ i t (by simpa using q)
      exact ⟨o, by simpa using a, b⟩
  | [], _ :: _, _, h => h.elim
  | _ :: _, [], _, h => h.elim
theorem W.imp {P' : PyData → Mm → Prop} (h : W K te as M P) (i : ∀ d M', P d M' → P' d M') : W K te as M P' := fun S H0 σ H k r Q q => h S H0 σ H k r Q fun v H' d M' a b c e => q v H' d M' a b c (i _ _ e)
theorem w_var {i : Nat} {d : PyData} (h : as[i]? = some (.dat d)) (p : P d M) : W K (tVar i) as M P := fun S H0 σ H k r Q q => by
  obtain ⟨o, a, v, e, b⟩ := r.at_ i _ h
  subst e
  exact ⟨v, a, q v H d M k (Same.refl _) b p⟩
theorem w_int {i : Int} (p : P (.int i) M) : W K (tC (.int i)) as M P := fun S H0 σ H k r Q q => q _ H _ M k (Same.refl _) (.int i) p
theorem w_str {i : Str} (p : P (.str i) M) : W K (tC (.str i)) as M P := fun S H0 σ H k r Q q => q _ H _ M k (Same.refl _) (.str i) p
theorem w_bl {i : Bool} (p : P (.bool i) M) : W K (tC (.bl i)) as M P := fun S H0 σ H k r Q q => q _ H _ M k (Same.refl _) (.bl i) p
theorem w_non (p : P .none M) : W K (tC .non) as M P := fun S H0 σ H k r Q q => q _ H _ M k (Same.refl _) .non p
/-- a tuple of texts that stands in the written part -/
theorem w_cT {a : Addr} {ds : List PyData} (hk : ∀ H, Dp K H (.ref a) (.tuple ds)) (p : P (.tuple ds) M) : W K (tC (.ref a)) as M P := fun S H0 σ H k r Q q => q _ H _ M k (Same.refl _) (hk _) p
theorem wa_nil {P : List Sv → Mm → Prop} (p : P [] M) : WA K tNil as M P := fun S H0 σ H k r Q q => q [] H [] M k (Same.refl _) trivial p
theorem wa_cons {tr : TA} {P : List Sv → Mm → Prop} (h : W K te as M fun d M1 => WA K tr as M1 fun ss M2 => P (.dat d :: ss) M2) : WA K (tCons te tr) as M P := fun S H0 σ H k r Q q =>
  h S H0 σ H k r _ fun v H1 d M1 k1 e1 b1 hr => hr S H0 σ H1 k1 (r.mono e1) _ fun vs H2 ss M2 k2 e2 b2 p => q _ H2 (.dat d :: ss) M2 k2 (e1.trans e2) ⟨⟨v, rfl, dp_mono e2 _ _ b1⟩, b2⟩ p
theorem wa_mut {i : Nat} {a : Addr} {tr : TA} {P : List Sv → Mm → Prop} (h : as[i]? = some (.own a)) (hr : WA K tr as M fun ss M2 => P (.own a :: ss) M2) : WA K (tCons (tVar i) tr) as M P := fun S H0 σ H k r Q q => by
  obtain ⟨o, e1, e2⟩ := r.at_ i _ h
  cases (show o = some (V.ref a) from e2)
  exact ⟨.ref a, e1, hr S H0 σ H k r _ fun vs H2 ss M2 k2 e2 b2 p => q _ H2 (.own a :: ss) M2 k2 e2 ⟨rfl, b2⟩ p⟩
theorem sz_of {n : Nat} (h : n ≤ 100000) : n ≤ sizeLine := Nat.le_trans h (by decide)
theorem w_tup {ta : TA} (h : WA K ta as M fun ss M' => ∃ ds : List PyData, ss = ds.map .dat ∧ ds.length ≤ 100000 ∧ P (.tuple ds) M') : W K (tTup ta) as M P := fun S H0 σ H k r Q q =>
  h S H0 σ H k r _ fun vs H1 ss M1 k1 e1 b1 ⟨ds, es, hl, p⟩ => by
    subst es
    have bd := ra_dat b1
    refine ⟨sz_of (by rw [dps_len bd]; exact hl), fun a ha => q _ _ (.tuple ds) M1 (ok_new k1 ha) (e1.trans (new_same ha)) ?_ p⟩
    have hh : Gh S M1 (upd H1 a (.tup vs)) a = some (.tup vs) := by unfold Gh; rw [hide_f (new_hid k1 ha), upd_same]
    exact .tup (.of hh) (dps_mono (new_same ha) _ _ bd)
theorem w_lst {ta : TA} (h : WA K ta as M fun ss M' => ∃ ds : List PyData, ss = ds.map .dat ∧ ds.length ≤ 100000 ∧ P (.list ds) M') : W K (tLst ta) as M P := fun S H0 σ H k r Q q =>
  h S H0 σ H k r _ fun vs H1 ss M1 k1 e1 b1 ⟨ds, es, hl, p⟩ => by
    subst es
    have bd := ra_dat b1
    refine ⟨sz_of (by rw [dps_len bd]; exact hl), fun a ha => q _ _ (.list ds) M1 (ok_new k1 ha) (e1.trans (new_same ha)) ?_ p⟩
    have hh : Gh S M1 (upd H1 a (.lst vs)) a = some (.lst vs) := by unfold Gh; rw [hide_f (new_hid k1 ha), upd_same]
    exact .lst (.of hh) (dps_mono (new_same ha) _ _ bd)
/-- two-place operations that write nothing -/
def AO (K : PySem.W.Frag) (r : R2) (f : PyData → PyData → (PyData → Prop) → Prop) : Prop := ∀ (B : Addr → Bool) (H : Hp) (x y : V) (a b : PyData) (P : PyData → Prop), (∀ c, B c = true → H c ≠ none) → Dp K (Hide B H) x a → Dp K (Hide B H) y b → f a b P →
  ∀ Q : VK, (∀ v d H', (H' = H ∨ ∃ p o, H p = none ∧ H' = upd H p o) → Dp K (Hide B H') v d → P d → Q v H') → r x y H Q
theorem w_op {r : R2} {f : PyData → PyData → (PyData → Prop) → Prop} (ho : AO K r f) (h : W K ta as M fun a M1 => W K tb as M1 fun b M2 => f a b fun d => P d M2) : W K (tOp r ta tb) as M P := fun S H0 σ H k rs Q q =>
  h S H0 σ H k rs _ fun x H1 a M1 k1 e1 b1 h2 => h2 S H0 σ H1 k1 (rs.mono e1) _ fun y H2 b M2 k2 e2 b2 p => ho _ H2 x y a b _ (bm_trk k2) (dp_mono e2 _ _ b1) b2 p Q fun v d H3 hc hd pd => by
    rcases hc with rfl | ⟨c, o, hn, rfl⟩
    · exact q v _ d M2 k2 (e1.trans e2) hd pd
    · exact q v _ d M2 (ok_new k2 hn) ((e1.trans e2).trans (new_same hn)) hd pd
theorem w_op2 {r : R2} {f : PyData → PyData → (PyData → Prop) → Prop} (ho : AO K r f) {tx : TE} (e : tx = tOp r ta tb) (h : W K ta as M fun a M1 => W K tb as M1 fun b M2 => f a b fun d => P d M2) : W K tx as M P := by
  subst e; exact w_op ho h
/-- one-place built-ins on data that write nothing -/
def AC (K : PySem.W.Frag) (r : List V → Hp → VK → Prop) (f : List PyData → (PyData → Prop) → Prop) : Prop := ∀ (B : Addr → Bool) (H : Hp) (xs : List V) (as : List PyData) (P : PyData → Prop), (∀ c, B c = true → H c ≠ none) → DpAll K (Hide B H) xs as → f as P →
  ∀ Q : VK, (∀ v d H', (H' = H ∨ ∃ p o, H p = none ∧ H' = upd H p o) → Dp K (Hide B H') v d → P d → Q v H') → r xs H Q
theorem w_cb {r : List V → Hp → VK → Prop} {f : List PyData → (PyData → Prop) → Prop} {ta : TA} (ho : AC K r f) (h : WA K ta as M fun ss M1 => ∃ ds : List PyData, ss = ds.map .dat ∧ f ds fun d => P d M1) : W K (tCB r ta) as M P := fun S H0 σ H k rs Q q =>
  h S H0 σ H k rs _ fun xs H1 ss M1 k1 e1 b1 ⟨ds, es, p⟩ => by
    subst es
    refine ho _ H1 xs ds _ (bm_trk k1) (ra_dat b1) p Q fun v d H3 hc hd pd => ?_
    rcases hc with rfl | ⟨c, o, hn, rfl⟩
    · exact q v _ d M1 k1 e1 hd pd
    · exact q v _ d M1 (ok_new k1 hn) (e1.trans (new_same hn)) hd pd
/-! tests -/
variable {t u : TT} {PT : Bool → Mm → Prop}
theorem wt_test (h : W K te as M fun d M' => ∃ b, d = .bool b ∧ PT b M') : WT K (tTest te) as M PT := fun S H0 σ H k r Q q =>
  h S H0 σ H k r _ fun v H1 d M1 k1 e1 b1 ⟨b, ed, p⟩ => by subst ed; cases b1; exact ⟨b, rfl, q b H1 M1 k1 e1 p⟩
theorem wt_B (h : W K te as M fun d M' => ∃ b, d = .bool b ∧ PT b M') : WT K (tB te) as M PT := fun S H0 σ H k r Q q =>
  h S H0 σ H k r _ fun v H1 d M1 k1 e1 b1 ⟨b, ed, p⟩ => by subst ed; cases b1; exact ⟨b, rfl, q b H1 M1 k1 e1 p⟩
theorem wt_not (h : WT K t as M fun b M' => PT (!b) M') : WT K (tNot t) as M PT := fun S H0 σ H k r Q q => h S H0 σ H k r _ fun b H1 M1 k1 e1 p => q _ H1 M1 k1 e1 p
theorem wt_and (h : WT K t as M fun b M1 => if b = true then WT K u as M1 PT else PT false M1) : WT K (tAnd t u) as M PT := fun S H0 σ H k r Q q => h S H0 σ H k r _ fun b H1 M1 k1 e1 p => by
  cases b with
  | true => exact (show WT K u as M1 PT from p) S H0 σ H1 k1 (r.mono e1) _ fun c H2 M2 k2 e2 p2 => q c H2 M2 k2 (e1.trans e2) p2
  | false => exact q false H1 M1 k1 e1 p
theorem wt_or (h : WT K t as M fun b M1 => if b = true then PT true M1 else WT K u as M1 PT) : WT K (tOr t u) as M PT := fun S H0 σ H k r Q q => h S H0 σ H k r _ fun b H1 M1 k1 e1 p => by
  cases b with
  | false => exact (show WT K u as M1 PT from p) S H0 σ H1 k1 (r.mono e1) _ fun c H2 M2 k2 e2 p2 => q c H2 M2 k2 (e1.trans e2) p2
  | true => exact q true H1 M1 k1 e1 p
theorem w_andV (h : W K ta as M fun d M1 => ∃ b, d = .bool b ∧ if b = true then W K tb as M1 P else P (.bool false) M1) : W K (tAndV ta tb) as M P := fun S H0 σ H k r Q q =>
  h S H0 σ H k r _ fun v H1 d M1 k1 e1 b1 ⟨b, ed, p⟩ => by
    subst ed; cases b1
    refine ⟨b, rfl, ?_⟩
    cases b with
    | true => exact (show W K tb as M1 P from p) S H0 σ H1 k1 (r.mono e1) _ fun v H2 d M2 k2 e2 b2 p2 => q v H2 d M2 k2 (e1.trans e2) b2 p2
    | false => exact q _ H1 _ M1 k1 e1 (.bl false) p
theorem w_orV (h : W K ta as M fun d M1 => ∃ b, d = .bool b ∧ if b = true then P (.bool true) M1 else W K tb as M1 P) : W K (tOrV ta tb) as M P := fun S H0 σ H k r Q q =>
  h S H0 σ H k r _ fun v H1 d M1 k1 e1 b1 ⟨b, ed, p⟩ => by
    subst ed; cases b1
    refine ⟨b, rfl, ?_⟩
    cases b with
    | false => exact (show W K tb as M1 P from p) S H0 σ H1 k1 (r.mono e1) _ fun v H2 d M2 k2 e2 b2 p2 => q v H2 d M2 k2 (e1.trans e2) b2 p2
    | true => exact q _ H1 _ M1 k1 e1 (.bl true) p
theorem w_notV (h : W K ta as M fun d M1 => ∃ b, d = .bool b ∧ P (.bool (!b)) M1) : W K (tNotV ta) as M P := fun S H0 σ H k r Q q =>
  h S H0 σ H k r _ fun v H1 d M1 k1 e1 b1 ⟨b, ed, p⟩ => by subst ed; cases b1; exact ⟨b, rfl, q _ H1 _ M1 k1 e1 (.bl _) p⟩
theorem w_ite (h : WT K t as M fun b M1 => if b = true then W K ta as M1 P else W K tb as M1 P) : W K (tIf t ta tb) as M P := fun S H0 σ H k r Q q => h S H0 σ H k r _ fun b H1 M1 k1 e1 p => by
  cases b with
  | true => exact (show W K ta as M1 P from p) S H0 σ H1 k1 (r.mono e1) _ fun v H2 d M2 k2 e2 b2 p2 => q v H2 d M2 k2 (e1.trans e2) b2 p2
  | false => exact (show W K tb as M1 P from p) S H0 σ H1 k1 (r.mono e1) _ fun v H2 d M2 k2 e2 b2 p2 => q v H2 d M2 k2 (e1.trans e2) b2 p2
theorem wo_none {P : Option Int → Mm → Prop} (p : P none M) : WO K tNoPart as M P := fun S H0 σ H k r Q q => q none H M k (Same.refl _) p
theorem wo_some {P : Option Int → Mm → Prop} (h : W K te as M fun d M' => ∃ i, d = .int i ∧ P (some i) M') : WO K (tPart te) as M P := fun S H0 σ H k r Q q =>
  h S H0 σ H k r _ fun v H1 d M1 k1 e1 b1 ⟨i, ed, p⟩ => by subst ed; cases b1; exact ⟨i, rfl, q _ H1 M1 k1 e1 p⟩
/-! statements -/
variable {A : AE} {s1 s2 : TS}
theorem ws_next (p : A.nx as M) : WS K tNext as M A := fun S H0 σ H D k r n _ _ _ => n σ H as M k r (Same.refl _) p
theorem ws_never (h : False) : WS K tNever as M A := h.elim
theorem ws_seq (h : WS K s1 as M { A with nx := fun as' M' => WS K s2 as' M' A }) : WS K (tSeq s1 s2) as M A := fun S H0 σ H D k r n rt b c =>
  h S H0 σ H { D with nx := s2 D } k r (fun σ' H' as' M' k' r' e' p => p S H0 σ' H' D k' r' (fun σ'' H'' as'' M'' k'' r'' e'' => n σ'' H'' as'' M'' k'' r'' (e'.trans e'')) rt
    (fun σ'' H'' as'' M'' k'' r'' e'' => b σ'' H'' as'' M'' k'' r'' (e'.trans e'')) (fun σ'' H'' as'' M'' k'' r'' e'' => c σ'' H'' as'' M'' k'' r'' (e'.trans e''))) rt b c
theorem ws_set {i : Nat} (h : W K te as M fun d M' => A.nx (as.set i (.dat d)) M') : WS K (tAsg te (gName i)) as M A := fun S H0 σ H D k r n _ _ _ =>
  h S H0 σ H k r _ fun v H1 d M1 k1 e1 b1 p => n _ H1 (as.set i (.dat d)) M1 k1 ((r.mono e1).set i (s := .dat d) ⟨v, rfl, b1⟩) e1 p
theorem ws_ret (h : W K te as M A.rt) : WS K (tRet te) as M A := fun S H0 σ H D k r _ rt _ _ => h S H0 σ H k r _ fun v H1 d M1 k1 e1 b1 p => rt v H1 d M1 k1 b1 p
theorem ws_retN (p : A.rt .none M) : WS K tRetN as M A := fun S H0 σ H D k r _ rt _ _ => rt .non H .none M k .non p
theorem ws_drop (h : W K te as M fun _ M' => A.nx as M') : WS K (tDrop te) as M A := fun S H0 σ H D k r n _ _ _ =>
  h S H0 σ H k r _ fun v H1 d M1 k1 e1 b1 p => n σ H1 as M1 k1 (r.mono e1) e1 p
theorem ws_if (h : WT K t as M fun b M' => if b = true then WS K s1 as M' A else WS K s2 as M' A) : WS K (tIfS t s1 s2) as M A := fun S H0 σ H D k r n rt bb cc => h S H0 σ H k r _ fun b H1 M1 k1 e1 p => by
  have go : ∀ s, WS K s as M1 A → s D σ H1 := fun s hs => hs S H0 σ H1 D k1 (r.mono e1) (fun σ'' H'' as'' M'' k'' r'' e'' => n σ'' H'' as'' M'' k'' r'' (e1.trans e'')) rt
    (fun σ'' H'' as'' M'' k'' r'' e'' => bb σ'' H'' as'' M'' k'' r'' (e1.trans e'')) (fun σ'' H'' as'' M'' k'' r'' e'' => cc σ'' H'' as'' M'' k'' r'' (e1.trans e''))
  cases b with
  | true => exact go s1 p
  | false => exact go s2 p
theorem ws_break (p : A.bk as M) : WS K tBreak as M A := fun S H0 σ H D k r _ _ b _ => b σ H as M k r (Same.refl _) p
theorem ws_cont (p : A.ct as M) : WS K tCont as M A := fun S H0 σ H D k r _ _ _ c => c σ H as M k r (Same.refl _) p
/-- a, b = x, y -/
theorem ws_par {i j : Nat} {ta : TA} (h : WA K ta as M fun ss M' => ∃ a b, ss = [a, b] ∧ A.nx ((as.set i a).set j b) M') : WS K (tPar i j ta) as M A := fun S H0 σ H D k r n _ _ _ =>
  h S H0 σ H k r _ fun vs H1 ss M1 k1 e1 b1 ⟨a, b, es, p⟩ => by
    subst es
    match vs, b1 with
    | [v, w], ⟨q1, q2, _⟩ => exact ⟨v, w, rfl, n _ H1 _ M1 k1 (((r.mono e1).set i q1).set j q2) e1 p⟩
end
end Ab

set_option Elab.async false
set_option linter.all false
set_option maxRecDepth 100000
set_option maxHeartbeats 4000000
namespace Ab
open PySem PySem.Spec PyProof.Rows L2

/-! ### own lists -/
def mset (M : Mm) (p : Addr) (xs : List PyData) : Mm := M.map fun q => if q.1 = p then (p, q.2.1, xs) else q
def mdel (M : Mm) (p : Addr) : Mm := M.filter fun q => !(q.1 == p)
section
variable {K : PySem.W.Frag} {S : Sy} {H0 H H' : Hp} {σ : L2.St} {as : List Sv} {M : Mm} {p : Addr} {fl : Bool} {xs ys : List PyData} {vs ws : List V}
theorem mset_fst : ∀ M : Mm, (mset M p xs).map (·.1) = M.map (·.1)
  | [] => rfl
  | q :: M => by
    have ih := mset_fst M
    unfold mset at ih ⊢
    rw [List.map_cons, List.map_cons, List.map_cons, ih]
    by_cases e : q.1 = p
    · rw [if_pos e, e]
    · rw [if_neg e]
theorem any_fst {M N : Mm} (h : M.map (·.1) = N.map (·.1)) (a : Addr) : (M.any fun q => q.1 == a) = N.any fun q => q.1 == a := by
  have e1 : ∀ L : Mm, (L.any fun q => q.1 == a) = (L.map (·.1)).any fun b => b == a := fun L => by rw [List.any_map]; rfl
  rw [e1, e1, h]
theorem bm_set : Bm S (mset M p xs) = Bm S M := by
  funext a
  unfold Bm
  rw [any_fst (mset_fst M)]
theorem mem_uniq : ∀ {M : Mm}, (M.map (·.1)).Nodup → ∀ {q r : Addr × Bool × List PyData}, q ∈ M → r ∈ M → q.1 = r.1 → q = r
  | [], _, _, _, h, _, _ => by cases h
  | m :: M, nd, q, r, hq, hr, e => by
    rw [List.map_cons, List.nodup_cons] at nd
    rcases List.mem_cons.mp hq with e1 | hq2
    · rcases List.mem_cons.mp hr with e2 | hr2
      · rw [e1, e2]
      · exact absurd (by rw [← e1, e]; exact List.mem_map_of_mem hr2) nd.1
    · rcases List.mem_cons.mp hr with e2 | hr2
      · exact absurd (by rw [← e2, ← e]; exact List.mem_map_of_mem hq2) nd.1
      · exact mem_uniq nd.2 hq2 hr2 e
theorem own_bm (hm : (p, fl, xs) ∈ M) : Bm S M p = true := by
  unfold Bm
  rw [Bool.or_eq_true]
  exact .inr (List.any_eq_true.mpr ⟨_, hm, by simp⟩)
theorem gh_write (hm : (p, fl, xs) ∈ M) {o : HO} : Gh S (mset M p ys) (upd H p o) = Gh S M H := by
  unfold Gh
  rw [bm_set]
  funext a
  by_cases e : Bm S M a = true
  · rw [hide_t e, hide_t e]
  · have e' : Bm S M a = false := by simpa using e
    rw [hide_f e', hide_f e', upd_ne (fun z => by rw [z, own_bm hm] at e'; cases e')]
theorem ok_write (k : Ok0 K S H0 H M) (hm : (p, fl, xs) ∈ M) (hd : DpAll K (Gh S M H) ws ys) : Ok0 K S H0 (upd H p (.lst ws)) (mset M p ys) := by
  obtain ⟨vs, hp, hv⟩ := k.mem _ hm
  have hp : H p = some (.lst vs) := hp
  have lc := k.loc _ hm
  have ge : Hide (Bm S (mset M p ys)) (upd H p (.lst ws)) = Hide (Bm S M) H := gh_write hm
  refine ⟨fun a o e1 e2 => ?_, ?_, by rw [mset_fst]; exact k.nd, fun q hq => ?_, fun q hq => ?_⟩
  · have ne : a ≠ p := fun z => by
      subst z
      cases fl with
      | true => rw [(lc.1 rfl).2] at e2; cases e2
      | false => have z := (lc.2 rfl).1; rw [e1] at z; cases z
    rw [upd_ne ne]
    exact k.xt a o e1 e2
  · cases fl with
    | true => exact S.mono H _ (fun a o e1 e2 => by rw [upd_ne (fun z => by subst z; have z := (lc.1 rfl).1; rw [e1] at z; cases z)]; exact e2) k.inv
    | false => exact (lc.2 rfl).2 H vs ws k.inv hp
  · obtain ⟨r, hr, e⟩ := List.mem_map.mp hq
    have lr := k.loc r hr
    by_cases z : r.1 = p
    · rw [if_pos z] at e
      subst e
      rw [z] at lr
      exact lr
    · rw [if_neg z] at e
      subst e
      exact lr
  · obtain ⟨r, hr, e⟩ := List.mem_map.mp hq
    rw [ge]
    by_cases z : r.1 = p
    · rw [if_pos z] at e
      subst e
      exact ⟨ws, upd_same, hd⟩
    · rw [if_neg z] at e
      subst e
      obtain ⟨us, a, b⟩ := k.mem r hr
      exact ⟨us, by rw [upd_ne z]; exact a, b⟩
theorem same_own (k : Ok0 K S H0 H M) (hp : H p = none) {o : HO} : Same (Gh S M H) (Gh S ((p, fl, xs) :: M) (upd H p o)) := fun a u e => by
  obtain ⟨e1, e2⟩ := hide_some e
  have ne : a ≠ p := ne_of_none e2 hp
  have e3 : Bm S ((p, fl, xs) :: M) a = false := by
    rw [bm_false] at e1 ⊢
    refine ⟨e1.1, fun q hq => ?_⟩
    rcases List.mem_cons.mp hq with rfl | hq
    · exact fun z => ne z.symm
    · exact e1.2 q hq
  unfold Gh
  rw [hide_f e3, upd_ne ne]
  exact e2
theorem ok_own (k : Ok0 K S H0 H M) (hp : H p = none) (hd : DpAll K (Gh S M H) vs xs) : Ok0 K S H0 (upd H p (.lst vs)) ((p, true, xs) :: M) := by
  have nb := bm_false.mp (new_hid k hp)
  have sm : Same (Gh S M H) (Gh S ((p, true, xs) :: M) (upd H p (.lst vs))) := same_own k hp
  have k2 := ok_new (o := .lst vs) k hp
  refine ⟨k2.xt, k2.inv, ?_, fun q hq => ?_, fun q hq => ?_⟩
  · rw [List.map_cons, List.nodup_cons]
    refine ⟨fun z => ?_, k.nd⟩
    obtain ⟨q, hq, e⟩ := List.mem_map.mp z
    exact nb.2 q hq e
  · rcases List.mem_cons.mp hq with rfl | hq
    · refine ⟨fun _ => ⟨nb.1, ?_⟩, fun z => by cases z⟩
      cases e : H0 p with
      | none => rfl
      | some o => have z := k.xt p o nb.1 e; rw [hp] at z; cases z
    · exact k.loc q hq
  · rcases List.mem_cons.mp hq with rfl | hq
    · exact ⟨vs, upd_same, dps_mono sm _ _ hd⟩
    · obtain ⟨us, a, b⟩ := k.mem q hq
      exact ⟨us, by rw [upd_ne (ne_of_none a hp)]; exact a, dps_mono sm _ _ b⟩
variable {A : AE} {te : TE} {ta : TA}
theorem ws_new {i : Nat} (h : WA K ta as M fun ss M' => ∃ ds : List PyData, ss = ds.map .dat ∧ ds.length ≤ 100000 ∧ ∀ a, (∀ q ∈ M', q.1 ≠ a) → A.nx (as.set i (.own a)) ((a, true, ds) :: M')) : WS K (tAsg (tLst ta) (gName i)) as M A := fun S H0 σ H D k r n _ _ _ =>
  h S H0 σ H k r _ fun vs H1 ss M1 k1 e1 b1 ⟨ds, es, hl, p⟩ => by
    subst es
    have bd := ra_dat b1
    refine ⟨sz_of (by rw [dps_len bd]; exact hl), fun a ha => ?_⟩
    have sm : Same (Gh S M1 H1) (Gh S ((a, true, ds) :: M1) (upd H1 a (.lst vs))) := same_own k1 ha
    exact n _ _ (as.set i (.own a)) _ (ok_own k1 ha bd) (((r.mono e1).mono sm).set i (s := .own a) rfl) (e1.trans sm) (p a (bm_false.mp (new_hid k1 ha)).2)
theorem tyl (k : Ok0 K S H0 H M) (hm : (p, fl, xs) ∈ M) : tyV K "list" (.ref p) H := by
  obtain ⟨vs, hp, _⟩ := k.mem _ hm
  exact Or.inl ⟨rfl, vs, SqL.of hp⟩
theorem ws_app {i : Nat} (hi : as[i]? = some (.own p)) (hm : (p, fl, xs) ∈ M) (h : W K te as M fun d M' => ∃ fl' ys, (p, fl', ys) ∈ M' ∧ ys.length < 100000 ∧ A.nx as (mset M' p (ys ++ [d]))) :
    WS K (tDrop (tBM K "list" rAppend (tVar i) (tCons te tNil))) as M A := fun S H0 σ H D k r n _ _ _ => by
  obtain ⟨o, e1, e2⟩ := r.at_ i _ hi
  cases (show o = some (V.ref p) from e2)
  refine ⟨.ref p, e1, tyl k hm, h S H0 σ H k r _ fun v H1 d M1 k1 e1 b1 ⟨fl', ys, hy, hl, q⟩ => ?_⟩
  obtain ⟨us, hp, hu⟩ := k1.mem _ hy
  refine ⟨p, us, v, rfl, rfl, hp, Nat.lt_of_lt_of_le (by rw [dps_len hu]; exact hl) (by decide), ?_⟩
  have ge : Gh S (mset M1 p (ys ++ [d])) (upd H1 p (.lst (us ++ [v]))) = Gh S M1 H1 := gh_write hy
  have k2 := ok_write (ws := us ++ [v]) (ys := ys ++ [d]) k1 hy (dps_app hu (.cons b1 .nil))
  exact n σ _ as _ k2 (by rw [ge]; exact r.mono e1) (by rw [ge]; exact e1) q
theorem ws_pop {i j : Nat} {d : PyData} (hi : as[i]? = some (.own p)) (hm : (p, fl, xs) ∈ M) (hl : xs[xs.length - 1]? = some d) (h : A.nx (as.set j (.dat d)) (mset M p xs.dropLast)) :
    WS K (tAsg (tBM0 K "list" rPop (tVar i)) (gName j)) as M A := fun S H0 σ H D k r n _ _ _ => by
  obtain ⟨o, e1, e2⟩ := r.at_ i _ hi
  cases (show o = some (V.ref p) from e2)
  obtain ⟨us, hp, hu⟩ := k.mem _ hm
  obtain ⟨v, hv, hvd⟩ := dps_at hu hl
  have ge : Gh S (mset M p xs.dropLast) (upd H p (.lst us.dropLast)) = Gh S M H := gh_write hm
  have k2 := ok_write (ws := us.dropLast) (ys := xs.dropLast) k hm (dps_dropLast hu)
  refine ⟨.ref p, e1, tyl k hm, p, us, v, rfl, rfl, hp, by rw [dps_len hu]; exact hv, ?_⟩
  exact n _ _ (as.set j (.dat d)) _ k2 (by rw [ge]; exact r.set j (s := .dat d) ⟨v, rfl, hvd⟩) (by rw [ge]; exact Same.refl _) h
theorem wt_own {i : Nat} {PT : Bool → Mm → Prop} (hi : as[i]? = some (.own p)) (hm : (p, fl, xs) ∈ M) (h : PT (!xs.isEmpty) M) : WT K (tTru K (tVar i)) as M PT := fun S H0 σ H k r Q q => by
  obtain ⟨o, e1, e2⟩ := r.at_ i _ hi
  cases (show o = some (V.ref p) from e2)
  obtain ⟨us, hp, hu⟩ := k.mem _ hm
  have el : us.isEmpty = xs.isEmpty := by
    have := dps_len hu
    cases us <;> cases xs <;> simp at this ⊢
  exact ⟨.ref p, e1, !us.isEmpty, Or.inl ⟨us, SqL.of hp, rfl⟩, by rw [el]; exact q _ H M k (Same.refl _) h⟩
/-- an own list of the def's is read from here on -/
def afrz (p : Addr) (xs : List PyData) : Sv → Sv
  | .own a => if a = p then .dat (.list xs) else .own a
  | s => s
theorem ws_frz {ts : TS} (hm : (p, true, xs) ∈ M) (h : WS K ts (as.map (afrz p xs)) (mdel M p) A) : WS K ts as M A := fun S H0 σ H D k r n rt b c => by
  obtain ⟨us, hp, hu⟩ := k.mem _ hm
  have hp : H p = some (.lst us) := hp
  have sb := (k.loc _ hm).1 rfl
  have sub : ∀ q ∈ mdel M p, q ∈ M ∧ q.1 ≠ p := fun q hq => by
    have z := List.mem_filter.mp hq
    exact ⟨z.1, by simpa using z.2⟩
  have bmp : Bm S (mdel M p) p = false := bm_false.mpr ⟨sb.1, fun q hq => (sub q hq).2⟩
  have sm : Same (Gh S M H) (Gh S (mdel M p) H) := fun a o e => by
    obtain ⟨e1, e2⟩ := hide_some e
    rw [bm_false] at e1
    unfold Gh
    rw [hide_f (bm_false.mpr ⟨e1.1, fun q hq => e1.2 q (sub q hq).1⟩)]
    exact e2
  have k2 : Ok0 K S H0 H (mdel M p) := ⟨k.xt, k.inv, (List.filter_sublist.map _).nodup k.nd, fun q hq => k.loc q (sub q hq).1, fun q hq => by
    obtain ⟨ws, a, b⟩ := k.mem q (sub q hq).1
    exact ⟨ws, a, dps_mono sm _ _ b⟩⟩
  have hg : Gh S (mdel M p) H p = some (.lst us) := by unfold Gh; rw [hide_f bmp]; exact hp
  have r2 : Rs K (Gh S (mdel M p) H) σ (as.map (afrz p xs)) := ⟨by rw [List.length_map]; exact r.len, fun i s q => by
    rw [List.getElem?_map] at q
    cases e : as[i]? with
    | none => rw [e] at q; cases q
    | some t =>
      rw [e] at q
      cases q
      obtain ⟨o, e1, e2⟩ := r.at_ i t e
      refine ⟨o, e1, ?_⟩
      cases t with
      | dat d => exact RSv.mono sm (s := .dat d) e2
      | no => trivial
      | obj a C fs => exact RSv.mono sm (s := .obj a C fs) e2
      | own a =>
        show RSv K _ o (if a = p then .dat (.list xs) else .own a)
        by_cases z : a = p
        · rw [if_pos z]
          subst z
          exact ⟨.ref a, e2, .lst (SqL.of hg) (dps_mono sm _ _ hu)⟩
        · rw [if_neg z]
          exact e2⟩
  exact h S H0 σ H D k2 r2 (fun σ' H' as' M' k' r' e' => n σ' H' as' M' k' r' (sm.trans e')) rt (fun σ' H' as' M' k' r' e' => b σ' H' as' M' k' r' (sm.trans e')) (fun σ' H' as' M' k' r' e' => c σ' H' as' M' k' r' (sm.trans e'))
end

/-! ### calls -/
def spP (pre : List PyData → Prop) (post : List PyData → PyData → Prop) (K : PySem.W.Frag) : Sp := fun vs H Q _ => ∃ (S : Sy) (ds : List PyData), S.I H ∧ pre ds ∧ DpAll K (Hide S.B H) vs ds ∧
  ∀ v H' d, (∀ a o, S.B a = false → H a = some o → H' a = some o) → S.I H' → Dp K (Hide S.B H') v d → post ds d → Q v H'
def syAt (S : Sy) (M : Mm) (H1 : Hp) (h : ∀ q ∈ M, H1 q.1 ≠ none) : Sy where
  B := Bm S M
  I := fun H => S.I H ∧ ∀ q ∈ M, H q.1 = H1 q.1
  mono := fun H H' e i => ⟨S.mono H H' (fun a o e1 e2 => e a o (by unfold Bm; rw [e1]; rfl) e2) i.1, fun q hq => by
    have e2 := i.2 q hq
    cases e3 : H1 q.1 with
    | none => exact absurd e3 (h q hq)
    | some o => rw [e3] at e2; exact e _ o (by unfold Bm; rw [Bool.or_eq_true]; exact .inr (List.any_eq_true.mpr ⟨q, hq, by simp⟩)) e2⟩
  trk := fun H a i e => by
    rcases (Bool.or_eq_true _ _).mp e with e | e
    · exact S.trk H a i.1 e
    · obtain ⟨q, hq, z⟩ := List.any_eq_true.mp e
      have z : q.1 = a := by simpa using z
      rw [← z, i.2 q hq]
      exact h q hq
def syP (S : Sy) (p : Addr) (fl : Bool) (pl : List PyData) : Sy where
  B := Bm S [(p, fl, pl)]
  I := fun H => S.I H ∧ ∃ l, H p = some (.lst l)
  mono := fun H H' e i => ⟨S.mono H H' (fun a o e1 e2 => e a o (by unfold Bm; rw [e1]; rfl) e2) i.1, (by
    obtain ⟨l, e2⟩ := i.2
    exact ⟨l, e p _ (own_bm (List.mem_singleton.mpr rfl)) e2⟩)⟩
  trk := fun H a i e => by
    rcases (Bool.or_eq_true _ _).mp e with e | e
    · exact S.trk H a i.1 e
    · have z : p = a := by simpa using e
      obtain ⟨l, e2⟩ := i.2
      rw [← z, e2]; simp
def poolD (l : List PyData) : Prop := ∃ b s c : Int, l = [.int b, .int s, .int c] ∧ 0 ≤ b ∧ 0 ≤ s ∧ s < 2147483647 ∧ 0 ≤ c
def spQ (pre : List PyData → Prop) (post : List PyData → PyData → Prop) (K : PySem.W.Frag) : Sp := fun vs H Q _ => ∃ (S : Sy) (p : Addr) (ws : List V) (ds : List PyData) (l : List V) (pl : List PyData), vs = .ref p :: ws ∧ S.I H ∧ S.B p = true ∧ Stb S p ∧
  H p = some (.lst l) ∧ DpAll K (Hide S.B H) l pl ∧ poolD pl ∧ pre ds ∧ DpAll K (Hide S.B H) ws ds ∧
  ∀ v H' d l' pl', (∀ a o, S.B a = false → H a = some o → H' a = some o) → S.I H' → H' p = some (.lst l') → DpAll K (Hide S.B H') l' pl' → poolD pl' → Dp K (Hide S.B H') v d → post ds d → Q v H'
section
variable {K : PySem.W.Frag} {as : List Sv} {M : Mm} {ta : TA} {pre : List PyData → Prop} {post : List PyData → PyData → Prop} {P : PyData → Mm → Prop} {E : XK}
theorem gh_any {S : Sy} {H H' : Hp} (x : ∀ a o, Bm S M a = false → H a = some o → H' a = some o) : Same (Gh S M H) (Gh S M H') := fun a o e => by
  obtain ⟨e1, e2⟩ := hide_some e
  unfold Gh
  rw [hide_f e1]
  exact x a o e1 e2
theorem w_call (h : WA K ta as M fun ss M1 => ∃ ds : List PyData, ss = ds.map .dat ∧ pre ds ∧ ∀ d, post ds d → P d M1) : W K (tCall (spP pre post K) [] E ta) as M P := fun S H0 σ H k r Q q =>
  h S H0 σ H k r _ fun vs H1 ss M1 k1 e1 b1 ⟨ds, es, hp, p⟩ => by
    subst es
    rw [List.append_nil]
    refine ⟨syAt S M1 H1 fun z hz => by obtain ⟨us, a, _⟩ := k1.mem z hz; rw [a]; simp, ds, ⟨k1.inv, fun _ _ => rfl⟩, hp, ra_dat b1, fun v H' d xt iv dp pd => ?_⟩
    have sm : Same (Gh S M1 H1) (Gh S M1 H') := gh_any xt
    refine q v H' d M1 ⟨fun a o e3 e4 => ?_, iv.1, k1.nd, k1.loc, fun z hz => ?_⟩ (e1.trans sm) dp (p d pd)
    · have e5 := k1.xt a o e3 e4
      by_cases e6 : Bm S M1 a = false
      · exact xt a o e6 e5
      · have e7 : Bm S M1 a = true := by simpa using e6
        rcases (Bool.or_eq_true _ _).mp e7 with e | e
        · rw [e3] at e; cases e
        · obtain ⟨z, hz, y⟩ := List.any_eq_true.mp e
          have y : z.1 = a := by simpa using y
          rw [← y, iv.2 z hz, y]
          exact e5
    · obtain ⟨us, a, b⟩ := k1.mem z hz
      exact ⟨us, by rw [iv.2 z hz]; exact a, dps_mono sm _ _ b⟩
theorem w_callQ (h : WA K ta as M fun ss M1 => ∃ (p : Addr) (fl : Bool) (pl ds : List PyData), ss = .own p :: ds.map .dat ∧ M1 = [(p, fl, pl)] ∧ poolD pl ∧ pre ds ∧ ∀ d pl', poolD pl' → post ds d → P d [(p, fl, pl')]) :
    W K (tCall (spQ pre post K) [] E ta) as M P := fun S H0 σ H k r Q q =>
  h S H0 σ H k r _ fun vs H1 ss M1 k1 e1 b1 ⟨p, fl, pl, ds, es, em, hpl, hp, cont⟩ => by
    subst es em
    rw [List.append_nil]
    match vs, b1 with
    | v0 :: ws, ⟨q1, q2⟩ =>
      cases (show some v0 = some (V.ref p) from q1)
      have hm : (p, fl, pl) ∈ [(p, fl, pl)] := List.mem_singleton.mpr rfl
      obtain ⟨us, hus, hud⟩ := k1.mem _ hm
      have hus : H1 p = some (.lst us) := hus
      have lc := k1.loc _ hm
      let S' : Sy := syP S p fl pl
      have stb : Stb S' p := fun H l l' i hl => ⟨by
        cases fl with
        | true => exact S.mono H _ (fun a o y1 y2 => by rw [upd_ne (fun z => by have w := (lc.1 rfl).1; rw [z] at y1; rw [show S.B p = true from y1] at w; cases w)]; exact y2) i.1
        | false => exact (lc.2 rfl).2 H l l' i.1 hl, ⟨l', upd_same⟩⟩
      refine ⟨S', p, ws, ds, us, pl, rfl, ⟨k1.inv, us, hus⟩, own_bm hm, stb, hus, hud, hpl, hp, ra_dat q2, fun v H' d l' pl' xt iv hl' hd' hpl' dp pd => ?_⟩
      have be : Bm S [(p, fl, pl')] = Bm S [(p, fl, pl)] := rfl
      have sm : Same (Gh S [(p, fl, pl)] H1) (Gh S [(p, fl, pl')] H') := fun a o e => by
        obtain ⟨e1, e2⟩ := hide_some e
        unfold Gh
        rw [be, hide_f e1]
        exact xt a o e1 e2
      refine q v H' d [(p, fl, pl')] ⟨fun a o e3 e4 => ?_, iv.1, by simp, fun z hz => ?_, fun z hz => ?_⟩ (e1.trans sm) dp (cont d pl' hpl' pd)
      · have e5 := k1.xt a o e3 e4
        refine xt a o ?_ e5
        refine bm_false.mpr ⟨e3, fun z hz => ?_⟩
        have z1 := List.mem_singleton.mp hz
        subst z1
        intro z2
        have z2 : p = a := z2
        subst z2
        cases fl with
        | true => rw [(lc.1 rfl).2] at e4; cases e4
        | false => have z := (lc.2 rfl).1; rw [e3] at z; cases z
      · have z1 := List.mem_singleton.mp hz
        subst z1
        exact lc
      · have z1 := List.mem_singleton.mp hz
        subst z1
        exact ⟨l', hl', hd'⟩
theorem bm_nil {S : Sy} : Bm S [] = S.B := by
  funext a
  unfold Bm
  simp
/-- a def of data keeps its word -/
theorem to_spP {t : TS} {N : List Str} {vs : List V} {H : Hp} {Q : VK} {n : Nat} (hn : ∀ ds, pre ds → ds.length = n) (hb : ∀ ds, pre ds → WS K t (ds.map .dat ++ List.replicate (N.length - n) .no) [] ⟨fun _ _ => post ds .none, fun d _ => post ds d, fun _ _ => False, fun _ _ => False⟩)
    (h : spP pre post K vs H Q E) : t { nx := fun _ H' => Q .non H', rt := Q } (L2.start N vs) H := by
  obtain ⟨S, ds, iv, hp, hd, q⟩ := h
  have ln : vs.length = n := by rw [dps_len hd]; exact hn ds hp
  have k0 : Ok0 K S H H [] := ⟨fun _ _ _ e => e, iv, List.nodup_nil, (fun z hz => by cases hz), (fun z hz => by cases hz)⟩
  have hg : Gh S [] H = Hide S.B H := by unfold Gh; rw [bm_nil]
  have r0 : Rs K (Gh S [] H) (L2.start N vs) (ds.map .dat ++ List.replicate (N.length - n) .no) := by
    unfold L2.start
    rw [ln, hg]
    exact ra_start _ (dat_ra hd)
  have fin : ∀ v H' d M', Ok0 K S H H' M' → Dp K (Gh S M' H') v d → post ds d → Q v H' := fun v H' d M' k' dp pd => by
    refine q v H' d k'.xt k'.inv (dp_mono (fun a o e => ?_) _ _ dp) pd
    obtain ⟨e1, e2⟩ := hide_some e
    rw [hide_f (bm_false.mp e1).1]
    exact e2
  exact hb ds hp S H (L2.start N vs) H _ k0 r0 (fun σ' H' as' M' k' _ _ p => fin .non H' .none M' k' .non p) (fun v H' d M' k' dp p => fin v H' d M' k' dp p) (fun _ _ _ _ _ _ _ p => p.elim) (fun _ _ _ _ _ _ _ p => p.elim)
theorem to_spQ {t : TS} {N : List Str} {vs : List V} {H : Hp} {Q : VK} {n : Nat} (hn : ∀ ds, pre ds → ds.length = n) (hb : ∀ p pl ds, poolD pl → pre ds → WS K t (.own p :: ds.map .dat ++ List.replicate (N.length - (n + 1)) .no) [(p, false, pl)]
      ⟨fun _ M => ∃ pl', M = [(p, false, pl')] ∧ poolD pl' ∧ post ds .none, fun d M => ∃ pl', M = [(p, false, pl')] ∧ poolD pl' ∧ post ds d, fun _ _ => False, fun _ _ => False⟩)
    (h : spQ pre post K vs H Q E) : t { nx := fun _ H' => Q .non H', rt := Q } (L2.start N vs) H := by
  obtain ⟨S, p, ws, ds, l, pl, ev, iv, hB, stb, hl, hld, hpl, hp, hd, q⟩ := h
  subst ev
  have ln : ws.length = n := by rw [dps_len hd]; exact hn ds hp
  have hm : (p, false, pl) ∈ [(p, false, pl)] := List.mem_singleton.mpr rfl
  have be : ∀ pl' : List PyData, Bm S [(p, false, pl')] = S.B := fun pl' => by
    funext a
    unfold Bm
    cases e : S.B a with
    | true => rfl
    | false =>
      have : (p == a) = false := by
        rw [beq_eq_false_iff_ne]
        intro z
        rw [← z, hB] at e
        cases e
      simp [this]
  have k0 : Ok0 K S H H [(p, false, pl)] := ⟨fun _ _ _ e => e, iv, by simp, fun z hz => by
    have z1 := List.mem_singleton.mp hz
    subst z1
    exact ⟨(fun z => by cases z), fun _ => ⟨hB, stb⟩⟩, fun z hz => by
    have z1 := List.mem_singleton.mp hz
    subst z1
    exact ⟨l, hl, by rw [be]; exact hld⟩⟩
  have r0 : Rs K (Gh S [(p, false, pl)] H) (L2.start N (.ref p :: ws)) (.own p :: ds.map .dat ++ List.replicate (N.length - (n + 1)) .no) := by
    unfold L2.start Gh
    rw [be, List.length_cons, ln]
    exact ra_start (vs := .ref p :: ws) (ss := .own p :: ds.map .dat) _ ⟨rfl, dat_ra hd⟩
  have fin : ∀ v H' d M', Ok0 K S H H' M' → Dp K (Gh S M' H') v d → (∃ pl', M' = [(p, false, pl')] ∧ poolD pl' ∧ post ds d) → Q v H' := fun v H' d M' k' dp ⟨pl', em, hpl', pd⟩ => by
    subst em
    obtain ⟨l', hl', hd'⟩ := k'.mem _ (List.mem_singleton.mpr rfl)
    unfold Gh at dp
    rw [be] at dp hd'
    exact q v H' d l' pl' k'.xt k'.inv hl' hd' hpl' dp pd
  exact hb p pl ds hpl hp S H _ H _ k0 r0 (fun σ' H' as' M' k' _ _ p => fin .non H' .none M' k' .non p) (fun v H' d M' k' dp p => fin v H' d M' k' dp p) (fun _ _ _ _ _ _ _ p => p.elim) (fun _ _ _ _ _ _ _ p => p.elim)
theorem spP_len {vs : List V} {H : Hp} {Q : VK} {n : Nat} (hn : ∀ ds, pre ds → ds.length = n) (h : spP pre post K vs H Q E) : vs.length = n := by
  obtain ⟨S, ds, _, hp, hd, _⟩ := h
  rw [dps_len hd]; exact hn ds hp
theorem spQ_len {vs : List V} {H : Hp} {Q : VK} {n : Nat} (hn : ∀ ds, pre ds → ds.length = n) (h : spQ pre post K vs H Q E) : vs.length = n + 1 := by
  obtain ⟨S, p, ws, ds, l, pl, ev, _, _, _, _, _, _, hp, hd, _⟩ := h
  rw [ev, List.length_cons, dps_len hd, hn ds hp]
end
end Ab

set_option Elab.async false
set_option linter.all false
set_option maxRecDepth 100000
set_option maxHeartbeats 4000000
namespace Ab
open PySem PySem.Spec PyProof.Rows L2

/-! ### what is walked -/
structure ItOk (K : PySem.W.Frag) (J : It) (G0 : Hp) (xs : List PyData) : Prop where
  go : ∀ G H i, Same G0 G → Same G H → i < xs.length → J.go i H
  yld : ∀ G H i v H', Same G0 G → Same G H → J.yld i H v H' → H' = H ∧ ∀ d, xs[i]? = some d → Dp K G v d
  stop : ∀ G H, Same G0 G → Same G H → J.stop xs.length H
def WI (K : PySem.W.Frag) (wi : TI) (as : List Sv) (M : Mm) (P : List PyData → Mm → Prop) : Prop := ∀ S H0 σ H, Ok0 K S H0 H M → Rs K (Gh S M H) σ as → ∀ R : It → Hp → Prop,
  (∀ J H' xs M', Ok0 K S H0 H' M' → Same (Gh S M H) (Gh S M' H') → ItOk K J (Gh S M' H') xs → P xs M' → R J H') → wi σ H R
/-- a list or a tuple, whichever comes -/
def iSeq (K : PySem.W.Frag) (tl : TE) : TI := fun σ H R => tl σ H fun x H1 => ∃ a, x = .ref a ∧ (((∃ xs, SqL K H1 a xs) ∧ R (Itl K a) H1) ∨ ((∃ xs, SqT K H1 a xs) ∧ R (Itt K a) H1))
theorem pi_seq {X : Cx} {tg l : Expr} {tl : TE} (hl : PE X l tl) : PI X tg l (iSeq X.K tl) := by
  refine ⟨fun pins s σ H R I h => ?_⟩
  refine thn (hl.run pins s σ H _ I h) fun v s1 ⟨x, H1, I1, r1, q1⟩ => ?_
  obtain ⟨a, e, q⟩ := q1
  subst e
  cases r1
  rcases q with ⟨⟨xs, hq⟩, q⟩ | ⟨⟨xs, hq⟩, q⟩
  · obtain ⟨its, rv, p, hz⟩ := I1.list hq
    refine wpAny_pyIter_list p.isList ?_
    refine ⟨s1.heap.objs.size, [s1.heap.objs.size], _, _, H1, rfl, I1.kept (t' := s1.toks) fun b o e => Heap.get?_push_of_some _ e, turn_list a _, ⟨_, Heap.get?_push_size _ rfl, rfl, rfl⟩, fun b hb => ?_, q⟩
    have e : b = s1.heap.objs.size := by simpa using hb
    subst e
    exact I1.fpOk (Nat.le_refl _) (I1.hok.fresh (Nat.le_refl _))
  · obtain ⟨its, rv, p, hz⟩ := I1.tuple hq
    refine wpAny_pyIter_tuple (show s1.heap.IsTuple a its.toArray from p) ?_
    refine ⟨s1.heap.objs.size, [s1.heap.objs.size], _, _, H1, rfl, I1.kept (t' := s1.toks) fun b o e => Heap.get?_push_of_some _ e, turn_tuple a _, ⟨_, Heap.get?_push_size _ rfl, rfl, rfl⟩, fun b hb => ?_, q⟩
    have e : b = s1.heap.objs.size := by simpa using hb
    subst e
    exact I1.fpOk (Nat.le_refl _) (I1.hok.fresh (Nat.le_refl _))
section
variable {K : PySem.W.Frag} {as : List Sv} {M : Mm} {tl : TE} {P : List PyData → Mm → Prop}
theorem itl_ok {a : Addr} {vs : List V} {xs : List PyData} {G0 : Hp} (h : SqL K G0 a vs) (hd : DpAll K G0 vs xs) : ItOk K (Itl K a) G0 xs := by
  have ln := dps_len hd
  refine ⟨fun G H i e1 e2 hi => ?_, fun G H i v H' e1 e2 y => ?_, fun G H e1 e2 => ?_⟩
  · exact ⟨vs, vs[i]'(by omega), e2.seq (e1.seq h), by simp [show i < vs.length by omega]⟩
  · refine ⟨y.1, fun d hx => ?_⟩
    obtain ⟨w, a1, b1⟩ := dps_at hd hx
    have z := y.2 vs (e2.seq (e1.seq h))
    rw [a1] at z
    cases z
    exact dp_mono e1 _ _ b1
  · exact ⟨vs, e2.seq (e1.seq h), by omega⟩
theorem itt_ok {a : Addr} {vs : List V} {xs : List PyData} {G0 : Hp} (h : SqT K G0 a vs) (hd : DpAll K G0 vs xs) : ItOk K (Itt K a) G0 xs := by
  have ln := dps_len hd
  refine ⟨fun G H i e1 e2 hi => ?_, fun G H i v H' e1 e2 y => ?_, fun G H e1 e2 => ?_⟩
  · exact ⟨vs, vs[i]'(by omega), seqT e2 (seqT e1 h), by simp [show i < vs.length by omega]⟩
  · refine ⟨y.1, fun d hx => ?_⟩
    obtain ⟨w, a1, b1⟩ := dps_at hd hx
    have z := y.2 vs (seqT e2 (seqT e1 h))
    rw [a1] at z
    cases z
    exact dp_mono e1 _ _ b1
  · exact ⟨vs, seqT e2 (seqT e1 h), by omega⟩
theorem itv_ok {a : Addr} {vs : List V} {xs : List PyData} {G0 : Hp} (h : SqL K G0 a vs) (hd : DpAll K G0 vs xs) : ItOk K (Itv K a vs.length) G0 xs.reverse := by
  have ln := dps_len hd
  have lr : xs.reverse.length = vs.length := by rw [List.length_reverse]; omega
  refine ⟨fun G H i e1 e2 hi => ?_, fun G H i v H' e1 e2 y => ?_, fun G H e1 e2 => ?_⟩
  · rw [lr] at hi
    exact ⟨hi, vs, vs[vs.length - 1 - i]'(by omega), e2.seq (e1.seq h), by simp [show vs.length - 1 - i < vs.length by omega]⟩
  · refine ⟨y.1, fun d hx => ?_⟩
    have hi : i < xs.length := by have := (List.getElem?_eq_some_iff.mp hx).1; rw [List.length_reverse] at this; exact this
    rw [List.getElem?_reverse hi] at hx
    obtain ⟨w, a1, b1⟩ := dps_at hd hx
    have z := y.2 vs (e2.seq (e1.seq h))
    rw [show vs.length - 1 - i = xs.length - 1 - i by omega, a1] at z
    cases z
    exact dp_mono e1 _ _ b1
  · rw [lr]; exact Nat.le_refl _
theorem itvt_ok {a : Addr} {vs : List V} {xs : List PyData} {G0 : Hp} (h : SqT K G0 a vs) (hd : DpAll K G0 vs xs) : ItOk K (RT.ItvT K a vs.length) G0 xs.reverse := by
  have ln := dps_len hd
  have lr : xs.reverse.length = vs.length := by rw [List.length_reverse]; omega
  refine ⟨fun G H i e1 e2 hi => ?_, fun G H i v H' e1 e2 y => ?_, fun G H e1 e2 => ?_⟩
  · rw [lr] at hi
    exact ⟨hi, vs, vs[vs.length - 1 - i]'(by omega), seqT e2 (seqT e1 h), by simp [show vs.length - 1 - i < vs.length by omega]⟩
  · refine ⟨y.1, fun d hx => ?_⟩
    have hi : i < xs.length := by have := (List.getElem?_eq_some_iff.mp hx).1; rw [List.length_reverse] at this; exact this
    rw [List.getElem?_reverse hi] at hx
    obtain ⟨w, a1, b1⟩ := dps_at hd hx
    have z := y.2 vs (seqT e2 (seqT e1 h))
    rw [show vs.length - 1 - i = xs.length - 1 - i by omega, a1] at z
    cases z
    exact dp_mono e1 _ _ b1
  · rw [lr]; exact Nat.le_refl _
theorem wi_seq (h : W K tl as M fun d M' => ∃ xs, (d = .list xs ∨ d = .tuple xs) ∧ P xs M') : WI K (iSeq K tl) as M P := fun S H0 σ H k r R q =>
  h S H0 σ H k r _ fun v H1 d M1 k1 e1 b1 ⟨xs, hd, p⟩ => by
    rcases hd with rfl | rfl
    · cases b1 with
      | lst hs ha => exact ⟨_, rfl, .inl ⟨⟨_, same_hide.seq hs⟩, q _ H1 xs M1 k1 e1 (itl_ok hs ha) p⟩⟩
    · cases b1 with
      | tup hs ha => exact ⟨_, rfl, .inr ⟨⟨_, seqT same_hide hs⟩, q _ H1 xs M1 k1 e1 (itt_ok hs ha) p⟩⟩
theorem wi_list (h : W K tl as M fun d M' => ∃ xs, d = .list xs ∧ P xs M') : WI K (iList K tl) as M P := fun S H0 σ H k r R q =>
  h S H0 σ H k r _ fun v H1 d M1 k1 e1 b1 ⟨xs, hd, p⟩ => by
    subst hd
    cases b1 with
    | lst hs ha => exact ⟨_, rfl, ⟨_, same_hide.seq hs⟩, q _ H1 xs M1 k1 e1 (itl_ok hs ha) p⟩
theorem wi_rev (h : W K tl as M fun d M' => ∃ xs, (d = .list xs ∨ d = .tuple xs) ∧ P xs.reverse M') : WI K (RT.iRevA K tl) as M P := fun S H0 σ H k r R q =>
  h S H0 σ H k r _ fun v H1 d M1 k1 e1 b1 ⟨xs, hd, p⟩ => by
    rcases hd with rfl | rfl
    · cases b1 with
      | lst hs ha => exact ⟨_, _, rfl, .inl ⟨same_hide.seq hs, q _ H1 _ M1 k1 e1 (itv_ok hs ha) p⟩⟩
    · cases b1 with
      | tup hs ha => exact ⟨_, _, rfl, .inr ⟨seqT same_hide hs, q _ H1 _ M1 k1 e1 (itvt_ok hs ha) p⟩⟩
theorem wi_rng {ta : TA} (h : WA K ta as M fun ss M' => ∃ n : Int, ss = [.dat (.int n)] ∧ n ≤ 1000000 ∧ -1000000 ≤ n ∧ P ((List.range n.toNat).map fun (i : Nat) => PyData.int (i : Int)) M') : WI K (iRng1 ta) as M P := fun S H0 σ H k r R q =>
  h S H0 σ H k r _ fun vs H1 ss M1 k1 e1 b1 ⟨n, es, h1, h2, p⟩ => by
    subst es
    match vs, b1 with
    | [v], ⟨⟨w, ew, dw⟩, _⟩ =>
      cases ew
      cases dw
      refine ⟨n, rfl, by omega, by omega, q _ H1 _ M1 k1 e1 ⟨fun G H i e1 e2 hi => ?_, fun G H i v H' e1 e2 y => ?_, fun G H e1 e2 => ?_⟩ p⟩
      · rw [List.length_map, List.length_range] at hi
        exact hi
      · refine ⟨y.1, fun d hx => ?_⟩
        have hi : i < n.toNat := by
          have := (List.getElem?_eq_some_iff.mp hx).1
          simpa using this
        rw [List.getElem?_map, List.getElem?_range hi] at hx
        cases hx
        rw [y.2, Int.zero_add]
        exact .int _
      · show n.toNat ≤ _
        simp
def signs (x : Str) : List PyData := x.cps.toList.map fun c => .str ⟨#[c]⟩
theorem wi_str (h : W K tl as M fun d M' => ∃ x, d = .str x ∧ P (signs x) M') : WI K (iStr tl) as M P := fun S H0 σ H k r R q =>
  h S H0 σ H k r _ fun v H1 d M1 k1 e1 b1 ⟨x, hd, p⟩ => by
    subst hd
    cases b1
    refine ⟨x, rfl, q _ H1 _ M1 k1 e1 ⟨fun G H i e1 e2 hi => ?_, fun G H i v H' e1 e2 y => ?_, fun G H e1 e2 => ?_⟩ p⟩
    · simpa [signs, Its] using hi
    · refine ⟨y.1, fun d hx => ?_⟩
      obtain ⟨c, hc, ev⟩ := y.2
      subst ev
      unfold signs at hx
      rw [List.getElem?_map, Array.getElem?_toList, hc] at hx
      cases hx
      exact .str _
    · simp [signs, Its]
end

/-! ### targets -/
/-- a, b = a tuple or a list of two -/
def gSeq (K : PySem.W.Frag) (n : Nat) (t : TGs) : TG := fun v σ H Q => gTup K n t v σ H Q ∨ gLst K n t v σ H Q
theorem pg_seq {X : Cx} {es : List Expr} {k : Nat} {t : TGs} {n : Nat} {pos : Pos} (hc : X.calm = true) (h : PGs X es t) (hn : (assignEach es X.env).length = n) (hst : (assignEach es X.env).findIdx? (·.1) = none) : PG X (.Tuple es k pos) (gSeq X.K n t) :=
  ⟨fun pins s σ H v u Q I r hw => hw.elim (fun q => (pg_tup hc h hn hst).run pins s σ H v u Q I r q) (fun q => (pg_lst hc h hn hst).run pins s σ H v u Q I r q)⟩
def awipe (as : List Sv) : List Nat → List Sv
  | [] => as
  | v :: vs => (awipe as vs).set v .no
def GA (K : PySem.W.Frag) (g : TG) (ts : List Nat) (f : PyData → List Sv → (List Sv → Prop) → Prop) : Prop := ∀ (G H : Hp) (v : V) (d : PyData) (σ : L2.St) (as : List Sv) (P : List Sv → Prop), Same G H → Dp K G v d → Rs K G σ as → f d as P →
  ∀ Q : L2.St → Hp → Prop, (∀ σ' as', Rs K G σ' as' → (∀ vs, (∀ t ∈ ts, t ∈ vs) → wipe σ' vs = wipe σ vs) → P as' → Q σ' H) → g v σ H Q
section
variable {K : PySem.W.Frag} {as : List Sv} {M : Mm}
theorem wipe_at (σ : L2.St) : ∀ (vs : List Nat) (i : Nat), (wipe σ vs)[i]? = if i ∈ vs ∧ i < σ.length then some none else σ[i]?
  | [], i => by simp [wipe]
  | v :: vs, i => by
    unfold wipe
    by_cases e : v = i
    · subst e
      by_cases hl : v < σ.length
      · rw [List.getElem?_set_self (by rw [wipe_length]; exact hl), if_pos ⟨List.mem_cons_self, hl⟩]
      · rw [if_neg (fun z => hl z.2), List.getElem?_eq_none (by rw [List.length_set, wipe_length]; omega), List.getElem?_eq_none (by omega)]
    · rw [List.getElem?_set_ne e, wipe_at σ vs i]
      have : (i ∈ v :: vs) ↔ i ∈ vs := by simp [Ne.symm e]
      simp only [this]
theorem wipe_set {σ : L2.St} {vs : List Nat} {i : Nat} {o : Option V} (h : i ∈ vs) : wipe (σ.set i o) vs = wipe σ vs := by
  apply List.ext_getElem?
  intro j
  rw [wipe_at, wipe_at, List.length_set]
  by_cases hj : j ∈ vs ∧ j < σ.length
  · rw [if_pos hj, if_pos hj]
  · rw [if_neg hj, if_neg hj]
    by_cases e : i = j
    · subst e
      have : ¬ i < σ.length := fun z => hj ⟨h, z⟩
      rw [List.getElem?_eq_none (by rw [List.length_set]; omega), List.getElem?_eq_none (by omega)]
    · rw [List.getElem?_set_ne e]
theorem wipe_wipe {σ : L2.St} {vs : List Nat} : wipe (wipe σ vs) vs = wipe σ vs := by
  apply List.ext_getElem?
  intro j
  rw [wipe_at, wipe_at, wipe_length]
  by_cases hj : j ∈ vs ∧ j < σ.length
  · rw [if_pos hj, if_pos hj]
  · rw [if_neg hj]
theorem awipe_len (as : List Sv) : ∀ vs, (awipe as vs).length = as.length
  | [] => rfl
  | v :: vs => by unfold awipe; rw [List.length_set, awipe_len as vs]
theorem rs_wipe {G : Hp} {σ : L2.St} (r : Rs K G σ as) : ∀ vs, Rs K G (wipe σ vs) (awipe as vs)
  | [] => r
  | v :: vs => by
    have ih := rs_wipe r vs
    unfold wipe awipe
    refine ⟨by rw [List.length_set, List.length_set, ih.len], fun i s q => ?_⟩
    by_cases e : v = i
    · subst e
      have hl : v < (awipe as vs).length := by
        have := (List.getElem?_eq_some_iff.mp q).1
        simpa using this
      rw [List.getElem?_set_self hl] at q
      cases q
      exact ⟨none, List.getElem?_set_self (by rw [ih.len]; exact hl), trivial⟩
    · rw [List.getElem?_set_ne e] at q
      obtain ⟨o, a, b⟩ := ih.at_ i s q
      exact ⟨o, by rw [List.getElem?_set_ne e]; exact a, b⟩
theorem ga_name {i : Nat} : GA K (gName i) [i] (fun d as P => P (as.set i (.dat d))) := fun G H v d σ as P e hd r p Q q =>
  q _ _ (r.set i (s := .dat d) ⟨v, rfl, hd⟩) (fun vs hv => wipe_set (hv i List.mem_cons_self)) p
theorem ga_pair {i j : Nat} : GA K (gSeq K 2 (gCons (gName i) (gCons (gName j) gNil))) [i, j] (fun d as P => ∃ a b, (d = .tuple [a, b] ∨ d = .list [a, b]) ∧ P ((as.set i (.dat a)).set j (.dat b))) := fun G H v d σ as P e hd r ⟨a, b, ed, p⟩ Q q => by
  have fin : ∀ {v1 v2 : V}, Dp K G v1 a → Dp K G v2 b → Q ((σ.set i (some v1)).set j (some v2)) H := fun h1 h2 =>
    q _ _ ((r.set i (s := .dat a) ⟨_, rfl, h1⟩).set j (s := .dat b) ⟨_, rfl, h2⟩) (fun vs hv => by rw [wipe_set (hv j (by simp)), wipe_set (hv i (by simp))]) p
  rcases ed with rfl | rfl
  · cases hd with
    | tup hs ha =>
      cases ha with
      | cons h1 h2 =>
        cases h2 with
        | cons h2 h3 =>
          cases h3
          exact .inl ⟨_, _, rfl, seqT e hs, rfl, _, _, rfl, _, _, rfl, rfl, fin h1 h2⟩
  · cases hd with
    | lst hs ha =>
      cases ha with
      | cons h1 h2 =>
        cases h2 with
        | cons h2 h3 =>
          cases h3
          exact .inr ⟨_, _, rfl, e.seq hs, rfl, _, _, rfl, _, _, rfl, rfl, fin h1 h2⟩

/-! ### for, while -/
variable {A : AE} {wi : TI} {g : TG} {tb : TS} {ts : List Nat} {f : PyData → List Sv → (List Sv → Prop) → Prop}
theorem ws_for (hg : GA K g ts f) (h : WI K wi as M fun xs M1 => ∃ IV : Nat → List Sv → Mm → Prop, IV 0 as M1 ∧
    (∀ i x as' M', xs[i]? = some x → IV i as' M' → f x as' fun as2 => WS K tb as2 M' { A with nx := IV (i + 1), ct := IV (i + 1), bk := A.nx }) ∧ (∀ as' M', IV xs.length as' M' → A.nx as' M')) : WS K (tFor wi g tb) as M A := fun S H0 σ H D k r n rt b c =>
  h S H0 σ H k r _ fun J H1 xs M1 k1 e1 hJ ⟨IV, i0, step, fin⟩ => by
    refine ⟨fun i m σ' H' => m = xs.length - i ∧ i ≤ xs.length ∧ ∃ as' M', IV i as' M' ∧ Ok0 K S H0 H' M' ∧ Rs K (Gh S M' H') σ' as' ∧ Same (Gh S M1 H1) (Gh S M' H'), ⟨xs.length, by simp, Nat.zero_le _, as, M1, i0, k1, r.mono e1, Same.refl _⟩, ?_⟩
    rintro i m σ' H' ⟨rfl, hi, as', M', hI, k', r', e'⟩
    by_cases hlt : i < xs.length
    · refine .inr ⟨hJ.go _ _ i e' same_hide hlt, fun σ'' H'' => ∃ as' M', IV (i + 1) as' M' ∧ Ok0 K S H0 H'' M' ∧ Rs K (Gh S M' H'') σ'' as' ∧ Same (Gh S M1 H1) (Gh S M' H''), fun σ'' H'' ⟨as'', M'', q⟩ => ⟨xs.length - (i + 1), by omega, rfl, hlt, as'', M'', q⟩, fun v H2 y => ?_⟩
      obtain ⟨eh, yd⟩ := hJ.yld _ _ i v H2 e' same_hide y
      subst eh
      have hx : xs[i]? = some xs[i] := List.getElem?_eq_getElem hlt
      refine hg (Gh S M' H2) H2 v xs[i] σ' as' _ same_hide (yd _ hx) r' (step i _ as' M' hx hI) _ fun σ2 as2 r2 _ p => ?_
      exact p S H0 σ2 H2 _ k' r2 (fun σ3 H3 as3 M3 k3 r3 e3 p3 => ⟨as3, M3, p3, k3, r3, e'.trans e3⟩) rt (fun σ3 H3 as3 M3 k3 r3 e3 p3 => n σ3 H3 as3 M3 k3 r3 ((e1.trans e').trans e3) p3) (fun σ3 H3 as3 M3 k3 r3 e3 p3 => ⟨as3, M3, p3, k3, r3, e'.trans e3⟩)
    · have e : i = xs.length := by omega
      subst e
      exact .inl ⟨hJ.stop _ _ e' same_hide, n σ' H' as' M' k' r' (e1.trans e') (fin as' M' hI)⟩
theorem ws_while {tc : TT} (IV : Nat → List Sv → Mm → Prop) (m0 : Nat) (h0 : IV m0 as M) (h : ∀ m as' M', IV m as' M' → WT K tc as' M' fun b M1 => if b = true then WS K tb as' M1 { A with nx := fun a' m' => ∃ j, j < m ∧ IV j a' m', ct := fun a' m' => ∃ j, j < m ∧ IV j a' m', bk := A.nx } else A.nx as' M1) :
    WS K (tWhile tc tb) as M A := fun S H0 σ H D k r n rt b c => by
  refine ⟨fun m σ' H' => ∃ as' M', IV m as' M' ∧ Ok0 K S H0 H' M' ∧ Rs K (Gh S M' H') σ' as' ∧ Same (Gh S M H) (Gh S M' H'), ⟨m0, as, M, h0, k, r, Same.refl _⟩, ?_⟩
  rintro m σ' H' ⟨as', M', hI, k', r', e'⟩
  refine h m as' M' hI S H0 σ' H' k' r' _ fun b1 H1 M1 k1 e1 p => ?_
  cases b1 with
  | false =>
    exact n σ' H1 as' M1 k1 (r'.mono e1) (e'.trans e1) p
  | true =>
    refine ⟨fun σ'' H'' => ∃ j, j < m ∧ ∃ as' M', IV j as' M' ∧ Ok0 K S H0 H'' M' ∧ Rs K (Gh S M' H'') σ'' as' ∧ Same (Gh S M H) (Gh S M' H''), fun σ'' H'' q => q, ?_⟩
    exact (show WS K tb as' M1 _ from p) S H0 σ' H1 _ k1 (r'.mono e1) (fun σ3 H3 as3 M3 k3 r3 e3 ⟨j, hj, p3⟩ => ⟨j, hj, as3, M3, p3, k3, r3, (e'.trans e1).trans e3⟩) rt (fun σ3 H3 as3 M3 k3 r3 e3 p3 => n σ3 H3 as3 M3 k3 r3 ((e'.trans e1).trans e3) p3)
      (fun σ3 H3 as3 M3 k3 r3 e3 ⟨j, hj, p3⟩ => ⟨j, hj, as3, M3, p3, k3, r3, (e'.trans e1).trans e3⟩)
end

/-! ### comprehensions -/
def syD (S : Sy) (D : Addr) (va : List V) : Sy where
  B := fun a => S.B a || a == D
  I := fun H => S.I H ∧ H D = some (.lst va)
  mono := fun H H' e i => ⟨S.mono H H' (fun a o e1 e2 => e a o (by rw [e1]; rfl) e2) i.1, e D _ (by simp) i.2⟩
  trk := fun H a i e => by
    rcases (Bool.or_eq_true _ _).mp e with e | e
    · exact S.trk H a i.1 e
    · have e : a = D := by simpa using e
      rw [e, i.2]; simp
section
variable {K : PySem.W.Frag} {S : Sy} {H0 H H1 : Hp} {M M1 : Mm} {D : Addr} {va vb : List V}
theorem syd_bm : Bm (syD S D va) M = Bm (syD S D vb) M := rfl
theorem bm_D : Bm (syD S D va) M D = true := by
  unfold Bm syD
  simp
theorem syd_f {a : Addr} (h : (syD S D va).B a = false) : S.B a = false ∧ a ≠ D := by
  have h : (S.B a || a == D) = false := h
  rw [Bool.or_eq_false_iff] at h
  exact ⟨h.1, by simpa using h.2⟩
theorem syd_mk {a : Addr} (h : S.B a = false) (n : a ≠ D) : (syD S D va).B a = false := by
  show (S.B a || a == D) = false
  rw [h]
  simpa using n
theorem gd_upd {o : HO} : Gh (syD S D va) M (upd H D o) = Gh (syD S D vb) M H := by
  unfold Gh
  rw [syd_bm (vb := vb)]
  funext a
  by_cases e : Bm (syD S D vb) M a = true
  · rw [hide_t e, hide_t e]
  · have e' : Bm (syD S D vb) M a = false := by simpa using e
    rw [hide_f e', hide_f e', upd_ne (fun z => by rw [z, bm_D] at e'; cases e')]
theorem same_D (k : Ok0 K S H0 H1 M1) (hD : H1 D = none) {o : HO} : Same (Gh S M1 H1) (Gh (syD S D va) M1 (upd H1 D o)) := fun a u e => by
  obtain ⟨e1, e2⟩ := hide_some e
  have ne : a ≠ D := ne_of_none e2 hD
  unfold Gh
  rw [bm_false] at e1
  rw [hide_f (bm_false.mpr ⟨syd_mk e1.1 ne, e1.2⟩), upd_ne ne]
  exact e2
theorem ok_D (k : Ok0 K S H0 H1 M1) (hD : H1 D = none) : Ok0 K (syD S D []) H0 (upd H1 D (.lst [])) M1 := by
  have k2 := ok_new (o := .lst []) k hD
  have sD : S.B D = false := (bm_false.mp (new_hid k hD)).1
  refine ⟨fun a o e1 e2 => k2.xt a o (syd_f e1).1 e2, ⟨k2.inv, upd_same⟩, k.nd, fun q hq => ?_, fun q hq => ?_⟩
  · obtain ⟨vs, hv, _⟩ := k.mem q hq
    have ne : q.1 ≠ D := ne_of_none hv hD
    have lc := k.loc q hq
    refine ⟨fun z => ⟨syd_mk (lc.1 z).1 ne, (lc.1 z).2⟩, fun z => ⟨?_, fun H l l' i hl => ⟨(lc.2 z).2 H l l' i.1 hl, by rw [upd_ne (Ne.symm ne)]; exact i.2⟩⟩⟩
    show (S.B q.1 || q.1 == D) = true
    rw [(lc.2 z).1]; rfl
  · obtain ⟨vs, hv, hd⟩ := k.mem q hq
    exact ⟨vs, by rw [upd_ne (ne_of_none hv hD)]; exact hv, dps_mono (same_D k hD) _ _ hd⟩
theorem ok_D_ne (k : Ok0 K (syD S D va) H0 H M) : ∀ q ∈ M, q.1 ≠ D := fun q hq z => by
  have lc := k.loc q hq
  cases e : q.2.1 with
  | true => exact (syd_f (lc.1 e).1).2 z
  | false =>
    have st := (lc.2 e).2
    rw [z] at st
    have i := st H va (va ++ [.non]) k.inv k.inv.2
    have w := i.2
    rw [upd_same] at w
    have w2 := HO.lst.inj (Option.some.inj w)
    have := congrArg List.length w2
    simp at this
theorem ok_Dset (k : Ok0 K (syD S D va) H0 H M) (sD : S.B D = false) : Ok0 K (syD S D vb) H0 (upd H D (.lst vb)) M := by
  have nes := ok_D_ne k
  refine ⟨fun a o e1 e2 => by rw [upd_ne (syd_f e1).2]; exact k.xt a o e1 e2, ⟨S.mono H _ (fun a o e1 e2 => by rw [upd_ne (fun z => by rw [z, sD] at e1; cases e1)]; exact e2) k.inv.1, upd_same⟩, k.nd, fun q hq => ?_, fun q hq => ?_⟩
  · have lc := k.loc q hq
    refine ⟨fun z => lc.1 z, fun z => ⟨(lc.2 z).1, fun H2 l l' i hl => ?_⟩⟩
    have ne := nes q hq
    have i2 : (syD S D va).I (upd H2 D (.lst va)) := ⟨S.mono H2 _ (fun a o e1 e2 => by rw [upd_ne (fun z => by rw [z, sD] at e1; cases e1)]; exact e2) i.1, upd_same⟩
    have i3 := (lc.2 z).2 _ l l' i2 (by rw [upd_ne ne]; exact hl)
    refine ⟨S.mono _ _ (fun a o e1 e2 => ?_) i3.1, by rw [upd_ne (Ne.symm ne)]; exact i.2⟩
    by_cases e : a = q.1
    · rw [e, upd_same] at e2 ⊢; exact e2
    · rw [upd_ne e, upd_ne (fun z => by rw [z, sD] at e1; cases e1)] at e2
      rw [upd_ne e]; exact e2
  · obtain ⟨vs, hv, hd⟩ := k.mem q hq
    refine ⟨vs, by rw [upd_ne (nes q hq)]; exact hv, ?_⟩
    have : Hide (Bm (syD S D vb) M) (upd H D (.lst vb)) = Hide (Bm (syD S D va) M) H := gd_upd
    rw [this]; exact hd
theorem same_Dout : Same (Gh (syD S D va) M H) (Gh S M H) := fun a o e => by
  obtain ⟨e1, e2⟩ := hide_some e
  rw [bm_false] at e1
  unfold Gh
  rw [hide_f (bm_false.mpr ⟨(syd_f e1.1).1, e1.2⟩)]
  exact e2
theorem ok_Dout (k : Ok0 K (syD S D va) H0 H M) (sD : S.B D = false) (h0 : H0 D = none) : Ok0 K S H0 H M := by
  have nes := ok_D_ne k
  refine ⟨fun a o e1 e2 => ?_, k.inv.1, k.nd, fun q hq => ?_, fun q hq => ?_⟩
  · have ne : a ≠ D := fun z => by rw [z, h0] at e2; cases e2
    exact k.xt a o (syd_mk e1 ne) e2
  · have lc := k.loc q hq
    have ne := nes q hq
    refine ⟨fun z => ⟨(syd_f (lc.1 z).1).1, (lc.1 z).2⟩, fun z => ⟨?_, fun H2 l l' i hl => ?_⟩⟩
    · have w : (S.B q.1 || q.1 == D) = true := (lc.2 z).1
      rcases (Bool.or_eq_true _ _).mp w with w | w
      · exact w
      · exact absurd (by simpa using w) ne
    · have i2 : (syD S D va).I (upd H2 D (.lst va)) := ⟨S.mono H2 _ (fun a o e1 e2 => by rw [upd_ne (fun z => by rw [z, sD] at e1; cases e1)]; exact e2) i, upd_same⟩
      have i3 := (lc.2 z).2 _ l l' i2 (by rw [upd_ne ne]; exact hl)
      refine S.mono _ _ (fun a o e1 e2 => ?_) i3.1
      by_cases e : a = q.1
      · rw [e, upd_same] at e2 ⊢; exact e2
      · rw [upd_ne e, upd_ne (fun z => by rw [z, sD] at e1; cases e1)] at e2
        rw [upd_ne e]; exact e2
  · obtain ⟨vs, hv, hd⟩ := k.mem q hq
    exact ⟨vs, hv, dps_mono same_Dout _ _ hd⟩
variable {as : List Sv} {wi : TI} {g : TG} {tt : TT} {te : TE} {vs ts : List Nat} {f : PyData → List Sv → (List Sv → Prop) → Prop} {P : PyData → Mm → Prop}
theorem w_lc (hg : GA K g ts f) (ht : ∀ t ∈ ts, t ∈ vs) (h : WI K wi as M fun xs M1 => ∃ IV : Nat → List PyData → Mm → Prop, IV 0 [] M1 ∧
    (∀ i x acc Mi, xs[i]? = some x → IV i acc Mi → f x (awipe as vs) fun as2 => WT K tt as2 Mi fun b M2 => if b = true then W K te as2 M2 fun y M3 => acc.length < 100000 ∧ IV (i + 1) (acc ++ [y]) M3 else IV (i + 1) acc M2) ∧
    (∀ acc M', IV xs.length acc M' → P (.list acc) M')) : W K (tLc wi g tt te vs) as M P := fun S H0 σ H k r Q q =>
  h S H0 σ H k r _ fun J H1 xs M1 k1 e1 hJ ⟨IV, i0, step, fin⟩ => fun D hD => by
    have sD : S.B D = false := (bm_false.mp (new_hid k1 hD)).1
    have h0 : H0 D = none := by
      cases e : H0 D with
      | none => rfl
      | some o => have z := k1.xt D o sD e; rw [hD] at z; cases z
    let Nw : Nat → Hp → Prop := fun i Hc => ∃ acc va Mi, IV i acc Mi ∧ Ok0 K (syD S D va) H0 Hc Mi ∧ DpAll K (Gh (syD S D va) Mi Hc) va acc ∧ Rs K (Gh (syD S D va) Mi Hc) σ as ∧ Same (Gh S M1 H1) (Gh (syD S D va) Mi Hc)
    have n0 : Nw 0 (upd H1 D (.lst [])) := ⟨[], [], M1, i0, ok_D k1 hD, .nil, (r.mono e1).mono (same_D k1 hD), same_D k1 hD⟩
    refine ⟨fun i m Hc => m = xs.length - i ∧ i ≤ xs.length ∧ Nw i Hc, ⟨xs.length, by simp, Nat.zero_le _, n0⟩, ?_⟩
    rintro i m Hc ⟨rfl, hi, acc, va, Mi, hI, kc, da, rc, ec⟩
    by_cases hlt : i < xs.length
    · refine .inr ⟨hJ.go _ _ i ec same_hide hlt, Nw (i + 1), fun H' p' => ⟨xs.length - (i + 1), by omega, rfl, hlt, p'⟩, fun v H2 y => ?_⟩
      obtain ⟨eh, yd⟩ := hJ.yld _ _ i v H2 ec same_hide y
      subst eh
      have hx : xs[i]? = some xs[i] := List.getElem?_eq_getElem hlt
      refine hg (Gh (syD S D va) Mi H2) H2 v xs[i] (wipe σ vs) (awipe as vs) _ same_hide (yd _ hx) (rs_wipe rc vs) (step i _ acc Mi hx hI) _ fun σ2 as2 r2 wp p => ?_
      refine ⟨by rw [wp vs ht, wipe_wipe], ?_⟩
      refine p (syD S D va) H0 σ2 H2 kc r2 _ fun b H3 M3 k3 e3 p3 => ?_
      cases b with
      | false => exact ⟨acc, va, M3, p3, k3, dps_mono e3 _ _ da, rc.mono e3, ec.trans e3⟩
      | true =>
        refine (show W K te as2 M3 _ from p3) (syD S D va) H0 σ2 H3 k3 (r2.mono e3) _ fun w H4 y M4 k4 e4 b4 ⟨hl, p4⟩ => ?_
        refine ⟨va, k4.inv.2, Nat.lt_of_lt_of_le (by rw [dps_len da]; exact hl) (by decide), acc ++ [y], va ++ [w], M4, p4, ok_Dset k4 sD, ?_, ?_, ?_⟩
        · rw [gd_upd (vb := va)]
          exact dps_app (dps_mono (e3.trans e4) _ _ da) (.cons b4 .nil)
        · rw [gd_upd (vb := va)]
          exact rc.mono (e3.trans e4)
        · rw [gd_upd (vb := va)]
          exact ec.trans (e3.trans e4)
    · have e : i = xs.length := by omega
      subst e
      refine .inl ⟨hJ.stop _ _ ec same_hide, q _ Hc (.list acc) Mi (ok_Dout kc sD h0) (e1.trans (ec.trans same_Dout)) ?_ (fin acc Mi hI)⟩
      have gD : Gh S Mi Hc D = some (.lst va) := by
        unfold Gh
        rw [hide_f (bm_false.mpr ⟨sD, ok_D_ne kc⟩)]
        exact kc.inv.2
      exact .lst (SqL.of gD) (dps_mono same_Dout _ _ da)
end
end Ab

set_option Elab.async false
set_option linter.all false
set_option maxRecDepth 100000
set_option maxHeartbeats 4000000
namespace Ab
open PySem PySem.Spec PyProof.Rows L2

section
variable {X : Cx}
/-- two lists, wherever they stand -/
def rCatL (K : PySem.W.Frag) : R2 := fun x y H Q => ∃ l b xs zs, x = .ref l ∧ y = .ref b ∧ SqL K H l xs ∧ SqL K H b zs ∧ xs.length + zs.length ≤ sizeLine ∧ ∀ p, H p = none → Q (.ref p) (upd H p (.lst (xs ++ zs)))
theorem op_catL : OpR X (binaryOp .Add) (rCatL X.K) := by
  intro pins s σ H x y v u Q I rx ry h
  obtain ⟨l, b, xs, zs, rfl, rfl, hH, hB, hz, q⟩ := h
  cases rx
  cases ry
  obtain ⟨its, r, ⟨o, n, e, hc, hd, hdt⟩, hl⟩ := I.list hH
  obtain ⟨its2, r2, ⟨o2, n2, e2, hc2, hd2, hdt2⟩, hl2⟩ := I.list hB
  obtain ⟨c1, d1, dt1, sl1⟩ := o
  obtain ⟨c2, d2, dt2, sl2⟩ := o2
  simp only at hc hd hdt hc2 hd2 hdt2
  subst hc hd hdt hc2 hd2 hdt2
  have z1 := r.length
  have z2 := r2.length
  have ea : its.toArray ++ its2.toArray = (its ++ its2).toArray := by simp
  refine concat_meets ⟨_, e, rfl⟩ ⟨_, e2, rfl⟩ noFill_list_add seq_list_add PySem.F.slot_list_add PySem.F.entry_list_add (PySem.F.args_list_add_2 _ _) (list_addW l b its.toArray its2.toArray n n2 none none sl1 sl2 (by simp; omega)) ⟨e, e2, ?_⟩
  rw [ea]
  exact ⟨.ref _, _, I.lnew (t' := s.toks) (r.append r2) (by rw [List.length_append]; omega), rfl, q _ I.fresh⟩
def rAddI : R2 := rI0 fun i j => .int (i + j)
def rAddStr : R2 := fun x y H Q => ∃ i j, x = .str i ∧ y = .str j ∧ i.length + j.length ≤ sizeLine ∧ Q (.str (i ++ j)) H
def rPlus (K : PySem.W.Frag) : R2 := fun x y H Q => rAddI x y H Q ∨ rAddStr x y H Q ∨ rCatA K x y H Q ∨ rCatL K x y H Q
theorem op_plus : OpR X (binaryOp .Add) (rPlus X.K) := OpR.or (r := rAddI) op_add (OpR.or (r := rAddStr) op_add_str (OpR.or op_catA op_catL))
def rLtI : R2 := rI0 fun i j => .bl (decide (i < j))
def rLtS : R2 := fun x y H Q => ∃ i j, x = .str i ∧ y = .str j ∧ Q (.bl (decide (i.cps.toList < j.cps.toList))) H
def rLess : R2 := fun x y H Q => rLtI x y H Q ∨ rLtS x y H Q
theorem op_less : OpR X (compareOp .Lt) rLess := OpR.or (r := rLtI) (r' := rLtS) op_lt op_lt_str
def rLeI : R2 := rI0 fun i j => .bl (decide (i ≤ j))
theorem op_leI : OpR X (compareOp .LtE) rLeI := op_le
def rGtI : R2 := rI0 fun i j => .bl (decide (j < i))
theorem op_gtI : OpR X (compareOp .Gt) rGtI := op_gt
def rGeI : R2 := rI0 fun i j => .bl (decide (j ≤ i))
theorem op_geI : OpR X (compareOp .GtE) rGeI := op_ge
def rSubI : R2 := rI0 fun i j => .int (i - j)
theorem op_subI : OpR X (binaryOp .Sub) rSubI := op_sub
def rMulI : R2 := rI CMul fun i j => .int (i * j)
theorem op_mulI : OpR X (binaryOp .Mult) rMulI := op_mul
def rModI : R2 := rI (fun _ j => 0 < j) fun i j => .int (i % j)
theorem op_modI : OpR X (binaryOp .Mod) rModI := op_mod
def rDivW : R2 := rI CDivW fun i j => .int (i / j)
theorem op_divW : OpR X (binaryOp .FloorDiv) rDivW := op_fdivW
def rIsNo : R2 := fun x y H Q => y = .non ∧ Q (.bl (decide (x = .non))) H
theorem op_isNo : OpR X (compareOp .Is) rIsNo := op_isN
def rPowI : R2 := rI CPow fun i j => .int (i ^ j.toNat)
theorem op_powI : OpR X (binaryOp .Pow) rPowI := op_pow
/-- one sign in a text -/
def rInSg : R2 := fun x y H Q => ∃ (c : Nat) (z : Str), x = .str ⟨#[c]⟩ ∧ y = .str z ∧ Q (.bl (decide (c ∈ z.cps.toList))) H
theorem op_inSg : OpR X (compareOp .In) rInSg := op_in_sign
/-- in, of any data, in a tuple or a list -/
def rInSeq (K : PySem.W.Frag) : R2 := fun x y H Q => ∃ d ds, Dp K H x d ∧ (Dp K H y (.list ds) ∨ Dp K H y (.tuple ds)) ∧ SeqAt.shaped d = true ∧ SeqAt.shaped (.list ds) = true ∧ Q (.bl (ds.any fun z => PyData.eqv z d)) H
theorem op_inSeq (hu : X.A.units + 65 < cLine) : OpR X (compareOp .In) (rInSeq X.K) := by
  intro pins s σ H x y v u Q I rx ry h
  obtain ⟨d, ds, hd, he, sd, se, q⟩ := h
  obtain ⟨as, r1⟩ := Dp.reads I d x v hd rx
  rcases he with he | he
  · obtain ⟨bs, r2⟩ := Dp.reads I (.list ds) y u he ry
    exact SeqAt.in_list_reads r2 r1 (SeqAt.canLay_of_shaped se) (SeqAt.canLay_of_shaped sd) (room_in_shaped sd hu) ⟨.bl _, H, I, rfl, q⟩
  · obtain ⟨bs, r2⟩ := Dp.reads I (.tuple ds) y u he ry
    exact SeqAt.in_tuple_reads r2 r1 (SeqAt.canLay_of_shaped se) (SeqAt.canLay_of_shaped sd) (room_in_shaped sd hu) ⟨.bl _, H, I, rfl, q⟩
def rNinSeq (K : PySem.W.Frag) : R2 := fun x y H Q => ∃ d ds, Dp K H x d ∧ (Dp K H y (.list ds) ∨ Dp K H y (.tuple ds)) ∧ SeqAt.shaped d = true ∧ SeqAt.shaped (.list ds) = true ∧ Q (.bl (!ds.any fun z => PyData.eqv z d)) H
theorem op_ninSeq (hu : X.A.units + 65 < cLine) : OpR X (compareOp .NotIn) (rNinSeq X.K) := by
  intro pins s σ H x y v u Q I rx ry h
  obtain ⟨d, ds, hd, he, sd, se, q⟩ := h
  obtain ⟨as, r1⟩ := Dp.reads I d x v hd rx
  rcases he with he | he
  · obtain ⟨bs, r2⟩ := Dp.reads I (.list ds) y u he ry
    exact SeqAt.notIn_list_reads r2 r1 (SeqAt.canLay_of_shaped se) (SeqAt.canLay_of_shaped sd) (room_in_shaped sd hu) ⟨.bl _, H, I, rfl, q⟩
  · obtain ⟨bs, r2⟩ := Dp.reads I (.tuple ds) y u he ry
    exact SeqAt.notIn_tuple_reads r2 r1 (SeqAt.canLay_of_shaped se) (SeqAt.canLay_of_shaped sd) (room_in_shaped sd hu) ⟨.bl _, H, I, rfl, q⟩
def rSl (K : PySem.W.Frag) : V → Option Int → Option Int → Hp → VK → Prop := fun x lo hi H Q => rSlL K x lo hi H Q ∨ rSlA K x lo hi H Q ∨ rSlS x lo hi H Q
theorem sl_any : SlR X (rSl X.K) := SlR.or sl_list (SlR.or sl_tupA sl_str)
def rTupleOf (K : PySem.W.Frag) : List V → Hp → VK → Prop := fun xs H Q => ∃ p ys, xs = [.ref p] ∧ ((SqL K H p ys ∧ ∀ l, H l = none → Q (.ref l) (upd H l (.tup ys))) ∨ (SqT K H p ys ∧ Q (.ref p) H))
theorem call_tupleOf : CallR X (.type "tuple") (rTupleOf X.K) := call_tuple_of
def rLenA (K : PySem.W.Frag) : List V → Hp → VK → Prop := fun xs H Q => ∃ x n, xs = [x] ∧ LenV K x H n ∧ Q (.int n) H
theorem call_lenA : CallR X (.builtin "len") (rLenA X.K) := call_len
def rIntOf : List V → Hp → VK → Prop := fun xs H Q => (∃ i, xs = [.int i] ∧ Q (.int i) H) ∨ ∃ k, xs = [.bl k] ∧ Q (.int (if k then 1 else 0)) H
theorem call_intOf : CallR X (.type "int") rIntOf := call_int1
theorem pt_tru {a : Expr} {ta : TE} (ha : PE X a ta) (he : ∀ whole, isTrue a X.env whole = (do let v ← whole; standAt a.pos; holding [v] (truthy v)) := by intro _; rfl) : PT X a (tTru X.K ta) := pt_truth ha he
end

/-! ### what these do to data -/
def fPlus : PyData → PyData → (PyData → Prop) → Prop
  | .int i, .int j, P => P (.int (i + j))
  | .str i, .str j, P => i.length + j.length ≤ 100000 ∧ P (.str (i ++ j))
  | .tuple xs, .tuple ys, P => xs.length + ys.length ≤ 100000 ∧ P (.tuple (xs ++ ys))
  | .list xs, .list ys, P => xs.length + ys.length ≤ 100000 ∧ P (.list (xs ++ ys))
  | _, _, _ => False
def fEq (a b : PyData) (P : PyData → Prop) : Prop := SeqAt.shaped a = true ∧ SeqAt.shaped b = true ∧ P (.bool (PyData.eqv a b))
def fNe (a b : PyData) (P : PyData → Prop) : Prop := SeqAt.shaped a = true ∧ SeqAt.shaped b = true ∧ P (.bool (!PyData.eqv a b))
def fLess : PyData → PyData → (PyData → Prop) → Prop
  | .int i, .int j, P => P (.bool (decide (i < j)))
  | .str i, .str j, P => P (.bool (decide (i.cps.toList < j.cps.toList)))
  | _, _, _ => False
def fI (C : Int → Int → Prop) (g : Int → Int → PyData) : PyData → PyData → (PyData → Prop) → Prop
  | .int i, .int j, P => C i j ∧ P (g i j)
  | _, _, _ => False
def fIsNo : PyData → PyData → (PyData → Prop) → Prop
  | .none, .none, P => P (.bool true)
  | _, .none, P => P (.bool false)
  | _, _, _ => False
def fInSg : PyData → PyData → (PyData → Prop) → Prop
  | .str x, .str z, P => ∃ c, x = ⟨#[c]⟩ ∧ P (.bool (decide (c ∈ z.cps.toList)))
  | _, _, _ => False
def fInSeq (a : PyData) : PyData → (PyData → Prop) → Prop
  | .list ds, P | .tuple ds, P => SeqAt.shaped a = true ∧ SeqAt.shaped (.list ds) = true ∧ P (.bool (ds.any fun z => PyData.eqv z a))
  | _, _ => False
def fNinSeq (a : PyData) : PyData → (PyData → Prop) → Prop
  | .list ds, P | .tuple ds, P => SeqAt.shaped a = true ∧ SeqAt.shaped (.list ds) = true ∧ P (.bool (!ds.any fun z => PyData.eqv z a))
  | _, _ => False
def fIx : PyData → PyData → (PyData → Prop) → Prop
  | .list ds, .int i, P | .tuple ds, .int i, P => ∃ d, atI ds i = some d ∧ P d
  | .str z, .int i, P => z.length ≤ 100000 ∧ ∃ c, atI z.cps.toList i = some c ∧ P (.str ⟨#[c]⟩)
  | _, _, _ => False
def cutD (xs : List PyData) (lo hi : Option Int) : List PyData := (xs.drop (HT.sIx xs.length 0 lo)).take (HT.sIx xs.length xs.length hi - HT.sIx xs.length 0 lo)
def fSl : PyData → Option Int → Option Int → (PyData → Prop) → Prop
  | .list ds, lo, hi, P => P (.list (cutD ds lo hi))
  | .tuple ds, lo, hi, P => P (.tuple (cutD ds lo hi))
  | .str z, lo, hi, P => z.length ≤ 100000 ∧ P (.str (cutS z lo hi))
  | _, _, _, _ => False
def fTupleOf : List PyData → (PyData → Prop) → Prop
  | [.list ds], P | [.tuple ds], P => P (.tuple ds)
  | _, _ => False
def fLenA : List PyData → (PyData → Prop) → Prop
  | [.list ds], P | [.tuple ds], P => P (.int ds.length)
  | [.str z], P => z.length ≤ 100000 ∧ P (.int z.length)
  | _, _ => False
def fIntOf : List PyData → (PyData → Prop) → Prop
  | [.int i], P => P (.int i)
  | _, _ => False
def fAll : List PyData → (PyData → Prop) → Prop
  | [.list ds], P => ∃ bs : List Bool, ds = bs.map .bool ∧ P (.bool (bs.all id))
  | _, _ => False
def fAny : List PyData → (PyData → Prop) → Prop
  | [.list ds], P => ∃ bs : List Bool, ds = bs.map .bool ∧ P (.bool (bs.any id))
  | _, _ => False
section
variable {K : PySem.W.Frag}
theorem szl {n : Nat} (h : n ≤ 100000) : n ≤ sizeLine := Nat.le_trans h (by decide)
theorem lstAt {B : Addr → Bool} {H : Hp} {p : Addr} {ds : List PyData} (h : Dp K (Hide B H) (.ref p) (.list ds)) : ∃ vs, SqL K H p vs ∧ SqL K (Hide B H) p vs ∧ DpAll K (Hide B H) vs ds := by
  cases h with
  | lst hs ha => exact ⟨_, same_hide.seq hs, hs, ha⟩
theorem tupAt {B : Addr → Bool} {H : Hp} {p : Addr} {ds : List PyData} (h : Dp K (Hide B H) (.ref p) (.tuple ds)) : ∃ vs, SqT K H p vs ∧ SqT K (Hide B H) p vs ∧ DpAll K (Hide B H) vs ds := by
  cases h with
  | tup hs ha => exact ⟨_, seqT same_hide hs, hs, ha⟩
theorem isl {G : Hp} {v : V} {ds : List PyData} (h : Dp K G v (.list ds)) : ∃ p, v = .ref p := by
  cases h with
  | lst hs ha => exact ⟨_, rfl⟩
theorem ist {G : Hp} {v : V} {ds : List PyData} (h : Dp K G v (.tuple ds)) : ∃ p, v = .ref p := by
  cases h with
  | tup hs ha => exact ⟨_, rfl⟩
theorem newL {B : Addr → Bool} {H : Hp} {p : Addr} {vs : List V} {ds : List PyData} (hp : H p = none) (hb : ∀ c, B c = true → H c ≠ none) (hd : DpAll K (Hide B H) vs ds) : Dp K (Hide B (upd H p (.lst vs))) (.ref p) (.list ds) := by
  have nb : B p = false := by
    cases e : B p with
    | false => rfl
    | true => exact absurd hp (hb p e)
  have hg : Hide B (upd H p (.lst vs)) p = some (.lst vs) := by rw [hide_f nb, upd_same]
  exact .lst (SqL.of hg) (dps_mono (new_same hp) _ _ hd)
theorem newT {B : Addr → Bool} {H : Hp} {p : Addr} {vs : List V} {ds : List PyData} (hp : H p = none) (hb : ∀ c, B c = true → H c ≠ none) (hd : DpAll K (Hide B H) vs ds) : Dp K (Hide B (upd H p (.tup vs))) (.ref p) (.tuple ds) := by
  have nb : B p = false := by
    cases e : B p with
    | false => rfl
    | true => exact absurd hp (hb p e)
  have hg : Hide B (upd H p (.tup vs)) p = some (.tup vs) := by rw [hide_f nb, upd_same]
  exact .tup (SqT.of hg) (dps_mono (new_same hp) _ _ hd)
theorem ao_plus : AO K (rPlus K) fPlus := fun B H x y a b P hb hx hy p Q q => by
  cases a <;> cases b <;> first | exact p.elim | skip
  case int.int i j => cases hx; cases hy; exact .inl ⟨i, j, rfl, rfl, q _ _ H (.inl rfl) (.int _) p⟩
  case str.str i j => cases hx; cases hy; exact .inr (.inl ⟨i, j, rfl, rfl, szl p.1, q _ _ H (.inl rfl) (.str _) p.2⟩)
  case list.list xs ys =>
    obtain ⟨c, rfl⟩ := isl hx
    obtain ⟨c', rfl⟩ := isl hy
    obtain ⟨vs, s1, _, d1⟩ := lstAt hx
    obtain ⟨ws, s2, _, d2⟩ := lstAt hy
    exact .inr (.inr (.inr ⟨c, c', vs, ws, rfl, rfl, s1, s2, szl (by rw [dps_len d1, dps_len d2]; exact p.1), fun l hl => q _ (.list (xs ++ ys)) _ (.inr ⟨l, _, hl, rfl⟩) (newL hl hb (dps_app d1 d2)) p.2⟩))
  case tuple.tuple xs ys =>
    obtain ⟨c, rfl⟩ := ist hx
    obtain ⟨c', rfl⟩ := ist hy
    obtain ⟨vs, s1, _, d1⟩ := tupAt hx
    obtain ⟨ws, s2, _, d2⟩ := tupAt hy
    refine .inr (.inr (.inl ⟨c, c', vs, ws, rfl, rfl, s1, s2, szl (by rw [dps_len d1, dps_len d2]; exact p.1), fun e => ?_, fun _ e => ?_, fun _ _ l hl => q _ (.tuple (xs ++ ys)) _ (.inr ⟨l, _, hl, rfl⟩) (newT hl hb (dps_app d1 d2)) p.2⟩))
    · have e1 : xs = [] := by have := dps_len d1; rw [e] at this; exact List.length_eq_zero_iff.mp this.symm
      subst e1
      exact q _ (.tuple ys) H (.inl rfl) hy p.2
    · have e1 : ys = [] := by have := dps_len d2; rw [e] at this; exact List.length_eq_zero_iff.mp this.symm
      subst e1
      exact q _ (.tuple xs) H (.inl rfl) hx (by simpa using p.2)
theorem ao_eq : AO K (rEqD K) fEq := fun B H x y a b P hb hx hy p Q q => ⟨a, b, dp_mono same_hide _ _ hx, dp_mono same_hide _ _ hy, p.1, p.2.1, q _ _ H (.inl rfl) (.bl _) p.2.2⟩
theorem ao_ne : AO K (rNeD K) fNe := fun B H x y a b P hb hx hy p Q q => ⟨a, b, dp_mono same_hide _ _ hx, dp_mono same_hide _ _ hy, p.1, p.2.1, q _ _ H (.inl rfl) (.bl _) p.2.2⟩
theorem ao_less : AO K rLess fLess := fun B H x y a b P hb hx hy p Q q => by
  cases a <;> cases b <;> first | exact p.elim | skip
  case int.int i j => cases hx; cases hy; exact .inl ⟨i, j, rfl, rfl, q _ _ H (.inl rfl) (.bl _) p⟩
  case str.str i j => cases hx; cases hy; exact .inr ⟨i, j, rfl, rfl, q _ _ H (.inl rfl) (.bl _) p⟩
theorem ao_I {C : Int → Int → Prop} {g : Int → Int → V} {g' : Int → Int → PyData} (hg : ∀ G i j, Dp K G (g i j) (g' i j)) : AO K (rI C g) (fI C g') := fun B H x y a b P hb hx hy p Q q => by
  cases a <;> cases b <;> first | exact p.elim | skip
  case int.int i j => cases hx; cases hy; exact ⟨i, j, rfl, rfl, p.1, q _ _ H (.inl rfl) (hg _ _ _) p.2⟩
theorem ao_I0 {g : Int → Int → V} {g' : Int → Int → PyData} (hg : ∀ G i j, Dp K G (g i j) (g' i j)) : AO K (rI0 g) (fI (fun _ _ => True) g') := fun B H x y a b P hb hx hy p Q q => by
  cases a <;> cases b <;> first | exact p.elim | skip
  case int.int i j => cases hx; cases hy; exact ⟨i, j, rfl, rfl, q _ _ H (.inl rfl) (hg _ _ _) p.2⟩
theorem ao_le : AO K rLeI (fI (fun _ _ => True) fun i j => .bool (decide (i ≤ j))) := ao_I0 fun _ _ _ => .bl _
theorem ao_gt : AO K rGtI (fI (fun _ _ => True) fun i j => .bool (decide (j < i))) := ao_I0 fun _ _ _ => .bl _
theorem ao_ge : AO K rGeI (fI (fun _ _ => True) fun i j => .bool (decide (j ≤ i))) := ao_I0 fun _ _ _ => .bl _
theorem ao_sub : AO K rSubI (fI (fun _ _ => True) fun i j => .int (i - j)) := ao_I0 fun _ _ _ => .int _
theorem ao_mul : AO K rMulI (fI CMul fun i j => .int (i * j)) := ao_I fun _ _ _ => .int _
theorem ao_mod : AO K rModI (fI (fun _ j => 0 < j) fun i j => .int (i % j)) := ao_I fun _ _ _ => .int _
theorem ao_div : AO K rDivW (fI CDivW fun i j => .int (i / j)) := ao_I fun _ _ _ => .int _
theorem ao_pow : AO K rPowI (fI CPow fun i j => .int (i ^ j.toNat)) := ao_I fun _ _ _ => .int _
theorem ao_isNo : AO K rIsNo fIsNo := fun B H x y a b P hb hx hy p Q q => by
  cases b <;> first | (exfalso; cases a <;> exact p) | skip
  cases hy
  refine ⟨rfl, ?_⟩
  cases a with
  | none => cases hx; exact q _ (.bool true) H (.inl rfl) (.bl _) p
  | bool b => cases hx; exact q _ (.bool false) H (.inl rfl) (.bl _) p
  | int b => cases hx; exact q _ (.bool false) H (.inl rfl) (.bl _) p
  | str b => cases hx; exact q _ (.bool false) H (.inl rfl) (.bl _) p
  | list b => cases hx; exact q _ (.bool false) H (.inl rfl) (.bl _) p
  | tuple b => cases hx; exact q _ (.bool false) H (.inl rfl) (.bl _) p
  | dict b => cases hx
theorem ao_inSg : AO K rInSg fInSg := fun B H x y a b P hb hx hy p Q q => by
  cases a <;> cases b <;> first | exact p.elim | skip
  case str.str i j => cases hx; cases hy; obtain ⟨c, e, p⟩ := p; subst e; exact ⟨c, j, rfl, rfl, q _ _ H (.inl rfl) (.bl _) p⟩
theorem ao_inSeq : AO K (rInSeq K) fInSeq := fun B H x y a b P hb hx hy p Q q => by
  cases b <;> first | exact p.elim | skip
  case list ds => exact ⟨a, ds, dp_mono same_hide _ _ hx, .inl (dp_mono same_hide _ _ hy), p.1, p.2.1, q _ _ H (.inl rfl) (.bl _) p.2.2⟩
  case tuple ds => exact ⟨a, ds, dp_mono same_hide _ _ hx, .inr (dp_mono same_hide _ _ hy), p.1, p.2.1, q _ _ H (.inl rfl) (.bl _) p.2.2⟩
theorem ao_ninSeq : AO K (rNinSeq K) fNinSeq := fun B H x y a b P hb hx hy p Q q => by
  cases b <;> first | exact p.elim | skip
  case list ds => exact ⟨a, ds, dp_mono same_hide _ _ hx, .inl (dp_mono same_hide _ _ hy), p.1, p.2.1, q _ _ H (.inl rfl) (.bl _) p.2.2⟩
  case tuple ds => exact ⟨a, ds, dp_mono same_hide _ _ hx, .inr (dp_mono same_hide _ _ hy), p.1, p.2.1, q _ _ H (.inl rfl) (.bl _) p.2.2⟩
theorem atI_dps {G : Hp} {vs : List V} {ds : List PyData} {i : Int} {d : PyData} (h : DpAll K G vs ds) (e : atI ds i = some d) : ∃ v, atI vs i = some v ∧ Dp K G v d := by
  unfold atI at e ⊢
  rw [dps_len h]
  cases x : ixN ds.length i with
  | none => rw [x] at e; cases e
  | some j => rw [x] at e; exact dps_at h e
theorem ao_ix : AO K (rIx K) fIx := fun B H x y a b P hb hx hy p Q q => by
  cases a <;> cases b <;> first | exact p.elim | skip
  case list.int ds i =>
    cases hy
    obtain ⟨c, rfl⟩ := isl hx
    obtain ⟨vs, s1, _, d1⟩ := lstAt hx
    obtain ⟨d, e, p⟩ := p
    obtain ⟨v, e2, hv⟩ := atI_dps d1 e
    exact .inl ⟨c, vs, i, v, rfl, rfl, s1, e2, q _ d H (.inl rfl) hv p⟩
  case tuple.int ds i =>
    cases hy
    obtain ⟨c, rfl⟩ := ist hx
    obtain ⟨vs, s1, _, d1⟩ := tupAt hx
    obtain ⟨d, e, p⟩ := p
    obtain ⟨v, e2, hv⟩ := atI_dps d1 e
    exact .inr (.inl ⟨c, vs, i, v, rfl, rfl, s1, e2, q _ d H (.inl rfl) hv p⟩)
  case str.int z i =>
    cases hy
    cases hx
    obtain ⟨hl, c, e, p⟩ := p
    exact .inr (.inr ⟨z, i, c, rfl, rfl, szl hl, e, q _ _ H (.inl rfl) (.str _) p⟩)
theorem dps_cut {G : Hp} {vs : List V} {ds : List PyData} (h : DpAll K G vs ds) (lo hi : Option Int) : DpAll K G (cutV vs lo hi) (cutD ds lo hi) := by
  unfold cutV cutD
  rw [dps_len h]
  exact dps_take _ (dps_drop _ h)
variable {as : List Sv} {M : Mm} {te : TE} {tl th : TO} {P : PyData → Mm → Prop}
theorem w_sl (h : W K te as M fun d M1 => WO K tl as M1 fun lo M2 => WO K th as M2 fun hi M3 => fSl d lo hi fun r => P r M3) : W K (tSl (rSl K) te tl th) as M P := fun S H0 σ H k r Q q =>
  h S H0 σ H k r _ fun v H1 d M1 k1 e1 b1 h2 => h2 S H0 σ H1 k1 (r.mono e1) _ fun lo H2 M2 k2 e2 h3 => h3 S H0 σ H2 k2 (r.mono (e1.trans e2)) _ fun hi H3 M3 k3 e3 p => by
    have b3 := dp_mono (e2.trans e3) _ _ b1
    have e4 := e1.trans (e2.trans e3)
    cases d <;> first | exact p.elim | skip
    case list ds =>
      obtain ⟨c, rfl⟩ := isl b3
      obtain ⟨vs, s1, _, d1⟩ := lstAt b3
      exact .inl ⟨c, vs, rfl, s1, fun l hl => q _ _ (.list (cutD ds lo hi)) M3 (ok_new k3 hl) (e4.trans (new_same hl)) (newL hl (bm_trk k3) (dps_cut d1 lo hi)) p⟩
    case tuple ds =>
      obtain ⟨c, rfl⟩ := ist b3
      obtain ⟨vs, s1, _, d1⟩ := tupAt b3
      refine .inr (.inl ⟨c, vs, rfl, s1, fun e => ?_, fun _ l hl => q _ _ (.tuple (cutD ds lo hi)) M3 (ok_new k3 hl) (e4.trans (new_same hl)) (newT hl (bm_trk k3) (dps_cut d1 lo hi)) p⟩)
      have ec : cutD ds lo hi = ds := by
        unfold cutD
        rw [dps_len d1] at e
        rw [e.1, e.2]
        simp
      have p : P (.tuple (cutD ds lo hi)) M3 := p
      rw [ec] at p
      exact q _ H3 (.tuple ds) M3 k3 e4 b3 p
    case str z =>
      cases b3
      exact .inr (.inr ⟨z, rfl, szl p.1, q _ H3 _ M3 k3 e4 (.str _) p.2⟩)
theorem ac_tupleOf : AC K (rTupleOf K) fTupleOf := fun B H xs ds P hb hd p Q q => by
  match ds, hd, p with
  | [.list es], .cons h1 .nil, p =>
    obtain ⟨c, rfl⟩ := isl h1
    obtain ⟨vs, s1, _, d1⟩ := lstAt h1
    exact ⟨c, vs, rfl, .inl ⟨s1, fun l hl => q _ (.tuple es) _ (.inr ⟨l, _, hl, rfl⟩) (newT hl hb d1) p⟩⟩
  | [.tuple es], .cons h1 .nil, p =>
    obtain ⟨c, rfl⟩ := ist h1
    obtain ⟨vs, s1, _, d1⟩ := tupAt h1
    exact ⟨c, vs, rfl, .inr ⟨s1, q _ (.tuple es) H (.inl rfl) h1 p⟩⟩
theorem ac_len : AC K (rLenA K) fLenA := fun B H xs ds P hb hd p Q q => by
  match ds, hd, p with
  | [.list es], .cons h1 .nil, p =>
    obtain ⟨c, rfl⟩ := isl h1
    obtain ⟨vs, s1, _, d1⟩ := lstAt h1
    exact ⟨.ref c, es.length, rfl, .inl ⟨vs, s1, (dps_len d1).symm⟩, q _ _ H (.inl rfl) (.int _) p⟩
  | [.tuple es], .cons h1 .nil, p =>
    obtain ⟨c, rfl⟩ := ist h1
    obtain ⟨vs, s1, _, d1⟩ := tupAt h1
    exact ⟨.ref c, es.length, rfl, .inr ⟨vs, s1, (dps_len d1).symm⟩, q _ _ H (.inl rfl) (.int _) p⟩
  | [.str z], .cons h1 .nil, p =>
    cases h1
    exact ⟨.str z, z.length, rfl, ⟨szl p.1, rfl⟩, q _ _ H (.inl rfl) (.int _) p.2⟩
theorem ac_intOf : AC K rIntOf fIntOf := fun B H xs ds P hb hd p Q q => by
  match ds, hd, p with
  | [.int i], .cons h1 .nil, p =>
    cases h1
    exact .inl ⟨i, rfl, q _ _ H (.inl rfl) (.int _) p⟩
theorem dps_bls {G : Hp} : ∀ {vs : List V} {bs : List Bool}, DpAll K G vs (bs.map .bool) → vs = bs.map .bl
  | [], [], _ => rfl
  | _ :: _, _ :: _, h => by
    cases h with
    | cons h1 h2 => cases h1; rw [dps_bls h2]; rfl
  | [], _ :: _, h => by cases h
  | _ :: _, [], h => by cases h
theorem ac_all : AC K (rAll K) fAll := fun B H xs ds P hb hd p Q q => by
  match ds, hd, p with
  | [.list es], .cons h1 .nil, p =>
    obtain ⟨c, rfl⟩ := isl h1
    obtain ⟨vs, s1, _, d1⟩ := lstAt h1
    obtain ⟨bs, e, p⟩ := p
    subst e
    rw [dps_bls d1] at s1
    exact ⟨c, bs, rfl, s1, q _ _ H (.inl rfl) (.bl _) p⟩
theorem ac_any : AC K (rAny K) fAny := fun B H xs ds P hb hd p Q q => by
  match ds, hd, p with
  | [.list es], .cons h1 .nil, p =>
    obtain ⟨c, rfl⟩ := isl h1
    obtain ⟨vs, s1, _, d1⟩ := lstAt h1
    obtain ⟨bs, e, p⟩ := p
    subst e
    rw [dps_bls d1] at s1
    exact ⟨c, bs, rfl, s1, q _ _ H (.inl rfl) (.bl _) p⟩
/-! isinstance -/
def tyD : PyData → String
  | .none => "NoneType"
  | .bool _ => "bool"
  | .int _ => "int"
  | .str _ => "str"
  | .list _ => "list"
  | .tuple _ => "tuple"
  | .dict _ => "dict"
def isD (d : PyData) (n : String) : Bool := tyD d == n || (n == "int" && tyD d == "bool")
theorem kit_tbl : (["NoneType", "bool", "int", "str", "list", "tuple", "dict"].all fun a => ["int", "bool", "str", "list", "tuple"].all fun b => kitB a b == some (a == b || (b == "int" && a == "bool"))) = true := by decide +kernel
theorem kit_isD (d : PyData) (n : String) (hn : n ∈ ["int", "bool", "str", "list", "tuple"]) : kitB (tyD d) n = some (isD d n) := by
  have h := List.all_eq_true.mp kit_tbl (tyD d) (by cases d <;> simp [tyD])
  have h2 := List.all_eq_true.mp h n hn
  exact eq_of_beq h2
theorem tyx {B : Addr → Bool} {H : Hp} {v : V} {d : PyData} (h : Dp K (Hide B H) v d) : TyX K H v (.type (tyD d)) := by
  cases h with
  | non => exact .base .non
  | bl b => exact .base (.bl b)
  | int i => exact .base (.int i)
  | str x => exact .base (.str x)
  | lst hs ha =>
    rcases same_hide.seq hs with (h | ⟨o, h⟩) | ⟨o, its, n, hk, hc, _⟩
    · exact .base (.lst h)
    · exact .base (.frz h)
    · exact .kList hk hc
  | tup hs ha =>
    rcases seqT same_hide hs with (h | ⟨o, h⟩) | ⟨o, its, n, hk, hc, _⟩
    · exact .base (.tup h)
    · exact .fTuple h
    · exact .kTuple hk hc
theorem w_isi {n : String} (hn : n ∈ ["int", "bool", "str", "list", "tuple"]) (h : W K te as M fun d M' => P (.bool (isD d n)) M') : W K (tCB (rIsi K) (tCons te (tCons (tC (.ty n)) tNil))) as M P := fun S H0 σ H k r Q q =>
  h S H0 σ H k r _ fun v H1 d M1 k1 e1 b1 p => ⟨v, .ty n, .type (tyD d), .type n, isD d n, rfl, .ty n, tyx b1, kit_ty (kit_isD d n hn), q _ H1 _ M1 k1 e1 (.bl _) p⟩
theorem w_isi2 {n m : String} (hn : n ∈ ["int", "bool", "str", "list", "tuple"]) (hm : m ∈ ["int", "bool", "str", "list", "tuple"]) (h : W K te as M fun d M' => P (.bool (isD d n || isD d m)) M') :
    W K (tCB (rIsiT K) (tCons te (tCons (tTup (tCons (tC (.ty n)) (tCons (tC (.ty m)) tNil))) tNil))) as M P := fun S H0 σ H k r Q q =>
  h S H0 σ H k r _ fun v H1 d M1 k1 e1 b1 p => by
    refine ⟨by show 2 ≤ sizeLine; decide, fun a ha => ?_⟩
    have b2 : Dp K (Hide (Bm S M1) (upd H1 a (.tup [.ty n, .ty m]))) v d := dp_mono (new_same ha) _ _ b1
    refine ⟨v, a, [.ty n, .ty m], .type (tyD d), [.type n, .type m], isD d n || isD d m, rfl, upd_same, .cons (.ty n) (.cons (.ty m) .nil), tyx b2, ?_, q _ _ _ M1 (ok_new k1 ha) (e1.trans (new_same ha)) (.bl _) p⟩
    refine kitAny_cons (kit_ty (kit_isD d n hn)) (fun e => ?_) (fun e => by rw [e]; rfl)
    rw [e, Bool.false_or]
    exact kitAny_cons (kit_ty (kit_isD d m hm)) (fun e => by rw [e]; exact kitAny_nil) (fun e => e)
/-! chains of comparisons -/
variable {ta tb tc : TE}
theorem w_chain {r r' : R2} {f f' : PyData → PyData → (PyData → Prop) → Prop} (ho : AO K r f) (ho' : AO K r' f') (h : W K ta as M fun a M1 => W K tb as M1 fun b M2 => f a b fun c => ∃ k, c = .bool k ∧ if k = true then W K tc as M2 fun e M3 => f' b e fun z => P z M3 else P (.bool false) M2) :
    W K (tChain r r' ta tb tc) as M P := fun S H0 σ H k rs Q q =>
  h S H0 σ H k rs _ fun x H1 a M1 k1 e1 b1 h2 => h2 S H0 σ H1 k1 (rs.mono e1) _ fun y H2 b M2 k2 e2 b2 p => ho _ H2 x y a b _ (bm_trk k2) (dp_mono e2 _ _ b1) b2 p _ fun v d H3 hc hd ⟨kk, ek, pk⟩ => by
    subst ek
    cases hd
    refine ⟨kk, rfl, ?_⟩
    have k3 : Ok0 K S H0 H3 M2 ∧ Same (Gh S M2 H2) (Gh S M2 H3) := by
      rcases hc with rfl | ⟨c, o, hn, rfl⟩
      · exact ⟨k2, Same.refl _⟩
      · exact ⟨ok_new k2 hn, new_same hn⟩
    cases kk with
    | false => exact q _ H3 _ M2 k3.1 ((e1.trans e2).trans k3.2) (.bl _) pk
    | true =>
      refine (show W K tc as M2 _ from pk) S H0 σ H3 k3.1 (rs.mono ((e1.trans e2).trans k3.2)) _ fun w H4 e M3 k4 e4 b4 p4 => ?_
      have e5 := ((e1.trans e2).trans k3.2).trans e4
      exact ho' _ H4 y w b e _ (bm_trk k4) (dp_mono (k3.2.trans e4) _ _ b2) b4 p4 _ fun v d H5 hc hd pd => by
        rcases hc with rfl | ⟨c, o, hn, rfl⟩
        · exact q v _ d M3 k4 e5 hd pd
        · exact q v _ d M3 (ok_new k4 hn) (e5.trans (new_same hn)) hd pd
end
end Ab

set_option Elab.async false
set_option linter.all false
set_option maxRecDepth 100000
set_option maxHeartbeats 4000000
namespace Ab
open PySem PySem.Spec PyProof.Rows L2
section
variable {K : PySem.W.Frag} {as : List Sv} {M : Mm} {te tb : TE} {ta : TA} {P : PyData → Mm → Prop} {A : AE} {p : Addr} {fl : Bool} {xs : List PyData}
/-- an item of an own list -/
theorem w_ixown {i : Nat} (hi : as[i]? = some (.own p)) (h : W K tb as M fun b M1 => ∃ fl ys, (p, fl, ys) ∈ M1 ∧ fIx (.list ys) b fun d => P d M1) : W K (tOp (rIx K) (tVar i) tb) as M P := fun S H0 σ H k r Q q => by
  obtain ⟨o, e1, e2⟩ := r.at_ i _ hi
  cases (show o = some (V.ref p) from e2)
  refine ⟨.ref p, e1, h S H0 σ H k r _ fun v H1 b M1 k1 e1 b1 ⟨fl, ys, hm, p1⟩ => ?_⟩
  obtain ⟨us, hp, hu⟩ := k1.mem _ hm
  cases b with
  | int j =>
    cases b1
    obtain ⟨d, e, p1⟩ := p1
    obtain ⟨w, e2, hw⟩ := atI_dps hu e
    exact .inl ⟨p, us, j, w, rfl, rfl, SqL.of hp, e2, q w H1 d M1 k1 e1 hw p1⟩
  | none => exact p1.elim
  | bool _ => exact p1.elim
  | str _ => exact p1.elim
  | list _ => exact p1.elim
  | tuple _ => exact p1.elim
  | dict _ => exact p1.elim
/-- own[k] = e -/
theorem ws_setown {i k : Nat} (hi : as[i]? = some (.own p)) (h : W K te as M fun d M' => ∃ fl ys, (p, fl, ys) ∈ M' ∧ k < ys.length ∧ A.nx as (mset M' p (ys.set k d))) : WS K (tAsg te (gSub (tVar i) (tC (.int (k : Int))) rSetL)) as M A := fun S H0 σ H D ok r n _ _ _ =>
  h S H0 σ H ok r _ fun v H1 d M1 k1 e1 b1 ⟨fl, ys, hm, hk, p1⟩ => by
    obtain ⟨o, e3, e2⟩ := r.at_ i _ hi
    cases (show o = some (V.ref p) from e2)
    obtain ⟨us, hp, hu⟩ := k1.mem _ hm
    have ln := dps_len hu
    refine ⟨.ref p, e3, p, us, (k : Int), k, rfl, rfl, hp, ?_, ?_⟩
    · unfold ixN
      rw [if_pos (by omega), if_pos (by show (k : Int) < (us.length : Nat); rw [ln]; exact Int.ofNat_lt.mpr hk)]
      simp
    · have ge : Gh S (mset M1 p (ys.set k d)) (upd H1 p (.lst (us.set k v))) = Gh S M1 H1 := gh_write hm
      have hset : DpAll K (Gh S M1 H1) (us.set k v) (ys.set k d) := by
        have h1 := dps_take k hu
        have h2 := dps_drop (k + 1) hu
        rw [List.set_eq_take_append_cons_drop, List.set_eq_take_append_cons_drop, if_pos (by rw [ln]; exact hk), if_pos hk]
        exact dps_app h1 (.cons b1 h2)
      exact n σ _ as _ (ok_write k1 hm hset) (by rw [ge]; exact r.mono e1) (by rw [ge]; exact e1) p1
/-- target = value -/
theorem ws_asg {g : TG} {ts : List Nat} {f : PyData → List Sv → (List Sv → Prop) → Prop} (hg : GA K g ts f) (h : W K te as M fun d M' => f d as fun as' => A.nx as' M') : WS K (tAsg te g) as M A := fun S H0 σ H D k r n _ _ _ =>
  h S H0 σ H k r _ fun v H1 d M1 k1 e1 b1 p => hg _ H1 v d σ as _ same_hide b1 (r.mono e1) p _ fun σ' as' r' _ p' => n σ' H1 as' M1 k1 r' e1 p'
theorem ws_popG {i : Nat} {d : PyData} {g : TG} {ts : List Nat} {f : PyData → List Sv → (List Sv → Prop) → Prop} (hg : GA K g ts f) (hi : as[i]? = some (.own p)) (hm : (p, fl, xs) ∈ M) (hl : xs[xs.length - 1]? = some d) (h : f d as fun as' => A.nx as' (mset M p xs.dropLast)) :
    WS K (tAsg (tBM0 K "list" rPop (tVar i)) g) as M A := fun S H0 σ H D k r n _ _ _ => by
  obtain ⟨o, e1, e2⟩ := r.at_ i _ hi
  cases (show o = some (V.ref p) from e2)
  obtain ⟨us, hp, hu⟩ := k.mem _ hm
  have hp : H p = some (.lst us) := hp
  obtain ⟨v, hv, hvd⟩ := dps_at hu hl
  have ge : Gh S (mset M p xs.dropLast) (upd H p (.lst us.dropLast)) = Gh S M H := gh_write hm
  have k2 := ok_write (ws := us.dropLast) (ys := xs.dropLast) k hm (dps_dropLast hu)
  refine ⟨.ref p, e1, tyl k hm, p, us, v, rfl, rfl, hp, by rw [dps_len hu]; exact hv, ?_⟩
  refine hg (Gh S (mset M p xs.dropLast) (upd H p (.lst us.dropLast))) _ v d σ as _ same_hide (by rw [ge]; exact hvd) (by rw [ge]; exact r) h _ fun σ' as' r' _ p' => ?_
  exact n σ' _ as' _ k2 r' (by rw [ge]; exact Same.refl _) p'
/-! a def that hands back a new list -/
def spN (pre : List PyData → Prop) (post : List PyData → List PyData → Prop) (K : PySem.W.Frag) : Sp := fun vs H Q _ => ∃ (S : Sy) (ds : List PyData), S.I H ∧ pre ds ∧ DpAll K (Hide S.B H) vs ds ∧
  ∀ (c : Addr) H' l pl, H c = none → (∀ a o, S.B a = false → H a = some o → H' a = some o) → S.I H' → H' c = some (.lst l) → DpAll K (Hide (fun a => S.B a || a == c) H') l pl → post ds pl → Q (.ref c) H'
def WN (K : PySem.W.Frag) (ts : TS) (as : List Sv) (M : Mm) (R : List PyData → Prop) : Prop := ∀ S H0 σ H (D : Ends), Ok0 K S H0 H M → Rs K (Gh S M H) σ as →
  (∀ c H' l pl M', H0 c = none → Ok0 K S H0 H' M' → H' c = some (.lst l) → DpAll K (Hide (fun a => Bm S M' a || a == c) H') l pl → R pl → D.rt (.ref c) H') → ts D σ H
theorem wn_seq {s1 s2 : TS} {R : List PyData → Prop} (h : WS K s1 as M { nx := fun as' M' => WN K s2 as' M' R, rt := fun _ _ => False, bk := fun _ _ => False, ct := fun _ _ => False }) : WN K (tSeq s1 s2) as M R := fun S H0 σ H D k r q =>
  h S H0 σ H { D with nx := s2 D } k r (fun σ' H' as' M' k' r' _ p => p S H0 σ' H' D k' r' q) (fun _ _ _ _ _ _ p => p.elim) (fun _ _ _ _ _ _ _ p => p.elim) (fun _ _ _ _ _ _ _ p => p.elim)
theorem wn_ret {R : List PyData → Prop} (h : WA K ta as M fun ss _ => ∃ ds : List PyData, ss = ds.map .dat ∧ ds.length ≤ 100000 ∧ R ds) : WN K (tRet (tLst ta)) as M R := fun S H0 σ H D k r q =>
  h S H0 σ H k r _ fun vs H1 ss M1 k1 e1 b1 ⟨ds, es, hl, p⟩ => by
    subst es
    have bd := ra_dat b1
    refine ⟨szl (by rw [dps_len bd]; exact hl), fun c hc => q c _ vs ds M1 ?_ (ok_new k1 hc) upd_same ?_ p⟩
    · cases e : H0 c with
      | none => rfl
      | some o => have z := k1.xt c o (bm_false.mp (new_hid k1 hc)).1 e; rw [hc] at z; cases z
    · refine dps_mono (fun a o e => ?_) _ _ bd
      obtain ⟨e1, e2⟩ := hide_some e
      have ne : a ≠ c := ne_of_none e2 hc
      rw [hide_f (by rw [e1, Bool.false_or]; simpa using ne), upd_ne ne]
      exact e2
variable {pre : List PyData → Prop} {postN : List PyData → List PyData → Prop} {E : XK}
theorem to_spN {t : TS} {N : List Str} {vs : List V} {H : Hp} {Q : VK} {nx : L2.St → Hp → Prop} {n : Nat} (hn : ∀ ds, pre ds → ds.length = n) (hb : ∀ ds, pre ds → WN K t (ds.map .dat ++ List.replicate (N.length - n) .no) [] (postN ds))
    (h : spN pre postN K vs H Q E) : t { nx := nx, rt := Q } (L2.start N vs) H := by
  obtain ⟨S, ds, iv, hp, hd, q⟩ := h
  have ln : vs.length = n := by rw [dps_len hd]; exact hn ds hp
  have k0 : Ok0 K S H H [] := ⟨fun _ _ _ e => e, iv, List.nodup_nil, (fun z hz => by cases hz), (fun z hz => by cases hz)⟩
  have hg : Gh S [] H = Hide S.B H := by unfold Gh; rw [bm_nil]
  have r0 : Rs K (Gh S [] H) (L2.start N vs) (ds.map .dat ++ List.replicate (N.length - n) .no) := by
    unfold L2.start
    rw [ln, hg]
    exact ra_start _ (dat_ra hd)
  refine hb ds hp S H (L2.start N vs) H _ k0 r0 fun c H' l pl M' hc k' hl hd' p => q c H' l pl hc k'.xt k'.inv hl (dps_mono (fun a o e => ?_) _ _ hd') p
  obtain ⟨e1, e2⟩ := hide_some e
  rw [Bool.or_eq_false_iff] at e1
  rw [hide_f (by rw [(bm_false.mp e1.1).1, e1.2]; rfl)]
  exact e2
theorem ws_setN {i : Nat} (h : WA K ta as M fun ss M1 => ∃ ds : List PyData, ss = ds.map .dat ∧ pre ds ∧ ∀ c pl, (∀ q ∈ M1, q.1 ≠ c) → postN ds pl → A.nx (as.set i (.own c)) ((c, true, pl) :: M1)) : WS K (tAsg (tCall (spN pre postN K) [] E ta) (gName i)) as M A := fun S H0 σ H D k r n _ _ _ =>
  h S H0 σ H k r _ fun vs H1 ss M1 k1 e1 b1 ⟨ds, es, hp, cont⟩ => by
    subst es
    rw [List.append_nil]
    refine ⟨syAt S M1 H1 fun z hz => by obtain ⟨us, a, _⟩ := k1.mem z hz; rw [a]; simp, ds, ⟨k1.inv, fun _ _ => rfl⟩, hp, ra_dat b1, fun c H' l pl hc xt iv hl hd pd => ?_⟩
    have nb := bm_false.mp (new_hid k1 hc)
    have hbm : Bm S ((c, true, pl) :: M1) = fun a => Bm S M1 a || a == c := by
      funext a
      unfold Bm
      rw [List.any_cons]
      have : ((c, true, pl).1 == a) = (a == c) := by
        show (c == a) = (a == c)
        rw [Bool.eq_iff_iff]; simp; exact ⟨fun e => e.symm, fun e => e.symm⟩
      rw [this]
      cases S.B a <;> cases (a == c) <;> simp
    have sm : Same (Gh S M1 H1) (Gh S ((c, true, pl) :: M1) H') := fun a o e => by
      obtain ⟨e1, e2⟩ := hide_some e
      have ne : a ≠ c := ne_of_none e2 hc
      unfold Gh
      rw [hbm, hide_f (by rw [e1, Bool.false_or]; simpa using ne)]
      exact xt a o e1 e2
    have k2 : Ok0 K S H0 H' ((c, true, pl) :: M1) := by
      refine ⟨fun a o e3 e4 => ?_, iv.1, ?_, fun z hz => ?_, fun z hz => ?_⟩
      · have e5 := k1.xt a o e3 e4
        by_cases e6 : Bm S M1 a = false
        · exact xt a o e6 e5
        · have e7 : Bm S M1 a = true := by simpa using e6
          rcases (Bool.or_eq_true _ _).mp e7 with e | e
          · rw [e3] at e; cases e
          · obtain ⟨z, hz, y⟩ := List.any_eq_true.mp e
            have y : z.1 = a := by simpa using y
            rw [← y, iv.2 z hz, y]
            exact e5
      · rw [List.map_cons, List.nodup_cons]
        refine ⟨fun z => ?_, k1.nd⟩
        obtain ⟨q, hq, e⟩ := List.mem_map.mp z
        exact nb.2 q hq e
      · rcases List.mem_cons.mp hz with rfl | hz
        · refine ⟨fun _ => ⟨nb.1, ?_⟩, fun z => by cases z⟩
          cases e : H0 c with
          | none => rfl
          | some o => have z := k1.xt c o nb.1 e; rw [hc] at z; cases z
        · exact k1.loc z hz
      · rcases List.mem_cons.mp hz with rfl | hz
        · exact ⟨l, hl, by rw [hbm]; exact hd⟩
        · obtain ⟨us, a, b⟩ := k1.mem z hz
          exact ⟨us, by rw [iv.2 z hz]; exact a, dps_mono sm _ _ b⟩
    exact n _ H' (as.set i (.own c)) _ k2 (((r.mono e1).mono sm).set i (s := .own c) rfl) (e1.trans sm) (cont c pl nb.2 pd)
theorem spN_len {vs : List V} {H : Hp} {Q : VK} {n : Nat} (hn : ∀ ds, pre ds → ds.length = n) (h : spN pre postN K vs H Q E) : vs.length = n := by
  obtain ⟨S, ds, _, hp, hd, _⟩ := h
  rw [dps_len hd]; exact hn ds hp
end

/-! ### a def that may be called -/
structure Cal (P : Program) (w : World) (K : PySem.W.Frag) (mg : Str → Option Value) (base : Heap) (k : Nat) (x : Str) (ps : List Str) (sp : Sp) : Prop where
  ex : ∃ f fd, FnOk P w K mg base CX0 k f fd ps sp ∧ mg x = some (.ref f) ∧ PySem.W.keepIn K (.ref f) = true ∧ Binds K fd ps []
/-- a def's text that stands behind the top -/
structure Dfn (K : PySem.W.Frag) (mg : Str → Option Value) (x : Str) (st : Stmt) (ps : List Str) : Prop where
  ex : ∃ f fd, Fun K x x st f fd ∧ mg x = some (.ref f) ∧ Binds K fd ps []
section
variable {P : Program} {w : World} {K : PySem.W.Frag} {mg : Str → Option Value} {base : Heap}
theorem Cal.mono {j k : Nat} {x : Str} {ps : List Str} {sp : Sp} (c : Cal P w K mg base j x ps sp) (h : j ≤ k) : Cal P w K mg base k x ps sp := by
  obtain ⟨f, fd, a, b, d, e⟩ := c.ex
  exact ⟨f, fd, a.mono h, b, d, e⟩
theorem pe_cal {X : Cx} {k : Nat} {x : Str} {ps : List Str} {sp : Sp} {p pos : Pos} {e : Expr} {es : List Expr} {t : TA} (c : Cal X.prog X.w X.K X.mg X.base k x ps sp) (hr : Room k X.A) (ha : PA X (e :: es) t) (hg : Gl X x := by rfl) (hdb : (x == ("__debug__" : Str)) = false := by decide)
    (he : starEach (e :: es) X.env = (false, eval e X.env) :: starEach es X.env := by rfl) (hpl : (backTo pos (starEach es X.env)).any (·.1) = false := by rfl) : PE X (.Call (.Name x p) (e :: es) [] pos) (tCall sp [] E0 t) := by
  obtain ⟨f, fd, F, hm, hk, hb⟩ := c.ex
  exact pe_call F hr hg hm hk hb .nil pass0 ha hdb he hpl
/-- the rule for a def -/
theorem Dfn.ok {x : Str} {st : Stmt} {N ps : List Str} {k : Nat} {sp : Sp} (F : Dfn K mg x st ps) (S : FnScope N ps (defScope st)) (len : ∀ vs H Q E, sp vs H Q E → vs.length = ps.length)
    (hbody : ∀ (f : Addr) (cdv : Value) (A : Around) (outer : List Env) (s : Shared) (H : Hp) (vs : List V) (Q : VK) (E : XK), Room k (A.deeper (envOfC x (defScope st) s.heap.objs.size f cdv)) → sp vs H Q E →
      ∃ t, PSs (cxOf CX0 P w K mg base N x (defScope st) f cdv A outer s H E).nox (defBody st) t ∧ t { nx := fun _ H' => Q .non H', rt := Q } (L2.start N vs) H) : Cal P w K mg base (k + 1) x ps sp := by
  obtain ⟨f, fd, a, b, c⟩ := F.ex
  exact ⟨f, fd, a.ok S len (fun cdv A outer s H vs Q E hr h => hbody f cdv A outer s H vs Q E hr h), b, a.kp, c⟩
end
end Ab

set_option Elab.async false
set_option linter.all false
set_option maxRecDepth 100000
set_option maxHeartbeats 4000000
namespace Ab
open PySem PySem.Spec PyProof.Rows L2
section
variable {α : Type} {Q : List PyData → Prop} {a b c : PyData}
theorem m0 (h : Q []) : ∃ ds : List PyData, ([] : List Sv) = ds.map .dat ∧ Q ds := ⟨[], rfl, h⟩
theorem m1 (h : Q [a]) : ∃ ds : List PyData, [Sv.dat a] = ds.map .dat ∧ Q ds := ⟨[a], rfl, h⟩
theorem m2 (h : Q [a, b]) : ∃ ds : List PyData, [Sv.dat a, .dat b] = ds.map .dat ∧ Q ds := ⟨[a, b], rfl, h⟩
theorem m3 (h : Q [a, b, c]) : ∃ ds : List PyData, [Sv.dat a, .dat b, .dat c] = ds.map .dat ∧ Q ds := ⟨[a, b, c], rfl, h⟩
theorem m5 {d e : PyData} (h : Q [a, b, c, d, e]) : ∃ ds : List PyData, [Sv.dat a, .dat b, .dat c, .dat d, .dat e] = ds.map .dat ∧ Q ds := ⟨[a, b, c, d, e], rfl, h⟩
theorem exb {x : Bool} {R : Bool → Prop} (h : R x) : ∃ b, PyData.bool x = .bool b ∧ R b := ⟨x, rfl, h⟩
theorem exi {x : Int} {R : Int → Prop} (h : R x) : ∃ b, PyData.int x = .int b ∧ R b := ⟨x, rfl, h⟩
theorem exs {x : Str} {R : Str → Prop} (h : R x) : ∃ b, PyData.str x = .str b ∧ R b := ⟨x, rfl, h⟩
theorem exl {xs : List PyData} {R : List PyData → Prop} (h : R xs) : ∃ ys, PyData.list xs = .list ys ∧ R ys := ⟨xs, rfl, h⟩
theorem exql {xs : List PyData} {R : List PyData → Prop} (h : R xs) : ∃ ys, (PyData.list xs = .list ys ∨ PyData.list xs = .tuple ys) ∧ R ys := ⟨xs, .inl rfl, h⟩
theorem exqt {xs : List PyData} {R : List PyData → Prop} (h : R xs) : ∃ ys, (PyData.tuple xs = .list ys ∨ PyData.tuple xs = .tuple ys) ∧ R ys := ⟨xs, .inr rfl, h⟩
theorem callF {f : List PyData → Option PyData} {ds : List PyData} {v : PyData} {R : PyData → Prop} (e : f ds = some v) (h : R v) : (∃ d, f ds = some d) ∧ ∀ d, f ds = some d → R d := ⟨⟨v, e⟩, fun d e2 => by rw [e] at e2; cases e2; exact h⟩
theorem iteK {c : Bool} {A B : Prop} (e : c = true) (h : A) : if c = true then A else B := by rw [if_pos e]; exact h
theorem iteN {c : Bool} {A B : Prop} (e : c = false) (h : B) : if c = true then A else B := by rw [e]; exact h
theorem iteB {c : Bool} {A B : Prop} (h1 : c = true → A) (h2 : c = false → B) : if c = true then A else B := by
  cases c with
  | true => exact h1 rfl
  | false => exact h2 rfl
theorem feq {P : PyData → Prop} (x : SeqAt.shaped a = true) (y : SeqAt.shaped b = true) (z : P (.bool (PyData.eqv a b))) : fEq a b P := ⟨x, y, z⟩
theorem fne {P : PyData → Prop} (x : SeqAt.shaped a = true) (y : SeqAt.shaped b = true) (z : P (.bool (!PyData.eqv a b))) : fNe a b P := ⟨x, y, z⟩
theorem fixt {ds : List PyData} {i : Int} {P : PyData → Prop} (e : atI ds i = some a) (h : P a) : fIx (.tuple ds) (.int i) P := ⟨a, e, h⟩
theorem fixl {ds : List PyData} {i : Int} {P : PyData → Prop} (e : atI ds i = some a) (h : P a) : fIx (.list ds) (.int i) P := ⟨a, e, h⟩
theorem fslt {ds es : List PyData} {lo hi : Option Int} {P : PyData → Prop} (e : cutD ds lo hi = es) (h : P (.tuple es)) : fSl (.tuple ds) lo hi P := by subst e; exact h
theorem fsll {ds es : List PyData} {lo hi : Option Int} {P : PyData → Prop} (e : cutD ds lo hi = es) (h : P (.list es)) : fSl (.list ds) lo hi P := by subst e; exact h
theorem flent {ds : List PyData} {P : PyData → Prop} (h : P (.int ds.length)) : fLenA [.tuple ds] P := h
theorem flenl {ds : List PyData} {P : PyData → Prop} (h : P (.int ds.length)) : fLenA [.list ds] P := h
theorem flens {z : Str} {P : PyData → Prop} (hz : z.length ≤ 100000) (h : P (.int z.length)) : fLenA [.str z] P := ⟨hz, h⟩
theorem fii {C : Int → Int → Prop} {g : Int → Int → PyData} {i j : Int} {P : PyData → Prop} (c : C i j) (h : P (g i j)) : fI C g (.int i) (.int j) P := ⟨c, h⟩
theorem fpi {i j : Int} {P : PyData → Prop} (h : P (.int (i + j))) : fPlus (.int i) (.int j) P := h
theorem fpt {xs ys : List PyData} {P : PyData → Prop} (l : xs.length + ys.length ≤ 100000) (h : P (.tuple (xs ++ ys))) : fPlus (.tuple xs) (.tuple ys) P := ⟨l, h⟩
theorem fpl {xs ys : List PyData} {P : PyData → Prop} (l : xs.length + ys.length ≤ 100000) (h : P (.list (xs ++ ys))) : fPlus (.list xs) (.list ys) P := ⟨l, h⟩
theorem flti {i j : Int} {P : PyData → Prop} (h : P (.bool (decide (i < j)))) : fLess (.int i) (.int j) P := h
theorem fint {i : Int} {P : PyData → Prop} (h : P (.int i)) : fIntOf [.int i] P := h
theorem ftupl {ds : List PyData} {P : PyData → Prop} (h : P (.tuple ds)) : fTupleOf [.list ds] P := h
theorem ftupt {ds : List PyData} {P : PyData → Prop} (h : P (.tuple ds)) : fTupleOf [.tuple ds] P := h
theorem fall {bs : List Bool} {ds : List PyData} {P : PyData → Prop} (e : ds = bs.map .bool) (h : P (.bool (bs.all id))) : fAll [.list ds] P := ⟨bs, e, h⟩
theorem fany {bs : List Bool} {ds : List PyData} {P : PyData → Prop} (e : ds = bs.map .bool) (h : P (.bool (bs.any id))) : fAny [.list ds] P := ⟨bs, e, h⟩
/-- a comprehension without tests over one name: each item's value by a function -/
theorem w_map {K : PySem.W.Frag} {wi : TI} {te : TE} {i : Nat} {vs : List Nat} {as : List Sv} {M : Mm} {P : PyData → Mm → Prop} (hi : i ∈ vs) (h : WI K wi as M fun xs M1 => ∃ g : PyData → PyData, xs.length ≤ 100000 ∧
    (∀ x ∈ xs, W K te ((awipe as vs).set i (.dat x)) M1 fun y M2 => y = g x ∧ M2 = M1) ∧ P (.list (xs.map g)) M1) : W K (tLc wi (gName i) tYes te vs) as M P := by
  refine w_lc ga_name (by simpa using hi) fun S H0 σ H k r R q => h S H0 σ H k r R fun J H' xs M' k' e' it ⟨g, hl, hx, hp⟩ => q J H' xs M' k' e' it ⟨fun n acc M2 => acc = (xs.take n).map g ∧ M2 = M', ⟨rfl, rfl⟩, fun n x acc Mi hn ⟨ea, em⟩ => ?_, fun acc M2 ⟨ea, em⟩ => by rw [ea, em, List.take_length]; exact hp⟩
  subst ea em
  intro S2 H02 σ2 H2 k2 r2 Q2 q2
  refine q2 true H2 Mi k2 (Same.refl _) ?_
  show W K te _ Mi _
  refine (hx x (List.mem_of_getElem? hn)).imp fun y M3 ⟨ey, em⟩ => ?_
  subst ey em
  have hlt := (List.getElem?_eq_some_iff.mp hn).1
  refine ⟨by rw [List.length_map, List.length_take]; omega, ?_, rfl⟩
  rw [List.take_add_one, hn, List.map_append]
  rfl
/-- .. over a couple of names -/
theorem w_map2 {K : PySem.W.Frag} {wi : TI} {te : TE} {i j : Nat} {vs : List Nat} {as : List Sv} {M : Mm} {P : PyData → Mm → Prop} (hi : i ∈ vs) (hj : j ∈ vs) (h : WI K wi as M fun xs M1 => ∃ g : PyData → PyData, xs.length ≤ 100000 ∧
    (∀ x ∈ xs, ∃ a b, (x = .tuple [a, b] ∨ x = .list [a, b]) ∧ W K te (((awipe as vs).set i (.dat a)).set j (.dat b)) M1 fun y M2 => y = g x ∧ M2 = M1) ∧ P (.list (xs.map g)) M1) : W K (tLc wi (gSeq K 2 (gCons (gName i) (gCons (gName j) gNil))) tYes te vs) as M P := by
  refine w_lc ga_pair (by intro t ht; simp at ht; rcases ht with rfl | rfl <;> assumption) fun S H0 σ H k r R q => h S H0 σ H k r R fun J H' xs M' k' e' it ⟨g, hl, hx, hp⟩ => q J H' xs M' k' e' it ⟨fun n acc M2 => acc = (xs.take n).map g ∧ M2 = M', ⟨rfl, rfl⟩, fun n x acc Mi hn ⟨ea, em⟩ => ?_, fun acc M2 ⟨ea, em⟩ => by rw [ea, em, List.take_length]; exact hp⟩
  subst ea em
  obtain ⟨a, b, ex, hw⟩ := hx x (List.mem_of_getElem? hn)
  refine ⟨a, b, ex, ?_⟩
  intro S2 H02 σ2 H2 k2 r2 Q2 q2
  refine q2 true H2 Mi k2 (Same.refl _) ?_
  show W K te _ Mi _
  refine hw.imp fun y M3 ⟨ey, em⟩ => ?_
  subst ey em
  have hlt := (List.getElem?_eq_some_iff.mp hn).1
  refine ⟨by rw [List.length_map, List.length_take]; omega, ?_, rfl⟩
  rw [List.take_add_one, hn, List.map_append]
  rfl
end
end Ab
namespace Ab
open PySem PySem.Spec PyProof.Rows L2
section
variable {X : Cx} {K : PySem.W.Frag} {k : Nat}
theorem k_plus (e : X.K = K) : OpR X (binaryOp .Add) (rPlus K) := e ▸ op_plus
theorem k_eq (e : X.K = K) (hr : Room k X.A) : OpR X (compareOp .Eq) (rEqD K) := e ▸ op_eqD hr.units
theorem k_ne (e : X.K = K) (hr : Room k X.A) : OpR X (compareOp .NotEq) (rNeD K) := e ▸ op_neD hr.units
theorem hu65 {A : Around} (hr : Room k A) : A.units + 65 < cLine := by have := hr.un; omega
theorem k_in (e : X.K = K) (hr : Room k X.A) : OpR X (compareOp .In) (rInSeq K) := e ▸ op_inSeq (hu65 hr)
theorem k_nin (e : X.K = K) (hr : Room k X.A) : OpR X (compareOp .NotIn) (rNinSeq K) := e ▸ op_ninSeq (hu65 hr)
theorem k_ix (e : X.K = K) : IxR X (rIx K) := e ▸ ix_seq
theorem k_sl (e : X.K = K) : SlR X (rSl K) := e ▸ sl_any
theorem k_tuple (e : X.K = K) : CallR X (.type "tuple") (rTupleOf K) := e ▸ call_tupleOf
theorem k_len (e : X.K = K) : CallR X (.builtin "len") (rLenA K) := e ▸ call_lenA
theorem k_all (e : X.K = K) (hc : X.calm = true) : CallR X (.builtin "all") (rAll K) := e ▸ cr_all hc
theorem k_any (e : X.K = K) (hc : X.calm = true) : CallR X (.builtin "any") (rAny K) := e ▸ cr_any hc
theorem k_isi (e : X.K = K) : CallR X (.builtin "isinstance") (rIsi K) := e ▸ call_isi
theorem k_isiT (e : X.K = K) : CallR X (.builtin "isinstance") (rIsiT K) := e ▸ call_isiT
theorem k_seq {tg l : Expr} {tl : TE} (e : X.K = K) (h : PE X l tl) : PI X tg l (iSeq K tl) := e ▸ pi_seq h
theorem k_rev {tg l : Expr} {te : TE} {p pos : Pos} (e : X.K = K) (hg : Gl X "reversed") (hm : X.mg "reversed" = none) (h : PE X l te) (hs : starEach [l] X.env = (false, eval l X.env) :: starEach [] X.env := by rfl) : PI X tg (.Call (.Name "reversed" p) [l] [] pos) (RT.iRevA K te) := e ▸ RT.pi_revA hg hm h hs
theorem k_tru {a : Expr} {ta : TE} (e : X.K = K) (ha : PE X a ta) (he : ∀ whole, isTrue a X.env whole = (do let v ← whole; standAt a.pos; holding [v] (truthy v)) := by intro _; rfl) : PT X a (tTru K ta) := e ▸ pt_tru ha he
theorem k_tup {es : List Expr} {kk : Nat} {t : TGs} {n : Nat} {pos : Pos} (e : X.K = K) (hc : X.calm = true) (h : PGs X es t) (hn : (assignEach es X.env).length = n := by rfl) (hst : (assignEach es X.env).findIdx? (·.1) = none := by rfl) : PG X (.Tuple es kk pos) (gSeq K n t) := e ▸ pg_seq hc h hn hst
theorem pe_gstr {x z : Str} {pos : Pos} (hg : Gl X x) (h : ∃ t, X.mg x = some (.str z t)) (hd : (x == ("__debug__" : Str)) = false := by decide) : PE X (.Name x pos) (tC (.str z)) := by
  obtain ⟨t, h⟩ := h
  exact pe_glob hg h ⟨t, rfl⟩ hd
theorem pe_gint {x : Str} {z : Int} {pos : Pos} (hg : Gl X x) (h : ∃ t, X.mg x = some (.int z t)) (hd : (x == ("__debug__" : Str)) = false := by decide) : PE X (.Name x pos) (tC (.int z)) := by
  obtain ⟨t, h⟩ := h
  exact pe_glob hg h ⟨t, rfl⟩ hd
theorem pe_gref {x : Str} {a : Addr} {pos : Pos} (hg : Gl X x) (h : X.mg x = some (.ref a)) (hd : (x == ("__debug__" : Str)) = false := by decide) : PE X (.Name x pos) (tC (.ref a)) := pe_glob (v := .ref a) hg h rfl hd
end
abbrev spF (f : List PyData → Option PyData) (K : PySem.W.Frag) : Sp := spP (fun ds => ∃ d, f ds = some d) (fun ds d => f ds = some d) K
end Ab
namespace Ab
open PySem PySem.Spec PyProof.Rows L2
section
variable {K : PySem.W.Frag} {wi : TI} {te : TE} {tt : TT} {i j : Nat} {vs : List Nat} {as : List Sv} {M : Mm} {P : PyData → Mm → Prop}
/-- a comprehension with a test, over one name -/
theorem w_filt (hi : i ∈ vs) (h : WI K wi as M fun xs M1 => ∃ (b : PyData → Bool) (g : PyData → PyData), xs.length ≤ 100000 ∧
    (∀ x ∈ xs, WT K tt ((awipe as vs).set i (.dat x)) M1 fun c M2 => c = b x ∧ M2 = M1 ∧ (b x = true → W K te ((awipe as vs).set i (.dat x)) M1 fun y M3 => y = g x ∧ M3 = M1)) ∧ P (.list ((xs.filter b).map g)) M1) : W K (tLc wi (gName i) tt te vs) as M P := by
  refine w_lc ga_name (by simpa using hi) fun S H0 σ H k r R q => h S H0 σ H k r R fun J H' xs M' k' e' it ⟨b, g, hl, hx, hp⟩ => q J H' xs M' k' e' it ⟨fun n acc M2 => acc = ((xs.take n).filter b).map g ∧ M2 = M', ⟨rfl, rfl⟩, fun n x acc Mi hn ⟨ea, em⟩ => ?_, fun acc M2 ⟨ea, em⟩ => by rw [ea, em, List.take_length]; exact hp⟩
  subst ea em
  intro S2 H02 σ2 H2 k2 r2 Q2 q2
  refine hx x (List.mem_of_getElem? hn) S2 H02 σ2 H2 k2 r2 Q2 fun c H3 M3 k3 e3 ⟨ec, em, hw⟩ => q2 c H3 M3 k3 e3 ?_
  subst ec em
  have hlt := (List.getElem?_eq_some_iff.mp hn).1
  have hfl : ((xs.take n).filter b).length ≤ n := Nat.le_trans (List.length_filter_le _ _) (by rw [List.length_take]; omega)
  have ht : xs.take (n + 1) = xs.take n ++ [x] := by rw [List.take_add_one, hn]; rfl
  cases hb : b x with
  | true =>
    refine iteT ?_
    refine (hw hb).imp fun y M4 ⟨ey, em⟩ => ?_
    subst ey em
    refine ⟨by rw [List.length_map]; omega, ?_, rfl⟩
    rw [ht, List.filter_append, List.map_append]
    simp [hb]
  | false =>
    refine iteF ?_
    refine ⟨?_, rfl⟩
    rw [ht, List.filter_append, List.map_append]
    simp [hb]
theorem w_filt2 (hi : i ∈ vs) (hj : j ∈ vs) (h : WI K wi as M fun xs M1 => ∃ (b : PyData → Bool) (g : PyData → PyData), xs.length ≤ 100000 ∧
    (∀ x ∈ xs, ∃ u v, (x = .tuple [u, v] ∨ x = .list [u, v]) ∧ WT K tt (((awipe as vs).set i (.dat u)).set j (.dat v)) M1 fun c M2 => c = b x ∧ M2 = M1 ∧ (b x = true → W K te (((awipe as vs).set i (.dat u)).set j (.dat v)) M1 fun y M3 => y = g x ∧ M3 = M1)) ∧
    P (.list ((xs.filter b).map g)) M1) : W K (tLc wi (gSeq K 2 (gCons (gName i) (gCons (gName j) gNil))) tt te vs) as M P := by
  refine w_lc ga_pair (by intro t ht; simp at ht; rcases ht with rfl | rfl <;> assumption) fun S H0 σ H k r R q => h S H0 σ H k r R fun J H' xs M' k' e' it ⟨b, g, hl, hx, hp⟩ => q J H' xs M' k' e' it ⟨fun n acc M2 => acc = ((xs.take n).filter b).map g ∧ M2 = M', ⟨rfl, rfl⟩, fun n x acc Mi hn ⟨ea, em⟩ => ?_, fun acc M2 ⟨ea, em⟩ => by rw [ea, em, List.take_length]; exact hp⟩
  subst ea em
  obtain ⟨u, v, ex, hxx⟩ := hx x (List.mem_of_getElem? hn)
  refine ⟨u, v, ex, ?_⟩
  intro S2 H02 σ2 H2 k2 r2 Q2 q2
  refine hxx S2 H02 σ2 H2 k2 r2 Q2 fun c H3 M3 k3 e3 ⟨ec, em, hw⟩ => q2 c H3 M3 k3 e3 ?_
  subst ec em
  have hlt := (List.getElem?_eq_some_iff.mp hn).1
  have hfl : ((xs.take n).filter b).length ≤ n := Nat.le_trans (List.length_filter_le _ _) (by rw [List.length_take]; omega)
  have ht : xs.take (n + 1) = xs.take n ++ [x] := by rw [List.take_add_one, hn]; rfl
  cases hb : b x with
  | true =>
    refine iteT ?_
    refine (hw hb).imp fun y M4 ⟨ey, em⟩ => ?_
    subst ey em
    refine ⟨by rw [List.length_map]; omega, ?_, rfl⟩
    rw [ht, List.filter_append, List.map_append]
    simp [hb]
  | false =>
    refine iteF ?_
    refine ⟨?_, rfl⟩
    rw [ht, List.filter_append, List.map_append]
    simp [hb]
end
end Ab

set_option Elab.async false
set_option linter.all false
set_option maxRecDepth 100000
set_option maxHeartbeats 4000000
/-! An exception that leaves from inside a list comprehension. -/
namespace Ab
open PySem PySem.Spec PyProof.Rows L2
/-- what is asked at a comprehension's end, its frame being known -/
def cPost (M : Model) (A : Around) (E : Value → Shared → Prop) (Q : Value → Shared → Prop) (acc : Value) (C : Addr) (fr : Option Addr) : Result → Shared → Prop
  | .ok _, s' => ∃ m, s'.heap.Ns C m ∧ ∀ h', Heap.SameBut C s'.heap h' → Q acc { s' with heap := h' }
  | .error x, s' => (∃ m, s'.heap.Ns C m) ∧ ∀ h', Heap.SameBut C s'.heap h' → ∀ ce : Env, ce.frame = fr → wpAny M A (passOn "comprehension.variables-let-go" x ce : Sem Value) (fun _ _ => False) E { s' with heap := h' }
section
variable {M : Model} {A : Around} {E : Value → Shared → Prop} {s : Shared} {env : Env}
theorem comp_freeX {e : Expr} {scope : Scope} {pos : Pos} {newAcc first : Sem Value} {g : Comprehension} {gs : List Comprehension} {cl : List (Str × Addr)} {Q : Value → Shared → Prop} (h1 : clausesOf e = g :: gs) (h2 : ∀ x, foldedSetIterable g.iter env x = pure x) (h3 : closureFor scope env = pure cl)
    (h4 : scope.kind = .function) (h5 : ∀ x ∈ scope.names, x.2 = .local → scope.names.lookup x.1 = some .local)
    (h : wpAny M A first (fun x sa => wpAny M A (pyIter x) (fun it sb => wpAny M A newAcc (fun acc sc => wpAny M A (newFunctionEnv scope env.globals cl [] env.qual none .none (some env)) (fun ce sd =>
      codeAny M A (.compStart e 0 it acc { ce with scope := relabel scope env }) (cPost M A E Q acc ce.locals ce.frame) sd) E sc) E sb) E sa) E s) : wpAny M A (comprehension e scope env pos newAcc false first none) Q E s := by
  unfold comprehension
  rw [h3, h1]
  refine wpAny_bind (wpAny_mono h (fun x sa ha => wpAny_bind (wpAny_standAt (wpAny_bind (wpAny_of_eq (h2 x) (wpAny_bind (wpAny_holding (wpAny_mono ha (fun it sb hb =>
    wpAny_standIf (wpAny_bind (wpAny_mono hb (fun acc sc hc => wpAny_bind (wpAny_pure (wpAny_bind (wpAny_mono hc (fun ce sd hd => ?_) fun _ _ z => z)))) fun _ _ z => z)))
      fun _ _ z => z))))))) fun _ _ z => z)
  dsimp only
  have hv : ∀ x ∈ (scope.names.filter fun x => (x.2 == .local || x.2 == .cell) && x.1 != (".0" : Str)).reverse, x.2 = .local → Env.kindOf { ce with scope := relabel scope env } x.1 = some .local := fun x hx hl => lookup_relabel_local (h5 x (List.mem_filter.mp (List.mem_reverse.mp hx)).1 hl)
  refine wpAny_holding (wpAny_bind (wpAny_attempt (wpAny_holding (wpAny_run (codeAny_mono hd fun r s' hr => ?_)))))
  cases r with
  | ok f =>
    obtain ⟨m, hn, hr⟩ := (show ∃ m, s'.heap.Ns ce.locals m ∧ ∀ h', Heap.SameBut ce.locals s'.heap h' → Q acc { s' with heap := h' } from hr)
    exact wpAny_bind (wpAny_holding (wpAny_comp_letGo (cenv := { ce with scope := relabel scope env }) h4 _ s' m hv hn fun h' m' _ hs' => wpAny_pure (hr h' hs')))
  | error x =>
    obtain ⟨⟨m, hn⟩, hr⟩ := (show (∃ m, s'.heap.Ns ce.locals m) ∧ ∀ h', Heap.SameBut ce.locals s'.heap h' → ∀ c : Env, c.frame = ce.frame → wpAny M A (passOn "comprehension.variables-let-go" x c : Sem Value) (fun _ _ => False) E { s' with heap := h' } from hr)
    exact wpAny_bind (wpAny_holding (wpAny_comp_letGo (cenv := { ce with scope := relabel scope env }) h4 _ s' m hv hn fun h' m' _ hs' => wpAny_mono (hr h' hs' _ rfl) (fun _ _ f => f.elim) fun _ _ y => y))
end
theorem noteFrame_fr {e : Value} {a b : Env} (h : a.frame = b.frame) : noteFrame e a = noteFrame e b := by
  unfold noteFrame PySem.frameOf
  rw [h]
theorem ff_but {base B h h' : Heap} {C : Addr} : ∀ {l : List Env}, h.FunFrames base l → (∀ L ∈ frs l, L ≠ C ∧ B.get? L = none) → (∀ b, b ≠ C → h'.get? b = h.get? b) → h'.FunFrames B l
  | [], _, _, _ => trivial
  | env :: l, x, hn, k => by
    obtain ⟨hk, ⟨L, o, hf, _, ho, hd⟩, hr⟩ := x
    have hL := hn L (List.mem_filterMap.mpr ⟨env, List.mem_cons_self, hf⟩)
    exact ⟨hk, ⟨L, o, hf, hL.2, (k L hL.1).trans ho, hd⟩, ff_but hr (fun b hb => by
      obtain ⟨e, he, q⟩ := List.mem_filterMap.mp hb
      exact hn b (List.mem_filterMap.mpr ⟨e, List.mem_cons_of_mem _ he, q⟩)) k⟩
theorem hide1 {h : Heap} {C b : Addr} {o : Obj} (e : (PySem.W.hideAll h [C]).get? b = some o) : b ≠ C ∧ h.get? b = some o := by
  refine ⟨fun z => ?_, PySem.W.of_hideAll _ e⟩
  rw [PySem.W.hideAll_none [C] (b := b) (by rw [z]; exact List.mem_singleton.mpr rfl)] at e
  cases e
theorem hide1_none {h : Heap} {C b : Addr} (e : h.get? b = none) : (PySem.W.hideAll h [C]).get? b = none := by
  cases q : (PySem.W.hideAll h [C]).get? b with
  | none => rfl
  | some o => rw [(hide1 q).2] at e; cases e
/-- an exception of a call within the block goes on to the def's own wish -/
theorem pass_comp {X : Cx} {pins : List (Addr × Obj)} {σ : L2.St} {H : Hp} {s s' : Shared} {C : Addr} {m : Str → Option Value} {Ex : XK} {u : Value} {E1 : Value → Shared → Prop} {ce : Env} (hst : X.stack = X.env :: X.outer) (hf : X.env.frame = some X.env.locals) (tk : Takes X (fun cls d _ H => Ex cls d H))
    (I : Inv X pins σ H s) (fc : FpOk X pins H C) (hn : s.heap.Ns C m) (cx : L2.CX X.prog X.w X.stack H s Ex u s') (hce : ce.frame = X.env.frame) :
    wpAny (model X.prog X.w) X.A (noteFrame u ce) (fun _ s2 => (∃ m, s2.heap.Ns C m) ∧ ∀ h', Heap.SameBut C s2.heap h' → ∀ c : Env, c.frame = ce.frame → wpAny (model X.prog X.w) X.A (passOn "comprehension.variables-let-go" u c : Sem Value) (fun _ _ => False) X.xe { s2 with heap := h' }) E1 s' := by
  obtain ⟨oC, es, ep, hC, hCd, hr⟩ := hn
  have nst : C ∉ frs X.stack := fun z => (List.mem_cons.mp (I.stkSub C z)).elim fc.2.1 fc.2.2.1
  obtain ⟨a, B0, H', cls0, d0, rfl, fl, hok, ub, na, os, ag, hE⟩ := cx
  have sC : s'.heap.get? C = some oC := fl.1 C oC (ub.keep C oC hC fc.1 nst)
  have x := XE.of_call (W := fun c d _ K => Ex c d K ∧ K C = none) I (fun _ _ _ h => h) ⟨a, B0, H', cls0, d0, rfl, fl, hok, ub, na, os, ag, hE, ub.free C oC hC fc.1⟩
  obtain ⟨a2, B, sI, pins2, σ2, H2, cls, d, e2, I2, nb, up, sky, na2, os2, ag2, w2, wC⟩ := x
  injection e2 with e2
  subst e2
  have sNs : s'.heap.Ns C m := ⟨oC, es, ep, sC, hCd, hr⟩
  have key : ∀ h1, HandSPX.HeldZ B X.stack a (Zc cls d) X.env.locals h1 → s'.heap.UpToSlots h1 → (∃ m, h1.Ns C m) ∧ ∀ h', Heap.SameBut C h1 h' → ∀ c : Env, c.frame = ce.frame → wpAny (model X.prog X.w) X.A (passOn "comprehension.variables-let-go" (.ref a) c : Sem Value) (fun _ _ => False) X.xe { s' with heap := h' } := fun h1 hh up1 => by
    refine ⟨⟨m, up1.ns sNs⟩, fun h2 sb c hc => ?_⟩
    obtain ⟨sl, h1C⟩ := up1 C oC sC fun vs q => by rw [hCd] at q; cases q
    obtain ⟨k1, k2, k3, oe, vs, T, oT, ts, he, hz, hd, hv1, hnT, hTe, hT, hdT, h3⟩ := hh
    have notC : ∀ {b : Addr} {o : Obj} {ws : Array Value}, h1.get? b = some o → o.data = .fields ws → b ≠ C := fun {b o ws} e1 e2 z => by
      rw [z, h1C] at e1
      cases e1
      have e2 : oC.data = .fields ws := e2
      rw [hCd] at e2; cases e2
    have aC := notC he hd
    have tC := notC hT hdT
    have he2 : h2.get? a = some oe := (sb.2 a aC).trans he
    have hT2 : h2.get? T = some oT := (sb.2 T tC).trans hT
    have held : HandSPX.HeldZ (PySem.W.hideAll B [C]) X.stack a (Zc cls d) X.env.locals h2 := by
      refine ⟨fun b o e => ?_, hide1_none k2, ff_but k3 (fun L hL => ⟨fun z => nst (by rw [← z]; exact hL), hide1_none (k3.mem hL).1⟩) fun b hb => sb.2 b hb, oe, vs, T, oT, ts, he2, hz, hd, hv1, hide1_none hnT, hTe, hT2, hdT, h3⟩
      obtain ⟨n, e⟩ := hide1 e
      exact (sb.2 b n).trans (k1 b o e)
    unfold PySem.passOn
    refine wpAny_bind (wpAny_field (s := { s' with heap := h2 }) he2 hd hv1 ?_)
    rw [if_neg (by simp)]
    rw [hc, hce, hf]
    refine wpAny_bind (HandSPX.setFlight_onZ (s := { s' with heap := h2 }) held fun h3 hh3 up3 => wpAny_throw (tk _ _ ?_))
    have J := Inv.turned (it := C) (h' := PySem.W.hideAll sI.heap [C]) (t' := sI.toks) (Inv.unpinned (pins := []) (pl := pins2) I2) (fun b o hb e => PySem.W.hideAll_get _ e (by simpa using hb)) wC fc.2.1 fc.2.2.2.1 fc.2.2.2.2.1 (fun p hp => fc.2.2.2.2.2 p (List.mem_append_left _ (by simpa using hp)))
    refine ⟨a, _, _, [], σ2, H2, cls, d, rfl, J, fun b o e hb => ?_, fun b o e hnf => ?_, .inr (.inr hh3), na2, os2, ag2, w2⟩
    · obtain ⟨n, e⟩ := hide1 e
      exact PySem.W.hideAll_get _ (nb b o e hb) (by simpa using n)
    · obtain ⟨n, e⟩ := hide1 e
      obtain ⟨sl1, q1⟩ := up b o e hnf
      obtain ⟨sl2, q2⟩ := up1 b _ q1 hnf
      have q3 : h2.get? b = some { o with slots := sl2 } := (sb.2 b n).trans q2
      obtain ⟨sl3, q4⟩ := up3 b _ q3 hnf
      exact ⟨sl3, q4⟩
  rw [noteFrame_fr hce]
  have hfr : X.A.frames = some (X.env :: X.outer) := by rw [I.ok.frames, hst]
  rw [hst] at sky key
  rcases sky with ⟨hB, hn, hl, oe, vs, he, hz, hd, h1⟩ | fl2 | hd
  · exact HandSPX.look_newZ Zc.steady hfr hl hf he hB hn hd h1 hz fun h' hh up => key h' hh up
  · exact HandSPX.looks_onZ Zc.steady hfr hf fl2 fun h' hh up => key h' hh up
  · exact HandSPX.againZ hf hd.2.2.2 (key s'.heap hd (Heap.UpToSlots.refl _))
/-- [elt for target in iter if ..], where a call within elt may let an exception out -/
theorem pe_lcX {X : Cx} {elt tg iter : Expr} {ifs : List Expr} {scope : Scope} {own : List (Str × Nat)} {pos : Pos} {wi : TI} {g : TG} {tt : TT} {te : TE} {Ex : XK} (hst : X.stack = X.env :: X.outer) (hf : X.env.frame = some X.env.locals) (tk : Takes X (fun cls d _ H => Ex cls d H))
    (hc : X.calm = true) (hN : X.N.Nodup) (hi : PI X tg iter wi) (ok : BlkOk X.N X.env.scope scope own) (hg : ∀ (s : Shared) (H : Hp) (C : Addr) (cl : List (Str × Addr)) (fp : List Addr), PG (X.blk s H scope (compEnvC scope cl C X.env) fp) tg g)
    (ht : ∀ (s : Shared) (H : Hp) (C : Addr) (cl : List (Str × Addr)) (fp : List Addr), PTs (X.blk s H scope (compEnvC scope cl C X.env) fp) ifs tt)
    (he : ∀ (s : Shared) (H : Hp) (C : Addr) (cl : List (Str × Addr)) (fp : List Addr) (xe : Value → Shared → Prop), Passes (L2.CX X.prog X.w) ((X.blk s H scope (compEnvC scope cl C X.env) fp).wish xe) Ex → PE ((X.blk s H scope (compEnvC scope cl C X.env) fp).wish xe) elt te)
    (hs : ∀ x, foldedSetIterable iter X.env x = pure x := by intro _; rfl) : PE X (.ListComp elt [⟨tg, iter, ifs, 0⟩] scope pos) (tLc wi g tt te (own.map (·.2))) := by
  refine ⟨fun pins s σ H Q I h => ?_⟩
  rw [eval_ListComp]
  have hfree : ∀ y ∈ scope.names, y.2 = .free → ∃ c, X.env.cells.lookup y.1 = some c := fun y hy e => I.ok.has _ (ok.free y hy e)
  refine comp_freeX rfl hs (closure_ok hfree) ok.kind (fun y hy e => by rw [ok.uniq y hy, e]) (thn (hi.run pins s σ H _ I h) fun xv s1 hx => thn hx fun itv s2 h2 => ?_)
  obtain ⟨it, fp, tn, J, H2, rfl, I2, T, st2, f2, q⟩ := h2
  refine wpAny_newObj_type (newEnv_comp ?_) (show 0 ≤ sizeLine by decide)
  generalize hD : s2.heap.objs.size = D
  have hDn : H2 D = none := I2.hok.fresh (Nat.le_of_eq hD)
  obtain ⟨W, ⟨m0, w0⟩, turn⟩ := q D hDn
  generalize hs3 : ({ s2 with heap := s2.heap.push { cls := .type "list", data := .seq ([] : List Value).toArray } } : Shared) = s3
  have h3 : s3.heap = s2.heap.push { cls := .type "list", data := .seq ([] : List Value).toArray } := by rw [← hs3]
  have I3 : Inv X pins σ (upd H2 D (.lst [])) s3 := by
    rw [← hs3]
    exact I2.laid (t' := s2.toks) (fun b o e => Heap.get?_push_of_some _ e) (Nat.le_of_eq hD) ⟨Nat.zero_le _, [], 0, .nil, by rw [← hD]; exact Heap.get?_push_size _ rfl⟩
  have f3 : ∀ b ∈ fp, FpOk X pins (upd H2 D (.lst [])) b ∧ b < s3.heap.objs.size := fun b hb => by
    obtain ⟨o, e, _⟩ := T.obj _ _ st2 b hb
    have hlt := Heap.lt_size e
    exact ⟨⟨by rw [upd_ne (by rw [← hD]; exact Nat.ne_of_lt hlt)]; exact (f2 b hb).1, (f2 b hb).2⟩, by rw [h3, Heap.size_push]; exact Nat.lt_succ_of_lt hlt⟩
  have st3 : tn 0 s3.heap := T.keep _ _ _ st2 fun b _ o e => by rw [h3]; exact Heap.get?_push_of_some _ e
  have I4 := block_start I3 ok hN f3
  have pg := hg s3 (upd H2 D (.lst [])) s3.heap.objs.size (cellsFrom (s3.heap.objs.size + 1) scope.names (cloFrom X.env.cells scope.names [])) fp
  have pt := ht s3 (upd H2 D (.lst [])) s3.heap.objs.size (cellsFrom (s3.heap.objs.size + 1) scope.names (cloFrom X.env.cells scope.names [])) fp
  have pe := he s3 (upd H2 D (.lst [])) s3.heap.objs.size (cellsFrom (s3.heap.objs.size + 1) scope.names (cloFrom X.env.cells scope.names [])) fp
  show codeAny _ _ (.compStart (.ListComp elt [⟨tg, iter, ifs, 0⟩] scope pos) 0 (.ref it) (.ref D) (compEnvC scope (cellsFrom (s3.heap.objs.size + 1) scope.names (cloFrom X.env.cells scope.names [])) s3.heap.objs.size X.env)) (cPost (model X.prog X.w) X.A X.xe _ (.ref D) s3.heap.objs.size X.env.frame) { s3 with heap := pushCells (s3.heap.push { cls := .type "dict", data := .dict #[] }) scope.names }
  have nfp : ∀ b ∈ fp, (upd H2 D (.lst [])) b = none := fun b hb => (f3 b hb).1.1
  generalize hce : compEnvC scope (cellsFrom (s3.heap.objs.size + 1) scope.names (cloFrom X.env.cells scope.names [])) s3.heap.objs.size X.env = ce at I4 pg pt pe ⊢
  have cL : ce.locals = s3.heap.objs.size := by subst hce; rfl
  have cF : ce.frame = X.env.frame := by subst hce; rfl
  generalize hH3 : upd H2 D (.lst []) = H3 at I3 I4 pg pt pe w0 nfp f3
  generalize hs4 : ({ s3 with heap := pushCells (s3.heap.push { cls := .type "dict", data := .dict #[] }) scope.names } : Shared) = s4 at I4 ⊢
  have st4 : tn 0 s4.heap := T.keep _ _ _ st3 fun b _ o e => by rw [← hs4]; exact pushCells_keeps _ _ _ _ (Heap.get?_push_of_some _ e)
  have stat : ∀ {σ' : L2.St} {H' : Hp} {s' : Shared}, Inv (X.blk s3 H3 scope ce fp) [] σ' H' s' → (∀ b ∈ fp, H' b = none) → ∀ b ∈ fp, FpOk (X.blk s3 H3 scope ce fp) [] H' b := fun {σ' H' s'} I' hn b hb =>
    ⟨hn b hb, (I'.ok.exf b hb).1, I'.ok.exfs b hb, .inl hb, fun x c e => (I'.ok.exf b hb).2 x c e, fun p hp => by simp at hp⟩
  -- what a block's state says of the def's
  have out : ∀ {xe : Value → Shared → Prop} {pinsB : List (Addr × Obj)} {σ' : L2.St} {H' : Hp} {s' : Shared}, Inv ((X.blk s3 H3 scope ce fp).wish xe) pinsB σ' H' s' → Inv X pins σ H' s' ∧ FpOk X pins H' s3.heap.objs.size ∧ ∃ m, s'.heap.Ns s3.heap.objs.size m := fun {xe pinsB σ' H' s'} I' => by
    have nC : H' s3.heap.objs.size = none := by rw [← cL]; exact I'.free
    obtain ⟨m, hn, _⟩ := I'.loc
    exact ⟨I3.call' (ch := fp) I'.os I'.base I'.hok I'.bare fun b hb => ⟨(f3 b hb).1.2.2.2.1, (f3 b hb).1.2.1, (f3 b hb).1.2.2.2.2.1, (f3 b hb).1.2.2.2.2.2⟩, I3.fpOk (Nat.le_refl _) nC, m, by rw [← cL]; exact hn⟩
  generalize hPO : cPost (model X.prog X.w) X.A X.xe (EP X pins σ Q) (.ref D) s3.heap.objs.size X.env.frame = PO
  have pxe := pe (notedBy (model X.prog X.w) X.A ce fun e s' => PO (.error e) s') fun pinsB σB HB sB e s' IB cx => by
    obtain ⟨IX, fc, m, hn⟩ := out IB
    rw [← hPO]
    have z := pass_comp (E1 := fun e s'' => cPost (model X.prog X.w) X.A X.xe (EP X pins σ Q) (.ref D) s3.heap.objs.size X.env.frame (.error e) s'') hst hf tk IX fc hn cx cF
    rw [cF] at z
    exact z
  have loop : codeAny (model X.prog X.w) X.A (.compLoop (.ListComp elt [⟨tg, iter, ifs, 0⟩] scope pos) 0 (.ref it) (.ref D) ce) PO s4 := by
    refine compLoop_any (fun n s' => ∃ i H', Inv (X.blk s3 H3 scope ce fp) [] (wipe σ (own.map (·.2))) H' s' ∧ tn i s'.heap ∧ (∀ b ∈ fp, H' b = none) ∧ W i n H') ?_ m0 ⟨0, H3, I4, st4, nfp, w0⟩
    rintro n s5 ⟨i, H5, I5, st5, n5, w5⟩
    rcases turn i n H5 w5 with ⟨stop, qq⟩ | ⟨go, Nx, hNx, step⟩
    · refine thnF (T.done (X.blk s3 H3 scope ce fp) rfl rfl rfl hc i [] s5 _ H5 (fun _ _ => False) I5 (stat I5 n5) st5 stop) fun r s6 ⟨hr, I6⟩ => ?_
      subst hr
      obtain ⟨I7, f, m, hn⟩ := out (I6.wish fun _ _ => False)
      rw [← hPO]
      obtain ⟨f0, f1, f2, f3, f4, f5⟩ := f
      exact ⟨m, hn, fun h'' sb => ⟨.ref D, H5, I7.turned (t' := s6.toks) (fun b o hb e => (sb.2 b hb).trans e) f0 f1 f3 f4 f5, rfl, qq⟩⟩
    · refine thnF (T.item (X.blk s3 H3 scope ce fp) rfl rfl rfl hc i [] s5 _ H5 (fun _ _ => False) I5 (stat I5 n5) st5 go) fun r s6 ⟨u, hr, h6⟩ => ?_
      subst hr
      refine thnF h6 fun _ s7 ⟨x, H7, I7, r7, y7, st7, n7⟩ => ?_
      have I7' := I7.pinned (stat I7 n7) (T.obj _ _ st7)
      refine thnF (pg.run _ s7 _ H7 x u _ I7' r7 (step x H7 y7)) fun _ s8 ⟨σ8, H8, I8, hw8, q8⟩ => ?_
      refine thnF (pt.run _ s8 σ8 H8 _ I8 q8) fun b s9 ⟨H9, I9, q9⟩ => ?_
      have fin : ∀ {s' : Shared} {H' : Hp}, Inv (X.blk s3 H3 scope ce fp) ([] ++ pinsAt fp s7.heap) σ8 H' s' → Nx H' → ∃ m, m < n ∧ ∃ i H', Inv (X.blk s3 H3 scope ce fp) [] (wipe σ (own.map (·.2))) H' s' ∧ tn i s'.heap ∧ (∀ b ∈ fp, H' b = none) ∧ W i m H' := fun {s' H'} I' nx => by
        obtain ⟨m', hm, w'⟩ := hNx H' nx
        have pin' : ∀ b ∈ fp, ∀ o, s7.heap.get? b = some o → s'.heap.get? b = some o ∧ H' b = none := fun b hb o e =>
          let z := I'.pin (b, o) (List.mem_append_right _ (List.mem_append_right _ (mem_pinsAt hb e)))
          ⟨z.1, z.2.1⟩
        have hl : (wipe σ (own.map (·.2))).length = σ8.length := by rw [← hw8, wipe_length]
        refine ⟨m', hm, i + 1, H', (I'.unpinned (pins := [])).weak hl (fun j v e => by rw [← hw8] at e; exact (wipe_some e).1), T.keep _ _ _ st7 fun b hb o e => (pin' b hb o e).1, fun b hb => ?_, w'⟩
        obtain ⟨o, e, _⟩ := T.obj _ _ st7 b hb
        exact (pin' b hb o e).2
      cases b with
      | false =>
        simp only [Bool.false_eq_true, if_false] at q9 ⊢
        exact fin I9 q9
      | true =>
        simp only [if_true] at q9 ⊢
        refine wpAny_mono (pxe.run _ s9 σ8 H9 _ (I9.wish _) q9) (fun z s10 ⟨yv, H10, I10, r10, acc, hD10, hz10, nx⟩ => ?_) fun _ _ z => z
        exact app_ok (X := X.blk s3 H3 scope ce fp) I10.unwish hD10 hz10 r10 fun s11 I11 => fin I11 nx
  exact codeAny_compStart_list loop (T.self X.A 0 _ _ _ st4 loop)
end Ab

set_option Elab.async false
set_option linter.all false
set_option maxRecDepth 100000
set_option maxHeartbeats 4000000
/-! The logic where something may be raised: a frame S, H0 and a wish E about the class C. -/
namespace Ab
open PySem PySem.Spec PyProof.Rows L2
/-! ### equality, in: only the shallower side's depth counts -/
def rEqW (K : PySem.W.Frag) : R2 := fun x y H Q => ∃ d e, Dp K H x d ∧ Dp K H y e ∧ d.canLay0 = true ∧ e.canLay0 = true ∧ min d.depth e.depth ≤ 64 ∧ Q (.bl (PyData.eqv d e)) H
def rNeW (K : PySem.W.Frag) : R2 := fun x y H Q => ∃ d e, Dp K H x d ∧ Dp K H y e ∧ d.canLay0 = true ∧ e.canLay0 = true ∧ min d.depth e.depth ≤ 64 ∧ Q (.bl (!PyData.eqv d e)) H
def rInW (K : PySem.W.Frag) : R2 := fun x y H Q => ∃ d ds, Dp K H x d ∧ (Dp K H y (.list ds) ∨ Dp K H y (.tuple ds)) ∧ d.canLay0 = true ∧ PyData.canLayAll0 ds = true ∧ min (PyData.depthAll ds) d.depth ≤ 64 ∧ Q (.bl (ds.any fun z => PyData.eqv z d)) H
def rNinW (K : PySem.W.Frag) : R2 := fun x y H Q => ∃ d ds, Dp K H x d ∧ (Dp K H y (.list ds) ∨ Dp K H y (.tuple ds)) ∧ d.canLay0 = true ∧ PyData.canLayAll0 ds = true ∧ min (PyData.depthAll ds) d.depth ≤ 64 ∧ Q (.bl (!ds.any fun z => PyData.eqv z d)) H
section
variable {X : Cx}
theorem op_inW (hu : X.A.units + 65 < cLine) : OpR X (compareOp .In) (rInW X.K) := by
  intro pins s σ H x y v u Q I rx ry h
  obtain ⟨d, ds, hd, he, sd, se, hm, q⟩ := h
  obtain ⟨as, r1⟩ := Dp.reads I d x v hd rx
  rcases he with he | he
  · obtain ⟨bs, r2⟩ := Dp.reads I (.list ds) y u he ry
    exact SeqAt.in_list_reads r2 r1 se sd (by omega) ⟨.bl _, H, I, rfl, q⟩
  · obtain ⟨bs, r2⟩ := Dp.reads I (.tuple ds) y u he ry
    exact SeqAt.in_tuple_reads r2 r1 se sd (by omega) ⟨.bl _, H, I, rfl, q⟩
theorem op_ninW (hu : X.A.units + 65 < cLine) : OpR X (compareOp .NotIn) (rNinW X.K) := by
  intro pins s σ H x y v u Q I rx ry h
  obtain ⟨d, ds, hd, he, sd, se, hm, q⟩ := h
  obtain ⟨as, r1⟩ := Dp.reads I d x v hd rx
  rcases he with he | he
  · obtain ⟨bs, r2⟩ := Dp.reads I (.list ds) y u he ry
    exact SeqAt.notIn_list_reads r2 r1 se sd (by omega) ⟨.bl _, H, I, rfl, q⟩
  · obtain ⟨bs, r2⟩ := Dp.reads I (.tuple ds) y u he ry
    exact SeqAt.notIn_tuple_reads r2 r1 se sd (by omega) ⟨.bl _, H, I, rfl, q⟩
theorem op_eqW (hu : X.A.units + 64 < cLine) : OpR X (compareOp .Eq) (rEqW X.K) := by
  intro pins s σ H x y v u Q I rx ry h
  obtain ⟨d, e, hd, he, sd, se, hm, q⟩ := h
  obtain ⟨as, r1⟩ := Dp.reads I d x v hd rx
  obtain ⟨bs, r2⟩ := Dp.reads I e y u he ry
  exact SeqAt.compareEq_reads r1 r2 sd se (by omega) ⟨.bl _, H, I, rfl, q⟩
theorem op_neW (hu : X.A.units + 64 < cLine) : OpR X (compareOp .NotEq) (rNeW X.K) := by
  intro pins s σ H x y v u Q I rx ry h
  obtain ⟨d, e, hd, he, sd, se, hm, q⟩ := h
  obtain ⟨as, r1⟩ := Dp.reads I d x v hd rx
  obtain ⟨bs, r2⟩ := Dp.reads I e y u he ry
  exact SeqAt.compareNe_reads r1 r2 sd se (by omega) ⟨.bl _, H, I, rfl, q⟩
def rLeS : R2 := fun x y H Q => ∃ i j, x = .str i ∧ y = .str j ∧ Q (.bl (!decide (j.cps.toList < i.cps.toList))) H
theorem op_leS : OpR X (compareOp .LtE) rLeS := op_le_str
def rAbs : List V → Hp → VK → Prop := fun xs H Q => ∃ i, xs = [.int i] ∧ Q (.int (if i < 0 then -i else i)) H
theorem call_absI : CallR X (.builtin "abs") rAbs := call_abs
def rOrd : List V → Hp → VK → Prop := fun xs H Q => ∃ x, xs = [.str x] ∧ x.length = 1 ∧ Q (.int (x.cps.getD 0 0 : Nat)) H
theorem call_ordS : CallR X (.builtin "ord") rOrd := call_ord
def rJoin (K : PySem.W.Frag) : V → List V → Hp → VK → Prop := fun x xs H Q => ∃ a p, ∃ ys : List Str, x = .str a ∧ xs = [.ref p] ∧ (SqL K H p (ys.map V.str) ∨ SqT K H p (ys.map V.str)) ∧ (ys.map (·.length)).sum + ys.length * a.length ≤ 16777216 ∧ Q (.str (Txt.join a ys)) H
theorem pe_joinW {o e : Expr} {to te : TE} {apos pos : Pos} (ho : PE X o to) (he : PE X e te) (hs : starEach [e] X.env = (false, eval e X.env) :: starEach [] X.env := by rfl) (hbase : attributeBase o "join" X.env (eval o X.env) = eval o X.env := by rfl) (hline : (apos.endLine == pos.line) = true := by rfl) :
    PE X (.Call (.Attribute o "join" apos) [e] [] pos) (tM1 (rJoin X.K) to te) := pe_join ho he hs hbase hline
/-- raise C(), C an own class without __init__ -/
theorem pmk_own0 {C : Addr} {bmB : List Value} {B newId initId : String} {x : Str} {p pos : Pos} (F : ExcBaseFacts B newId initId bmB) (q : PySem.W.excIn X.K C bmB newId = true) (gC : X.mg x = some (.ref C)) (kC : PySem.W.keepIn X.K (.ref C) = true) (r : Raises X (.ref C)) (hg : Gl X x)
    (hdb : (x == ("__debug__" : Str)) = false := by decide) : PMk X (.Call (.Name x p) [] [] pos) (fun _ H Q => Q (.ref C) none H) := by
  intro pins s σ H Q I h
  refine wpAny_Call_Name_kw (ld_glob I hg gC ?_ hdb)
  refine PySem.W.callWith_K0 I.kIn kC ?_
  obtain ⟨bm, N, nm, qn, bs, hdct, sn, sub, ab, col, dd, k0, k1, k2, k3, k5, mN, hC, hN, hni, T⟩ := exc_obj I.kIn q
  exact wpAny_call_exc_subT F T hC hN hni (fun h' e hm => mk_of I hm r h (I.hok.gone hm.new)) (by show 0 ≤ sizeLine; rw [sizeLine_eq]; omega)
end
section
variable {X : Cx} {K : PySem.W.Frag} {k : Nat}
theorem k_eqW (e : X.K = K) (hr : Room k X.A) : OpR X (compareOp .Eq) (rEqW K) := e ▸ op_eqW hr.units
theorem k_neW (e : X.K = K) (hr : Room k X.A) : OpR X (compareOp .NotEq) (rNeW K) := e ▸ op_neW hr.units
theorem k_inW (e : X.K = K) (hr : Room k X.A) : OpR X (compareOp .In) (rInW K) := e ▸ op_inW (hu65 hr)
theorem k_ninW (e : X.K = K) (hr : Room k X.A) : OpR X (compareOp .NotIn) (rNinW K) := e ▸ op_ninW (hu65 hr)
theorem k_join {o el : Expr} {to te : TE} {apos pos : Pos} (e : X.K = K) (ho : PE X o to) (he : PE X el te) (hs : starEach [el] X.env = (false, eval el X.env) :: starEach [] X.env := by rfl) (hbase : attributeBase o "join" X.env (eval o X.env) = eval o X.env := by rfl) (hline : (apos.endLine == pos.line) = true := by rfl) :
    PE X (.Call (.Attribute o "join" apos) [el] [] pos) (tM1 (rJoin K) to te) := e ▸ pe_joinW ho he hs hbase hline
end
/-! ### what these do to data -/
def fEqW (a b : PyData) (P : PyData → Prop) : Prop := a.canLay0 = true ∧ b.canLay0 = true ∧ min a.depth b.depth ≤ 64 ∧ P (.bool (PyData.eqv a b))
def fNeW (a b : PyData) (P : PyData → Prop) : Prop := a.canLay0 = true ∧ b.canLay0 = true ∧ min a.depth b.depth ≤ 64 ∧ P (.bool (!PyData.eqv a b))
def fInW (a : PyData) : PyData → (PyData → Prop) → Prop
  | .list ds, P | .tuple ds, P => a.canLay0 = true ∧ PyData.canLayAll0 ds = true ∧ min (PyData.depthAll ds) a.depth ≤ 64 ∧ P (.bool (ds.any fun z => PyData.eqv z a))
  | _, _ => False
def fNinW (a : PyData) : PyData → (PyData → Prop) → Prop
  | .list ds, P | .tuple ds, P => a.canLay0 = true ∧ PyData.canLayAll0 ds = true ∧ min (PyData.depthAll ds) a.depth ≤ 64 ∧ P (.bool (!ds.any fun z => PyData.eqv z a))
  | _, _ => False
def fLeS : PyData → PyData → (PyData → Prop) → Prop
  | .str i, .str j, P => P (.bool (!decide (j.cps.toList < i.cps.toList)))
  | _, _, _ => False
def fIsB (g : Bool → Bool → Bool) : PyData → PyData → (PyData → Prop) → Prop
  | .bool a, .bool b, P => P (.bool (g a b))
  | _, _, _ => False
def fAbs : List PyData → (PyData → Prop) → Prop
  | [.int i], P => P (.int (if i < 0 then -i else i))
  | _, _ => False
def fOrd : List PyData → (PyData → Prop) → Prop
  | [.str z], P => z.length = 1 ∧ P (.int (z.cps.getD 0 0 : Nat))
  | _, _ => False
section
variable {K : PySem.W.Frag}
theorem ao_eqW : AO K (rEqW K) fEqW := fun B H x y a b P hb hx hy p Q q => ⟨a, b, dp_mono same_hide _ _ hx, dp_mono same_hide _ _ hy, p.1, p.2.1, p.2.2.1, q _ _ H (.inl rfl) (.bl _) p.2.2.2⟩
theorem ao_neW : AO K (rNeW K) fNeW := fun B H x y a b P hb hx hy p Q q => ⟨a, b, dp_mono same_hide _ _ hx, dp_mono same_hide _ _ hy, p.1, p.2.1, p.2.2.1, q _ _ H (.inl rfl) (.bl _) p.2.2.2⟩
theorem ao_inW : AO K (rInW K) fInW := fun B H x y a b P hb hx hy p Q q => by
  cases b <;> first | exact p.elim | skip
  case list ds => exact ⟨a, ds, dp_mono same_hide _ _ hx, .inl (dp_mono same_hide _ _ hy), p.1, p.2.1, p.2.2.1, q _ _ H (.inl rfl) (.bl _) p.2.2.2⟩
  case tuple ds => exact ⟨a, ds, dp_mono same_hide _ _ hx, .inr (dp_mono same_hide _ _ hy), p.1, p.2.1, p.2.2.1, q _ _ H (.inl rfl) (.bl _) p.2.2.2⟩
theorem ao_ninW : AO K (rNinW K) fNinW := fun B H x y a b P hb hx hy p Q q => by
  cases b <;> first | exact p.elim | skip
  case list ds => exact ⟨a, ds, dp_mono same_hide _ _ hx, .inl (dp_mono same_hide _ _ hy), p.1, p.2.1, p.2.2.1, q _ _ H (.inl rfl) (.bl _) p.2.2.2⟩
  case tuple ds => exact ⟨a, ds, dp_mono same_hide _ _ hx, .inr (dp_mono same_hide _ _ hy), p.1, p.2.1, p.2.2.1, q _ _ H (.inl rfl) (.bl _) p.2.2.2⟩
theorem ao_leS : AO K rLeS fLeS := fun B H x y a b P hb hx hy p Q q => by
  cases a <;> cases b <;> first | exact p.elim | skip
  case str.str i j => cases hx; cases hy; exact ⟨i, j, rfl, rfl, q _ _ H (.inl rfl) (.bl _) p⟩
theorem ao_isB : AO K rIsB (fIsB fun a b => decide (a = b)) := fun B H x y a b P hb hx hy p Q q => by
  cases a <;> cases b <;> first | exact p.elim | skip
  case bool.bool i j => cases hx; cases hy; exact ⟨i, j, rfl, rfl, q _ _ H (.inl rfl) (.bl _) p⟩
theorem ao_notB : AO K rNotB (fIsB fun a b => !decide (a = b)) := fun B H x y a b P hb hx hy p Q q => by
  cases a <;> cases b <;> first | exact p.elim | skip
  case bool.bool i j => cases hx; cases hy; exact ⟨i, j, rfl, rfl, q _ _ H (.inl rfl) (.bl _) p⟩
theorem ac_abs : AC K rAbs fAbs := fun B H xs ds P hb hd p Q q => by
  match ds, hd, p with
  | [.int i], .cons h1 .nil, p =>
    cases h1
    exact ⟨i, rfl, q _ _ H (.inl rfl) (.int _) p⟩
theorem ac_ord : AC K rOrd fOrd := fun B H xs ds P hb hd p Q q => by
  match ds, hd, p with
  | [.str z], .cons h1 .nil, p =>
    cases h1
    exact ⟨z, rfl, p.1, q _ _ H (.inl rfl) (.int _) p.2⟩
theorem dps_strs {G : Hp} : ∀ {vs : List V} {bs : List Str}, DpAll K G vs (bs.map .str) → vs = bs.map .str
  | [], [], _ => rfl
  | _ :: _, _ :: _, h => by
    cases h with
    | cons h1 h2 => cases h1; rw [dps_strs h2]; rfl
  | [], _ :: _, h => by cases h
  | _ :: _, [], h => by cases h
variable {as : List Sv} {M : Mm} {ta te : TE} {P : PyData → Mm → Prop}
theorem w_join (h : W K ta as M fun a M1 => ∃ z, a = .str z ∧ W K te as M1 fun d M2 => ∃ ys : List Str, d = .list (ys.map .str) ∧ (ys.map (·.length)).sum + ys.length * z.length ≤ 16777216 ∧ P (.str (Txt.join z ys)) M2) : W K (tM1 (rJoin K) ta te) as M P := fun S H0 σ H k r Q q =>
  h S H0 σ H k r _ fun v H1 a M1 k1 e1 b1 ⟨z, ea, h2⟩ => by
    subst ea
    cases b1
    refine ⟨⟨z, rfl⟩, h2 S H0 σ H1 k1 (r.mono e1) _ fun y H2 d M2 k2 e2 b2 ⟨ys, ed, hl, p⟩ => ?_⟩
    subst ed
    obtain ⟨c, rfl⟩ := isl b2
    obtain ⟨vs, s1, _, d1⟩ := lstAt b2
    rw [dps_strs d1] at s1
    exact ⟨z, c, ys, rfl, rfl, .inl s1, hl, q _ H2 _ M2 k2 (e1.trans e2) (.str _) p⟩
end
section
variable {a b : PyData} {P : PyData → Prop}
theorem feqW (x : a.canLay0 = true) (y : b.canLay0 = true) (m : min a.depth b.depth ≤ 64) (z : P (.bool (PyData.eqv a b))) : fEqW a b P := ⟨x, y, m, z⟩
theorem fneW (x : a.canLay0 = true) (y : b.canLay0 = true) (m : min a.depth b.depth ≤ 64) (z : P (.bool (!PyData.eqv a b))) : fNeW a b P := ⟨x, y, m, z⟩
end
/-! ### a wider frame over a frame -/
structure Ext (S : Sy) (H0 : Hp) (S' : Sy) : Prop where
  b : ∀ a, S'.B a = true → S.B a = true ∨ H0 a = none
  i : ∀ H, S'.I H → S.I H
/-- the wish about raising C() holds wherever the frame's word does -/
def Bad (S : Sy) (H0 : Hp) (E : XK) (C : Addr) : Prop := ∀ H', (∀ a o, S.B a = false → H0 a = some o → H' a = some o) → S.I H' → E (.ref C) none H'
/-- a def of data that gives a value where it is good, and raises C() where it is not -/
def spR (C : Addr) (pre : List PyData → Prop) (good : List PyData → Bool) (val : List PyData → PyData) (K : PySem.W.Frag) : Sp := fun vs H Q E => ∃ (S : Sy) (ds : List PyData), S.I H ∧ pre ds ∧ DpAll K (Hide S.B H) vs ds ∧
  (good ds = true → ∀ v H', (∀ a o, S.B a = false → H a = some o → H' a = some o) → S.I H' → Dp K (Hide S.B H') v (val ds) → Q v H') ∧ (good ds = false → Bad S H E C)
section
variable {K : PySem.W.Frag} {S : Sy} {H0 : Hp} {E : XK} {C : Addr} {as : List Sv} {M : Mm} {te tb : TE} {ta tr : TA} {t : TT} {P : PyData → Mm → Prop} {PA : List Sv → Mm → Prop} {pre : List PyData → Prop} {good : List PyData → Bool} {val : List PyData → PyData}
theorem Ext.refl : Ext S H0 S := ⟨fun _ h => .inl h, fun _ h => h⟩
def WR (K : PySem.W.Frag) (S : Sy) (H0 : Hp) (te : TE) (as : List Sv) (M : Mm) (P : PyData → Mm → Prop) : Prop := ∀ S', Ext S H0 S' → ∀ σ H, Ok0 K S' H0 H M → Rs K (Gh S' M H) σ as → ∀ Q : VK,
  (∀ v H' d M', Ok0 K S' H0 H' M' → Same (Gh S' M H) (Gh S' M' H') → Dp K (Gh S' M' H') v d → P d M' → Q v H') → te σ H Q
def WAR (K : PySem.W.Frag) (S : Sy) (H0 : Hp) (ta : TA) (as : List Sv) (M : Mm) (P : List Sv → Mm → Prop) : Prop := ∀ S', Ext S H0 S' → ∀ σ H, Ok0 K S' H0 H M → Rs K (Gh S' M H) σ as → ∀ Q : List V → Hp → Prop,
  (∀ vs H' ss M', Ok0 K S' H0 H' M' → Same (Gh S' M H) (Gh S' M' H') → RA K (Gh S' M' H') vs ss → P ss M' → Q vs H') → ta σ H Q
theorem wr_of (h : W K te as M P) : WR K S H0 te as M P := fun S' _ σ H k r Q q => h S' H0 σ H k r Q q
theorem war_of (h : WA K ta as M PA) : WAR K S H0 ta as M PA := fun S' _ σ H k r Q q => h S' H0 σ H k r Q q
theorem war_nil (p : PA [] M) : WAR K S H0 tNil as M PA := war_of (wa_nil p)
theorem war_cons (h : WR K S H0 te as M fun d M1 => WAR K S H0 tr as M1 fun ss M2 => PA (.dat d :: ss) M2) : WAR K S H0 (tCons te tr) as M PA := fun S' x σ H k r Q q =>
  h S' x σ H k r _ fun v H1 d M1 k1 e1 b1 hr => hr S' x σ H1 k1 (r.mono e1) _ fun vs H2 ss M2 k2 e2 b2 p => q _ H2 (.dat d :: ss) M2 k2 (e1.trans e2) ⟨⟨v, rfl, dp_mono e2 _ _ b1⟩, b2⟩ p
theorem wr_tup (h : WAR K S H0 ta as M fun ss M' => ∃ ds : List PyData, ss = ds.map .dat ∧ ds.length ≤ 100000 ∧ P (.tuple ds) M') : WR K S H0 (tTup ta) as M P := fun S' x σ H k r Q q =>
  h S' x σ H k r _ fun vs H1 ss M1 k1 e1 b1 ⟨ds, es, hl, p⟩ => by
    subst es
    have bd := ra_dat b1
    refine ⟨sz_of (by rw [dps_len bd]; exact hl), fun a ha => q _ _ (.tuple ds) M1 (ok_new k1 ha) (e1.trans (new_same ha)) ?_ p⟩
    exact .tup (.of (show Gh S' M1 (upd H1 a (.tup vs)) a = some (.tup vs) by unfold Gh; rw [hide_f (new_hid k1 ha), upd_same])) (dps_mono (new_same ha) _ _ bd)
theorem wr_cb {r : List V → Hp → VK → Prop} {f : List PyData → (PyData → Prop) → Prop} (ho : AC K r f) (h : WAR K S H0 ta as M fun ss M1 => ∃ ds : List PyData, ss = ds.map .dat ∧ f ds fun d => P d M1) : WR K S H0 (tCB r ta) as M P := fun S' x σ H k rs Q q =>
  h S' x σ H k rs _ fun xs H1 ss M1 k1 e1 b1 ⟨ds, es, p⟩ => by
    subst es
    refine ho _ H1 xs ds _ (bm_trk k1) (ra_dat b1) p Q fun v d H3 hc hd pd => ?_
    rcases hc with rfl | ⟨c, o, hn, rfl⟩
    · exact q v _ d M1 k1 e1 hd pd
    · exact q v _ d M1 (ok_new k1 hn) (e1.trans (new_same hn)) hd pd
/-- a call of a def that may raise -/
theorem wr_call (h : WAR K S H0 ta as M fun ss M1 => ∃ ds : List PyData, ss = ds.map .dat ∧ pre ds ∧ (good ds = true → P (val ds) M1) ∧ (good ds = false → Bad S H0 E C)) : WR K S H0 (tCall (spR C pre good val K) [] E ta) as M P := fun S' x σ H k r Q q =>
  h S' x σ H k r _ fun vs H1 ss M1 k1 e1 b1 ⟨ds, es, hp, p, bad⟩ => by
    subst es
    rw [List.append_nil]
    have low : ∀ {H' : Hp}, (∀ a o, Bm S' M1 a = false → H1 a = some o → H' a = some o) → (∀ z ∈ M1, H' z.1 = H1 z.1) → ∀ a o, S'.B a = false → H0 a = some o → H' a = some o := fun {H'} xt iv a o e3 e4 => by
      have e5 := k1.xt a o e3 e4
      by_cases e6 : Bm S' M1 a = false
      · exact xt a o e6 e5
      · rcases (Bool.or_eq_true _ _).mp (show Bm S' M1 a = true by simpa using e6) with e | e
        · rw [e3] at e; cases e
        · obtain ⟨z, hz, y⟩ := List.any_eq_true.mp e
          have y : z.1 = a := by simpa using y
          rw [← y, iv z hz, y]
          exact e5
    refine ⟨syAt S' M1 H1 fun z hz => by obtain ⟨us, a, _⟩ := k1.mem z hz; rw [a]; simp, ds, ⟨k1.inv, fun _ _ => rfl⟩, hp, ra_dat b1, fun hg v H' xt iv dp => ?_, fun hg H' xt iv => bad hg H' (fun a o e3 e4 => low xt iv.2 a o ?_ e4) (x.i _ iv.1)⟩
    · have sm : Same (Gh S' M1 H1) (Gh S' M1 H') := gh_any xt
      refine q v H' _ M1 ⟨low xt iv.2, iv.1, k1.nd, k1.loc, fun z hz => ?_⟩ (e1.trans sm) dp (p hg)
      obtain ⟨us, a, b⟩ := k1.mem z hz
      exact ⟨us, by rw [iv.2 z hz]; exact a, dps_mono sm _ _ b⟩
    · cases e6 : S'.B a with
      | false => rfl
      | true =>
        rcases x.b a e6 with z | z
        · rw [e3] at z; cases z
        · rw [e4] at z; cases z
/-- a comprehension a turn of which may raise -/
theorem wr_lc {wi : TI} {g : TG} {vs ts : List Nat} {f : PyData → List Sv → (List Sv → Prop) → Prop} (hg : GA K g ts f) (ht : ∀ t ∈ ts, t ∈ vs) (h : WI K wi as M fun xs M1 => ∃ IV : Nat → List PyData → Mm → Prop, IV 0 [] M1 ∧
    (∀ i x acc Mi, xs[i]? = some x → IV i acc Mi → f x (awipe as vs) fun as2 => WT K t as2 Mi fun b M2 => if b = true then WR K S H0 te as2 M2 fun y M3 => acc.length < 100000 ∧ IV (i + 1) (acc ++ [y]) M3 else IV (i + 1) acc M2) ∧
    (∀ acc M', IV xs.length acc M' → P (.list acc) M')) : WR K S H0 (tLc wi g t te vs) as M P := fun S1 x σ H k r Q q =>
  h S1 H0 σ H k r _ fun J H1 xs M1 k1 e1 hJ ⟨IV, i0, step, fin⟩ => fun D hD => by
    have sD : S1.B D = false := (bm_false.mp (new_hid k1 hD)).1
    have h0 : H0 D = none := by
      cases e : H0 D with
      | none => rfl
      | some o => have z := k1.xt D o sD e; rw [hD] at z; cases z
    have xD : ∀ va, Ext S H0 (syD S1 D va) := fun va => by
      refine ⟨fun a ha => ?_, fun H' i => x.i _ i.1⟩
      by_cases e : a = D
      · exact .inr (by rw [e]; exact h0)
      · cases e1 : S1.B a with
        | true => exact x.b a e1
        | false => rw [syd_mk e1 e] at ha; cases ha
    let Nw : Nat → Hp → Prop := fun i Hc => ∃ acc va Mi, IV i acc Mi ∧ Ok0 K (syD S1 D va) H0 Hc Mi ∧ DpAll K (Gh (syD S1 D va) Mi Hc) va acc ∧ Rs K (Gh (syD S1 D va) Mi Hc) σ as ∧ Same (Gh S1 M1 H1) (Gh (syD S1 D va) Mi Hc)
    have n0 : Nw 0 (upd H1 D (.lst [])) := ⟨[], [], M1, i0, ok_D k1 hD, .nil, (r.mono e1).mono (same_D k1 hD), same_D k1 hD⟩
    refine ⟨fun i m Hc => m = xs.length - i ∧ i ≤ xs.length ∧ Nw i Hc, ⟨xs.length, by simp, Nat.zero_le _, n0⟩, ?_⟩
    rintro i m Hc ⟨rfl, hi, acc, va, Mi, hI, kc, da, rc, ec⟩
    by_cases hlt : i < xs.length
    · refine .inr ⟨hJ.go _ _ i ec same_hide hlt, Nw (i + 1), fun H' p' => ⟨xs.length - (i + 1), by omega, rfl, hlt, p'⟩, fun v H2 y => ?_⟩
      obtain ⟨eh, yd⟩ := hJ.yld _ _ i v H2 ec same_hide y
      subst eh
      have hx : xs[i]? = some xs[i] := List.getElem?_eq_getElem hlt
      refine hg (Gh (syD S1 D va) Mi H2) H2 v xs[i] (wipe σ vs) (awipe as vs) _ same_hide (yd _ hx) (rs_wipe rc vs) (step i _ acc Mi hx hI) _ fun σ2 as2 r2 wp p => ?_
      refine ⟨by rw [wp vs ht, wipe_wipe], ?_⟩
      refine p (syD S1 D va) H0 σ2 H2 kc r2 _ fun b H3 M3 k3 e3 p3 => ?_
      cases b with
      | false => exact ⟨acc, va, M3, p3, k3, dps_mono e3 _ _ da, rc.mono e3, ec.trans e3⟩
      | true =>
        refine (show WR K S H0 te as2 M3 _ from p3) (syD S1 D va) (xD va) σ2 H3 k3 (r2.mono e3) _ fun w H4 y M4 k4 e4 b4 ⟨hl, p4⟩ => ?_
        refine ⟨va, k4.inv.2, Nat.lt_of_lt_of_le (by rw [dps_len da]; exact hl) (by decide), acc ++ [y], va ++ [w], M4, p4, ok_Dset k4 sD, ?_, ?_, ?_⟩
        · rw [gd_upd (vb := va)]
          exact dps_app (dps_mono (e3.trans e4) _ _ da) (.cons b4 .nil)
        · rw [gd_upd (vb := va)]
          exact rc.mono (e3.trans e4)
        · rw [gd_upd (vb := va)]
          exact ec.trans (e3.trans e4)
    · have e : i = xs.length := by omega
      subst e
      refine .inl ⟨hJ.stop _ _ ec same_hide, q _ Hc (.list acc) Mi (ok_Dout kc sD h0) (e1.trans (ec.trans same_Dout)) ?_ (fin acc Mi hI)⟩
      exact .lst (SqL.of (show Gh S1 Mi Hc D = some (.lst va) by unfold Gh; rw [hide_f (bm_false.mpr ⟨sD, ok_D_ne kc⟩)]; exact kc.inv.2)) (dps_mono same_Dout _ _ da)
/-- .. over a couple of names, each item's value by a function -/
theorem wr_map2 {wi : TI} {i j : Nat} {vs : List Nat} (hi : i ∈ vs) (hj : j ∈ vs) (h : WI K wi as M fun xs M1 => ∃ g : PyData → PyData, xs.length ≤ 100000 ∧
    (∀ x ∈ xs, ∃ a b, (x = .tuple [a, b] ∨ x = .list [a, b]) ∧ WR K S H0 te (((awipe as vs).set i (.dat a)).set j (.dat b)) M1 fun y M2 => y = g x ∧ M2 = M1) ∧ P (.list (xs.map g)) M1) : WR K S H0 (tLc wi (gSeq K 2 (gCons (gName i) (gCons (gName j) gNil))) tYes te vs) as M P := by
  refine wr_lc ga_pair (by intro t ht; simp at ht; rcases ht with rfl | rfl <;> assumption) fun S H0 σ H k r R q => h S H0 σ H k r R fun J H' xs M' k' e' it ⟨g, hl, hx, hp⟩ => q J H' xs M' k' e' it ⟨fun n acc M2 => acc = (xs.take n).map g ∧ M2 = M', ⟨rfl, rfl⟩, fun n x acc Mi hn ⟨ea, em⟩ => ?_, fun acc M2 ⟨ea, em⟩ => by rw [ea, em, List.take_length]; exact hp⟩
  subst ea em
  obtain ⟨a, b, ex, hw⟩ := hx x (List.mem_of_getElem? hn)
  refine ⟨a, b, ex, ?_⟩
  intro S2 H02 σ2 H2 k2 r2 Q2 q2
  refine q2 true H2 Mi k2 (Same.refl _) ?_
  show WR K _ _ te _ Mi _
  intro S3 x3 σ3 H3 k3 r3 Q3 q3
  refine hw S3 x3 σ3 H3 k3 r3 Q3 fun v H4 y M4 k4 e4 b4 ⟨ey, em⟩ => q3 v H4 y M4 k4 e4 b4 ?_
  subst ey em
  have hlt := (List.getElem?_eq_some_iff.mp hn).1
  refine ⟨by rw [List.length_map, List.length_take]; omega, ?_, rfl⟩
  rw [List.take_add_one, hn, List.map_append]
  rfl
/-! ### statements at a frame of its own -/
def WX (K : PySem.W.Frag) (S : Sy) (H0 : Hp) (ts : TS) (as : List Sv) (M : Mm) (A : AE) : Prop := ∀ σ H (D : Ends), Ok0 K S H0 H M → Rs K (Gh S M H) σ as →
  (∀ σ' H' as' M', Ok0 K S H0 H' M' → Rs K (Gh S M' H') σ' as' → Same (Gh S M H) (Gh S M' H') → A.nx as' M' → D.nx σ' H') → (∀ v H' d M', Ok0 K S H0 H' M' → Dp K (Gh S M' H') v d → A.rt d M' → D.rt v H') → ts D σ H
variable {A : AE} {s1 s2 ts : TS}
theorem wx_ws (h : WS K ts as M ⟨A.nx, A.rt, fun _ _ => False, fun _ _ => False⟩) : WX K S H0 ts as M A := fun σ H D k r n rt => h S H0 σ H D k r n rt (fun _ _ _ _ _ _ _ z => z.elim) (fun _ _ _ _ _ _ _ z => z.elim)
theorem wx_seq (h : WX K S H0 s1 as M { A with nx := fun as' M' => WX K S H0 s2 as' M' A }) : WX K S H0 (tSeq s1 s2) as M A := fun σ H D k r n rt =>
  h σ H { D with nx := s2 D } k r (fun σ' H' as' M' k' r' e' p => p σ' H' D k' r' (fun σ'' H'' as'' M'' k'' r'' e'' => n σ'' H'' as'' M'' k'' r'' (e'.trans e'')) rt) rt
theorem wx_set {i : Nat} (h : WR K S H0 te as M fun d M' => A.nx (as.set i (.dat d)) M') : WX K S H0 (tAsg te (gName i)) as M A := fun σ H D k r n _ =>
  h S Ext.refl σ H k r _ fun v H1 d M1 k1 e1 b1 p => n _ H1 (as.set i (.dat d)) M1 k1 ((r.mono e1).set i (s := .dat d) ⟨v, rfl, b1⟩) e1 p
theorem wx_ret (h : WR K S H0 te as M A.rt) : WX K S H0 (tRet te) as M A := fun σ H D k r _ rt => h S Ext.refl σ H k r _ fun v H1 d M1 k1 e1 b1 p => rt v H1 d M1 k1 b1 p
theorem wx_drop (h : WR K S H0 te as M fun _ M' => A.nx as M') : WX K S H0 (tDrop te) as M A := fun σ H D k r n _ =>
  h S Ext.refl σ H k r _ fun v H1 d M1 k1 e1 b1 p => n σ H1 as M1 k1 (r.mono e1) e1 p
theorem wx_next (p : A.nx as M) : WX K S H0 tNext as M A := fun σ H D k r n _ => n σ H as M k r (Same.refl _) p
theorem wx_if (h : WT K t as M fun b M' => if b = true then WX K S H0 s1 as M' A else WX K S H0 s2 as M' A) : WX K S H0 (tIfS t s1 s2) as M A := fun σ H D k r n rt => h S H0 σ H k r _ fun b H1 M1 k1 e1 p => by
  have go : ∀ s, WX K S H0 s as M1 A → s D σ H1 := fun s hs => hs σ H1 D k1 (r.mono e1) (fun σ'' H'' as'' M'' k'' r'' e'' => n σ'' H'' as'' M'' k'' r'' (e1.trans e'')) rt
  cases b with
  | true => exact go s1 p
  | false => exact go s2 p
/-- raise C() -/
theorem wx_raise (h : Bad S H0 E C) : WX K S H0 (fun _ _ H => E (.ref C) none H) as M A := fun σ H D k r _ _ => h H k.xt k.inv
/-- a def that may raise keeps its word -/
theorem to_spR {N : List Str} {vs : List V} {H : Hp} {Q : VK} {n : Nat} (hn : ∀ ds, pre ds → ds.length = n) (hb : ∀ (S : Sy) ds, pre ds → (good ds = false → Bad S H E C) → WX K S H ts (ds.map .dat ++ List.replicate (N.length - n) .no) [] ⟨fun _ _ => good ds = true ∧ val ds = .none, fun d _ => good ds = true ∧ d = val ds, fun _ _ => False, fun _ _ => False⟩)
    (h : spR C pre good val K vs H Q E) : ts { nx := fun _ H' => Q .non H', rt := Q } (L2.start N vs) H := by
  obtain ⟨S, ds, iv, hp, hd, q, bad⟩ := h
  have ln : vs.length = n := by rw [dps_len hd]; exact hn ds hp
  have k0 : Ok0 K S H H [] := ⟨fun _ _ _ e => e, iv, List.nodup_nil, (fun z hz => by cases hz), (fun z hz => by cases hz)⟩
  have hg : Gh S [] H = Hide S.B H := by unfold Gh; rw [bm_nil]
  have r0 : Rs K (Gh S [] H) (L2.start N vs) (ds.map .dat ++ List.replicate (N.length - n) .no) := by
    unfold L2.start
    rw [ln, hg]
    exact ra_start _ (dat_ra hd)
  have fin : ∀ v H' d M', Ok0 K S H H' M' → Dp K (Gh S M' H') v d → good ds = true ∧ d = val ds → Q v H' := fun v H' d M' k' dp ⟨g1, g2⟩ => by
    subst g2
    refine q g1 v H' k'.xt k'.inv (dp_mono (fun a o e => ?_) _ _ dp)
    obtain ⟨e1, e2⟩ := hide_some e
    rw [hide_f (bm_false.mp e1).1]
    exact e2
  exact hb S ds hp bad (L2.start N vs) H _ k0 r0 (fun σ' H' as' M' k' _ _ p => fin .non H' .none M' k' .non ⟨p.1, p.2.symm⟩) (fun v H' d M' k' dp p => fin v H' d M' k' dp p)
theorem spR_len {vs : List V} {H : Hp} {Q : VK} {n : Nat} (hn : ∀ ds, pre ds → ds.length = n) (h : spR C pre good val K vs H Q E) : vs.length = n := by
  obtain ⟨S, ds, _, hp, hd, _⟩ := h
  rw [dps_len hd]; exact hn ds hp
end
/-! ### a def that may be called and may raise -/
structure CalX (P : Program) (w : World) (K : PySem.W.Frag) (mg : Str → Option Value) (base : Heap) (k : Nat) (x : Str) (ps : List Str) (sp : Sp) : Prop where
  ex : ∃ f fd, FnOk P w K mg base (L2.CX P w) k f fd ps sp ∧ mg x = some (.ref f) ∧ PySem.W.keepIn K (.ref f) = true ∧ Binds K fd ps []
section
variable {P : Program} {w : World} {K : PySem.W.Frag} {mg : Str → Option Value} {base : Heap}
theorem CalX.mono {j k : Nat} {x : Str} {ps : List Str} {sp : Sp} (c : CalX P w K mg base j x ps sp) (h : j ≤ k) : CalX P w K mg base k x ps sp := by
  obtain ⟨f, fd, a, b, d, e⟩ := c.ex
  exact ⟨f, fd, a.mono h, b, d, e⟩
theorem CalX.void {k : Nat} {x : Str} {st : Stmt} {ps : List Str} {sp : Sp} (F : Dfn K mg x st ps) (h : ∀ vs H Q E, ¬ sp vs H Q E) : CalX P w K mg base k x ps sp := by
  obtain ⟨f, fd, a, b, c⟩ := F.ex
  exact ⟨f, fd, ⟨fun vs H Q E q => absurd q (h _ _ _ _), fun A outer s H args us vs Q E hr he hb hv q => absurd q (h _ _ _ _)⟩, b, a.kp, c⟩
theorem pe_calP {X : Cx} {k : Nat} {x : Str} {ps : List Str} {sp : Sp} {p pos : Pos} {e : Expr} {es : List Expr} {t : TA} {E : XK} (c : CalX X.prog X.w X.K X.mg X.base k x ps sp) (hp : Passes (L2.CX X.prog X.w) X E) (hr : Room k X.A) (ha : PA X (e :: es) t) (hg : Gl X x := by rfl)
    (hdb : (x == ("__debug__" : Str)) = false := by decide) (he : starEach (e :: es) X.env = (false, eval e X.env) :: starEach es X.env := by rfl) (hpl : (backTo pos (starEach es X.env)).any (·.1) = false := by rfl) : PE X (.Call (.Name x p) (e :: es) [] pos) (tCall sp [] E t) := by
  obtain ⟨f, fd, F, hm, hk, hb⟩ := c.ex
  exact pe_call F hr hg hm hk hb .nil hp ha hdb he hpl
theorem Dfn.okX {x : Str} {st : Stmt} {N ps : List Str} {k : Nat} {sp : Sp} (F : Dfn K mg x st ps) (S : FnScope N ps (defScope st)) (len : ∀ vs H Q E, sp vs H Q E → vs.length = ps.length)
    (hbody : ∀ (f : Addr) (cdv : Value) (A : Around) (outer : List Env) (s : Shared) (H : Hp) (vs : List V) (Q : VK) (E : XK), Room k (A.deeper (envOfC x (defScope st) s.heap.objs.size f cdv)) → sp vs H Q E →
      ∃ t, PSs (cxOf (L2.CX P w) P w K mg base N x (defScope st) f cdv A outer s H E) (defBody st) t ∧ t { nx := fun _ H' => Q .non H', rt := Q } (L2.start N vs) H) : CalX P w K mg base (k + 1) x ps sp := by
  obtain ⟨f, fd, a, b, c⟩ := F.ex
  exact ⟨f, fd, a.okX S len (fun cdv A outer s H vs Q E hr h => hbody f cdv A outer s H vs Q E hr h), b, a.kp, c⟩
end
end Ab

set_option Elab.async false
set_option linter.all false
set_option maxRecDepth 100000
set_option maxHeartbeats 4000000
/-! Exception objects of own classes as values: made, stored, their fields read, asked by isinstance. -/
namespace Ab
open PySem PySem.Spec PyProof.Rows L2
/-- C(e, ..) as a value, C's own __init__ keeping sp -/
def tOexV (C : Addr) (sp : Sp) (ta : TA) : TE := fun σ H Q => ta σ H fun vs H1 => vs.length ≤ 1000 ∧ ∀ a, H1 a = none → sp (.ref a :: vs) (upd H1 a (exo a C none)) (fun v H2 => v = .non ∧ Q (.ref a) H2) (fun _ _ _ => False)
section
variable {X : Cx} {e : Expr} {es : List Expr} {ta : TA} {te : TE} {p pos : Pos}
theorem pe_oexV {CX : CXT} {x : Str} {C fI : Addr} {k : Nat} {fd : FuncData} {ps : List Str} {sp : Sp} (T : OexC X.K C) (iC : PySem.W.findIn X.K (.ref C) "__init__" = some (some (.ref fI))) (tI : PySem.W.typeIn X.K (.ref fI) = some (.type "function")) (F1 : FnOk X.prog X.w X.K X.mg X.base CX k fI fd ps sp)
    (hr : Room (k + 1) X.A) (hb : Binds X.K fd ps []) (hx : Passes CX X (fun _ _ _ => False)) (hg : Gl X x) (hm : X.mg x = some (.ref C)) (ha : PA X (e :: es) ta) (hdb : (x == ("__debug__" : Str)) = false := by decide)
    (he : starEach (e :: es) X.env = (false, eval e X.env) :: starEach es X.env := by rfl) (hpl : (backTo pos (starEach es X.env)).any (·.1) = false := by rfl) : PE X (.Call (.Name x p) (e :: es) [] pos) (tOexV C sp ta) := by
  refine ⟨fun pins s σ H Q I h => ?_⟩
  obtain ⟨nm, q, N, bs, bm, sn, sub, ab, col, dd, k0, k1, k2, k3, k5, hC, hbm⟩ := T.cls
  refine wpAny_Call_Name_kw (ld_glob I hg hm ?_ hdb)
  refine PySem.W.callWith_K (h₀ := X.base) I.ok.mod.kin T.kC (thn (ha.run pos pins s σ H _ I h) fun us s1 ⟨vs, H1, I1, r1, hz, q1⟩ => ⟨I1.kIn, ?_⟩) he hpl
  show wpAny _ _ (call (.ref C) us) _ _ _
  obtain ⟨hp, g, dr, tk, os⟩ := s1
  have hsz : hp.objs.size ≤ hp.objs.size + 1 := Nat.le_succ _
  have hq := q1 (hp.objs.size + 1) (I1.hok.fresh hsz)
  have kk : ∀ b o, hp.get? b = some o → ((hp.push (PySem.W.kdv_tup us)).push (PySem.HandSPX.excO C hp.objs.size)).get? b = some o := fun b o e => Heap.get?_push_of_some _ (Heap.get?_push_of_some _ e)
  have I2 : Inv X pins σ (upd H1 (hp.objs.size + 1) (exo (hp.objs.size + 1) C none)) ⟨(hp.push (PySem.W.kdv_tup us)).push (PySem.HandSPX.excO C hp.objs.size), g, dr, tk, os⟩ :=
    I1.laid (t' := tk) (a := hp.objs.size + 1) (o := exo (hp.objs.size + 1) C none) (h' := (hp.push (PySem.W.kdv_tup us)).push (PySem.HandSPX.excO C hp.objs.size)) kk hsz (exo_ok (by heap_get))
  have r2 : Vals (V.ref (hp.objs.size + 1) :: vs) (Value.ref (hp.objs.size + 1) :: us) := .cons rfl r1
  have hl : (Value.ref (hp.objs.size + 1) :: us).length = ps.length := by rw [← r2.length]; exact F1.len _ _ _ _ hq
  have hus : us.length ≤ sizeLine := by rw [← Paired.length r1, sizeLine_eq]; omega
  have hb2 := hb _ (Value.ref (hp.objs.size + 1) :: us) I2.kIn (by rw [List.append_nil]; exact hl)
  rw [List.append_nil] at hb2
  refine wpAny_call (PySem.HandSPX.call_own F.excBase_ValueError (fun Y => PySem.HandSPX.refsVE_contains Y bm hbm) (I1.kIn _ _ hC) (PySem.W.looks_findIn I1.kIn iC) (fun self => PySem.W.bind_fn I1.kIn self tI) hus
    (codeAny_mono (F1.run _ X.stack _ _ ⟨Value.ref (hp.objs.size + 1) :: us, []⟩ (Value.ref (hp.objs.size + 1) :: us) _ _ (fun _ _ _ => False) (hr.make C us []) (I2.env0.make C us []) hb2 r2 hq) fun r s' hq' => ?_))
  cases r with
  | error er => exact hx pins σ _ _ er s' I2 hq'
  | ok fl =>
    cases fl with
    | ret u =>
      obtain ⟨v, H2, os2, bare2, un2, hok2, rv, ev, q2⟩ := hq'
      subst ev
      exact ⟨rv, .ref (hp.objs.size + 1), H2, I2.call' (ch := []) os2 un2 hok2 bare2 (fun b z => absurd z (by simp)), rfl, q2⟩
    | next => exact False.elim hq'
    | brk => exact False.elim hq'
    | cont => exact False.elim hq'
/-- C() as a value, C without __init__ -/
theorem pe_oex0 {C : Addr} {bmB : List Value} {B newId initId : String} {x : Str} (F : ExcBaseFacts B newId initId bmB) (q : PySem.W.excIn X.K C bmB newId = true) (gC : X.mg x = some (.ref C)) (kC : PySem.W.keepIn X.K (.ref C) = true) (hg : Gl X x) (hdb : (x == ("__debug__" : Str)) = false := by decide) :
    PE X (.Call (.Name x p) [] [] pos) (fun _ H Q => ∀ a, H a = none → Q (.ref a) (upd H a (exo a C none))) := by
  refine ⟨fun pins s σ H Q I h => ?_⟩
  refine wpAny_Call_Name_kw (ld_glob I hg gC ?_ hdb)
  refine PySem.W.callWith_K0 I.kIn kC ?_
  obtain ⟨bm, N, nm, qn, bs, hdct, sn, sub, ab, col, dd, k0, k1, k2, k3, k5, mN, hC, hN, hni, T⟩ := exc_obj I.kIn q
  refine wpAny_call_exc_subT F T hC hN hni (fun h' a hm => ?_) (by show 0 ≤ sizeLine; rw [sizeLine_eq]; omega)
  have hn : H a = none := I.hok.gone hm.new
  obtain ⟨t, ht, _, _⟩ := hm.there
  exact ⟨.ref a, upd H a (exo a C none), I.laidN hm.keeps hm.new hn (exo_ok ht), rfl, h a hn⟩
/-- e.n, e an exception object -/
def tOx (K : PySem.W.Frag) (n : Str) (te : TE) : TE := fun σ H Q => te σ H fun x H1 => ∃ (a C dd : Addr) (fs : List (Str × V)) (v : V), x = .ref a ∧ XfC K C ∧ PySem.W.findIn K (.ref C) n = some none ∧ H1 a = some (exo a C (some dd)) ∧ H1 dd = some (exd dd fs) ∧ fs.lookup n = some v ∧ Q v H1
theorem pe_ox {n : Str} (he : PE X e te) (hb : attributeBase e n X.env (eval e X.env) = eval e X.env := by rfl) : PE X (.Attribute e n pos) (tOx X.K n te) := by
  refine ⟨fun pins s σ H Q I h => ?_⟩
  refine attr_of hb (thn (he.run pins s σ H _ I h) fun u s1 ⟨x, H1, I1, rx, a, C, dd, fs, v, ex, T, hno, ea, ed, l, q⟩ => ?_)
  subst ex
  obtain rfl : u = Value.ref a := rx
  obtain ⟨t1, ha⟩ := exo_at I1.hok ea
  obtain ⟨mA, hns, hr⟩ := exd_at I1.hok ed
  obtain ⟨od, ho, hl⟩ := lookIn_ns hns
  obtain ⟨u, hu, ru⟩ := RelO.some_of (v := v) (o := mA n) (by rw [← l]; exact hr n)
  have J : PySem.W.InstAt s1.heap a { cls := .ref C, dict := some dd, data := .fields #[.ref t1, .none, .none, .none, .bool false, .none] } C (some od) := ⟨ha, rfl, rfl, ho⟩
  exact PySem.HandSPX.exc_get I1.kIn J T.ga T.gg T.exC (PySem.W.findObj_own T.hdC hno rfl (by rw [hl, hu])) (handed_of ru) ⟨v, H1, I1.tok _, ru, q⟩
/-- isinstance(e, c), e an exception object -/
def rIsX (K : PySem.W.Frag) : List V → Hp → VK → Prop := fun xs H Q => ∃ (a C : Addr) (dx : Option Addr) (c : V) (cv : Value) (b : Bool), xs = [.ref a, c] ∧ ClsV c cv ∧ ExcC K C ∧ H a = some (exo a C dx) ∧ (∀ d, dx = some d → ∃ fs, H d = some (exd d fs)) ∧ PySem.W.kitOne K (.ref C) cv = some b ∧ Q (.bl b) H
theorem call_isX : CallR X (.builtin "isinstance") (rIsX X.K) := by
  intro pins s σ H xs us Q I r h
  obtain ⟨a, C, dx, c, cv, b, rfl, hcv, T, ea, ed, e, q⟩ := h
  cases r with
  | cons rx rr =>
    cases rr with
    | cons rt rr =>
      cases rr
      cases rx
      have ec := hcv.eq rt
      subst ec
      obtain ⟨t1, ha⟩ := exo_at I.hok ea
      have hcl : (PySem.W.clsIn X.K C).isSome = true := by obtain ⟨cd, hc, _⟩ := PySem.W.any_some T.hd; rw [hc]; rfl
      have J : ∃ od, PySem.W.InstAt s.heap a { cls := .ref C, dict := dx, data := .fields #[.ref t1, .none, .none, .none, .bool false, .none] } C od := by
        cases dx with
        | none => exact ⟨none, ha, rfl, rfl, trivial⟩
        | some d =>
          obtain ⟨fs, hf⟩ := ed d rfl
          obtain ⟨mA, hns, hr⟩ := exd_at I.hok hf
          obtain ⟨od, ho, hl⟩ := lookIn_ns hns
          exact ⟨some od, ha, rfl, rfl, ho⟩
      obtain ⟨od, J⟩ := J
      exact PySem.W.kia_one (PySem.W.kitx_exc hcl T.hg T.hk T.hs T.ha T.hn T.ht T.hm) I.kIn J e (fun z => nomatch z) fun tk => ⟨.bl b, H, I.kept (t' := tk) fun _ _ z => z, rfl, q⟩
end
end Ab

set_option Elab.async false
set_option linter.all false
set_option maxRecDepth 100000
set_option maxHeartbeats 4000000
namespace Ab
open PySem PySem.Spec PyProof.Rows L2
section
variable {X : Cx} {K : PySem.W.Frag}
theorem k_isX (e : X.K = K) : CallR X (.builtin "isinstance") (rIsX K) := e ▸ call_isX
theorem k_ox {n : Str} {o : Expr} {te : TE} {pos : Pos} (e : X.K = K) (he : PE X o te) (hb : attributeBase o n X.env (eval o X.env) = eval o X.env := by rfl) : PE X (.Attribute o n pos) (tOx K n te) := e ▸ pe_ox he hb
end
/-! ### an own class that may be made -/
def spIni (C : Addr) (ns : List Str) : Sp := fun vs H Q _ => ∃ (a : Addr) (us : List V), vs = .ref a :: us ∧ us.length = ns.length ∧ H a = some (exo a C none) ∧
  ∀ dx H', H dx = none → dx ≠ a → H' a = some (exo a C (some dx)) → H' dx = some (exd dx (ns.zip us).reverse) → (∀ b, b ≠ a → b ≠ dx → H' b = H b) → Q .non H'
structure Mk (P : Program) (w : World) (K : PySem.W.Frag) (mg : Str → Option Value) (base : Heap) (nm : Str) (C : Addr) (ns : List Str) : Prop where
  ex : ∃ fI fd, OexC K C ∧ PySem.W.findIn K (.ref C) "__init__" = some (some (.ref fI)) ∧ PySem.W.typeIn K (.ref fI) = some (.type "function") ∧ FnOk P w K mg base CX0 1 fI fd ("self" :: ns) (spIni C ns) ∧ Binds K fd ("self" :: ns) [] ∧ mg nm = some (.ref C)
theorem pe_mk {X : Cx} {k : Nat} {nm : Str} {C : Addr} {ns : List Str} {e : Expr} {es : List Expr} {ta : TA} {p pos : Pos} (m : Mk X.prog X.w X.K X.mg X.base nm C ns) (hr : Room k X.A) (hk : 2 ≤ k) (ha : PA X (e :: es) ta) (hg : Gl X nm := by rfl) (hdb : (nm == ("__debug__" : Str)) = false := by decide)
    (he : starEach (e :: es) X.env = (false, eval e X.env) :: starEach es X.env := by rfl) (hpl : (backTo pos (starEach es X.env)).any (·.1) = false := by rfl) : PE X (.Call (.Name nm p) (e :: es) [] pos) (tOexV C (spIni C ns) ta) := by
  obtain ⟨fI, fd, T, iC, tI, F1, b, hm⟩ := m.ex
  exact pe_oexV T iC tI F1 (hr.mono hk) b pass0 hg hm ha hdb he hpl
/-- what stands behind some stores of an __init__ -/
def Mid (a C dx : Addr) (fs : List (Str × V)) (H H' : Hp) : Prop := H' a = some (exo a C (some dx)) ∧ H' dx = some (exd dx fs) ∧ dx ≠ a ∧ ∀ b, b ≠ a → b ≠ dx → H' b = H b
theorem mid1 {a C dx : Addr} {f : Str} {y : V} {H : Hp} (h : dx ≠ a) : Mid a C dx [(f, y)] H (upd (upd H dx (exd dx [(f, y)])) a (exo a C (some dx))) :=
  ⟨upd_same, by rw [upd_ne h, upd_same], h, fun b h1 h2 => by rw [upd_ne h1, upd_ne h2]⟩
theorem mid_on {a C dx : Addr} {f : Str} {y : V} {fs : List (Str × V)} {H H' : Hp} (m : Mid a C dx fs H H') : Mid a C dx ((f, y) :: fs) H (upd H' dx (exd dx ((f, y) :: fs))) :=
  ⟨by rw [upd_ne (Ne.symm m.2.2.1)]; exact m.1, upd_same, m.2.2.1, fun b h1 h2 => by rw [upd_ne h2]; exact m.2.2.2 b h1 h2⟩
/-! ### values that may be objects -/
section
variable {K : PySem.W.Frag} {S : Sy} {H0 H H' : Hp} {M : Mm} {as : List Sv} {te : TE} {ta : TA} {R : Sv → Mm → Prop} {P : PyData → Mm → Prop} {A : AE} {C : Addr}
theorem ok_keep (k : Ok0 K S H0 H M) (e : ∀ b o, H b = some o → H' b = some o) : Ok0 K S H0 H' M := by
  have sm : Same (Gh S M H) (Gh S M H') := fun a o q => by
    obtain ⟨q1, q2⟩ := hide_some q
    unfold Gh
    rw [hide_f q1]
    exact e a o q2
  exact ⟨fun a o h1 h2 => e a o (k.xt a o h1 h2), S.mono H H' (fun a o _ h => e a o h) k.inv, k.nd, k.loc, fun p hp => by
    obtain ⟨vs, h1, h2⟩ := k.mem p hp
    exact ⟨vs, e _ _ h1, dps_mono sm _ _ h2⟩⟩
theorem dps_rev {G : Hp} : ∀ {vs : List V} {ds : List PyData}, DpAll K G vs ds → DpAll K G vs.reverse ds.reverse
  | [], _, h => by cases h; exact .nil
  | v :: vs, _, h => by
    cases h with
    | cons h1 h2 =>
      rw [List.reverse_cons, List.reverse_cons]
      exact dps_app (dps_rev h2) (.cons h1 .nil)
theorem look_rel {G : Hp} {n : Str} {d : PyData} : ∀ {fv : List (Str × V)} {fs : List (Str × PyData)}, fv.map (·.1) = fs.map (·.1) → DpAll K G (fv.map (·.2)) (fs.map (·.2)) → fs.lookup n = some d → ∃ v, fv.lookup n = some v ∧ Dp K G v d
  | [], [], _, _, h => by cases h
  | p :: fv, q :: fs, e, hd, h => by
    rw [List.map_cons, List.map_cons] at e hd
    injection e with e1 e2
    cases hd with
    | cons h1 h2 =>
      obtain ⟨a, v⟩ := p
      obtain ⟨b, c⟩ := q
      have e1 : a = b := e1
      subst e1
      rw [lookup_put]
      have h : (if n = a then some c else fs.lookup n) = some d := by
        rw [← h]
        by_cases z : n = a
        · subst z; simp [List.lookup]
        · have z2 : (n == a) = false := by simpa using z
          rw [if_neg z]; simp [List.lookup, z2]
      by_cases z : n = a
      · rw [if_pos z] at h ⊢
        cases h
        exact ⟨v, rfl, h1⟩
      · rw [if_neg z] at h ⊢
        exact look_rel e2 h2 h
  | [], _ :: _, e, _, _ => by simp at e
  | _ :: _, [], e, _, _ => by simp at e
def WV (K : PySem.W.Frag) (te : TE) (as : List Sv) (M : Mm) (R : Sv → Mm → Prop) : Prop := ∀ S H0 σ H, Ok0 K S H0 H M → Rs K (Gh S M H) σ as → ∀ Q : VK,
  (∀ v H' s M', Ok0 K S H0 H' M' → Same (Gh S M H) (Gh S M' H') → RSv K (Gh S M' H') (some v) s → R s M' → Q v H') → te σ H Q
theorem wv_mk {ns : List Str} (h : WA K ta as M fun ss M1 => ∃ ds : List PyData, ss = ds.map .dat ∧ ds.length = ns.length ∧ ds.length ≤ 1000 ∧ ∀ a, R (.obj a C (ns.zip ds).reverse) M1) : WV K (tOexV C (spIni C ns) ta) as M R := fun S H0 σ H k r Q q =>
  h S H0 σ H k r _ fun vs H1 ss M1 k1 e1 b1 ⟨ds, es, hl, hz, rr⟩ => by
    subst es
    have bd := ra_dat b1
    have lv : vs.length = ds.length := dps_len bd
    refine ⟨by omega, fun a ha => ⟨a, vs, rfl, by omega, upd_same, fun dx H' n1 n2 h1 h2 h3 => ⟨rfl, ?_⟩⟩⟩
    have hd : H1 dx = none := by rw [upd_ne n2] at n1; exact n1
    have kp : ∀ b o, H1 b = some o → H' b = some o := fun b o e => by
      rw [h3 b (ne_of_none e ha) (ne_of_none e hd), upd_ne (ne_of_none e ha)]; exact e
    have sm : Same (Gh S M1 H1) (Gh S M1 H') := fun b o q => by
      obtain ⟨q1, q2⟩ := hide_some q
      unfold Gh
      rw [hide_f q1]
      exact kp b o q2
    refine q (.ref a) H' (.obj a C (ns.zip ds).reverse) M1 (ok_keep k1 kp) (e1.trans sm) ⟨rfl, some dx, ?_, .inr ⟨dx, (ns.zip vs).reverse, rfl, ?_, ?_, ?_⟩⟩ (rr a)
    · unfold Gh; rw [hide_f (new_hid k1 ha)]; exact h1
    · unfold Gh; rw [hide_f (new_hid k1 hd)]; exact h2
    · rw [List.map_reverse, List.map_reverse, List.map_fst_zip (by omega), List.map_fst_zip (by omega)]
    · rw [List.map_reverse, List.map_reverse, List.map_snd_zip (by omega), List.map_snd_zip (by omega)]
      exact dps_rev (dps_mono sm _ _ bd)
theorem wv_mk0 (h : ∀ a, R (.obj a C []) M) : WV K (fun _ H Q => ∀ a, H a = none → Q (.ref a) (upd H a (exo a C none))) as M R := fun S H0 σ H k r Q q a ha =>
  q (.ref a) _ (.obj a C []) M (ok_new k ha) (new_same ha) ⟨rfl, none, by unfold Gh; rw [hide_f (new_hid k ha), upd_same], .inl ⟨rfl, rfl⟩⟩ (h a)
theorem w_ox {i : Nat} {a : Addr} {n : Str} {d : PyData} {fs : List (Str × PyData)} (hi : as[i]? = some (.obj a C fs)) (T : XfC K C) (no : PySem.W.findIn K (.ref C) n = some none) (l : fs.lookup n = some d) (p : P d M) : W K (tOx K n (tVar i)) as M P := fun S H0 σ H k r Q q => by
  obtain ⟨o, e1, e2, dx, e3, e4⟩ := r.at_ i _ hi
  subst e2
  rcases e4 with ⟨_, z⟩ | ⟨dd, fv, q1, q2, q3, q4⟩
  · rw [z] at l; cases l
  · subst q1
    obtain ⟨v, hv, hd⟩ := look_rel q3 q4 l
    exact ⟨.ref a, e1, a, C, dd, fv, v, rfl, T, no, (hide_some e3).2, (hide_some q2).2, hv, q v H d M k (Same.refl _) hd p⟩
theorem w_isX {i : Nat} {a : Addr} {c : V} {cv : Value} {b : Bool} {fs : List (Str × PyData)} (hi : as[i]? = some (.obj a C fs)) (hc : ClsV c cv) (T : ExcC K C) (e : PySem.W.kitOne K (.ref C) cv = some b) (p : P (.bool b) M) : W K (tCB (rIsX K) (tCons (tVar i) (tCons (tC c) tNil))) as M P := fun S H0 σ H k r Q q => by
  obtain ⟨o, e1, e2, dx, e3, e4⟩ := r.at_ i _ hi
  subst e2
  refine ⟨.ref a, e1, a, C, dx, c, cv, b, rfl, hc, T, (hide_some e3).2, fun d hd => ?_, e, q _ H _ M k (Same.refl _) (.bl _) p⟩
  rcases e4 with ⟨z, _⟩ | ⟨dd, fv, q1, q2, q3, q4⟩
  · rw [z] at hd; cases hd
  · rw [q1] at hd; cases hd; exact ⟨fv, (hide_some q2).2⟩
theorem wa_obj {i : Nat} {a : Addr} {fs : List (Str × PyData)} {tr : TA} {P : List Sv → Mm → Prop} (h : as[i]? = some (.obj a C fs)) (hr : WA K tr as M fun ss M2 => P (.obj a C fs :: ss) M2) : WA K (tCons (tVar i) tr) as M P := fun S H0 σ H k r Q q => by
  obtain ⟨o, e1, e2⟩ := r.at_ i _ h
  have e2' := e2
  obtain ⟨e3, _⟩ := e2'
  subst e3
  exact ⟨.ref a, e1, hr S H0 σ H k r _ fun vs H2 ss M2 k2 e4 b2 p => q _ H2 (.obj a C fs :: ss) M2 k2 e4 ⟨RSv.mono e4 (s := .obj a C fs) e2, b2⟩ p⟩
theorem ws_setV {i : Nat} (h : WV K te as M fun s M' => A.nx (as.set i s) M') : WS K (tAsg te (gName i)) as M A := fun S H0 σ H D k r n _ _ _ =>
  h S H0 σ H k r _ fun v H1 s M1 k1 e1 b1 p => n _ H1 (as.set i s) M1 k1 ((r.mono e1).set i (s := s) b1) e1 p
/-! defs that take objects, defs that hand them back -/
def spS (pre : List Sv → Prop) (post : List Sv → PyData → Prop) (K : PySem.W.Frag) : Sp := fun vs H Q _ => ∃ (S : Sy) (ss : List Sv), S.I H ∧ pre ss ∧ RA K (Hide S.B H) vs ss ∧
  ∀ v H' d, (∀ a o, S.B a = false → H a = some o → H' a = some o) → S.I H' → Dp K (Hide S.B H') v d → post ss d → Q v H'
def spSV (pre : List Sv → Prop) (post : List Sv → Sv → Prop) (K : PySem.W.Frag) : Sp := fun vs H Q _ => ∃ (S : Sy) (ss : List Sv), S.I H ∧ pre ss ∧ RA K (Hide S.B H) vs ss ∧
  ∀ v H' s, (∀ a o, S.B a = false → H a = some o → H' a = some o) → S.I H' → RSv K (Hide S.B H') (some v) s → post ss s → Q v H'
variable {pre : List Sv → Prop} {post : List Sv → PyData → Prop} {postV : List Sv → Sv → Prop} {E : XK}
theorem behind {M1 : Mm} {H1 H' : Hp} (k1 : Ok0 K S H0 H1 M1) (hnn : ∀ q ∈ M1, H1 q.1 ≠ none) (xt : ∀ a o, (syAt S M1 H1 hnn).B a = false → H1 a = some o → H' a = some o) (iv : (syAt S M1 H1 hnn).I H') : Ok0 K S H0 H' M1 ∧ Same (Gh S M1 H1) (Gh S M1 H') := by
  have sm : Same (Gh S M1 H1) (Gh S M1 H') := gh_any xt
  refine ⟨⟨fun a o e3 e4 => ?_, iv.1, k1.nd, k1.loc, fun z hz => ?_⟩, sm⟩
  · have e5 := k1.xt a o e3 e4
    by_cases e6 : Bm S M1 a = false
    · exact xt a o e6 e5
    · rcases (Bool.or_eq_true _ _).mp (show Bm S M1 a = true by simpa using e6) with e | e
      · rw [e3] at e; cases e
      · obtain ⟨z, hz, y⟩ := List.any_eq_true.mp e
        have y : z.1 = a := by simpa using y
        rw [← y, iv.2 z hz, y]
        exact e5
  · obtain ⟨us, a, b⟩ := k1.mem z hz
    exact ⟨us, by rw [iv.2 z hz]; exact a, dps_mono sm _ _ b⟩
theorem mem_nn {M1 : Mm} {H1 : Hp} (k1 : Ok0 K S H0 H1 M1) : ∀ q ∈ M1, H1 q.1 ≠ none := fun z hz => by
  obtain ⟨us, a, _⟩ := k1.mem z hz
  rw [a]; simp
theorem w_callS (h : WA K ta as M fun ss M1 => pre ss ∧ ∀ d, post ss d → P d M1) : W K (tCall (spS pre post K) [] E ta) as M P := fun S H0 σ H k r Q q =>
  h S H0 σ H k r _ fun vs H1 ss M1 k1 e1 b1 ⟨hp, p⟩ => by
    rw [List.append_nil]
    exact ⟨syAt S M1 H1 (mem_nn k1), ss, ⟨k1.inv, fun _ _ => rfl⟩, hp, b1, fun v H' d xt iv dp pd => by
      obtain ⟨k2, sm⟩ := behind k1 (mem_nn k1) xt iv
      exact q v H' d M1 k2 (e1.trans sm) dp (p d pd)⟩
theorem wv_call (h : WA K ta as M fun ss M1 => pre ss ∧ ∀ s, postV ss s → R s M1) : WV K (tCall (spSV pre postV K) [] E ta) as M R := fun S H0 σ H k r Q q =>
  h S H0 σ H k r _ fun vs H1 ss M1 k1 e1 b1 ⟨hp, p⟩ => by
    rw [List.append_nil]
    exact ⟨syAt S M1 H1 (mem_nn k1), ss, ⟨k1.inv, fun _ _ => rfl⟩, hp, b1, fun v H' s xt iv dp pd => by
      obtain ⟨k2, sm⟩ := behind k1 (mem_nn k1) xt iv
      exact q v H' s M1 k2 (e1.trans sm) dp (p s pd)⟩
theorem start_ss {vs : List V} {ss : List Sv} {N : List Str} {n : Nat} (iv : S.I H) (hl : ss.length = n) (hd : RA K (Hide S.B H) vs ss) : Ok0 K S H H [] ∧ Rs K (Gh S [] H) (L2.start N vs) (ss ++ List.replicate (N.length - n) .no) := by
  refine ⟨⟨fun _ _ _ e => e, iv, List.nodup_nil, (fun z hz => by cases hz), (fun z hz => by cases hz)⟩, ?_⟩
  have hg : Gh S [] H = Hide S.B H := by unfold Gh; rw [bm_nil]
  unfold L2.start
  rw [ra_len hd, hl, hg]
  exact ra_start _ hd
theorem to_spS {t : TS} {N : List Str} {vs : List V} {Q : VK} {n : Nat} (hn : ∀ ss, pre ss → ss.length = n) (hb : ∀ ss, pre ss → WS K t (ss ++ List.replicate (N.length - n) .no) [] ⟨fun _ _ => post ss .none, fun d _ => post ss d, fun _ _ => False, fun _ _ => False⟩)
    (h : spS pre post K vs H Q E) : t { nx := fun _ H' => Q .non H', rt := Q } (L2.start N vs) H := by
  obtain ⟨S, ss, iv, hp, hd, q⟩ := h
  obtain ⟨k0, r0⟩ := start_ss (N := N) iv (hn ss hp) hd
  have fin : ∀ v H' d M', Ok0 K S H H' M' → Dp K (Gh S M' H') v d → post ss d → Q v H' := fun v H' d M' k' dp pd => by
    refine q v H' d k'.xt k'.inv (dp_mono (fun a o e => ?_) _ _ dp) pd
    obtain ⟨e1, e2⟩ := hide_some e
    rw [hide_f (bm_false.mp e1).1]
    exact e2
  exact hb ss hp S H (L2.start N vs) H _ k0 r0 (fun σ' H' as' M' k' _ _ p => fin .non H' .none M' k' .non p) (fun v H' d M' k' dp p => fin v H' d M' k' dp p) (fun _ _ _ _ _ _ _ p => p.elim) (fun _ _ _ _ _ _ _ p => p.elim)
def WSV (K : PySem.W.Frag) (ts : TS) (as : List Sv) (R : Sv → Prop) : Prop := ∀ S H0 σ H (D : Ends), Ok0 K S H0 H [] → Rs K (Gh S [] H) σ as → (∀ v H' s, Ok0 K S H0 H' [] → RSv K (Gh S [] H') (some v) s → R s → D.rt v H') → ts D σ H
variable {t : TT} {s1 s2 : TS} {Rv : Sv → Prop}
theorem wsv_ret (h : WV K te as [] fun s M' => M' = [] ∧ Rv s) : WSV K (tRet te) as Rv := fun S H0 σ H D k r q =>
  h S H0 σ H k r _ fun v H1 s M1 k1 e1 b1 ⟨em, p⟩ => by subst em; exact q v H1 s k1 b1 p
theorem wsv_if (h : WT K t as [] fun b M' => M' = [] ∧ if b = true then WSV K (tRet te) as Rv else WSV K s2 as Rv) : WSV K (tSeq (tIfS t (tRet te) tNext) s2) as Rv := fun S H0 σ H D k r q =>
  h S H0 σ H k r _ fun b H1 M1 k1 e1 ⟨em, p⟩ => by
    subst em
    cases b with
    | true => exact (show WSV K (tRet te) as Rv from p) S H0 σ H1 _ k1 (r.mono e1) q
    | false => exact (show WSV K s2 as Rv from p) S H0 σ H1 _ k1 (r.mono e1) q
theorem to_spSV {ts : TS} {N : List Str} {vs : List V} {Q : VK} {n : Nat} (hn : ∀ ss, pre ss → ss.length = n) (hb : ∀ ss, pre ss → WSV K ts (ss ++ List.replicate (N.length - n) .no) (postV ss)) (h : spSV pre postV K vs H Q E) : ts { nx := fun _ H' => Q .non H', rt := Q } (L2.start N vs) H := by
  obtain ⟨S, ss, iv, hp, hd, q⟩ := h
  obtain ⟨k0, r0⟩ := start_ss (N := N) iv (hn ss hp) hd
  have hg : ∀ H', Gh S [] H' = Hide S.B H' := fun H' => by unfold Gh; rw [bm_nil]
  exact hb ss hp S H (L2.start N vs) H _ k0 r0 fun v H' s k' b p => q v H' s k'.xt k'.inv (by rw [← hg]; exact b) p
theorem spS_len {vs : List V} {Q : VK} {n : Nat} (hn : ∀ ss, pre ss → ss.length = n) (h : spS pre post K vs H Q E) : vs.length = n := by
  obtain ⟨S, ss, _, hp, hd, _⟩ := h
  rw [ra_len hd]; exact hn ss hp
theorem spSV_len {vs : List V} {Q : VK} {n : Nat} (hn : ∀ ss, pre ss → ss.length = n) (h : spSV pre postV K vs H Q E) : vs.length = n := by
  obtain ⟨S, ss, _, hp, hd, _⟩ := h
  rw [ra_len hd]; exact hn ss hp
/-- a call that draws, while other own lists stand by -/
theorem w_callQm {preQ : List PyData → Prop} {postQ : List PyData → PyData → Prop} (h : WA K ta as M fun ss M1 => ∃ (p : Addr) (fl : Bool) (pl ds : List PyData), ss = .own p :: ds.map .dat ∧ (p, fl, pl) ∈ M1 ∧ poolD pl ∧ preQ ds ∧ ∀ d pl', poolD pl' → postQ ds d → P d (mset M1 p pl')) :
    W K (tCall (spQ preQ postQ K) [] E ta) as M P := fun S H0 σ H k r Q q =>
  h S H0 σ H k r _ fun vs H1 ss M1 k1 e1 b1 ⟨p, fl, pl, ds, es, hm, hpl, hp, cont⟩ => by
    subst es
    rw [List.append_nil]
    match vs, b1 with
    | v0 :: ws, ⟨q1, q2⟩ =>
      cases (show some v0 = some (V.ref p) from q1)
      obtain ⟨us, hus, hud⟩ := k1.mem _ hm
      have hus : H1 p = some (.lst us) := hus
      have lc := k1.loc _ hm
      let S' : Sy := {
        B := Bm S M1
        I := fun H => S.I H ∧ (∃ l, H p = some (.lst l)) ∧ ∀ q ∈ M1, q.1 ≠ p → H q.1 = H1 q.1
        mono := fun H H' e i => by
          refine ⟨S.mono H H' (fun a o e1 e2 => e a o (by unfold Bm; rw [e1]; rfl) e2) i.1, ?_, fun q hq n => ?_⟩
          · obtain ⟨l, e2⟩ := i.2.1
            exact ⟨l, e p _ (own_bm hm) e2⟩
          · have e2 := i.2.2 q hq n
            obtain ⟨us2, a, _⟩ := k1.mem q hq
            rw [a] at e2 ⊢
            exact e _ _ (own_bm hq) e2
        trk := fun H a i e => by
          rcases (Bool.or_eq_true _ _).mp e with e | e
          · exact S.trk H a i.1 e
          · obtain ⟨q, hq, z⟩ := List.any_eq_true.mp e
            have z : q.1 = a := by simpa using z
            by_cases n : q.1 = p
            · obtain ⟨l, e2⟩ := i.2.1
              rw [← z, n, e2]; simp
            · rw [← z, i.2.2 q hq n]
              exact mem_nn k1 q hq }
      have stb : Stb S' p := fun H l l' i hl => by
        refine ⟨?_, ⟨l', upd_same⟩, fun q hq n => by rw [upd_ne n]; exact i.2.2 q hq n⟩
        cases fl with
        | true => exact S.mono H _ (fun a o y1 y2 => by rw [upd_ne (fun z => by have w := (lc.1 rfl).1; rw [z] at y1; rw [show S.B p = true from y1] at w; cases w)]; exact y2) i.1
        | false => exact (lc.2 rfl).2 H l l' i.1 hl
      refine ⟨S', p, ws, ds, us, pl, rfl, ⟨k1.inv, ⟨us, hus⟩, fun _ _ _ => rfl⟩, own_bm hm, stb, hus, hud, hpl, hp, ra_dat q2, fun v H' d l' pl' xt iv hl' hd' hpl' dp pd => ?_⟩
      have be : Bm S (mset M1 p pl') = Bm S M1 := bm_set
      have sm : Same (Gh S M1 H1) (Gh S (mset M1 p pl') H') := fun a o e => by
        obtain ⟨e1, e2⟩ := hide_some e
        unfold Gh
        rw [be, hide_f e1]
        exact xt a o e1 e2
      have mm : ∀ z ∈ mset M1 p pl', (z.1 = p ∧ z = (p, fl, pl')) ∨ (z.1 ≠ p ∧ z ∈ M1) := fun z hz => by
        obtain ⟨y, hy, e⟩ := List.mem_map.mp hz
        by_cases n : y.1 = p
        · rw [if_pos n] at e
          have ey : y = (p, fl, pl) := mem_uniq k1.nd hy hm n
          subst ey
          exact .inl ⟨by rw [← e], e.symm⟩
        · rw [if_neg n] at e
          subst e
          exact .inr ⟨n, hy⟩
      refine q v H' d (mset M1 p pl') ⟨fun a o e3 e4 => ?_, iv.1, by rw [mset_fst]; exact k1.nd, fun z hz => ?_, fun z hz => ?_⟩ (e1.trans sm) (by rw [show Gh S (mset M1 p pl') H' = Hide S'.B H' by unfold Gh; rw [be]]; exact dp) (cont d pl' hpl' pd)
      · have e5 := k1.xt a o e3 e4
        by_cases e6 : Bm S M1 a = false
        · exact xt a o e6 e5
        · rcases (Bool.or_eq_true _ _).mp (show Bm S M1 a = true by simpa using e6) with e | e
          · rw [e3] at e; cases e
          · obtain ⟨z, hz, y⟩ := List.any_eq_true.mp e
            have y : z.1 = a := by simpa using y
            by_cases n : z.1 = p
            · rw [n] at y
              subst y
              cases fl with
              | true => rw [(lc.1 rfl).2] at e4; cases e4
              | false => have w := (lc.2 rfl).1; rw [e3] at w; cases w
            · rw [← y, iv.2.2 z hz n, y]
              exact e5
      · rcases mm z hz with ⟨_, e⟩ | ⟨_, hz⟩
        · subst e; exact lc
        · exact k1.loc z hz
      · rcases mm z hz with ⟨_, e⟩ | ⟨n, hz⟩
        · subst e
          exact ⟨l', hl', by rw [be]; exact hd'⟩
        · obtain ⟨us2, a, b⟩ := k1.mem z hz
          exact ⟨us2, by rw [iv.2.2 z hz n]; exact a, dps_mono sm _ _ b⟩
end
end Ab

set_option Elab.async false
set_option linter.all false
set_option maxRecDepth 100000
set_option maxHeartbeats 4000000
namespace E5
open PySem PySem.Spec PyProof.Rows L2 Ab

/-! ### the text -/
def topS (i : Nat) : Stmt := PySem.Challenge.pw_listasks_k95_errors_side_by_side.main.body.getD i (.Pass ⟨0, 0, 0, 0⟩)
abbrev s_law_pool : Stmt := topS 43
theorem sc_law_pool : FnScope ["_law_script", "_law_at", "_law_cell", "_law_size", "_law_start"] ["_law_script", "_law_at"] (defScope s_law_pool) := ⟨rfl, rfl, rfl, by decide +kernel, rfl, by decide +kernel, by decide +kernel⟩
abbrev s_law_draw : Stmt := topS 44
theorem sc_law_draw : FnScope ["_law_pool_here", "_law_many", "_law_drawn"] ["_law_pool_here", "_law_many"] (defScope s_law_draw) := ⟨rfl, rfl, rfl, by decide +kernel, rfl, by decide +kernel, by decide +kernel⟩
abbrev s_law_exact : Stmt := topS 45
theorem sc_law_exact : FnScope ["_law_told", "_law_due", "_law_k"] ["_law_told", "_law_due"] (defScope s_law_exact) := ⟨rfl, rfl, rfl, by decide +kernel, rfl, by decide +kernel, by decide +kernel⟩
abbrev s_law_base_value : Stmt := topS 46
theorem sc_law_base_value : FnScope ["_law_pool_here", "_law_kind", "_law_drawn", "_law_size", "_law_signs", "_law_k"] ["_law_pool_here", "_law_kind"] (defScope s_law_base_value) := ⟨rfl, rfl, rfl, by decide +kernel, rfl, by decide +kernel, by decide +kernel⟩
abbrev s_law_first_errors : Stmt := topS 47
theorem sc_law_first_errors : FnScope ["_law_turn", "_law_one", "_law_other", "_law_third"] ["_law_turn", "_law_one", "_law_other", "_law_third"] (defScope s_law_first_errors) := ⟨rfl, rfl, rfl, by decide +kernel, rfl, by decide +kernel, by decide +kernel⟩
abbrev s_law_later_errors : Stmt := topS 48
theorem sc_law_later_errors : FnScope ["_law_turn", "_law_one", "_law_other", "_law_third"] ["_law_turn", "_law_one", "_law_other", "_law_third"] (defScope s_law_later_errors) := ⟨rfl, rfl, rfl, by decide +kernel, rfl, by decide +kernel, by decide +kernel⟩
abbrev s_law_first_attributes : Stmt := topS 49
theorem sc_law_first_attributes : FnScope ["_law_turn", "_law_error"] ["_law_turn", "_law_error"] (defScope s_law_first_attributes) := ⟨rfl, rfl, rfl, by decide +kernel, rfl, by decide +kernel, by decide +kernel⟩
abbrev s_law_later_attributes : Stmt := topS 50
theorem sc_law_later_attributes : FnScope ["_law_turn", "_law_error"] ["_law_turn", "_law_error"] (defScope s_law_later_attributes) := ⟨rfl, rfl, rfl, by decide +kernel, rfl, by decide +kernel, by decide +kernel⟩
abbrev s_law_flags : Stmt := topS 51
theorem sc_law_flags : FnScope ["_law_error", "_law_first"] ["_law_error"] (defScope s_law_flags) := ⟨rfl, rfl, rfl, by decide +kernel, rfl, by decide +kernel, by decide +kernel⟩
abbrev s_law : Stmt := topS 52
theorem sc_law : FnScope ["_law_script", "_law_pool_here", "_law_turn", "_law_things", "_law_k", "_law_error", "_law_told", "_law_own"] ["_law_script"] (defScope s_law) := ⟨rfl, rfl, rfl, by decide +kernel, rfl, by decide +kernel, by decide +kernel⟩
/-- what the top has written -/
structure Txt (K : PySem.W.Frag) (mg : Str → Option Value) : Prop where
  n_ValueError : mg "ValueError" = none
  n_bool : mg "bool" = none
  n_int : mg "int" = none
  n_isinstance : mg "isinstance" = none
  n_len : mg "len" = none
  n_list : mg "list" = none
  n_range : mg "range" = none
  n_str : mg "str" = none
  n_tuple : mg "tuple" = none
def tailM (A : Addr) : List Value := [.ref A, .type "ValueError", .type "Exception", .type "BaseException", .type "object"]
/-- a class: its shape -/
structure CF (K : PySem.W.Frag) (C : Addr) (bm : List Value) : Prop where
  lk : ∃ nm q N bs sn sub ab col dd k0 k1 k2 k3 k5, K.lookup C = some (excClassObj nm q C N bs bm true sn sub ab col dd k0 k1 k2 k3 k5 "ValueError.__new__")
structure XA (K : PySem.W.Frag) (mg : Str → Option Value) (A : Addr) : Prop where
  gC : mg "AskError" = some (.ref A)
  cf : CF K A [.type "ValueError", .type "Exception", .type "BaseException", .type "object"]
structure XC (K : PySem.W.Frag) (mg : Str → Option Value) (A C : Addr) (nm : Str) (ns : List Str) : Prop where
  gC : mg nm = some (.ref C)
  cf : CF K C (tailM A)
  kC : PySem.W.keepIn K (.ref C) = true
  hg : PySem.W.findIn K (.ref C) "__getattribute__" = some (some (.builtin "BaseException.__getattribute__"))
  hk : PySem.W.findIn K (.ref C) "__getattr__" = some none
  ha : PySem.W.findIn K (.ref C) "__class__" = some (some (.builtin "object.__class__"))
  hn : PySem.W.specialIn K (.builtin "object.__class__") "__get__" = some (some (.builtin "getset_descriptor.__get__"))
  ht : PySem.W.takesIn K (.builtin "object.__class__") = some true
  no : ∀ n ∈ ns, PySem.W.findIn K (.ref C) n = some none
structure XI (K : PySem.W.Frag) (C : Addr) (qn : Str) (st : Stmt) (ps : List Str) : Prop where
  ex : ∃ fI fd, Fun K "__init__" qn st fI fd ∧ Binds K fd ps [] ∧ PySem.W.findIn K (.ref C) "__init__" = some (some (.ref fI)) ∧ PySem.W.typeIn K (.ref fI) = some (.type "function")
  sa : PySem.W.findIn K (.ref C) "__setattr__" = some (some (.builtin "object.__setattr__"))
section
variable {K : PySem.W.Frag} {mg : Str → Option Value} {A C : Addr} {nm : Str} {ns : List Str} {bm : List Value}
theorem CF.cls (f : CF K C bm) : ∃ cd, PySem.W.clsIn K C = some cd ∧ cd.mro = .ref C :: bm ∧ cd.hasDict = true := by
  obtain ⟨_, _, _, _, _, _, _, _, _, _, _, _, _, _, h⟩ := f.lk
  unfold PySem.W.clsIn
  rw [h]
  exact ⟨_, rfl, rfl, rfl⟩
theorem CF.ty (f : CF K C bm) : PySem.W.typeIn K (.ref C) = some (.type "type") := by
  obtain ⟨_, _, _, _, _, _, _, _, _, _, _, _, _, _, h⟩ := f.lk
  unfold PySem.W.typeIn
  simp only [h]
  rfl
theorem CF.sub (f : CF K C bm) (b : Value) : PySem.W.subIn K (.ref C) b = some ((Value.ref C == b) || bm.contains b) := by
  obtain ⟨cd, h1, h2, _⟩ := f.cls
  show PySem.W.mroIn K C b = _
  unfold PySem.W.mroIn
  rw [h1, Option.bind_some, h2, if_neg (by simp)]
  congr 1
  rw [List.contains_cons, BEq.comm]
theorem CF.hd (f : CF K C bm) : PySem.W.hasDictIn K C = true := by
  obtain ⟨cd, h1, h2, h3⟩ := f.cls
  unfold PySem.W.hasDictIn
  rw [h1]; exact h3
theorem XC.exC (x : XC K mg A C nm ns) : PySem.W.subIn K (.ref C) (.type "BaseException") = some true := by
  rw [x.cf.sub]; rfl
theorem XC.xf (x : XC K mg A C nm ns) : XfC K C := ⟨x.hg, x.hk, x.exC, x.cf.hd⟩
theorem XC.ec (x : XC K mg A C nm ns) : ExcC K C := ⟨x.hg, x.hk, x.exC, x.cf.hd, x.ha, x.hn, x.ht, by
  have h := x.cf.sub (.type "object")
  exact h.trans rfl⟩
theorem kit_of {D : Addr} {bd : List Value} (f : CF K C bm) (g : CF K D bd) : PySem.W.kitOne K (.ref C) (.ref D) = some ((C == D) || bm.contains (.ref D)) := by
  unfold PySem.W.kitOne
  have e : (Value.ref C == Value.ref D) = (C == D) := by
    rw [Bool.eq_iff_iff]
    simp
  obtain ⟨cd, h1, _⟩ := g.cls
  by_cases h : (Value.ref C == Value.ref D) = true
  · rw [if_pos h]
    rw [e] at h
    rw [h]; rfl
  · rw [if_neg h]
    unfold PySem.W.kitCls
    simp only [h1, g.ty]
    rw [if_pos (by rfl), f.sub, e]
theorem kit_ve (f : CF K C (tailM A)) : PySem.W.kitOne K (.ref C) (.type "ValueError") = some true := by
  unfold PySem.W.kitOne
  rw [if_neg (by intro h; cases h)]
  unfold PySem.W.kitCls
  simp only []
  rw [if_pos (by decide +kernel), f.sub]
  rfl
theorem XI.use {qn : Str} {st : Stmt} {ps : List Str} (i : XI K C qn st ps) (x : XC K mg A C nm ns) : ∃ fI fd, Fun K "__init__" qn st fI fd ∧ Binds K fd ps [] ∧ OexC K C ∧ PySem.W.findIn K (.ref C) "__init__" = some (some (.ref fI)) ∧ PySem.W.typeIn K (.ref fI) = some (.type "function") := by
  obtain ⟨fI, fd, a, b, c, d⟩ := i.ex
  obtain ⟨nm, q, N, bs, sn, sub, ab, col, dd, k0, k1, k2, k3, k5, h⟩ := x.cf.lk
  exact ⟨fI, fd, a, b, ⟨⟨nm, q, N, bs, tailM A, sn, sub, ab, col, dd, k0, k1, k2, k3, k5, h, rfl⟩, i.sa, x.exC, x.cf.ty, x.kC⟩, c, d⟩
end
/-- the classes -/
structure XS (K : PySem.W.Frag) (mg : Str → Option Value) (cs : Nat → Addr) (A : Addr) : Prop where
  nd : ∀ i j, i < 40 → j < 40 → (cs i == cs j) = decide (j = i)
  na : ∀ i, i < 40 → (A == cs i) = false
  x_AskError : XA K mg A
  x_BadKind : XC K mg A (cs 0) "BadKind" []
  x_NoPlace : XC K mg A (cs 1) "NoPlace" ["steps"]
  x_NoPath : XC K mg A (cs 2) "NoPath" ["path"]
  x_BadTerm : XC K mg A (cs 3) "BadTerm" ["path", "what"]
  x_BadHeads : XC K mg A (cs 4) "BadHeads" ["at", "what"]
  x_NoTable : XC K mg A (cs 5) "NoTable" ["table"]
  x_NoRow : XC K mg A (cs 6) "NoRow" ["table", "number"]
  x_NoColumn : XC K mg A (cs 7) "NoColumn" ["column"]
  x_BadRow : XC K mg A (cs 8) "BadRow" ["at"]
  x_BadLots : XC K mg A (cs 9) "BadLots" []
  x_BadText : XC K mg A (cs 10) "BadText" ["place"]
  x_BadForm : XC K mg A (cs 11) "BadForm" ["what"]
  x_BadChoices : XC K mg A (cs 12) "BadChoices" ["number"]
  x_BadProgram : XC K mg A (cs 13) "BadProgram" ["what"]
  x_Unknown : XC K mg A (cs 14) "Unknown" ["at", "path", "name"]
  x_Misfit : XC K mg A (cs 15) "Misfit" ["at", "path"]
  x_Unclear : XC K mg A (cs 16) "Unclear" ["at", "path"]
  x_NoAnswer : XC K mg A (cs 17) "NoAnswer" []
  x_BadChain : XC K mg A (cs 18) "BadChain" ["at", "word"]
  x_BadCell : XC K mg A (cs 19) "BadCell" ["cell"]
  x_NoFit : XC K mg A (cs 20) "NoFit" []
  x_BadFamily : XC K mg A (cs 21) "BadFamily" ["place", "member", "what"]
  x_TooWide : XC K mg A (cs 22) "TooWide" ["what"]
  x_BadChange : XC K mg A (cs 23) "BadChange" ["word"]
  x_BadPlan : XC K mg A (cs 24) "BadPlan" ["at", "word"]
  x_BadPlans : XC K mg A (cs 25) "BadPlans" ["number", "at", "word"]
  x_BadAnswers : XC K mg A (cs 26) "BadAnswers" ["place", "row", "what"]
  x_NoSuchPlace : XC K mg A (cs 27) "NoSuchPlace" ["place"]
  x_NoId : XC K mg A (cs 28) "NoId" ["place", "own"]
  x_BadPush : XC K mg A (cs 29) "BadPush" ["place", "what"]
  x_BadNumbers : XC K mg A (cs 30) "BadNumbers" ["place", "key", "what"]
  x_BadKey : XC K mg A (cs 31) "BadKey" []
  x_NoKey : XC K mg A (cs 32) "NoKey" ["place", "key"]
  x_NotPlain : XC K mg A (cs 33) "NotPlain" ["member", "what"]
  x_NotAlike : XC K mg A (cs 34) "NotAlike" []
  x_BadFolding : XC K mg A (cs 35) "BadFolding" ["what"]
  x_BadDeed : XC K mg A (cs 36) "BadDeed" ["what"]
  x_Known : XC K mg A (cs 37) "Known" ["name"]
  x_NoKept : XC K mg A (cs 38) "NoKept" ["name"]
  x_Refused : XC K mg A (cs 39) "Refused" ["at"]
  p_BadKind : PySem.W.excIn K (cs 0) [.type "ValueError", .type "Exception", .type "BaseException", .type "object"] "ValueError.__new__" = true
  p_BadLots : PySem.W.excIn K (cs 9) [.type "ValueError", .type "Exception", .type "BaseException", .type "object"] "ValueError.__new__" = true
  p_NoAnswer : PySem.W.excIn K (cs 17) [.type "ValueError", .type "Exception", .type "BaseException", .type "object"] "ValueError.__new__" = true
  p_NoFit : PySem.W.excIn K (cs 20) [.type "ValueError", .type "Exception", .type "BaseException", .type "object"] "ValueError.__new__" = true
  p_BadKey : PySem.W.excIn K (cs 31) [.type "ValueError", .type "Exception", .type "BaseException", .type "object"] "ValueError.__new__" = true
  p_NotAlike : PySem.W.excIn K (cs 34) [.type "ValueError", .type "Exception", .type "BaseException", .type "object"] "ValueError.__new__" = true
structure MS (P : Program) (w : World) (K : PySem.W.Frag) (mg : Str → Option Value) (base : Heap) (cs : Nat → Addr) : Prop where
  m_NoPlace : Mk P w K mg base "NoPlace" (cs 1) ["steps"]
  m_NoPath : Mk P w K mg base "NoPath" (cs 2) ["path"]
  m_BadTerm : Mk P w K mg base "BadTerm" (cs 3) ["path", "what"]
  m_BadHeads : Mk P w K mg base "BadHeads" (cs 4) ["at", "what"]
  m_NoTable : Mk P w K mg base "NoTable" (cs 5) ["table"]
  m_NoRow : Mk P w K mg base "NoRow" (cs 6) ["table", "number"]
  m_NoColumn : Mk P w K mg base "NoColumn" (cs 7) ["column"]
  m_BadRow : Mk P w K mg base "BadRow" (cs 8) ["at"]
  m_BadText : Mk P w K mg base "BadText" (cs 10) ["place"]
  m_BadForm : Mk P w K mg base "BadForm" (cs 11) ["what"]
  m_BadChoices : Mk P w K mg base "BadChoices" (cs 12) ["number"]
  m_BadProgram : Mk P w K mg base "BadProgram" (cs 13) ["what"]
  m_Unknown : Mk P w K mg base "Unknown" (cs 14) ["at", "path", "name"]
  m_Misfit : Mk P w K mg base "Misfit" (cs 15) ["at", "path"]
  m_Unclear : Mk P w K mg base "Unclear" (cs 16) ["at", "path"]
  m_BadChain : Mk P w K mg base "BadChain" (cs 18) ["at", "word"]
  m_BadCell : Mk P w K mg base "BadCell" (cs 19) ["cell"]
  m_BadFamily : Mk P w K mg base "BadFamily" (cs 21) ["place", "member", "what"]
  m_TooWide : Mk P w K mg base "TooWide" (cs 22) ["what"]
  m_BadChange : Mk P w K mg base "BadChange" (cs 23) ["word"]
  m_BadPlan : Mk P w K mg base "BadPlan" (cs 24) ["at", "word"]
  m_BadPlans : Mk P w K mg base "BadPlans" (cs 25) ["number", "at", "word"]
  m_BadAnswers : Mk P w K mg base "BadAnswers" (cs 26) ["place", "row", "what"]
  m_NoSuchPlace : Mk P w K mg base "NoSuchPlace" (cs 27) ["place"]
  m_NoId : Mk P w K mg base "NoId" (cs 28) ["place", "own"]
  m_BadPush : Mk P w K mg base "BadPush" (cs 29) ["place", "what"]
  m_BadNumbers : Mk P w K mg base "BadNumbers" (cs 30) ["place", "key", "what"]
  m_NoKey : Mk P w K mg base "NoKey" (cs 32) ["place", "key"]
  m_NotPlain : Mk P w K mg base "NotPlain" (cs 33) ["member", "what"]
  m_BadFolding : Mk P w K mg base "BadFolding" (cs 35) ["what"]
  m_BadDeed : Mk P w K mg base "BadDeed" (cs 36) ["what"]
  m_Known : Mk P w K mg base "Known" (cs 37) ["name"]
  m_NoKept : Mk P w K mg base "NoKept" (cs 38) ["name"]
  m_Refused : Mk P w K mg base "Refused" (cs 39) ["at"]
abbrev i_NoPlace : Stmt := inClass (topS 3) 0
theorem si_NoPlace : FnScope ["self", "steps"] ["self", "steps"] (defScope i_NoPlace) := ⟨rfl, rfl, rfl, by decide +kernel, rfl, by decide +kernel, by decide +kernel⟩
abbrev i_NoPath : Stmt := inClass (topS 4) 0
theorem si_NoPath : FnScope ["self", "path"] ["self", "path"] (defScope i_NoPath) := ⟨rfl, rfl, rfl, by decide +kernel, rfl, by decide +kernel, by decide +kernel⟩
abbrev i_BadTerm : Stmt := inClass (topS 5) 0
theorem si_BadTerm : FnScope ["self", "path", "what"] ["self", "path", "what"] (defScope i_BadTerm) := ⟨rfl, rfl, rfl, by decide +kernel, rfl, by decide +kernel, by decide +kernel⟩
abbrev i_BadHeads : Stmt := inClass (topS 6) 0
theorem si_BadHeads : FnScope ["self", "at", "what"] ["self", "at", "what"] (defScope i_BadHeads) := ⟨rfl, rfl, rfl, by decide +kernel, rfl, by decide +kernel, by decide +kernel⟩
abbrev i_NoTable : Stmt := inClass (topS 7) 0
theorem si_NoTable : FnScope ["self", "table"] ["self", "table"] (defScope i_NoTable) := ⟨rfl, rfl, rfl, by decide +kernel, rfl, by decide +kernel, by decide +kernel⟩
abbrev i_NoRow : Stmt := inClass (topS 8) 0
theorem si_NoRow : FnScope ["self", "table", "number"] ["self", "table", "number"] (defScope i_NoRow) := ⟨rfl, rfl, rfl, by decide +kernel, rfl, by decide +kernel, by decide +kernel⟩
abbrev i_NoColumn : Stmt := inClass (topS 9) 0
theorem si_NoColumn : FnScope ["self", "column"] ["self", "column"] (defScope i_NoColumn) := ⟨rfl, rfl, rfl, by decide +kernel, rfl, by decide +kernel, by decide +kernel⟩
abbrev i_BadRow : Stmt := inClass (topS 10) 0
theorem si_BadRow : FnScope ["self", "at"] ["self", "at"] (defScope i_BadRow) := ⟨rfl, rfl, rfl, by decide +kernel, rfl, by decide +kernel, by decide +kernel⟩
abbrev i_BadText : Stmt := inClass (topS 12) 0
theorem si_BadText : FnScope ["self", "place"] ["self", "place"] (defScope i_BadText) := ⟨rfl, rfl, rfl, by decide +kernel, rfl, by decide +kernel, by decide +kernel⟩
abbrev i_BadForm : Stmt := inClass (topS 13) 0
theorem si_BadForm : FnScope ["self", "what"] ["self", "what"] (defScope i_BadForm) := ⟨rfl, rfl, rfl, by decide +kernel, rfl, by decide +kernel, by decide +kernel⟩
abbrev i_BadChoices : Stmt := inClass (topS 14) 0
theorem si_BadChoices : FnScope ["self", "number"] ["self", "number"] (defScope i_BadChoices) := ⟨rfl, rfl, rfl, by decide +kernel, rfl, by decide +kernel, by decide +kernel⟩
abbrev i_BadProgram : Stmt := inClass (topS 15) 0
theorem si_BadProgram : FnScope ["self", "what"] ["self", "what"] (defScope i_BadProgram) := ⟨rfl, rfl, rfl, by decide +kernel, rfl, by decide +kernel, by decide +kernel⟩
abbrev i_Unknown : Stmt := inClass (topS 16) 0
theorem si_Unknown : FnScope ["self", "at", "path", "name"] ["self", "at", "path", "name"] (defScope i_Unknown) := ⟨rfl, rfl, rfl, by decide +kernel, rfl, by decide +kernel, by decide +kernel⟩
abbrev i_Misfit : Stmt := inClass (topS 17) 0
theorem si_Misfit : FnScope ["self", "at", "path"] ["self", "at", "path"] (defScope i_Misfit) := ⟨rfl, rfl, rfl, by decide +kernel, rfl, by decide +kernel, by decide +kernel⟩
abbrev i_Unclear : Stmt := inClass (topS 18) 0
theorem si_Unclear : FnScope ["self", "at", "path"] ["self", "at", "path"] (defScope i_Unclear) := ⟨rfl, rfl, rfl, by decide +kernel, rfl, by decide +kernel, by decide +kernel⟩
abbrev i_BadChain : Stmt := inClass (topS 20) 0
theorem si_BadChain : FnScope ["self", "at", "word"] ["self", "at", "word"] (defScope i_BadChain) := ⟨rfl, rfl, rfl, by decide +kernel, rfl, by decide +kernel, by decide +kernel⟩
abbrev i_BadCell : Stmt := inClass (topS 21) 0
theorem si_BadCell : FnScope ["self", "cell"] ["self", "cell"] (defScope i_BadCell) := ⟨rfl, rfl, rfl, by decide +kernel, rfl, by decide +kernel, by decide +kernel⟩
abbrev i_BadFamily : Stmt := inClass (topS 23) 0
theorem si_BadFamily : FnScope ["self", "place", "member", "what"] ["self", "place", "member", "what"] (defScope i_BadFamily) := ⟨rfl, rfl, rfl, by decide +kernel, rfl, by decide +kernel, by decide +kernel⟩
abbrev i_TooWide : Stmt := inClass (topS 24) 0
theorem si_TooWide : FnScope ["self", "what"] ["self", "what"] (defScope i_TooWide) := ⟨rfl, rfl, rfl, by decide +kernel, rfl, by decide +kernel, by decide +kernel⟩
abbrev i_BadChange : Stmt := inClass (topS 25) 0
theorem si_BadChange : FnScope ["self", "word"] ["self", "word"] (defScope i_BadChange) := ⟨rfl, rfl, rfl, by decide +kernel, rfl, by decide +kernel, by decide +kernel⟩
abbrev i_BadPlan : Stmt := inClass (topS 26) 0
theorem si_BadPlan : FnScope ["self", "at", "word"] ["self", "at", "word"] (defScope i_BadPlan) := ⟨rfl, rfl, rfl, by decide +kernel, rfl, by decide +kernel, by decide +kernel⟩
abbrev i_BadPlans : Stmt := inClass (topS 27) 0
theorem si_BadPlans : FnScope ["self", "number", "at", "word"] ["self", "number", "at", "word"] (defScope i_BadPlans) := ⟨rfl, rfl, rfl, by decide +kernel, rfl, by decide +kernel, by decide +kernel⟩
abbrev i_BadAnswers : Stmt := inClass (topS 28) 0
theorem si_BadAnswers : FnScope ["self", "place", "row", "what"] ["self", "place", "row", "what"] (defScope i_BadAnswers) := ⟨rfl, rfl, rfl, by decide +kernel, rfl, by decide +kernel, by decide +kernel⟩
abbrev i_NoSuchPlace : Stmt := inClass (topS 29) 0
theorem si_NoSuchPlace : FnScope ["self", "place"] ["self", "place"] (defScope i_NoSuchPlace) := ⟨rfl, rfl, rfl, by decide +kernel, rfl, by decide +kernel, by decide +kernel⟩
abbrev i_NoId : Stmt := inClass (topS 30) 0
theorem si_NoId : FnScope ["self", "place", "own"] ["self", "place", "own"] (defScope i_NoId) := ⟨rfl, rfl, rfl, by decide +kernel, rfl, by decide +kernel, by decide +kernel⟩
abbrev i_BadPush : Stmt := inClass (topS 31) 0
theorem si_BadPush : FnScope ["self", "place", "what"] ["self", "place", "what"] (defScope i_BadPush) := ⟨rfl, rfl, rfl, by decide +kernel, rfl, by decide +kernel, by decide +kernel⟩
abbrev i_BadNumbers : Stmt := inClass (topS 32) 0
theorem si_BadNumbers : FnScope ["self", "place", "key", "what"] ["self", "place", "key", "what"] (defScope i_BadNumbers) := ⟨rfl, rfl, rfl, by decide +kernel, rfl, by decide +kernel, by decide +kernel⟩
abbrev i_NoKey : Stmt := inClass (topS 34) 0
theorem si_NoKey : FnScope ["self", "place", "key"] ["self", "place", "key"] (defScope i_NoKey) := ⟨rfl, rfl, rfl, by decide +kernel, rfl, by decide +kernel, by decide +kernel⟩
abbrev i_NotPlain : Stmt := inClass (topS 35) 0
theorem si_NotPlain : FnScope ["self", "member", "what"] ["self", "member", "what"] (defScope i_NotPlain) := ⟨rfl, rfl, rfl, by decide +kernel, rfl, by decide +kernel, by decide +kernel⟩
abbrev i_BadFolding : Stmt := inClass (topS 37) 0
theorem si_BadFolding : FnScope ["self", "what"] ["self", "what"] (defScope i_BadFolding) := ⟨rfl, rfl, rfl, by decide +kernel, rfl, by decide +kernel, by decide +kernel⟩
abbrev i_BadDeed : Stmt := inClass (topS 38) 0
theorem si_BadDeed : FnScope ["self", "what"] ["self", "what"] (defScope i_BadDeed) := ⟨rfl, rfl, rfl, by decide +kernel, rfl, by decide +kernel, by decide +kernel⟩
abbrev i_Known : Stmt := inClass (topS 39) 0
theorem si_Known : FnScope ["self", "name"] ["self", "name"] (defScope i_Known) := ⟨rfl, rfl, rfl, by decide +kernel, rfl, by decide +kernel, by decide +kernel⟩
abbrev i_NoKept : Stmt := inClass (topS 40) 0
theorem si_NoKept : FnScope ["self", "name"] ["self", "name"] (defScope i_NoKept) := ⟨rfl, rfl, rfl, by decide +kernel, rfl, by decide +kernel, by decide +kernel⟩
abbrev i_Refused : Stmt := inClass (topS 41) 0
theorem si_Refused : FnScope ["self", "at"] ["self", "at"] (defScope i_Refused) := ⟨rfl, rfl, rfl, by decide +kernel, rfl, by decide +kernel, by decide +kernel⟩
section
variable {K : PySem.W.Frag} {mg : Str → Option Value} {cs : Nat → Addr} {A : Addr}
theorem XS.kit (X : XS K mg cs A) {i j : Nat} (hi : i < 40) (hj : j < 40) (f : CF K (cs i) (tailM A)) (g : CF K (cs j) (tailM A)) : PySem.W.kitOne K (.ref (cs i)) (.ref (cs j)) = some (decide (j = i)) := by
  rw [kit_of f g, X.nd i j hi hj]
  have e : (tailM A).contains (.ref (cs j)) = (A == cs j) := by
    unfold tailM
    rw [Bool.eq_iff_iff]
    simp
    exact ⟨fun h => h.symm, fun h => h.symm⟩
  rw [e, X.na j hj, Bool.or_false]
theorem XS.kitA (X : XS K mg cs A) {C : Addr} (f : CF K C (tailM A)) : PySem.W.kitOne K (.ref C) (.ref A) = some true := by
  rw [kit_of f X.x_AskError.cf]
  have e : (tailM A).contains (.ref A) = true := by
    unfold tailM
    simp
  rw [e, Bool.or_true]
end
end E5

set_option Elab.async false
set_option linter.all false
set_option maxRecDepth 100000
set_option maxHeartbeats 4000000
namespace E5
open PySem PySem.Spec PyProof.Rows L2 Ab

section
variable {K : PySem.W.Frag} {C a : Addr} {H : Hp} {Q : VK} {f0 f1 f2 : Str} {v0 v1 v2 : V} {σ : L2.St}
theorem ini1 (T : OexC K C) (no : ∀ n ∈ [f0], PySem.W.findIn K (.ref C) n = some none) (ha : H a = some (exo a C none))
    (q : ∀ dx H', H dx = none → dx ≠ a → H' a = some (exo a C (some dx)) → H' dx = some (exd dx ([f0].zip [v0]).reverse) → (∀ b, b ≠ a → b ≠ dx → H' b = H b) → Q .non H') :
    (tOst K f0 (tVar 0) (tVar 1)) { nx := fun _ H' => Q .non H', rt := Q } (L2.start ["self", f0] [.ref a, v0]) H :=
  ⟨v0, rfl, .ref a, rfl, a, C, rfl, T, no _ (by simp), .inl ⟨ha, fun dx h1 h2 => by
    have m := mid1 (C := C) (f := f0) (y := v0) (H := H) h2
    exact q dx _ h1 h2 m.1 m.2.1 m.2.2.2⟩⟩
theorem ini2 (T : OexC K C) (no : ∀ n ∈ [f0, f1], PySem.W.findIn K (.ref C) n = some none) (ha : H a = some (exo a C none))
    (q : ∀ dx H', H dx = none → dx ≠ a → H' a = some (exo a C (some dx)) → H' dx = some (exd dx ([f0, f1].zip [v0, v1]).reverse) → (∀ b, b ≠ a → b ≠ dx → H' b = H b) → Q .non H') :
    (tSeq (tOst K f0 (tVar 0) (tVar 1)) (tOst K f1 (tVar 0) (tVar 2))) { nx := fun _ H' => Q .non H', rt := Q } (L2.start ["self", f0, f1] [.ref a, v0, v1]) H :=
  ⟨v0, rfl, .ref a, rfl, a, C, rfl, T, no _ (by simp), .inl ⟨ha, fun dx h1 h2 => by
    have m := mid1 (C := C) (f := f0) (y := v0) (H := H) h2
    refine ⟨v1, rfl, .ref a, rfl, a, C, rfl, T, no _ (by simp), .inr ⟨dx, _, m.1, m.2.1, by simp, ?_⟩⟩
    have m := mid_on (f := f1) (y := v1) m
    exact q dx _ h1 h2 m.1 m.2.1 m.2.2.2⟩⟩
theorem ini3 (T : OexC K C) (no : ∀ n ∈ [f0, f1, f2], PySem.W.findIn K (.ref C) n = some none) (ha : H a = some (exo a C none))
    (q : ∀ dx H', H dx = none → dx ≠ a → H' a = some (exo a C (some dx)) → H' dx = some (exd dx ([f0, f1, f2].zip [v0, v1, v2]).reverse) → (∀ b, b ≠ a → b ≠ dx → H' b = H b) → Q .non H') :
    (tSeq (tOst K f0 (tVar 0) (tVar 1)) (tSeq (tOst K f1 (tVar 0) (tVar 2)) (tOst K f2 (tVar 0) (tVar 3)))) { nx := fun _ H' => Q .non H', rt := Q } (L2.start ["self", f0, f1, f2] [.ref a, v0, v1, v2]) H :=
  ⟨v0, rfl, .ref a, rfl, a, C, rfl, T, no _ (by simp), .inl ⟨ha, fun dx h1 h2 => by
    have m := mid1 (C := C) (f := f0) (y := v0) (H := H) h2
    refine ⟨v1, rfl, .ref a, rfl, a, C, rfl, T, no _ (by simp), .inr ⟨dx, _, m.1, m.2.1, by simp, ?_⟩⟩
    have m := mid_on (f := f1) (y := v1) m
    refine ⟨v2, rfl, .ref a, rfl, a, C, rfl, T, no _ (by simp), .inr ⟨dx, _, m.1, m.2.1, by simp, ?_⟩⟩
    have m := mid_on (f := f2) (y := v2) m
    exact q dx _ h1 h2 m.1 m.2.1 m.2.2.2⟩⟩
end
section
variable {P : Program} {w : World} {K : PySem.W.Frag} {mg : Str → Option Value} {base : Heap} {cs : Nat → Addr} {A : Addr}
theorem mk_NoPlace (X : XS K mg cs A) (I : XI K (cs 1) "NoPlace.__init__" i_NoPlace ["self", "steps"]) : Mk P w K mg base "NoPlace" (cs 1) ["steps"] := by
  obtain ⟨fI, fd, F, b, T, iC, tI⟩ := I.use X.x_NoPlace
  refine ⟨fI, fd, T, iC, tI, F.ok si_NoPlace (fun vs H Q E h => by obtain ⟨a, us, rfl, h, _⟩ := h; show us.length + 1 = _; rw [h]; rfl) (fun cdv A outer s H vs Q E hr h => ?_), b, X.x_NoPlace.gC⟩
  obtain ⟨a, us, rfl, hl, ha, q⟩ := h
  match us, hl with
  | [v0], _ =>
    exact ⟨_, (pss_one (ps_ost (pv 0) (pv 1))), ini1 T (X.x_NoPlace.no) ha q⟩
theorem mk_NoPath (X : XS K mg cs A) (I : XI K (cs 2) "NoPath.__init__" i_NoPath ["self", "path"]) : Mk P w K mg base "NoPath" (cs 2) ["path"] := by
  obtain ⟨fI, fd, F, b, T, iC, tI⟩ := I.use X.x_NoPath
  refine ⟨fI, fd, T, iC, tI, F.ok si_NoPath (fun vs H Q E h => by obtain ⟨a, us, rfl, h, _⟩ := h; show us.length + 1 = _; rw [h]; rfl) (fun cdv A outer s H vs Q E hr h => ?_), b, X.x_NoPath.gC⟩
  obtain ⟨a, us, rfl, hl, ha, q⟩ := h
  match us, hl with
  | [v0], _ =>
    exact ⟨_, (pss_one (ps_ost (pv 0) (pv 1))), ini1 T (X.x_NoPath.no) ha q⟩
theorem mk_BadTerm (X : XS K mg cs A) (I : XI K (cs 3) "BadTerm.__init__" i_BadTerm ["self", "path", "what"]) : Mk P w K mg base "BadTerm" (cs 3) ["path", "what"] := by
  obtain ⟨fI, fd, F, b, T, iC, tI⟩ := I.use X.x_BadTerm
  refine ⟨fI, fd, T, iC, tI, F.ok si_BadTerm (fun vs H Q E h => by obtain ⟨a, us, rfl, h, _⟩ := h; show us.length + 1 = _; rw [h]; rfl) (fun cdv A outer s H vs Q E hr h => ?_), b, X.x_BadTerm.gC⟩
  obtain ⟨a, us, rfl, hl, ha, q⟩ := h
  match us, hl with
  | [v0, v1], _ =>
    exact ⟨_, (pss_cons (ps_ost (pv 0) (pv 1)) (pss_one (ps_ost (pv 0) (pv 2)))), ini2 T (X.x_BadTerm.no) ha q⟩
theorem mk_BadHeads (X : XS K mg cs A) (I : XI K (cs 4) "BadHeads.__init__" i_BadHeads ["self", "at", "what"]) : Mk P w K mg base "BadHeads" (cs 4) ["at", "what"] := by
  obtain ⟨fI, fd, F, b, T, iC, tI⟩ := I.use X.x_BadHeads
  refine ⟨fI, fd, T, iC, tI, F.ok si_BadHeads (fun vs H Q E h => by obtain ⟨a, us, rfl, h, _⟩ := h; show us.length + 1 = _; rw [h]; rfl) (fun cdv A outer s H vs Q E hr h => ?_), b, X.x_BadHeads.gC⟩
  obtain ⟨a, us, rfl, hl, ha, q⟩ := h
  match us, hl with
  | [v0, v1], _ =>
    exact ⟨_, (pss_cons (ps_ost (pv 0) (pv 1)) (pss_one (ps_ost (pv 0) (pv 2)))), ini2 T (X.x_BadHeads.no) ha q⟩
theorem mk_NoTable (X : XS K mg cs A) (I : XI K (cs 5) "NoTable.__init__" i_NoTable ["self", "table"]) : Mk P w K mg base "NoTable" (cs 5) ["table"] := by
  obtain ⟨fI, fd, F, b, T, iC, tI⟩ := I.use X.x_NoTable
  refine ⟨fI, fd, T, iC, tI, F.ok si_NoTable (fun vs H Q E h => by obtain ⟨a, us, rfl, h, _⟩ := h; show us.length + 1 = _; rw [h]; rfl) (fun cdv A outer s H vs Q E hr h => ?_), b, X.x_NoTable.gC⟩
  obtain ⟨a, us, rfl, hl, ha, q⟩ := h
  match us, hl with
  | [v0], _ =>
    exact ⟨_, (pss_one (ps_ost (pv 0) (pv 1))), ini1 T (X.x_NoTable.no) ha q⟩
theorem mk_NoRow (X : XS K mg cs A) (I : XI K (cs 6) "NoRow.__init__" i_NoRow ["self", "table", "number"]) : Mk P w K mg base "NoRow" (cs 6) ["table", "number"] := by
  obtain ⟨fI, fd, F, b, T, iC, tI⟩ := I.use X.x_NoRow
  refine ⟨fI, fd, T, iC, tI, F.ok si_NoRow (fun vs H Q E h => by obtain ⟨a, us, rfl, h, _⟩ := h; show us.length + 1 = _; rw [h]; rfl) (fun cdv A outer s H vs Q E hr h => ?_), b, X.x_NoRow.gC⟩
  obtain ⟨a, us, rfl, hl, ha, q⟩ := h
  match us, hl with
  | [v0, v1], _ =>
    exact ⟨_, (pss_cons (ps_ost (pv 0) (pv 1)) (pss_one (ps_ost (pv 0) (pv 2)))), ini2 T (X.x_NoRow.no) ha q⟩
theorem mk_NoColumn (X : XS K mg cs A) (I : XI K (cs 7) "NoColumn.__init__" i_NoColumn ["self", "column"]) : Mk P w K mg base "NoColumn" (cs 7) ["column"] := by
  obtain ⟨fI, fd, F, b, T, iC, tI⟩ := I.use X.x_NoColumn
  refine ⟨fI, fd, T, iC, tI, F.ok si_NoColumn (fun vs H Q E h => by obtain ⟨a, us, rfl, h, _⟩ := h; show us.length + 1 = _; rw [h]; rfl) (fun cdv A outer s H vs Q E hr h => ?_), b, X.x_NoColumn.gC⟩
  obtain ⟨a, us, rfl, hl, ha, q⟩ := h
  match us, hl with
  | [v0], _ =>
    exact ⟨_, (pss_one (ps_ost (pv 0) (pv 1))), ini1 T (X.x_NoColumn.no) ha q⟩
theorem mk_BadRow (X : XS K mg cs A) (I : XI K (cs 8) "BadRow.__init__" i_BadRow ["self", "at"]) : Mk P w K mg base "BadRow" (cs 8) ["at"] := by
  obtain ⟨fI, fd, F, b, T, iC, tI⟩ := I.use X.x_BadRow
  refine ⟨fI, fd, T, iC, tI, F.ok si_BadRow (fun vs H Q E h => by obtain ⟨a, us, rfl, h, _⟩ := h; show us.length + 1 = _; rw [h]; rfl) (fun cdv A outer s H vs Q E hr h => ?_), b, X.x_BadRow.gC⟩
  obtain ⟨a, us, rfl, hl, ha, q⟩ := h
  match us, hl with
  | [v0], _ =>
    exact ⟨_, (pss_one (ps_ost (pv 0) (pv 1))), ini1 T (X.x_BadRow.no) ha q⟩
theorem mk_BadText (X : XS K mg cs A) (I : XI K (cs 10) "BadText.__init__" i_BadText ["self", "place"]) : Mk P w K mg base "BadText" (cs 10) ["place"] := by
  obtain ⟨fI, fd, F, b, T, iC, tI⟩ := I.use X.x_BadText
  refine ⟨fI, fd, T, iC, tI, F.ok si_BadText (fun vs H Q E h => by obtain ⟨a, us, rfl, h, _⟩ := h; show us.length + 1 = _; rw [h]; rfl) (fun cdv A outer s H vs Q E hr h => ?_), b, X.x_BadText.gC⟩
  obtain ⟨a, us, rfl, hl, ha, q⟩ := h
  match us, hl with
  | [v0], _ =>
    exact ⟨_, (pss_one (ps_ost (pv 0) (pv 1))), ini1 T (X.x_BadText.no) ha q⟩
theorem mk_BadForm (X : XS K mg cs A) (I : XI K (cs 11) "BadForm.__init__" i_BadForm ["self", "what"]) : Mk P w K mg base "BadForm" (cs 11) ["what"] := by
  obtain ⟨fI, fd, F, b, T, iC, tI⟩ := I.use X.x_BadForm
  refine ⟨fI, fd, T, iC, tI, F.ok si_BadForm (fun vs H Q E h => by obtain ⟨a, us, rfl, h, _⟩ := h; show us.length + 1 = _; rw [h]; rfl) (fun cdv A outer s H vs Q E hr h => ?_), b, X.x_BadForm.gC⟩
  obtain ⟨a, us, rfl, hl, ha, q⟩ := h
  match us, hl with
  | [v0], _ =>
    exact ⟨_, (pss_one (ps_ost (pv 0) (pv 1))), ini1 T (X.x_BadForm.no) ha q⟩
theorem mk_BadChoices (X : XS K mg cs A) (I : XI K (cs 12) "BadChoices.__init__" i_BadChoices ["self", "number"]) : Mk P w K mg base "BadChoices" (cs 12) ["number"] := by
  obtain ⟨fI, fd, F, b, T, iC, tI⟩ := I.use X.x_BadChoices
  refine ⟨fI, fd, T, iC, tI, F.ok si_BadChoices (fun vs H Q E h => by obtain ⟨a, us, rfl, h, _⟩ := h; show us.length + 1 = _; rw [h]; rfl) (fun cdv A outer s H vs Q E hr h => ?_), b, X.x_BadChoices.gC⟩
  obtain ⟨a, us, rfl, hl, ha, q⟩ := h
  match us, hl with
  | [v0], _ =>
    exact ⟨_, (pss_one (ps_ost (pv 0) (pv 1))), ini1 T (X.x_BadChoices.no) ha q⟩
theorem mk_BadProgram (X : XS K mg cs A) (I : XI K (cs 13) "BadProgram.__init__" i_BadProgram ["self", "what"]) : Mk P w K mg base "BadProgram" (cs 13) ["what"] := by
  obtain ⟨fI, fd, F, b, T, iC, tI⟩ := I.use X.x_BadProgram
  refine ⟨fI, fd, T, iC, tI, F.ok si_BadProgram (fun vs H Q E h => by obtain ⟨a, us, rfl, h, _⟩ := h; show us.length + 1 = _; rw [h]; rfl) (fun cdv A outer s H vs Q E hr h => ?_), b, X.x_BadProgram.gC⟩
  obtain ⟨a, us, rfl, hl, ha, q⟩ := h
  match us, hl with
  | [v0], _ =>
    exact ⟨_, (pss_one (ps_ost (pv 0) (pv 1))), ini1 T (X.x_BadProgram.no) ha q⟩
theorem mk_Unknown (X : XS K mg cs A) (I : XI K (cs 14) "Unknown.__init__" i_Unknown ["self", "at", "path", "name"]) : Mk P w K mg base "Unknown" (cs 14) ["at", "path", "name"] := by
  obtain ⟨fI, fd, F, b, T, iC, tI⟩ := I.use X.x_Unknown
  refine ⟨fI, fd, T, iC, tI, F.ok si_Unknown (fun vs H Q E h => by obtain ⟨a, us, rfl, h, _⟩ := h; show us.length + 1 = _; rw [h]; rfl) (fun cdv A outer s H vs Q E hr h => ?_), b, X.x_Unknown.gC⟩
  obtain ⟨a, us, rfl, hl, ha, q⟩ := h
  match us, hl with
  | [v0, v1, v2], _ =>
    exact ⟨_, (pss_cons (ps_ost (pv 0) (pv 1)) (pss_cons (ps_ost (pv 0) (pv 2)) (pss_one (ps_ost (pv 0) (pv 3))))), ini3 T (X.x_Unknown.no) ha q⟩
theorem mk_Misfit (X : XS K mg cs A) (I : XI K (cs 15) "Misfit.__init__" i_Misfit ["self", "at", "path"]) : Mk P w K mg base "Misfit" (cs 15) ["at", "path"] := by
  obtain ⟨fI, fd, F, b, T, iC, tI⟩ := I.use X.x_Misfit
  refine ⟨fI, fd, T, iC, tI, F.ok si_Misfit (fun vs H Q E h => by obtain ⟨a, us, rfl, h, _⟩ := h; show us.length + 1 = _; rw [h]; rfl) (fun cdv A outer s H vs Q E hr h => ?_), b, X.x_Misfit.gC⟩
  obtain ⟨a, us, rfl, hl, ha, q⟩ := h
  match us, hl with
  | [v0, v1], _ =>
    exact ⟨_, (pss_cons (ps_ost (pv 0) (pv 1)) (pss_one (ps_ost (pv 0) (pv 2)))), ini2 T (X.x_Misfit.no) ha q⟩
theorem mk_Unclear (X : XS K mg cs A) (I : XI K (cs 16) "Unclear.__init__" i_Unclear ["self", "at", "path"]) : Mk P w K mg base "Unclear" (cs 16) ["at", "path"] := by
  obtain ⟨fI, fd, F, b, T, iC, tI⟩ := I.use X.x_Unclear
  refine ⟨fI, fd, T, iC, tI, F.ok si_Unclear (fun vs H Q E h => by obtain ⟨a, us, rfl, h, _⟩ := h; show us.length + 1 = _; rw [h]; rfl) (fun cdv A outer s H vs Q E hr h => ?_), b, X.x_Unclear.gC⟩
  obtain ⟨a, us, rfl, hl, ha, q⟩ := h
  match us, hl with
  | [v0, v1], _ =>
    exact ⟨_, (pss_cons (ps_ost (pv 0) (pv 1)) (pss_one (ps_ost (pv 0) (pv 2)))), ini2 T (X.x_Unclear.no) ha q⟩
theorem mk_BadChain (X : XS K mg cs A) (I : XI K (cs 18) "BadChain.__init__" i_BadChain ["self", "at", "word"]) : Mk P w K mg base "BadChain" (cs 18) ["at", "word"] := by
  obtain ⟨fI, fd, F, b, T, iC, tI⟩ := I.use X.x_BadChain
  refine ⟨fI, fd, T, iC, tI, F.ok si_BadChain (fun vs H Q E h => by obtain ⟨a, us, rfl, h, _⟩ := h; show us.length + 1 = _; rw [h]; rfl) (fun cdv A outer s H vs Q E hr h => ?_), b, X.x_BadChain.gC⟩
  obtain ⟨a, us, rfl, hl, ha, q⟩ := h
  match us, hl with
  | [v0, v1], _ =>
    exact ⟨_, (pss_cons (ps_ost (pv 0) (pv 1)) (pss_one (ps_ost (pv 0) (pv 2)))), ini2 T (X.x_BadChain.no) ha q⟩
theorem mk_BadCell (X : XS K mg cs A) (I : XI K (cs 19) "BadCell.__init__" i_BadCell ["self", "cell"]) : Mk P w K mg base "BadCell" (cs 19) ["cell"] := by
  obtain ⟨fI, fd, F, b, T, iC, tI⟩ := I.use X.x_BadCell
  refine ⟨fI, fd, T, iC, tI, F.ok si_BadCell (fun vs H Q E h => by obtain ⟨a, us, rfl, h, _⟩ := h; show us.length + 1 = _; rw [h]; rfl) (fun cdv A outer s H vs Q E hr h => ?_), b, X.x_BadCell.gC⟩
  obtain ⟨a, us, rfl, hl, ha, q⟩ := h
  match us, hl with
  | [v0], _ =>
    exact ⟨_, (pss_one (ps_ost (pv 0) (pv 1))), ini1 T (X.x_BadCell.no) ha q⟩
theorem mk_BadFamily (X : XS K mg cs A) (I : XI K (cs 21) "BadFamily.__init__" i_BadFamily ["self", "place", "member", "what"]) : Mk P w K mg base "BadFamily" (cs 21) ["place", "member", "what"] := by
  obtain ⟨fI, fd, F, b, T, iC, tI⟩ := I.use X.x_BadFamily
  refine ⟨fI, fd, T, iC, tI, F.ok si_BadFamily (fun vs H Q E h => by obtain ⟨a, us, rfl, h, _⟩ := h; show us.length + 1 = _; rw [h]; rfl) (fun cdv A outer s H vs Q E hr h => ?_), b, X.x_BadFamily.gC⟩
  obtain ⟨a, us, rfl, hl, ha, q⟩ := h
  match us, hl with
  | [v0, v1, v2], _ =>
    exact ⟨_, (pss_cons (ps_ost (pv 0) (pv 1)) (pss_cons (ps_ost (pv 0) (pv 2)) (pss_one (ps_ost (pv 0) (pv 3))))), ini3 T (X.x_BadFamily.no) ha q⟩
theorem mk_TooWide (X : XS K mg cs A) (I : XI K (cs 22) "TooWide.__init__" i_TooWide ["self", "what"]) : Mk P w K mg base "TooWide" (cs 22) ["what"] := by
  obtain ⟨fI, fd, F, b, T, iC, tI⟩ := I.use X.x_TooWide
  refine ⟨fI, fd, T, iC, tI, F.ok si_TooWide (fun vs H Q E h => by obtain ⟨a, us, rfl, h, _⟩ := h; show us.length + 1 = _; rw [h]; rfl) (fun cdv A outer s H vs Q E hr h => ?_), b, X.x_TooWide.gC⟩
  obtain ⟨a, us, rfl, hl, ha, q⟩ := h
  match us, hl with
  | [v0], _ =>
    exact ⟨_, (pss_one (ps_ost (pv 0) (pv 1))), ini1 T (X.x_TooWide.no) ha q⟩
theorem mk_BadChange (X : XS K mg cs A) (I : XI K (cs 23) "BadChange.__init__" i_BadChange ["self", "word"]) : Mk P w K mg base "BadChange" (cs 23) ["word"] := by
  obtain ⟨fI, fd, F, b, T, iC, tI⟩ := I.use X.x_BadChange
  refine ⟨fI, fd, T, iC, tI, F.ok si_BadChange (fun vs H Q E h => by obtain ⟨a, us, rfl, h, _⟩ := h; show us.length + 1 = _; rw [h]; rfl) (fun cdv A outer s H vs Q E hr h => ?_), b, X.x_BadChange.gC⟩
  obtain ⟨a, us, rfl, hl, ha, q⟩ := h
  match us, hl with
  | [v0], _ =>
    exact ⟨_, (pss_one (ps_ost (pv 0) (pv 1))), ini1 T (X.x_BadChange.no) ha q⟩
theorem mk_BadPlan (X : XS K mg cs A) (I : XI K (cs 24) "BadPlan.__init__" i_BadPlan ["self", "at", "word"]) : Mk P w K mg base "BadPlan" (cs 24) ["at", "word"] := by
  obtain ⟨fI, fd, F, b, T, iC, tI⟩ := I.use X.x_BadPlan
  refine ⟨fI, fd, T, iC, tI, F.ok si_BadPlan (fun vs H Q E h => by obtain ⟨a, us, rfl, h, _⟩ := h; show us.length + 1 = _; rw [h]; rfl) (fun cdv A outer s H vs Q E hr h => ?_), b, X.x_BadPlan.gC⟩
  obtain ⟨a, us, rfl, hl, ha, q⟩ := h
  match us, hl with
  | [v0, v1], _ =>
    exact ⟨_, (pss_cons (ps_ost (pv 0) (pv 1)) (pss_one (ps_ost (pv 0) (pv 2)))), ini2 T (X.x_BadPlan.no) ha q⟩
theorem mk_BadPlans (X : XS K mg cs A) (I : XI K (cs 25) "BadPlans.__init__" i_BadPlans ["self", "number", "at", "word"]) : Mk P w K mg base "BadPlans" (cs 25) ["number", "at", "word"] := by
  obtain ⟨fI, fd, F, b, T, iC, tI⟩ := I.use X.x_BadPlans
  refine ⟨fI, fd, T, iC, tI, F.ok si_BadPlans (fun vs H Q E h => by obtain ⟨a, us, rfl, h, _⟩ := h; show us.length + 1 = _; rw [h]; rfl) (fun cdv A outer s H vs Q E hr h => ?_), b, X.x_BadPlans.gC⟩
  obtain ⟨a, us, rfl, hl, ha, q⟩ := h
  match us, hl with
  | [v0, v1, v2], _ =>
    exact ⟨_, (pss_cons (ps_ost (pv 0) (pv 1)) (pss_cons (ps_ost (pv 0) (pv 2)) (pss_one (ps_ost (pv 0) (pv 3))))), ini3 T (X.x_BadPlans.no) ha q⟩
theorem mk_BadAnswers (X : XS K mg cs A) (I : XI K (cs 26) "BadAnswers.__init__" i_BadAnswers ["self", "place", "row", "what"]) : Mk P w K mg base "BadAnswers" (cs 26) ["place", "row", "what"] := by
  obtain ⟨fI, fd, F, b, T, iC, tI⟩ := I.use X.x_BadAnswers
  refine ⟨fI, fd, T, iC, tI, F.ok si_BadAnswers (fun vs H Q E h => by obtain ⟨a, us, rfl, h, _⟩ := h; show us.length + 1 = _; rw [h]; rfl) (fun cdv A outer s H vs Q E hr h => ?_), b, X.x_BadAnswers.gC⟩
  obtain ⟨a, us, rfl, hl, ha, q⟩ := h
  match us, hl with
  | [v0, v1, v2], _ =>
    exact ⟨_, (pss_cons (ps_ost (pv 0) (pv 1)) (pss_cons (ps_ost (pv 0) (pv 2)) (pss_one (ps_ost (pv 0) (pv 3))))), ini3 T (X.x_BadAnswers.no) ha q⟩
theorem mk_NoSuchPlace (X : XS K mg cs A) (I : XI K (cs 27) "NoSuchPlace.__init__" i_NoSuchPlace ["self", "place"]) : Mk P w K mg base "NoSuchPlace" (cs 27) ["place"] := by
  obtain ⟨fI, fd, F, b, T, iC, tI⟩ := I.use X.x_NoSuchPlace
  refine ⟨fI, fd, T, iC, tI, F.ok si_NoSuchPlace (fun vs H Q E h => by obtain ⟨a, us, rfl, h, _⟩ := h; show us.length + 1 = _; rw [h]; rfl) (fun cdv A outer s H vs Q E hr h => ?_), b, X.x_NoSuchPlace.gC⟩
  obtain ⟨a, us, rfl, hl, ha, q⟩ := h
  match us, hl with
  | [v0], _ =>
    exact ⟨_, (pss_one (ps_ost (pv 0) (pv 1))), ini1 T (X.x_NoSuchPlace.no) ha q⟩
theorem mk_NoId (X : XS K mg cs A) (I : XI K (cs 28) "NoId.__init__" i_NoId ["self", "place", "own"]) : Mk P w K mg base "NoId" (cs 28) ["place", "own"] := by
  obtain ⟨fI, fd, F, b, T, iC, tI⟩ := I.use X.x_NoId
  refine ⟨fI, fd, T, iC, tI, F.ok si_NoId (fun vs H Q E h => by obtain ⟨a, us, rfl, h, _⟩ := h; show us.length + 1 = _; rw [h]; rfl) (fun cdv A outer s H vs Q E hr h => ?_), b, X.x_NoId.gC⟩
  obtain ⟨a, us, rfl, hl, ha, q⟩ := h
  match us, hl with
  | [v0, v1], _ =>
    exact ⟨_, (pss_cons (ps_ost (pv 0) (pv 1)) (pss_one (ps_ost (pv 0) (pv 2)))), ini2 T (X.x_NoId.no) ha q⟩
theorem mk_BadPush (X : XS K mg cs A) (I : XI K (cs 29) "BadPush.__init__" i_BadPush ["self", "place", "what"]) : Mk P w K mg base "BadPush" (cs 29) ["place", "what"] := by
  obtain ⟨fI, fd, F, b, T, iC, tI⟩ := I.use X.x_BadPush
  refine ⟨fI, fd, T, iC, tI, F.ok si_BadPush (fun vs H Q E h => by obtain ⟨a, us, rfl, h, _⟩ := h; show us.length + 1 = _; rw [h]; rfl) (fun cdv A outer s H vs Q E hr h => ?_), b, X.x_BadPush.gC⟩
  obtain ⟨a, us, rfl, hl, ha, q⟩ := h
  match us, hl with
  | [v0, v1], _ =>
    exact ⟨_, (pss_cons (ps_ost (pv 0) (pv 1)) (pss_one (ps_ost (pv 0) (pv 2)))), ini2 T (X.x_BadPush.no) ha q⟩
theorem mk_BadNumbers (X : XS K mg cs A) (I : XI K (cs 30) "BadNumbers.__init__" i_BadNumbers ["self", "place", "key", "what"]) : Mk P w K mg base "BadNumbers" (cs 30) ["place", "key", "what"] := by
  obtain ⟨fI, fd, F, b, T, iC, tI⟩ := I.use X.x_BadNumbers
  refine ⟨fI, fd, T, iC, tI, F.ok si_BadNumbers (fun vs H Q E h => by obtain ⟨a, us, rfl, h, _⟩ := h; show us.length + 1 = _; rw [h]; rfl) (fun cdv A outer s H vs Q E hr h => ?_), b, X.x_BadNumbers.gC⟩
  obtain ⟨a, us, rfl, hl, ha, q⟩ := h
  match us, hl with
  | [v0, v1, v2], _ =>
    exact ⟨_, (pss_cons (ps_ost (pv 0) (pv 1)) (pss_cons (ps_ost (pv 0) (pv 2)) (pss_one (ps_ost (pv 0) (pv 3))))), ini3 T (X.x_BadNumbers.no) ha q⟩
theorem mk_NoKey (X : XS K mg cs A) (I : XI K (cs 32) "NoKey.__init__" i_NoKey ["self", "place", "key"]) : Mk P w K mg base "NoKey" (cs 32) ["place", "key"] := by
  obtain ⟨fI, fd, F, b, T, iC, tI⟩ := I.use X.x_NoKey
  refine ⟨fI, fd, T, iC, tI, F.ok si_NoKey (fun vs H Q E h => by obtain ⟨a, us, rfl, h, _⟩ := h; show us.length + 1 = _; rw [h]; rfl) (fun cdv A outer s H vs Q E hr h => ?_), b, X.x_NoKey.gC⟩
  obtain ⟨a, us, rfl, hl, ha, q⟩ := h
  match us, hl with
  | [v0, v1], _ =>
    exact ⟨_, (pss_cons (ps_ost (pv 0) (pv 1)) (pss_one (ps_ost (pv 0) (pv 2)))), ini2 T (X.x_NoKey.no) ha q⟩
theorem mk_NotPlain (X : XS K mg cs A) (I : XI K (cs 33) "NotPlain.__init__" i_NotPlain ["self", "member", "what"]) : Mk P w K mg base "NotPlain" (cs 33) ["member", "what"] := by
  obtain ⟨fI, fd, F, b, T, iC, tI⟩ := I.use X.x_NotPlain
  refine ⟨fI, fd, T, iC, tI, F.ok si_NotPlain (fun vs H Q E h => by obtain ⟨a, us, rfl, h, _⟩ := h; show us.length + 1 = _; rw [h]; rfl) (fun cdv A outer s H vs Q E hr h => ?_), b, X.x_NotPlain.gC⟩
  obtain ⟨a, us, rfl, hl, ha, q⟩ := h
  match us, hl with
  | [v0, v1], _ =>
    exact ⟨_, (pss_cons (ps_ost (pv 0) (pv 1)) (pss_one (ps_ost (pv 0) (pv 2)))), ini2 T (X.x_NotPlain.no) ha q⟩
theorem mk_BadFolding (X : XS K mg cs A) (I : XI K (cs 35) "BadFolding.__init__" i_BadFolding ["self", "what"]) : Mk P w K mg base "BadFolding" (cs 35) ["what"] := by
  obtain ⟨fI, fd, F, b, T, iC, tI⟩ := I.use X.x_BadFolding
  refine ⟨fI, fd, T, iC, tI, F.ok si_BadFolding (fun vs H Q E h => by obtain ⟨a, us, rfl, h, _⟩ := h; show us.length + 1 = _; rw [h]; rfl) (fun cdv A outer s H vs Q E hr h => ?_), b, X.x_BadFolding.gC⟩
  obtain ⟨a, us, rfl, hl, ha, q⟩ := h
  match us, hl with
  | [v0], _ =>
    exact ⟨_, (pss_one (ps_ost (pv 0) (pv 1))), ini1 T (X.x_BadFolding.no) ha q⟩
theorem mk_BadDeed (X : XS K mg cs A) (I : XI K (cs 36) "BadDeed.__init__" i_BadDeed ["self", "what"]) : Mk P w K mg base "BadDeed" (cs 36) ["what"] := by
  obtain ⟨fI, fd, F, b, T, iC, tI⟩ := I.use X.x_BadDeed
  refine ⟨fI, fd, T, iC, tI, F.ok si_BadDeed (fun vs H Q E h => by obtain ⟨a, us, rfl, h, _⟩ := h; show us.length + 1 = _; rw [h]; rfl) (fun cdv A outer s H vs Q E hr h => ?_), b, X.x_BadDeed.gC⟩
  obtain ⟨a, us, rfl, hl, ha, q⟩ := h
  match us, hl with
  | [v0], _ =>
    exact ⟨_, (pss_one (ps_ost (pv 0) (pv 1))), ini1 T (X.x_BadDeed.no) ha q⟩
theorem mk_Known (X : XS K mg cs A) (I : XI K (cs 37) "Known.__init__" i_Known ["self", "name"]) : Mk P w K mg base "Known" (cs 37) ["name"] := by
  obtain ⟨fI, fd, F, b, T, iC, tI⟩ := I.use X.x_Known
  refine ⟨fI, fd, T, iC, tI, F.ok si_Known (fun vs H Q E h => by obtain ⟨a, us, rfl, h, _⟩ := h; show us.length + 1 = _; rw [h]; rfl) (fun cdv A outer s H vs Q E hr h => ?_), b, X.x_Known.gC⟩
  obtain ⟨a, us, rfl, hl, ha, q⟩ := h
  match us, hl with
  | [v0], _ =>
    exact ⟨_, (pss_one (ps_ost (pv 0) (pv 1))), ini1 T (X.x_Known.no) ha q⟩
theorem mk_NoKept (X : XS K mg cs A) (I : XI K (cs 38) "NoKept.__init__" i_NoKept ["self", "name"]) : Mk P w K mg base "NoKept" (cs 38) ["name"] := by
  obtain ⟨fI, fd, F, b, T, iC, tI⟩ := I.use X.x_NoKept
  refine ⟨fI, fd, T, iC, tI, F.ok si_NoKept (fun vs H Q E h => by obtain ⟨a, us, rfl, h, _⟩ := h; show us.length + 1 = _; rw [h]; rfl) (fun cdv A outer s H vs Q E hr h => ?_), b, X.x_NoKept.gC⟩
  obtain ⟨a, us, rfl, hl, ha, q⟩ := h
  match us, hl with
  | [v0], _ =>
    exact ⟨_, (pss_one (ps_ost (pv 0) (pv 1))), ini1 T (X.x_NoKept.no) ha q⟩
theorem mk_Refused (X : XS K mg cs A) (I : XI K (cs 39) "Refused.__init__" i_Refused ["self", "at"]) : Mk P w K mg base "Refused" (cs 39) ["at"] := by
  obtain ⟨fI, fd, F, b, T, iC, tI⟩ := I.use X.x_Refused
  refine ⟨fI, fd, T, iC, tI, F.ok si_Refused (fun vs H Q E h => by obtain ⟨a, us, rfl, h, _⟩ := h; show us.length + 1 = _; rw [h]; rfl) (fun cdv A outer s H vs Q E hr h => ?_), b, X.x_Refused.gC⟩
  obtain ⟨a, us, rfl, hl, ha, q⟩ := h
  match us, hl with
  | [v0], _ =>
    exact ⟨_, (pss_one (ps_ost (pv 0) (pv 1))), ini1 T (X.x_Refused.no) ha q⟩
end
end E5

set_option Elab.async false
set_option linter.all false
set_option maxRecDepth 100000
set_option maxHeartbeats 4000000
namespace E5
open PySem PySem.Spec PyProof.Rows L2 Ab

/-- one step of the reading -/
local macro_rules | `(tactic| walk_at "w") => `(tactic| first
  | (with_reducible refine ws_seq ?_) | (with_reducible refine ws_next ?_) | (with_reducible refine ws_set ?_) | (with_reducible refine ws_par ?_) | (with_reducible refine ws_ret ?_) | (with_reducible refine ws_if ?_) | (with_reducible refine ws_drop ?_)
  | (refine w_var rfl ?_) | (with_reducible refine w_int ?_) | (with_reducible refine w_str ?_) | (with_reducible refine w_bl ?_) | (with_reducible refine w_non ?_)
  | (with_reducible refine wa_nil ?_) | (with_reducible refine wa_cons ?_) | (with_reducible refine w_tup ?_) | (with_reducible refine w_lst ?_)
  | (with_reducible refine wt_test ?_) | (with_reducible refine wt_B ?_) | (with_reducible refine wt_not ?_) | (with_reducible refine wt_and ?_) | (with_reducible refine wt_or ?_)
  | (with_reducible refine w_andV ?_) | (with_reducible refine w_orV ?_) | (with_reducible refine w_notV ?_) | (with_reducible refine w_ite ?_)
  | (with_reducible refine w_op ao_eqW ?_) | (with_reducible refine w_op ao_neW ?_) | (with_reducible refine w_op ao_eq ?_) | (with_reducible refine w_op ao_ne ?_) | (with_reducible refine w_op ao_isB ?_) | (with_reducible refine w_op ao_notB ?_) | (with_reducible refine w_op ao_ix ?_) | (with_reducible refine w_op ao_plus ?_) | (with_reducible refine w_op ao_less ?_) | (with_reducible refine w_op ao_le ?_) | (with_reducible refine w_op ao_gt ?_) | (with_reducible refine w_op ao_ge ?_)
  | (with_reducible refine w_op ao_sub ?_) | (with_reducible refine w_op ao_mul ?_) | (with_reducible refine w_op ao_mod ?_) | (with_reducible refine w_op ao_div ?_) | (with_reducible refine w_op ao_pow ?_) | (with_reducible refine w_op ao_isNo ?_) | (with_reducible refine w_op ao_inSg ?_) | (with_reducible refine w_op ao_inW ?_) | (with_reducible refine w_op ao_ninW ?_) | (with_reducible refine w_op ao_inSeq ?_) | (with_reducible refine w_op ao_ninSeq ?_)
  | (with_reducible refine w_cb ac_len ?_) | (with_reducible refine w_cb ac_tupleOf ?_) | (with_reducible refine w_cb ac_intOf ?_) | (with_reducible refine w_cb ac_abs ?_) | (with_reducible refine w_cb ac_ord ?_) | (with_reducible refine w_cb ac_all ?_) | (with_reducible refine w_cb ac_any ?_)
  | (with_reducible refine w_isi (by decide) ?_) | (with_reducible refine w_isi2 (by decide) (by decide) ?_) | (with_reducible refine w_sl ?_) | (with_reducible refine wo_none ?_) | (with_reducible refine wo_some ?_)
  | (with_reducible refine w_chain ao_le ao_le ?_) | (with_reducible refine w_chain ao_leS ao_leS ?_) | (with_reducible refine w_call ?_))
local macro_rules | `(tactic| walk_at "v") => `(tactic| first
  | (with_reducible refine m0 ?_) | (with_reducible refine m1 ?_) | (with_reducible refine m2 ?_) | (with_reducible refine m3 ?_) | (with_reducible refine m5 ?_)
  | (with_reducible refine exb ?_) | (with_reducible refine exi ?_) | (with_reducible refine exl ?_) | (with_reducible refine exql ?_) | (with_reducible refine exqt ?_)
  | (refine fixt rfl ?_) | (refine fixl rfl ?_) | (refine fslt rfl ?_) | (refine fsll rfl ?_)
  | (with_reducible refine flent ?_; dsimp only [List.length_cons, List.length_nil]) | (with_reducible refine flenl ?_; dsimp only [List.length_cons, List.length_nil])
  | (with_reducible refine fii (by first | trivial | decide) ?_) | (with_reducible refine fpi ?_) | (with_reducible refine flti ?_) | (with_reducible refine fint ?_) | (with_reducible refine ftupl ?_) | (with_reducible refine ftupt ?_)
  | (with_reducible refine feqW (by decide +kernel) (by decide +kernel) (by decide +kernel) ?_) | (with_reducible refine fneW (by decide +kernel) (by decide +kernel) (by decide +kernel) ?_)
  | (with_reducible refine feq (by decide +kernel) (by decide +kernel) ?_) | (with_reducible refine fne (by decide +kernel) (by decide +kernel) ?_)
  | (with_reducible refine iteK rfl ?_) | (with_reducible refine iteN rfl ?_) | (with_reducible refine iteK (by decide +kernel) ?_) | (with_reducible refine iteN (by decide +kernel) ?_))
local macro_rules | `(tactic| walk_at "x") => `(tactic| first | (with_reducible refine wx_seq ?_) | (with_reducible refine wx_if ?_) | (with_reducible refine wx_next ?_) | (with_reducible refine wx_ret ?_) | (with_reducible refine wr_tup ?_) | (with_reducible refine war_cons ?_) | (with_reducible refine war_nil ?_))
local macro_rules | `(tactic| walk_at "ww") => `(tactic| repeat (first | walk_at "w" | walk_at "v" | walk_at "x"))

theorem cal_void {P : Program} {w : World} {K : PySem.W.Frag} {mg : Str → Option Value} {base : Heap} {k : Nat} {x : Str} {st : Stmt} {ps : List Str} {sp : Sp} (F : Dfn K mg x st ps) (h : ∀ vs H Q E, ¬ sp vs H Q E) : Cal P w K mg base k x ps sp := by
  obtain ⟨f, fd, a, b, c⟩ := F.ex
  exact ⟨f, fd, ⟨fun vs H Q E q => absurd q (h _ _ _ _), fun A outer s H args us vs Q E hr he hb hv q => absurd q (h _ _ _ _)⟩, b, a.kp, c⟩
theorem cmr {i j : Int} (h : -(2 ^ 64) < j ∧ j < 2 ^ 64) : CMul i j := .inr h
theorem ms_one {p : Addr} {fl : Bool} {X Y : List PyData} : mset [(p, fl, X)] p Y = [(p, fl, Y)] := by simp [mset]
def intL (ns : List Int) : PyData := .list (ns.map .int)
section
variable {P : Program} {w : World} {K : PySem.W.Frag} {mg : Str → Option Value} {base : Heap} (T : Txt K mg)
def prePool (ds : List PyData) : Prop := ∃ (ns : List Int) (n : Nat), ds = [intL ns, .int (n : Int)] ∧ ns.length ≤ 63
include T in
theorem ok_law_pool (F : Dfn K mg "_law_pool" s_law_pool ["_law_script", "_law_at"]) : Cal P w K mg base 1 "_law_pool" ["_law_script", "_law_at"] (spN prePool (fun _ pl => poolD pl) K) := by
  have hn : ∀ ds, prePool ds → ds.length = 2 := by rintro ds ⟨ns, n, rfl, _⟩; rfl
  refine F.ok sc_law_pool (fun vs H Q E h => spN_len hn h) (fun f cdv A outer s H vs Q E hr h => ⟨_, (pss_cons (ps_set (i := 2) sc_law_pool.nd rfl (by first | exact .inl rfl | exact .inr rfl) (pe_ifExp (pt_cmpR op_less (pv 1) (pe_callB (k_len (K := K) rfl) (by rfl) T.n_len (by decide +kernel) (pa_cons (pv 0) pa_nil)) (nomark _)) (pe_ix (k_ix (K := K) rfl) (pv 0) (pv 1) (fun _ _ => rfl)) pe_int))
      (pss_cons (ps_set (i := 3) sc_law_pool.nd rfl (by first | exact .inl rfl | exact .inr rfl) (pe_ifExp (pt_cmpR op_geI (pv 2) pe_int (nomark _)) (pe_op op_mulI (pv 2) pe_int) (pe_op op_subI pe_int (pe_op op_mulI (pv 2) pe_int))))
      (pss_cons (ps_set (i := 4) sc_law_pool.nd rfl (by first | exact .inl rfl | exact .inr rfl) (pe_op op_modI (pe_callTy call_intOf (by rfl) T.n_int (by decide +kernel) (pa_cons (pe_op (k_plus (K := K) rfl) (pe_op (k_plus (K := K) rfl) (pe_op (k_plus (K := K) rfl) (pe_op op_mulI (pv 3) pe_int) (pe_op op_mulI (pv 1) pe_int)) (pe_op op_mulI (pe_callB (k_len (K := K) rfl) (by rfl) T.n_len (by decide +kernel) (pa_cons (pv 0) pa_nil)) pe_int)) pe_int) pa_nil)) pe_int))
      (pss_one (ps_ret (pe_lst (pa_cons (pe_ifExp (pt_cmpR op_geI (pv 3) (pe_op op_powI pe_int pe_int) (nomark _)) (pv 3) pe_int) (pa_cons (pv 4) (pa_cons pe_int pa_nil))))))))), to_spN hn (fun ds hp => ?_) h⟩)
  obtain ⟨ns, n, rfl, hl⟩ := hp
  change WN K _ [.dat (intL ns), .dat (.int (n : Int)), .no, .no, .no] [] _
  -- cell
  have c1 : ∀ (cell : Int), WN K (tSeq (tAsg (tIf (tTest (tOp rGeI (tVar 2) (tC (.int 0)))) (tOp rMulI (tVar 2) (tC (.int 2))) (tOp rSubI (tC (.int 1)) (tOp rMulI (tVar 2) (tC (.int 2))))) (gName 3))
      (tSeq (tAsg (tOp rModI (tCB rIntOf (tCons (tOp (rPlus K) (tOp (rPlus K) (tOp (rPlus K) (tOp rMulI (tVar 3) (tC (.int 48271))) (tOp rMulI (tVar 1) (tC (.int 69621)))) (tOp rMulI (tCB (rLenA K) (tCons (tVar 0) tNil)) (tC (.int 7919)))) (tC (.int 104729))) tNil)) (tC (.int 2147483647))) (gName 4))
        (tRet (tLst (tCons (tIf (tTest (tOp rGeI (tVar 3) (tOp rPowI (tC (.int 10)) (tC (.int 18))))) (tVar 3) (tC (.int 0))) (tCons (tVar 4) (tCons (tC (.int 0)) tNil)))))))
      [.dat (intL ns), .dat (.int (n : Int)), .dat (.int cell), .no, .no] [] poolD := by
    intro cell
    have c2 : ∀ (size : Int), 0 ≤ size → WN K (tSeq (tAsg (tOp rModI (tCB rIntOf (tCons (tOp (rPlus K) (tOp (rPlus K) (tOp (rPlus K) (tOp rMulI (tVar 3) (tC (.int 48271))) (tOp rMulI (tVar 1) (tC (.int 69621)))) (tOp rMulI (tCB (rLenA K) (tCons (tVar 0) tNil)) (tC (.int 7919)))) (tC (.int 104729))) tNil)) (tC (.int 2147483647))) (gName 4))
        (tRet (tLst (tCons (tIf (tTest (tOp rGeI (tVar 3) (tOp rPowI (tC (.int 10)) (tC (.int 18))))) (tVar 3) (tC (.int 0))) (tCons (tVar 4) (tCons (tC (.int 0)) tNil))))))
        [.dat (intL ns), .dat (.int (n : Int)), .dat (.int cell), .dat (.int size), .no] [] poolD := by
      intro size hs
      refine wn_seq (ws_set (w_op ao_mod (w_cb ac_intOf (wa_cons ?_))))
      refine w_op ao_plus (w_op ao_plus (w_op ao_plus (w_op ao_mul (w_var rfl (w_int (fii (cmr (by decide)) ?_))))))
      refine w_op ao_mul (w_var rfl (w_int (fii (cmr (by decide)) (fpi ?_))))
      refine w_op ao_mul (w_cb ac_len (wa_cons (w_var rfl (wa_nil (m1 (flenl (w_int (fii (cmr (by decide)) (fpi ?_)))))))))
      refine w_int (fpi (wa_nil (m1 (fint (w_int (fii (by decide) ?_))))))
      refine wn_ret (wa_cons (w_ite (wt_test (w_op ao_ge (w_var rfl (w_op ao_pow (w_int (w_int (fii (by refine ⟨by decide, by decide, by decide⟩) (fii trivial (exb ?_)))))))))))
      have m := Int.emod_nonneg (size * 48271 + (n : Int) * 69621 + ((ns.map PyData.int).length : Int) * 7919 + 104729) (show (2147483647 : Int) ≠ 0 by decide)
      have m2 := Int.emod_lt_of_pos (size * 48271 + (n : Int) * 69621 + ((ns.map PyData.int).length : Int) * 7919 + 104729) (show (0 : Int) < 2147483647 by decide)
      refine iteB (fun _ => ?_) (fun _ => ?_)
      · exact w_var rfl (wa_cons (w_var rfl (wa_cons (w_int (wa_nil (m3 ⟨by simp, size, _, 0, rfl, hs, m, m2, by decide⟩))))))
      · exact w_int (wa_cons (w_var rfl (wa_cons (w_int (wa_nil (m3 ⟨by simp, 0, _, 0, rfl, by decide, m, m2, by decide⟩))))))
    refine wn_seq (ws_set (w_ite (wt_test (w_op ao_ge (w_var rfl (w_int (fii trivial (exb ?_))))))))
    refine iteB (fun h => ?_) (fun h => ?_)
    · have h : 0 ≤ cell := of_decide_eq_true h
      exact w_op ao_mul (w_var rfl (w_int (fii (cmr (by decide)) (c2 (cell * 2) (by omega)))))
    · have h : ¬ 0 ≤ cell := of_decide_eq_false h
      exact w_op ao_sub (w_int (w_op ao_mul (w_var rfl (w_int (fii (cmr (by decide)) (fii trivial (c2 (1 - cell * 2) (by omega))))))))
  refine wn_seq (ws_set (w_ite (wt_test (w_op ao_less (w_var rfl (w_cb ac_len (wa_cons (w_var rfl (wa_nil (m1 (flenl (flti (exb ?_))))))))))))) 
  refine iteB (fun h => ?_) (fun h => ?_)
  · have h : (n : Int) < ((ns.map PyData.int).length : Int) := of_decide_eq_true h
    have hn2 : n < ns.length := by rw [List.length_map] at h; omega
    refine w_op ao_ix (w_var rfl (w_var rfl (fixl (a := .int ns[n]) (atI_nat (by rw [List.getElem?_map, List.getElem?_eq_getElem hn2]; rfl)) ?_)))
    exact c1 ns[n]
  · exact w_int (c1 0)
def preDraw (ds : List PyData) : Prop := ∃ m : Int, ds = [.int m] ∧ 0 < m ∧ m < 1000000
def postDraw (ds : List PyData) (x : PyData) : Prop := ∀ m : Int, ds = [.int m] → ∃ n : Nat, x = .int (n : Int) ∧ (n : Int) < m
include T in
theorem ok_law_draw (F : Dfn K mg "_law_draw" s_law_draw ["_law_pool_here", "_law_many"]) : Cal P w K mg base 1 "_law_draw" ["_law_pool_here", "_law_many"] (spQ preDraw postDraw K) := by
  have hn : ∀ ds, preDraw ds → ds.length = 1 := by rintro ds ⟨m, rfl, _⟩; rfl
  refine F.ok sc_law_draw (fun vs H Q E h => spQ_len hn h) (fun f cdv A outer s H vs Q E hr h => ⟨_, (pss_cons (ps_if (pt_cmpR op_gtI (pe_ix (k_ix (K := K) rfl) (pv 0) pe_int (fun _ _ => rfl)) pe_int (nomark _)) (pss_cons (ps_set (i := 2) sc_law_draw.nd rfl (by first | exact .inl rfl | exact .inr rfl) (pe_op op_modI (pe_ix (k_ix (K := K) rfl) (pv 0) pe_int (fun _ _ => rfl)) (pv 1)))
      (pss_cons (ps_asg (pe_op op_divW (pe_ix (k_ix (K := K) rfl) (pv 0) pe_int (fun _ _ => rfl)) (pv 1)) (pg_sub (pv 0) pe_int set_list))
      (pss_one (ps_ret (pv 2))))) pss_nil)
      (pss_cons (ps_asg (pe_op (k_plus (K := K) rfl) (pe_ix (k_ix (K := K) rfl) (pv 0) pe_int (fun _ _ => rfl)) pe_int) (pg_sub (pv 0) pe_int set_list))
      (pss_cons (ps_asg (pe_op op_modI (pe_callTy call_intOf (by rfl) T.n_int (by decide +kernel) (pa_cons (pe_op (k_plus (K := K) rfl) (pe_op (k_plus (K := K) rfl) (pe_op op_mulI (pe_ix (k_ix (K := K) rfl) (pv 0) pe_int (fun _ _ => rfl)) pe_int) (pe_op op_mulI (pe_ix (k_ix (K := K) rfl) (pv 0) pe_int (fun _ _ => rfl)) pe_int)) pe_int) pa_nil)) pe_int) (pg_sub (pv 0) pe_int set_list))
      (pss_one (ps_ret (pe_op op_modI (pe_callTy call_intOf (by rfl) T.n_int (by decide +kernel) (pa_cons (pe_op (k_plus (K := K) rfl) (pe_op op_divW (pe_ix (k_ix (K := K) rfl) (pv 0) pe_int (fun _ _ => rfl)) pe_int) (pe_op op_divW (pe_op op_mulI (pe_ix (k_ix (K := K) rfl) (pv 0) pe_int (fun _ _ => rfl)) pe_int) pe_int)) pa_nil)) (pv 1))))))), to_spQ hn (fun p pl ds hpl hp => ?_) h⟩)
  obtain ⟨m, rfl, hm, hm2⟩ := hp
  obtain ⟨b, s0, c, rfl, hb, hs, hs2, hc⟩ := hpl
  change WS K _ [.own p, .dat (.int m), .no] [(p, false, [.int b, .int s0, .int c])] _
  have mem : ∀ X : List PyData, (p, false, X) ∈ [(p, false, X)] := fun X => List.mem_cons_self
  have post : ∀ z : Int, 0 ≤ z → z < m → postDraw [.int m] (.int z) := fun z h1 h2 m' e => by
    injection e with e; injection e with e
    subst e
    exact ⟨z.toNat, by rw [Int.toNat_of_nonneg h1], by rw [Int.toNat_of_nonneg h1]; exact h2⟩
  have hdw : CDivW 0 m := wide_div (b := 20) hm (by omega) (by decide) (by decide)
  refine ws_seq (ws_if (wt_test (w_op ao_gt (w_ixown rfl (w_int ⟨_, _, mem _, fixl rfl (w_int (fii trivial (exb ?_)))⟩)))))
  refine iteB (fun h => ?_) (fun h => ?_)
  · refine ws_seq (ws_set (w_op ao_mod (w_ixown rfl (w_int ⟨_, _, mem _, fixl rfl (w_var rfl (fii hm ?_))⟩))))
    refine ws_seq (ws_setown (k := 0) rfl (w_op ao_div (w_ixown rfl (w_int ⟨_, _, mem _, fixl rfl (w_var rfl (fii hdw ⟨_, _, mem _, by simp, ?_⟩))⟩))))
    rw [ms_one]
    refine ws_ret (w_var rfl ⟨_, rfl, ⟨_, s0, c, rfl, Int.ediv_nonneg hb (by omega), hs, hs2, hc⟩, post _ (Int.emod_nonneg _ (by omega)) (Int.emod_lt_of_pos _ hm)⟩)
  · refine ws_next ?_
    refine ws_seq (ws_setown (k := 2) rfl (w_op ao_plus (w_ixown rfl (w_int ⟨_, _, mem _, fixl rfl (w_int (fpi ⟨_, _, mem _, by simp, ?_⟩))⟩))))
    rw [ms_one]
    refine ws_seq (ws_setown (k := 1) rfl (w_op ao_mod (w_cb ac_intOf (wa_cons (w_op ao_plus (w_op ao_plus (w_op ao_mul (w_ixown rfl (w_int ⟨_, _, mem _, fixl rfl (w_int (fii (cmr (by decide)) ?_))⟩)))))))))
    refine w_op ao_mul (w_ixown rfl (w_int ⟨_, _, mem _, fixl rfl (w_int (fii (cmr (by decide)) (fpi (w_int (fpi (wa_nil (m1 (fint (w_int (fii (by decide) ⟨_, _, mem _, by simp, ?_⟩))))))))))⟩))
    rw [ms_one]
    have z1 := Int.emod_nonneg (s0 * 16807 + (c + 1) * 7919 + 12345) (show (2147483647 : Int) ≠ 0 by decide)
    have z2 := Int.emod_lt_of_pos (s0 * 16807 + (c + 1) * 7919 + 12345) (show (0 : Int) < 2147483647 by decide)
    refine ws_ret (w_op ao_mod (w_cb ac_intOf (wa_cons (w_op ao_plus (w_op ao_div (w_ixown rfl (w_int ⟨_, _, mem _, fixl rfl (w_int (fii (wide_div (b := 4) (by decide) (by decide) (by decide) (by decide)) ?_))⟩)))))))
    refine w_op ao_div (w_op ao_mul (w_ixown rfl (w_int ⟨_, _, mem _, fixl rfl (w_int (fii (cmr (by decide)) (w_int (fii (wide_div (b := 20) (by decide) (by decide) (by decide) (by decide)) (fpi (wa_nil (m1 (fint (w_var rfl (fii hm ?_))))))))))⟩)))
    exact ⟨_, rfl, ⟨b, _, c + 1, rfl, hb, z1, z2, by omega⟩, post _ (Int.emod_nonneg _ (by omega)) (Int.emod_lt_of_pos _ hm)⟩
end
theorem isn0 {P : PyData → Prop} (h : P (.bool true)) : fIsNo .none .none P := h
theorem isnb {b : Bool} {P : PyData → Prop} (h : P (.bool false)) : fIsNo (.bool b) .none P := h
theorem isni {b : Int} {P : PyData → Prop} (h : P (.bool false)) : fIsNo (.int b) .none P := h
theorem isns {b : Str} {P : PyData → Prop} (h : P (.bool false)) : fIsNo (.str b) .none P := h
theorem isnl {b : List PyData} {P : PyData → Prop} (h : P (.bool false)) : fIsNo (.list b) .none P := h
theorem isnt {b : List PyData} {P : PyData → Prop} (h : P (.bool false)) : fIsNo (.tuple b) .none P := h
local macro_rules | `(tactic| walk_at "v") => `(tactic| first | (with_reducible refine isn0 ?_) | (with_reducible refine isnb ?_) | (with_reducible refine isni ?_) | (with_reducible refine isns ?_) | (with_reducible refine isnl ?_) | (with_reducible refine isnt ?_))
/-! ### exact, relisted -/
inductive EX : Nat → PyData → Prop
  | non {n : Nat} : EX n .none
  | bl {n : Nat} {b : Bool} : EX n (.bool b)
  | int {n : Nat} {i : Int} : EX n (.int i)
  | str {n : Nat} {z : Str} : (PyData.str z).canLay0 = true → EX n (.str z)
  | lst {n : Nat} {xs : List PyData} : xs.length ≤ 10000 → (∀ x ∈ xs, EX n x) → EX (n + 1) (.list xs)
  | tup {n : Nat} {xs : List PyData} : xs.length ≤ 10000 → (∀ x ∈ xs, EX n x) → EX (n + 1) (.tuple xs)
theorem EX.mono {n m : Nat} {d : PyData} (h : EX n d) (hm : n ≤ m) : EX m d := by
  induction h generalizing m with
  | non => exact .non
  | bl => exact .bl
  | int => exact .int
  | str h => exact .str h
  | lst hl _ ih =>
    obtain ⟨k, rfl⟩ : ∃ k, m = k + 1 := ⟨m - 1, by omega⟩
    exact .lst hl fun x hx => ih x hx (by omega)
  | tup hl _ ih =>
    obtain ⟨k, rfl⟩ : ∃ k, m = k + 1 := ⟨m - 1, by omega⟩
    exact .tup hl fun x hx => ih x hx (by omega)
abbrev spEx (n : Nat) (K : PySem.W.Frag) : Sp := spP (fun ds => ∃ d, ds = [d, d] ∧ EX n d) (fun _ x => x = .bool true) K
theorem str_eqv {a b : Str} : PyData.eqv (.str a) (.str b) = decide (a = b) := by
  show (a == b) = _
  rw [Bool.eq_iff_iff]; simp
theorem neb (b : Bool) : (!PyData.eqv (.bool b) (.bool b)) = false := by cases b <;> rfl
section
variable {P : Program} {w : World} {K : PySem.W.Frag} {mg : Str → Option Value} {base : Heap} (T : Txt K mg)
include T in
theorem ok_law_exact1 (n : Nat) (F : Dfn K mg "_law_exact" s_law_exact ["_law_told", "_law_due"]) (c_law_exact : ∀ m, n = m + 1 → Cal P w K mg base n "_law_exact" ["_law_told", "_law_due"] (spEx m K)) :
    Cal P w K mg base (n + 1) "_law_exact" ["_law_told", "_law_due"] (spEx n K) := by
  have hn : ∀ ds, (∃ d, ds = [d, d] ∧ EX n d) → ds.length = 2 := by rintro ds ⟨d, rfl, _⟩; rfl
  have hc : ∃ m, (∀ d, EX n d → (match d with | .list _ => n = m + 1 | .tuple _ => n = m + 1 | _ => True)) ∧ Cal P w K mg base n "_law_exact" ["_law_told", "_law_due"] (spP (fun ds => n = m + 1 ∧ ∃ d, ds = [d, d] ∧ EX m d) (fun _ x => x = .bool true) K) := by
    cases n with
    | zero =>
      refine ⟨0, fun d h => by cases h <;> trivial, cal_void F fun vs H Q E h => ?_⟩
      obtain ⟨S, ds, _, ⟨e, _⟩, _⟩ := h
      omega
    | succ m =>
      refine ⟨m, fun d h => by cases h <;> trivial, ?_⟩
      obtain ⟨f, fd, a, b, c, e⟩ := (c_law_exact m rfl).ex
      exact ⟨f, fd, a.imp fun vs H Q E h => by
        obtain ⟨S, ds, i, ⟨_, p⟩, r⟩ := h
        exact ⟨S, ds, i, p, r⟩, b, c, e⟩
  obtain ⟨m, hm, c_law_exact⟩ := hc
  refine F.ok sc_law_exact (fun vs H Q E h => spP_len hn h) (fun f cdv A outer s H vs Q E hr h => ⟨_, (pss_cons (ps_if (pt_val (pe_callB (k_isiT (K := K) rfl) (by rfl) T.n_isinstance (by decide +kernel) (pa_cons (pv 1) (pa_cons (pe_tup (pa_cons (pe_bltn (v := .ty "list") (u := .type "list") (by rfl) T.n_list (by decide +kernel) rfl) (pa_cons (pe_bltn (v := .ty "tuple") (u := .type "tuple") (by rfl) T.n_tuple (by decide +kernel) rfl) pa_nil))) pa_nil)))) (pss_cons (ps_if (PW.pt (pw_or (pt_cmpR (k_neW (K := K) rfl hr) (pe_callB (k_isi (K := K) rfl) (by rfl) T.n_isinstance (by decide +kernel) (pa_cons (pv 1) (pa_cons (pe_bltn (v := .ty "list") (u := .type "list") (by rfl) T.n_list (by decide +kernel) rfl) pa_nil))) (pe_callB (k_isi (K := K) rfl) (by rfl) T.n_isinstance (by decide +kernel) (pa_cons (pv 0) (pa_cons (pe_bltn (v := .ty "list") (u := .type "list") (by rfl) T.n_list (by decide +kernel) rfl) pa_nil))) (nomark _)) (pw_or1 (pt_cmpR (k_neW (K := K) rfl hr) (pe_callB (k_isi (K := K) rfl) (by rfl) T.n_isinstance (by decide +kernel) (pa_cons (pv 1) (pa_cons (pe_bltn (v := .ty "tuple") (u := .type "tuple") (by rfl) T.n_tuple (by decide +kernel) rfl) pa_nil))) (pe_callB (k_isi (K := K) rfl) (by rfl) T.n_isinstance (by decide +kernel) (pa_cons (pv 0) (pa_cons (pe_bltn (v := .ty "tuple") (u := .type "tuple") (by rfl) T.n_tuple (by decide +kernel) rfl) pa_nil))) (nomark _))))) (pss_one (ps_ret pe_bl)) pss_nil)
      (pss_cons (ps_if (pt_cmpR (k_neW (K := K) rfl hr) (pe_callB (k_len (K := K) rfl) (by rfl) T.n_len (by decide +kernel) (pa_cons (pv 0) pa_nil)) (pe_callB (k_len (K := K) rfl) (by rfl) T.n_len (by decide +kernel) (pa_cons (pv 1) pa_nil)) (nomark _)) (pss_one (ps_ret pe_bl)) pss_nil)
      (pss_one (ps_ret (pe_cmpR (k_eqW (K := K) rfl hr) (pe_lc (own := [("_law_k", 2)]) (by rfl) sc_law_exact.nd (pi_range1 (by rfl) T.n_range (pa_cons (pe_callB (k_len (K := K) rfl) (by rfl) T.n_len (by decide +kernel) (pa_cons (pv 1) pa_nil)) pa_nil)) (blkOk_by (N := ["_law_told", "_law_due", "_law_k"]) (sc := defScope s_law_exact) (by decide +kernel)) (fun _ _ _ _ _ => (pg_name (i := 2) sc_law_exact.nd rfl (by first | exact .inl rfl | exact .inr rfl))) (fun _ _ _ _ _ => (pts_one (pt_not (pt_val (pe_cal c_law_exact hr (pa_cons (pe_ix (k_ix (K := K) rfl) (pv 0) (pv 2) (fun _ _ => rfl)) (pa_cons (pe_ix (k_ix (K := K) rfl) (pv 1) (pv 2) (fun _ _ => rfl)) pa_nil))))))) (fun _ _ _ _ _ => (pv 2))) (pe_lst pa_nil) (nomark _)))))) pss_nil)
      (pss_cons (ps_if (pt_cmpR op_isNo (pv 1) pe_non (nomark _)) (pss_one (ps_ret (pe_cmpR op_isNo (pv 0) pe_non (nomark _)))) pss_nil)
      (pss_cons (ps_if (pt_val (pe_callB (k_isi (K := K) rfl) (by rfl) T.n_isinstance (by decide +kernel) (pa_cons (pv 1) (pa_cons (pe_bltn (v := .ty "bool") (u := .type "bool") (by rfl) T.n_bool (by decide +kernel) rfl) pa_nil)))) (pss_one (ps_ret (pe_and (pe_callB (k_isi (K := K) rfl) (by rfl) T.n_isinstance (by decide +kernel) (pa_cons (pv 0) (pa_cons (pe_bltn (v := .ty "bool") (u := .type "bool") (by rfl) T.n_bool (by decide +kernel) rfl) pa_nil))) (pe_one (pe_cmpR (k_eqW (K := K) rfl hr) (pv 0) (pv 1) (nomark _)))))) pss_nil)
      (pss_cons (ps_if (pt_val (pe_callB (k_isi (K := K) rfl) (by rfl) T.n_isinstance (by decide +kernel) (pa_cons (pv 1) (pa_cons (pe_bltn (v := .ty "str") (u := .type "str") (by rfl) T.n_str (by decide +kernel) rfl) pa_nil)))) (pss_one (ps_ret (pe_and (pe_callB (k_isi (K := K) rfl) (by rfl) T.n_isinstance (by decide +kernel) (pa_cons (pv 0) (pa_cons (pe_bltn (v := .ty "str") (u := .type "str") (by rfl) T.n_str (by decide +kernel) rfl) pa_nil))) (pe_one (pe_cmpR (k_eqW (K := K) rfl hr) (pv 0) (pv 1) (nomark _)))))) pss_nil)
      (pss_one (ps_ret (pe_and (pe_callB (k_isi (K := K) rfl) (by rfl) T.n_isinstance (by decide +kernel) (pa_cons (pv 0) (pa_cons (pe_bltn (v := .ty "int") (u := .type "int") (by rfl) T.n_int (by decide +kernel) rfl) pa_nil))) (pe_and (pe_not (pe_callB (k_isi (K := K) rfl) (by rfl) T.n_isinstance (by decide +kernel) (pa_cons (pv 0) (pa_cons (pe_bltn (v := .ty "bool") (u := .type "bool") (by rfl) T.n_bool (by decide +kernel) rfl) pa_nil)))) (pe_one (pe_cmpR (k_eqW (K := K) rfl hr) (pv 0) (pv 1) (nomark _))))))))))), to_spP hn (fun ds hp => ?_) h⟩)
  obtain ⟨d, rfl, hd⟩ := hp
  have hmd := hm d hd
  change WS K _ [.dat d, .dat d, .no] [] _
  cases hd with
  | non =>
    walk_at "ww"
    rfl
  | bl =>
    walk_at "ww"
    refine feqW rfl rfl (by simp [PyData.depth]) ?_
    rename_i b
    show PyData.bool (PyData.eqv (.bool b) (.bool b)) = _
    cases b <;> rfl
  | int =>
    walk_at "ww"
    refine feqW rfl rfl (by simp [PyData.depth]) ?_
    rename_i i
    show PyData.bool (i == i) = _
    rw [beq_self_eq_true]
  | str hz =>
    walk_at "ww"
    refine feqW hz hz (by simp [PyData.depth]) ?_
    rename_i z
    show PyData.bool (PyData.eqv (.str z) (.str z)) = _
    rw [str_eqv, decide_eq_true rfl]
  | @lst m' xs hl hx =>
    have em : m' = m := by have : m' + 1 = m + 1 := hmd; omega
    subst em
    walk_at "ww"
    refine fneW rfl rfl (by simp [PyData.depth]) (exb (iteN (neb _) ?_))
    walk_at "ww"
    refine fneW rfl rfl (by simp [PyData.depth]) ?_
    refine exb (iteN (neb _) ?_)
    walk_at "ww"
    refine flenl ?_
    refine fneW rfl rfl (by simp [PyData.depth]) ?_
    refine exb (iteN ?_ ?_)
    · show (!(((xs.length : Nat) : Int) == ((xs.length : Nat) : Int))) = false
      rw [beq_self_eq_true]; rfl
    walk_at "ww"
    refine w_filt (by decide) (wi_rng (wa_cons (w_cb ac_len (wa_cons (w_var rfl (wa_nil (m1 (flenl (wa_nil ?_)))))))))
    refine ⟨_, rfl, by omega, by omega, fun _ => false, fun x => x, by simp; omega, fun x hxm => ?_, ?_⟩
    · obtain ⟨j, hj, rfl⟩ := List.mem_map.mp hxm
      have hj : j < xs.length := by simpa using List.mem_range.mp hj
      have hat : atI xs (j : Int) = some xs[j] := atI_nat (List.getElem?_eq_getElem hj)
      change WT K _ [.dat (.list xs), .dat (.list xs), .dat (.int (j : Int))] [] _
      refine wt_not (wt_B (w_call (wa_cons (w_op ao_ix (w_var rfl (w_var rfl (fixl hat (wa_cons (w_op ao_ix (w_var rfl (w_var rfl (fixl hat (wa_nil (m2 ⟨⟨rfl, xs[j], rfl, hx _ (List.getElem_mem hj)⟩, fun d hd => ?_⟩))))))))))))))
      subst hd
      exact exb ⟨rfl, rfl, fun h => by cases h⟩
    · rw [show (((List.range ((xs.length : Nat) : Int).toNat).map fun (i : Nat) => PyData.int (i : Int)).filter fun _ => false) = [] by simp]
      refine w_lst (wa_nil (m0 ⟨by simp, feqW (by rfl) (by rfl) (by simp [PyData.depth, PyData.depthAll]) ?_⟩))
      rfl
  | @tup m' xs hl hx =>
    have em : m' = m := by have : m' + 1 = m + 1 := hmd; omega
    subst em
    walk_at "ww"
    refine fneW rfl rfl (by simp [PyData.depth]) (exb (iteN (neb _) ?_))
    walk_at "ww"
    refine fneW rfl rfl (by simp [PyData.depth]) ?_
    refine exb (iteN (neb _) ?_)
    walk_at "ww"
    refine flent ?_
    refine fneW rfl rfl (by simp [PyData.depth]) ?_
    refine exb (iteN ?_ ?_)
    · show (!(((xs.length : Nat) : Int) == ((xs.length : Nat) : Int))) = false
      rw [beq_self_eq_true]; rfl
    walk_at "ww"
    refine w_filt (by decide) (wi_rng (wa_cons (w_cb ac_len (wa_cons (w_var rfl (wa_nil (m1 (flent (wa_nil ?_)))))))))
    refine ⟨_, rfl, by omega, by omega, fun _ => false, fun x => x, by simp; omega, fun x hxm => ?_, ?_⟩
    · obtain ⟨j, hj, rfl⟩ := List.mem_map.mp hxm
      have hj : j < xs.length := by simpa using List.mem_range.mp hj
      have hat : atI xs (j : Int) = some xs[j] := atI_nat (List.getElem?_eq_getElem hj)
      change WT K _ [.dat (.tuple xs), .dat (.tuple xs), .dat (.int (j : Int))] [] _
      refine wt_not (wt_B (w_call (wa_cons (w_op ao_ix (w_var rfl (w_var rfl (fixt hat (wa_cons (w_op ao_ix (w_var rfl (w_var rfl (fixt hat (wa_nil (m2 ⟨⟨rfl, xs[j], rfl, hx _ (List.getElem_mem hj)⟩, fun d hd => ?_⟩))))))))))))))
      subst hd
      exact exb ⟨rfl, rfl, fun h => by cases h⟩
    · rw [show (((List.range ((xs.length : Nat) : Int).toNat).map fun (i : Nat) => PyData.int (i : Int)).filter fun _ => false) = [] by simp]
      refine w_lst (wa_nil (m0 ⟨by simp, feqW (by rfl) (by rfl) (by simp [PyData.depth, PyData.depthAll]) ?_⟩))
      rfl
include T in
theorem ok_law_exact (F : Dfn K mg "_law_exact" s_law_exact ["_law_told", "_law_due"]) : ∀ n, Cal P w K mg base (n + 1) "_law_exact" ["_law_told", "_law_due"] (spEx n K)
  | 0 => ok_law_exact1 T 0 F fun m h => by omega
  | n + 1 => ok_law_exact1 T (n + 1) F fun m h => by
    have e : n = m := by omega
    subst e
    exact ok_law_exact F n
end
end E5

set_option Elab.async false
set_option linter.all false
set_option maxRecDepth 100000
set_option maxHeartbeats 4000000
namespace E5
open PySem PySem.Spec PyProof.Rows L2 Ab

/-- one step of the reading -/
local macro_rules | `(tactic| walk_at "w") => `(tactic| first
  | (with_reducible refine ws_seq ?_) | (with_reducible refine ws_next ?_) | (with_reducible refine ws_set ?_) | (with_reducible refine ws_par ?_) | (with_reducible refine ws_ret ?_) | (with_reducible refine ws_if ?_) | (with_reducible refine ws_drop ?_)
  | (refine w_var rfl ?_) | (with_reducible refine w_int ?_) | (with_reducible refine w_str ?_) | (with_reducible refine w_bl ?_) | (with_reducible refine w_non ?_)
  | (with_reducible refine wa_nil ?_) | (with_reducible refine wa_cons ?_) | (with_reducible refine w_tup ?_) | (with_reducible refine w_lst ?_)
  | (with_reducible refine wt_test ?_) | (with_reducible refine wt_B ?_) | (with_reducible refine wt_not ?_) | (with_reducible refine wt_and ?_) | (with_reducible refine wt_or ?_)
  | (with_reducible refine w_andV ?_) | (with_reducible refine w_orV ?_) | (with_reducible refine w_notV ?_) | (with_reducible refine w_ite ?_)
  | (with_reducible refine w_op ao_eqW ?_) | (with_reducible refine w_op ao_neW ?_) | (with_reducible refine w_op ao_eq ?_) | (with_reducible refine w_op ao_ne ?_) | (with_reducible refine w_op ao_isB ?_) | (with_reducible refine w_op ao_notB ?_) | (with_reducible refine w_op ao_ix ?_) | (with_reducible refine w_op ao_plus ?_) | (with_reducible refine w_op ao_less ?_) | (with_reducible refine w_op ao_le ?_) | (with_reducible refine w_op ao_gt ?_) | (with_reducible refine w_op ao_ge ?_)
  | (with_reducible refine w_op ao_sub ?_) | (with_reducible refine w_op ao_mul ?_) | (with_reducible refine w_op ao_mod ?_) | (with_reducible refine w_op ao_div ?_) | (with_reducible refine w_op ao_pow ?_) | (with_reducible refine w_op ao_isNo ?_) | (with_reducible refine w_op ao_inSg ?_) | (with_reducible refine w_op ao_inW ?_) | (with_reducible refine w_op ao_ninW ?_) | (with_reducible refine w_op ao_inSeq ?_) | (with_reducible refine w_op ao_ninSeq ?_)
  | (with_reducible refine w_cb ac_len ?_) | (with_reducible refine w_cb ac_tupleOf ?_) | (with_reducible refine w_cb ac_intOf ?_) | (with_reducible refine w_cb ac_abs ?_) | (with_reducible refine w_cb ac_ord ?_) | (with_reducible refine w_cb ac_all ?_) | (with_reducible refine w_cb ac_any ?_)
  | (with_reducible refine w_isi (by decide) ?_) | (with_reducible refine w_isi2 (by decide) (by decide) ?_) | (with_reducible refine w_sl ?_) | (with_reducible refine wo_none ?_) | (with_reducible refine wo_some ?_)
  | (with_reducible refine w_chain ao_le ao_le ?_) | (with_reducible refine w_chain ao_leS ao_leS ?_) | (with_reducible refine w_call ?_))
local macro_rules | `(tactic| walk_at "v") => `(tactic| first
  | (with_reducible refine m0 ?_) | (with_reducible refine m1 ?_) | (with_reducible refine m2 ?_) | (with_reducible refine m3 ?_) | (with_reducible refine m5 ?_)
  | (with_reducible refine exb ?_) | (with_reducible refine exi ?_) | (with_reducible refine exl ?_) | (with_reducible refine exql ?_) | (with_reducible refine exqt ?_)
  | (refine fixt rfl ?_) | (refine fixl rfl ?_) | (refine fslt rfl ?_) | (refine fsll rfl ?_)
  | (with_reducible refine flent ?_; dsimp only [List.length_cons, List.length_nil]) | (with_reducible refine flenl ?_; dsimp only [List.length_cons, List.length_nil])
  | (with_reducible refine fii (by first | trivial | decide) ?_) | (with_reducible refine fpi ?_) | (with_reducible refine flti ?_) | (with_reducible refine fint ?_) | (with_reducible refine ftupl ?_) | (with_reducible refine ftupt ?_)
  | (with_reducible refine feqW (by decide +kernel) (by decide +kernel) (by decide +kernel) ?_) | (with_reducible refine fneW (by decide +kernel) (by decide +kernel) (by decide +kernel) ?_)
  | (with_reducible refine feq (by decide +kernel) (by decide +kernel) ?_) | (with_reducible refine fne (by decide +kernel) (by decide +kernel) ?_)
  | (with_reducible refine iteK rfl ?_) | (with_reducible refine iteN rfl ?_) | (with_reducible refine iteK (by decide +kernel) ?_) | (with_reducible refine iteN (by decide +kernel) ?_))
local macro_rules | `(tactic| walk_at "x") => `(tactic| first | (with_reducible refine wx_seq ?_) | (with_reducible refine wx_if ?_) | (with_reducible refine wx_next ?_) | (with_reducible refine wx_ret ?_) | (with_reducible refine wr_tup ?_) | (with_reducible refine war_cons ?_) | (with_reducible refine war_nil ?_))
local macro_rules | `(tactic| walk_at "ww") => `(tactic| repeat (first | walk_at "w" | walk_at "v" | walk_at "x"))

theorem pe_cal0 {X : Cx} {k : Nat} {x : Str} {sp : Sp} {p pos : Pos} (c : Cal X.prog X.w X.K X.mg X.base k x [] sp) (hr : Room k X.A) (hg : Gl X x := by rfl) (hdb : (x == ("__debug__" : Str)) = false := by decide) : PE X (.Call (.Name x p) [] [] pos) (tCall sp [] E0 tNil) := by
  obtain ⟨f, fd, F, hm, hk, hb⟩ := c.ex
  exact pe_call0 F hr hg hm hk hb .nil pass0 hdb
/-! ### texts of single signs -/
def sg (c : Nat) : Str := ⟨#[c]⟩
def txt (cs : List Nat) : Str := ⟨cs.toArray⟩
theorem fold_sg : ∀ (cs : List Nat) (acc : Array Nat), ((cs.map sg).foldl (fun acc p => acc ++ ("" : Str).cps ++ p.cps) acc) = acc ++ cs.toArray
  | [], acc => by simp
  | c :: cs, acc => by
    rw [List.map_cons, List.foldl_cons, fold_sg cs]
    show acc ++ #[] ++ #[c] ++ cs.toArray = _
    simp
theorem join_sg (cs : List Nat) : Txt.join "" (cs.map sg) = txt cs := by
  cases cs with
  | nil => rfl
  | cons c cs =>
    show (⟨(((c :: cs).map sg).drop 1).foldl (fun acc p => acc ++ ("" : Str).cps ++ p.cps) (((c :: cs).map sg).headD Str.empty).cps⟩ : Str) = _
    rw [List.map_cons, List.drop_one, List.tail_cons, fold_sg]
    show (⟨#[c] ++ cs.toArray⟩ : Str) = ⟨(c :: cs).toArray⟩
    simp
theorem txt_len (cs : List Nat) : (txt cs).length = cs.length := by show cs.toArray.size = _; simp
theorem txt_list (cs : List Nat) : (txt cs).cps.toList = cs := by show cs.toArray.toList = _; simp
theorem sum_sg : ∀ (cs : List Nat), ((cs.map sg).map (·.length)).sum = cs.length
  | [] => rfl
  | c :: cs => by
    rw [List.map_cons, List.map_cons, List.sum_cons, sum_sg cs, List.length_cons]
    show 1 + cs.length = _
    omega
section
variable {P : Program} {w : World} {K : PySem.W.Frag} {mg : Str → Option Value} {base : Heap} (T : Txt K mg)
/-- a draw -/
theorem w_drawG {p : Addr} {fl : Bool} {i : Nat} {te : TE} {as : List Sv} {M : Mm} {R : PyData → Mm → Prop} (hi : as[i]? = some (.own p)) (h : W K te as M fun d M1 => ∃ (m : Int) (pl : List PyData), d = .int m ∧ M1 = [(p, fl, pl)] ∧ poolD pl ∧ 0 < m ∧ m < 1000000 ∧ ∀ (n : Nat) pl', (n : Int) < m → poolD pl' → R (.int (n : Int)) [(p, fl, pl')]) :
    W K (tCall (spQ preDraw postDraw K) [] E0 (tCons (tVar i) (tCons te tNil))) as M R := by
  refine w_callQ (wa_mut hi (wa_cons ?_))
  refine h.imp fun d M1 ⟨m, pl, ed, em, hpl, h1, h2, q⟩ => ?_
  subst ed em
  refine wa_nil ⟨p, fl, pl, [.int m], rfl, rfl, hpl, ⟨m, rfl, h1, h2⟩, fun d pl' hpl' hd => ?_⟩
  obtain ⟨n, rfl, hn⟩ := hd m rfl
  exact q n pl' hn hpl'
theorem w_draw {p : Addr} {fl : Bool} {pl : List PyData} {i : Nat} {m : Int} {as : List Sv} {R : PyData → Mm → Prop} (hi : as[i]? = some (.own p)) (hpl : poolD pl) (hm : 0 < m) (hm2 : m < 1000000) (h : ∀ (n : Nat) pl', (n : Int) < m → poolD pl' → R (.int (n : Int)) [(p, fl, pl')]) :
    W K (tCall (spQ preDraw postDraw K) [] E0 (tCons (tVar i) (tCons (tC (.int m)) tNil))) as [(p, fl, pl)] R := w_drawG hi (w_int ⟨m, pl, rfl, rfl, hpl, hm, hm2, h⟩)
/-- ''.join([signs[draw] for k in range(n)]): a text of so many of the signs -/
theorem w_signs {p : Addr} {fl : Bool} {i j : Nat} {z : Str} {m : Int} {vs : List Nat} {tz : TE} {ta : TA} {as : List Sv} {M : Mm} {R : PyData → Mm → Prop} (hj : j ∈ vs) (hi : ∀ d, ((awipe as vs).set j (.dat d))[i]? = some (.own p)) (hm : 0 < m) (hm2 : m ≤ z.length) (hz : z.length ≤ 1000)
    (ht : ∀ d M', W K tz ((awipe as vs).set j (.dat d)) M' fun x M1 => x = .str z ∧ M1 = M')
    (h : WA K ta as M fun ss M1 => ∃ (n : Nat) (pl : List PyData), ss = [.dat (.int (n : Int))] ∧ n ≤ 1000 ∧ M1 = [(p, fl, pl)] ∧ poolD pl ∧ ∀ cs pl', cs.length = n → (∀ c ∈ cs, c ∈ z.cps.toList) → poolD pl' → R (.str (txt cs)) [(p, fl, pl')]) :
    W K (tM1 (rJoin K) (tC (.str "")) (tLc (iRng1 ta) (gName j) tYes (tOp (rIx K) tz (tCall (spQ preDraw postDraw K) [] E0 (tCons (tVar i) (tCons (tC (.int m)) tNil)))) vs)) as M R := by
  refine w_join (w_str ⟨_, rfl, ?_⟩)
  refine w_lc ga_name (by simpa using hj) (wi_rng ?_)
  intro S H0 σ H k r Q q
  refine h S H0 σ H k r Q fun vs2 H2 ss M2 k2 e2 b2 ⟨n, pl, es, hn, em, hpl, fin⟩ => q vs2 H2 ss M2 k2 e2 b2 ?_
  subst em
  refine ⟨(n : Int), es, by omega, by omega, fun i acc Mi => ∃ (cs : List Nat) (pl' : List PyData), acc = (cs.map sg).map .str ∧ Mi = [(p, fl, pl')] ∧ poolD pl' ∧ cs.length = i ∧ i ≤ n ∧ ∀ c ∈ cs, c ∈ z.cps.toList, ⟨[], pl, rfl, rfl, hpl, rfl, Nat.zero_le _, fun c h => by cases h⟩, ?_, ?_⟩
  · rintro i2 x acc Mi hx ⟨cs, pl', rfl, rfl, hpl', hl, hi2, hc⟩
    have hlt := (List.getElem?_eq_some_iff.mp hx).1
    have hlt : i2 < n := by simpa using hlt
    intro S2 H02 σ2 H2 k2 r2 Q2 q2
    refine q2 true H2 _ k2 (Same.refl _) ?_
    show W K _ _ _ _
    refine w_op ao_ix ((ht _ _).imp fun d M1 ⟨ed, em⟩ => ?_)
    subst ed em
    refine w_draw (hi _) hpl' hm (by omega) fun u pl2 hu hpl2 => ?_
    have lz : z.length = z.cps.toList.length := by rw [Array.length_toList]; rfl
    have hu2 : u < z.cps.toList.length := by omega
    refine ⟨by omega, z.cps.toList[u], atI_nat (List.getElem?_eq_getElem hu2), ?_, ?_⟩
    · rw [List.length_map, List.length_map]; omega
    · refine ⟨cs ++ [z.cps.toList[u]], pl2, by simp [sg], rfl, hpl2, by simp [hl], by omega, fun c hcm => ?_⟩
      rcases List.mem_append.mp hcm with hcm | hcm
      · exact hc c hcm
      · rw [List.mem_singleton.mp hcm]; exact List.getElem_mem hu2
  · rintro acc M' ⟨cs, pl', rfl, rfl, hpl', hl, _, hc⟩
    have hl : cs.length = n := by rw [hl]; simp
    refine ⟨cs.map sg, rfl, ?_, ?_⟩
    · rw [sum_sg, List.length_map]
      show cs.length + cs.length * 0 ≤ _
      omega
    · rw [join_sg]
      exact fin cs pl' hl hc hpl'
/-! ### base values -/
def signs12 : List Nat := ("ab9 ~!#(').;" : Str).cps.toList
inductive BV : Str → PyData → Prop
  | int {i : Int} : BV "int" (.int i)
  | txt {cs : List Nat} : cs.length ≤ 12 → (∀ c ∈ cs, c ∈ signs12) → BV "text" (.str (txt cs))
abbrev spBV (K : PySem.W.Frag) : Sp := spQ (fun ds => ∃ k, ds = [PyData.str k] ∧ (k = "int" ∨ k = "text")) (fun ds x => ∀ k, ds = [PyData.str k] → BV k x) K
theorem eq0 {n : Nat} {P : PyData → Prop} (z : P (.bool (decide (n = 0)))) : fEqW (.int (n : Int)) (.int 0) P := by
  refine feqW rfl rfl (by simp [PyData.depth]) ?_
  have e : PyData.eqv (.int (n : Int)) (.int 0) = decide (n = 0) := by
    show ((n : Int) == 0) = _
    rw [Bool.eq_iff_iff]; simp
  rw [e]; exact z
include T in
theorem ok_law_base_value (F : Dfn K mg "_law_base_value" s_law_base_value ["_law_pool_here", "_law_kind"]) (c_law_draw : Cal P w K mg base 1 "_law_draw" ["_law_pool_here", "_law_many"] (spQ preDraw postDraw K)) : Cal P w K mg base 2 "_law_base_value" ["_law_pool_here", "_law_kind"] (spBV K) := by
  have hn : ∀ ds, (∃ k, ds = [PyData.str k] ∧ (k = "int" ∨ k = "text")) → ds.length = 1 := by rintro ds ⟨k, rfl, _⟩; rfl
  refine F.ok sc_law_base_value (fun vs H Q E h => spQ_len hn h) (fun f cdv A outer s H vs Q E hr h => ⟨_, (pss_cons (ps_if (pt_cmpR (k_eqW (K := K) rfl hr) (pv 1) pe_str (nomark _)) (pss_one (ps_ret (pe_cmpR (k_eqW (K := K) rfl hr) (pe_cal c_law_draw hr (pa_cons (pv 0) (pa_cons pe_int pa_nil))) pe_int (nomark _)))) pss_nil)
      (pss_cons (ps_if (pt_cmpR (k_eqW (K := K) rfl hr) (pv 1) pe_str (nomark _)) (pss_cons (ps_set (i := 2) sc_law_base_value.nd rfl (by first | exact .inl rfl | exact .inr rfl) (pe_cal c_law_draw hr (pa_cons (pv 0) (pa_cons pe_int pa_nil))))
      (pss_cons (ps_if (pt_cmpR (k_eqW (K := K) rfl hr) (pe_cal c_law_draw hr (pa_cons (pv 0) (pa_cons pe_int pa_nil))) pe_int (nomark _)) (pss_one (ps_set (i := 2) sc_law_base_value.nd rfl (by first | exact .inl rfl | exact .inr rfl) (pe_op op_subI (pe_op op_subI (pe_op op_powI pe_int pe_int) pe_int) (pv 2)))) pss_nil)
      (pss_one (ps_ret (pe_ifExp (pt_cmpR (k_eqW (K := K) rfl hr) (pe_cal c_law_draw hr (pa_cons (pv 0) (pa_cons pe_int pa_nil))) pe_int (nomark _)) (pv 2) (pe_op op_subI pe_int (pv 2))))))) pss_nil)
      (pss_cons (ps_set (i := 3) sc_law_base_value.nd rfl (by first | exact .inl rfl | exact .inr rfl) (pe_ifExp (pt_cmpR (k_eqW (K := K) rfl hr) (pe_cal c_law_draw hr (pa_cons (pv 0) (pa_cons pe_int pa_nil))) pe_int (nomark _)) pe_int (pe_cal c_law_draw hr (pa_cons (pv 0) (pa_cons pe_int pa_nil)))))
      (pss_cons (ps_set (i := 4) sc_law_base_value.nd rfl (by first | exact .inl rfl | exact .inr rfl) pe_str)
      (pss_one (ps_ret (k_join (K := K) rfl pe_str (pe_lc (own := [("_law_k", 5)]) (by rfl) sc_law_base_value.nd (pi_range1 (by rfl) T.n_range (pa_cons (pv 3) pa_nil)) (blkOk_by (N := ["_law_pool_here", "_law_kind", "_law_drawn", "_law_size", "_law_signs", "_law_k"]) (sc := defScope s_law_base_value) (by decide +kernel)) (fun _ _ _ _ _ => (pg_name (i := 5) sc_law_base_value.nd rfl (by first | exact .inl rfl | exact .inr rfl))) (fun _ _ _ _ _ => pts_nil) (fun _ _ _ _ _ => (pe_ix (k_ix (K := K) rfl) (pv 4) (pe_cal c_law_draw hr (pa_cons (pv 0) (pa_cons pe_int pa_nil))) (fun _ _ => rfl))))))))))), to_spQ hn (fun p pl ds hpl hp => ?_) h⟩)
  obtain ⟨k, rfl, hk⟩ := hp
  have fin : ∀ x pl', poolD pl' → BV k x → ∃ pl'', [(p, false, pl')] = [(p, false, pl'')] ∧ poolD pl'' ∧ ∀ k', [PyData.str k] = [PyData.str k'] → BV k' x := fun x pl' h1 h2 => ⟨pl', rfl, h1, fun k' e => by
    injection e with e; injection e with e; rw [← e]; exact h2⟩
  change WS K _ [.own p, .dat (.str k), .no, .no, .no, .no] [(p, false, pl)] _
  rcases hk with rfl | rfl
  · walk_at "ww"
    refine w_draw rfl hpl (by decide) (by decide) fun n pl1 h1 hpl1 => ?_
    change WS K _ [.own p, .dat (.str "int"), .dat (.int (n : Int)), .no, .no, .no] [(p, false, pl1)] _
    have rest : ∀ (z : Int) pl2 (A : AE), -(10 ^ 30) < z → z < 10 ^ 30 → poolD pl2 → (∀ d M, (∃ pl', M = [(p, false, pl')] ∧ poolD pl' ∧ ∀ k', [PyData.str "int"] = [PyData.str k'] → BV k' d) → A.rt d M) → WS K (tRet (tIf (tTest (tOp (rEqW K) (tCall (spQ preDraw postDraw K) [] E0 (tCons (tVar 0) (tCons (tC (.int 2)) tNil))) (tC (.int 0)))) (tVar 2) (tOp rSubI (tC (.int 0)) (tVar 2)))) [.own p, .dat (.str "int"), .dat (.int z), .no, .no, .no] [(p, false, pl2)] A := fun z pl2 A hz1 hz2 hpl2 hA => by
      refine ws_ret (w_ite (wt_test (w_op ao_eqW (w_draw rfl hpl2 (by decide) (by decide) fun n2 pl3 _ hpl3 => w_int (eq0 (exb ?_))))))
      refine iteB (fun _ => ?_) (fun _ => ?_)
      · exact w_var rfl (hA _ _ (fin _ _ hpl3 .int))
      · exact w_op ao_sub (w_int (w_var rfl (fii trivial (hA _ _ (fin _ _ hpl3 .int)))))
    refine ws_seq (ws_if (wt_test (w_op ao_eqW (w_draw rfl hpl1 (by decide) (by decide) fun n2 pl2 _ hpl2 => w_int (eq0 (exb ?_))))))
    refine iteB (fun _ => ?_) (fun _ => ?_)
    · refine ws_set (w_op ao_sub (w_op ao_sub (w_op ao_pow (w_int (w_int (fii (by refine ⟨by decide, by decide, by decide⟩) (w_int (fii trivial (w_var rfl (fii trivial ?_))))))))))
      exact rest ((10 : Int) ^ 30 - 1 - (n : Int)) pl2 _ (by omega) (by omega) hpl2 (fun _ _ h => h)
    · exact ws_next (rest (n : Int) pl2 _ (by omega) (by omega) hpl2 (fun _ _ h => h))
  · walk_at "ww"
    refine w_draw rfl hpl (by decide) (by decide) fun n pl1 h1 hpl1 => w_int (eq0 (exb ?_))
    have rest : ∀ (z : Nat) pl2, z ≤ 12 → poolD pl2 → WS K (tSeq (tAsg (tC (.str "ab9 ~!#(').;")) (gName 4)) (tRet (tM1 (rJoin K) (tC (.str "")) (tLc (iRng1 (tCons (tVar 3) tNil)) (gName 5) tYes (tOp (rIx K) (tVar 4) (tCall (spQ preDraw postDraw K) [] E0 (tCons (tVar 0) (tCons (tC (.int 12)) tNil)))) [5]))))
        [.own p, .dat (.str "text"), .no, .dat (.int (z : Int)), .no, .no] [(p, false, pl2)]
        ⟨fun _ M => ∃ pl', M = [(p, false, pl')] ∧ poolD pl' ∧ ∀ k', [PyData.str "text"] = [PyData.str k'] → BV k' .none, fun d M => ∃ pl', M = [(p, false, pl')] ∧ poolD pl' ∧ ∀ k', [PyData.str "text"] = [PyData.str k'] → BV k' d, fun _ _ => False, fun _ _ => False⟩ := fun z pl2 hz hpl2 => by
      refine ws_seq (ws_set (w_str (ws_ret ?_)))
      refine w_signs (p := p) (fl := false) (z := "ab9 ~!#(').;") (by simp) (fun d => rfl) (by decide) (by decide) (by decide) (fun d M' => w_var rfl ⟨rfl, rfl⟩) (wa_cons (w_var rfl (wa_nil ⟨z, pl2, rfl, by omega, rfl, hpl2, fun cs pl' hl hc hpl' => ?_⟩)))
      exact fin _ _ hpl' (.txt (by omega) hc)
    refine iteB (fun _ => ?_) (fun _ => ?_)
    · exact w_int (rest 12 pl1 (by omega) hpl1)
    · exact w_draw rfl hpl1 (by decide) (by decide) fun n2 pl2 h2 hpl2 => rest n2 pl2 (by omega) hpl2
end
end E5

set_option Elab.async false
set_option linter.all false
set_option maxRecDepth 100000
set_option maxHeartbeats 4000000
namespace E5
open PySem PySem.Spec PyProof.Rows L2 Ab

/-- one step of the reading -/
local macro_rules | `(tactic| walk_at "w") => `(tactic| first
  | (with_reducible refine ws_seq ?_) | (with_reducible refine ws_next ?_) | (with_reducible refine ws_set ?_) | (with_reducible refine ws_par ?_) | (with_reducible refine ws_ret ?_) | (with_reducible refine ws_if ?_) | (with_reducible refine ws_drop ?_)
  | (refine w_var rfl ?_) | (with_reducible refine w_int ?_) | (with_reducible refine w_str ?_) | (with_reducible refine w_bl ?_) | (with_reducible refine w_non ?_)
  | (with_reducible refine wa_nil ?_) | (with_reducible refine wa_cons ?_) | (with_reducible refine w_tup ?_) | (with_reducible refine w_lst ?_)
  | (with_reducible refine wt_test ?_) | (with_reducible refine wt_B ?_) | (with_reducible refine wt_not ?_) | (with_reducible refine wt_and ?_) | (with_reducible refine wt_or ?_)
  | (with_reducible refine w_andV ?_) | (with_reducible refine w_orV ?_) | (with_reducible refine w_notV ?_) | (with_reducible refine w_ite ?_)
  | (with_reducible refine w_op ao_eqW ?_) | (with_reducible refine w_op ao_neW ?_) | (with_reducible refine w_op ao_eq ?_) | (with_reducible refine w_op ao_ne ?_) | (with_reducible refine w_op ao_isB ?_) | (with_reducible refine w_op ao_notB ?_) | (with_reducible refine w_op ao_ix ?_) | (with_reducible refine w_op ao_plus ?_) | (with_reducible refine w_op ao_less ?_) | (with_reducible refine w_op ao_le ?_) | (with_reducible refine w_op ao_gt ?_) | (with_reducible refine w_op ao_ge ?_)
  | (with_reducible refine w_op ao_sub ?_) | (with_reducible refine w_op ao_mul ?_) | (with_reducible refine w_op ao_mod ?_) | (with_reducible refine w_op ao_div ?_) | (with_reducible refine w_op ao_pow ?_) | (with_reducible refine w_op ao_isNo ?_) | (with_reducible refine w_op ao_inSg ?_) | (with_reducible refine w_op ao_inW ?_) | (with_reducible refine w_op ao_ninW ?_) | (with_reducible refine w_op ao_inSeq ?_) | (with_reducible refine w_op ao_ninSeq ?_)
  | (with_reducible refine w_cb ac_len ?_) | (with_reducible refine w_cb ac_tupleOf ?_) | (with_reducible refine w_cb ac_intOf ?_) | (with_reducible refine w_cb ac_abs ?_) | (with_reducible refine w_cb ac_ord ?_) | (with_reducible refine w_cb ac_all ?_) | (with_reducible refine w_cb ac_any ?_)
  | (with_reducible refine w_isi (by decide) ?_) | (with_reducible refine w_isi2 (by decide) (by decide) ?_) | (with_reducible refine w_sl ?_) | (with_reducible refine wo_none ?_) | (with_reducible refine wo_some ?_)
  | (with_reducible refine w_chain ao_le ao_le ?_) | (with_reducible refine w_chain ao_leS ao_leS ?_) | (with_reducible refine w_call ?_))
local macro_rules | `(tactic| walk_at "v") => `(tactic| first
  | (with_reducible refine m0 ?_) | (with_reducible refine m1 ?_) | (with_reducible refine m2 ?_) | (with_reducible refine m3 ?_) | (with_reducible refine m5 ?_)
  | (with_reducible refine exb ?_) | (with_reducible refine exi ?_) | (with_reducible refine exl ?_) | (with_reducible refine exql ?_) | (with_reducible refine exqt ?_)
  | (refine fixt rfl ?_) | (refine fixl rfl ?_) | (refine fslt rfl ?_) | (refine fsll rfl ?_)
  | (with_reducible refine flent ?_; dsimp only [List.length_cons, List.length_nil]) | (with_reducible refine flenl ?_; dsimp only [List.length_cons, List.length_nil])
  | (with_reducible refine fii (by first | trivial | decide) ?_) | (with_reducible refine fpi ?_) | (with_reducible refine flti ?_) | (with_reducible refine fint ?_) | (with_reducible refine ftupl ?_) | (with_reducible refine ftupt ?_)
  | (with_reducible refine feqW (by decide +kernel) (by decide +kernel) (by decide +kernel) ?_) | (with_reducible refine fneW (by decide +kernel) (by decide +kernel) (by decide +kernel) ?_)
  | (with_reducible refine feq (by decide +kernel) (by decide +kernel) ?_) | (with_reducible refine fne (by decide +kernel) (by decide +kernel) ?_)
  | (with_reducible refine iteK rfl ?_) | (with_reducible refine iteN rfl ?_) | (with_reducible refine iteK (by decide +kernel) ?_) | (with_reducible refine iteN (by decide +kernel) ?_))
local macro_rules | `(tactic| walk_at "x") => `(tactic| first | (with_reducible refine wx_seq ?_) | (with_reducible refine wx_if ?_) | (with_reducible refine wx_next ?_) | (with_reducible refine wx_ret ?_) | (with_reducible refine wr_tup ?_) | (with_reducible refine war_cons ?_) | (with_reducible refine war_nil ?_))
local macro_rules | `(tactic| walk_at "ww") => `(tactic| repeat (first | walk_at "w" | walk_at "v" | walk_at "x"))

def fldT : List (List Str) := [([] : List Str), (["steps"] : List Str), (["path"] : List Str), (["path", "what"] : List Str), (["at", "what"] : List Str), (["table"] : List Str), (["table", "number"] : List Str), (["column"] : List Str), (["at"] : List Str), ([] : List Str), (["place"] : List Str), (["what"] : List Str), (["number"] : List Str), (["what"] : List Str), (["at", "path", "name"] : List Str), (["at", "path"] : List Str), (["at", "path"] : List Str), ([] : List Str), (["at", "word"] : List Str), (["cell"] : List Str), ([] : List Str), (["place", "member", "what"] : List Str), (["what"] : List Str), (["word"] : List Str), (["at", "word"] : List Str), (["number", "at", "word"] : List Str), (["place", "row", "what"] : List Str), (["place"] : List Str), (["place", "own"] : List Str), (["place", "what"] : List Str), (["place", "key", "what"] : List Str), ([] : List Str), (["place", "key"] : List Str), (["member", "what"] : List Str), ([] : List Str), (["what"] : List Str), (["what"] : List Str), (["name"] : List Str), (["name"] : List Str), (["at"] : List Str)]
def preErr (lo : Nat) (ss : List Sv) : Prop := ∃ (t : Nat) (d1 d2 d3 : PyData), ss = [.dat (.int (t : Int)), .dat d1, .dat d2, .dat d3] ∧ lo ≤ t ∧ t < lo + 20
def postErr (cs : Nat → Addr) (ss : List Sv) (s : Sv) : Prop := ∀ (t : Nat) (d1 d2 d3 : PyData), ss = [.dat (.int (t : Int)), .dat d1, .dat d2, .dat d3] → ∃ a, s = .obj a (cs t) ((fldT.getD t []).zip [d1, d2, d3]).reverse
abbrev spErr (lo : Nat) (cs : Nat → Addr) (K : PySem.W.Frag) : Sp := spSV (preErr lo) (postErr cs) K
theorem sv4 {t t' : Nat} {d1 d2 d3 e1 e2 e3 : PyData} (h : [Sv.dat (.int (t : Int)), .dat d1, .dat d2, .dat d3] = [.dat (.int (t' : Int)), .dat e1, .dat e2, .dat e3]) : t = t' ∧ d1 = e1 ∧ d2 = e2 ∧ d3 = e3 := by
  simp only [List.cons.injEq, Sv.dat.injEq, PyData.int.injEq] at h
  obtain ⟨h1, h2, h3, h4, _⟩ := h
  exact ⟨by omega, h2, h3, h4⟩
section
variable {P : Program} {w : World} {K : PySem.W.Frag} {mg : Str → Option Value} {base : Heap} {cs : Nat → Addr} {A : Addr} (T : Txt K mg) (X : XS K mg cs A) (Y : MS P w K mg base cs)
include T X Y in
theorem ok_law_first_errors (F : Dfn K mg "_law_first_errors" s_law_first_errors ["_law_turn", "_law_one", "_law_other", "_law_third"]) : Cal P w K mg base 3 "_law_first_errors" ["_law_turn", "_law_one", "_law_other", "_law_third"] (spErr 0 cs K) := by
  have hn : ∀ ss, preErr 0 ss → ss.length = 4 := by rintro ss ⟨t, d1, d2, d3, rfl, _⟩; rfl
  refine F.ok sc_law_first_errors (fun vs H Q E h => spSV_len hn h) (fun f cdv A outer s H vs Q E hr h => ⟨_, (pss_cons (ps_if (pt_cmpR (k_eqW (K := K) rfl hr) (pv 0) pe_int (nomark _)) (pss_one (ps_ret (pe_oex0 PySem.F.excBase_ValueError X.p_BadKind X.x_BadKind.gC X.x_BadKind.kC (by rfl)))) pss_nil)
      (pss_cons (ps_if (pt_cmpR (k_eqW (K := K) rfl hr) (pv 0) pe_int (nomark _)) (pss_one (ps_ret (pe_mk Y.m_NoPlace hr (by decide) (pa_cons (pv 1) pa_nil)))) pss_nil)
      (pss_cons (ps_if (pt_cmpR (k_eqW (K := K) rfl hr) (pv 0) pe_int (nomark _)) (pss_one (ps_ret (pe_mk Y.m_NoPath hr (by decide) (pa_cons (pv 1) pa_nil)))) pss_nil)
      (pss_cons (ps_if (pt_cmpR (k_eqW (K := K) rfl hr) (pv 0) pe_int (nomark _)) (pss_one (ps_ret (pe_mk Y.m_BadTerm hr (by decide) (pa_cons (pv 1) (pa_cons (pv 2) pa_nil))))) pss_nil)
      (pss_cons (ps_if (pt_cmpR (k_eqW (K := K) rfl hr) (pv 0) pe_int (nomark _)) (pss_one (ps_ret (pe_mk Y.m_BadHeads hr (by decide) (pa_cons (pv 1) (pa_cons (pv 2) pa_nil))))) pss_nil)
      (pss_cons (ps_if (pt_cmpR (k_eqW (K := K) rfl hr) (pv 0) pe_int (nomark _)) (pss_one (ps_ret (pe_mk Y.m_NoTable hr (by decide) (pa_cons (pv 1) pa_nil)))) pss_nil)
      (pss_cons (ps_if (pt_cmpR (k_eqW (K := K) rfl hr) (pv 0) pe_int (nomark _)) (pss_one (ps_ret (pe_mk Y.m_NoRow hr (by decide) (pa_cons (pv 1) (pa_cons (pv 2) pa_nil))))) pss_nil)
      (pss_cons (ps_if (pt_cmpR (k_eqW (K := K) rfl hr) (pv 0) pe_int (nomark _)) (pss_one (ps_ret (pe_mk Y.m_NoColumn hr (by decide) (pa_cons (pv 1) pa_nil)))) pss_nil)
      (pss_cons (ps_if (pt_cmpR (k_eqW (K := K) rfl hr) (pv 0) pe_int (nomark _)) (pss_one (ps_ret (pe_mk Y.m_BadRow hr (by decide) (pa_cons (pv 1) pa_nil)))) pss_nil)
      (pss_cons (ps_if (pt_cmpR (k_eqW (K := K) rfl hr) (pv 0) pe_int (nomark _)) (pss_one (ps_ret (pe_oex0 PySem.F.excBase_ValueError X.p_BadLots X.x_BadLots.gC X.x_BadLots.kC (by rfl)))) pss_nil)
      (pss_cons (ps_if (pt_cmpR (k_eqW (K := K) rfl hr) (pv 0) pe_int (nomark _)) (pss_one (ps_ret (pe_mk Y.m_BadText hr (by decide) (pa_cons (pv 1) pa_nil)))) pss_nil)
      (pss_cons (ps_if (pt_cmpR (k_eqW (K := K) rfl hr) (pv 0) pe_int (nomark _)) (pss_one (ps_ret (pe_mk Y.m_BadForm hr (by decide) (pa_cons (pv 1) pa_nil)))) pss_nil)
      (pss_cons (ps_if (pt_cmpR (k_eqW (K := K) rfl hr) (pv 0) pe_int (nomark _)) (pss_one (ps_ret (pe_mk Y.m_BadChoices hr (by decide) (pa_cons (pv 1) pa_nil)))) pss_nil)
      (pss_cons (ps_if (pt_cmpR (k_eqW (K := K) rfl hr) (pv 0) pe_int (nomark _)) (pss_one (ps_ret (pe_mk Y.m_BadProgram hr (by decide) (pa_cons (pv 1) pa_nil)))) pss_nil)
      (pss_cons (ps_if (pt_cmpR (k_eqW (K := K) rfl hr) (pv 0) pe_int (nomark _)) (pss_one (ps_ret (pe_mk Y.m_Unknown hr (by decide) (pa_cons (pv 1) (pa_cons (pv 2) (pa_cons (pv 3) pa_nil)))))) pss_nil)
      (pss_cons (ps_if (pt_cmpR (k_eqW (K := K) rfl hr) (pv 0) pe_int (nomark _)) (pss_one (ps_ret (pe_mk Y.m_Misfit hr (by decide) (pa_cons (pv 1) (pa_cons (pv 2) pa_nil))))) pss_nil)
      (pss_cons (ps_if (pt_cmpR (k_eqW (K := K) rfl hr) (pv 0) pe_int (nomark _)) (pss_one (ps_ret (pe_mk Y.m_Unclear hr (by decide) (pa_cons (pv 1) (pa_cons (pv 2) pa_nil))))) pss_nil)
      (pss_cons (ps_if (pt_cmpR (k_eqW (K := K) rfl hr) (pv 0) pe_int (nomark _)) (pss_one (ps_ret (pe_oex0 PySem.F.excBase_ValueError X.p_NoAnswer X.x_NoAnswer.gC X.x_NoAnswer.kC (by rfl)))) pss_nil)
      (pss_cons (ps_if (pt_cmpR (k_eqW (K := K) rfl hr) (pv 0) pe_int (nomark _)) (pss_one (ps_ret (pe_mk Y.m_BadChain hr (by decide) (pa_cons (pv 1) (pa_cons (pv 2) pa_nil))))) pss_nil)
      (pss_one (ps_ret (pe_mk Y.m_BadCell hr (by decide) (pa_cons (pv 1) pa_nil))))))))))))))))))))))), to_spSV hn (fun ss hp => ?_) h⟩)
  obtain ⟨t, d1, d2, d3, rfl, h1, h2⟩ := hp
  change WSV K _ [.dat (.int (t : Int)), .dat d1, .dat d2, .dat d3] _
  have fin : ∀ s, (∃ a, s = Sv.obj a (cs t) ((fldT.getD t []).zip [d1, d2, d3]).reverse) → postErr cs [.dat (.int (t : Int)), .dat d1, .dat d2, .dat d3] s := fun s e t' e1 e2 e3 h => by
    obtain ⟨rfl, rfl, rfl, rfl⟩ := sv4 h
    exact e
  rcases (show t = 0 ∨ t = 1 ∨ t = 2 ∨ t = 3 ∨ t = 4 ∨ t = 5 ∨ t = 6 ∨ t = 7 ∨ t = 8 ∨ t = 9 ∨ t = 10 ∨ t = 11 ∨ t = 12 ∨ t = 13 ∨ t = 14 ∨ t = 15 ∨ t = 16 ∨ t = 17 ∨ t = 18 ∨ t = 19 by omega) with rfl | rfl | rfl | rfl | rfl | rfl | rfl | rfl | rfl | rfl | rfl | rfl | rfl | rfl | rfl | rfl | rfl | rfl | rfl | rfl
  · refine wsv_if (wt_test (w_op ao_eqW (w_var rfl (w_int (feqW rfl rfl (by simp [PyData.depth]) (exb ⟨rfl, iteK rfl ?_⟩))))))
    exact wsv_ret (wv_mk0 fun a => ⟨rfl, fin _ ⟨a, rfl⟩⟩)
  · refine wsv_if (wt_test (w_op ao_eqW (w_var rfl (w_int (feqW rfl rfl (by simp [PyData.depth]) (exb ⟨rfl, iteN rfl ?_⟩))))))
    refine wsv_if (wt_test (w_op ao_eqW (w_var rfl (w_int (feqW rfl rfl (by simp [PyData.depth]) (exb ⟨rfl, iteK rfl ?_⟩))))))
    exact wsv_ret (wv_mk (wa_cons (w_var rfl (wa_nil ⟨[d1], rfl, rfl, by simp, fun a => ⟨rfl, fin _ ⟨a, rfl⟩⟩⟩))))
  · refine wsv_if (wt_test (w_op ao_eqW (w_var rfl (w_int (feqW rfl rfl (by simp [PyData.depth]) (exb ⟨rfl, iteN rfl ?_⟩))))))
    refine wsv_if (wt_test (w_op ao_eqW (w_var rfl (w_int (feqW rfl rfl (by simp [PyData.depth]) (exb ⟨rfl, iteN rfl ?_⟩))))))
    refine wsv_if (wt_test (w_op ao_eqW (w_var rfl (w_int (feqW rfl rfl (by simp [PyData.depth]) (exb ⟨rfl, iteK rfl ?_⟩))))))
    exact wsv_ret (wv_mk (wa_cons (w_var rfl (wa_nil ⟨[d1], rfl, rfl, by simp, fun a => ⟨rfl, fin _ ⟨a, rfl⟩⟩⟩))))
  · refine wsv_if (wt_test (w_op ao_eqW (w_var rfl (w_int (feqW rfl rfl (by simp [PyData.depth]) (exb ⟨rfl, iteN rfl ?_⟩))))))
    refine wsv_if (wt_test (w_op ao_eqW (w_var rfl (w_int (feqW rfl rfl (by simp [PyData.depth]) (exb ⟨rfl, iteN rfl ?_⟩))))))
    refine wsv_if (wt_test (w_op ao_eqW (w_var rfl (w_int (feqW rfl rfl (by simp [PyData.depth]) (exb ⟨rfl, iteN rfl ?_⟩))))))
    refine wsv_if (wt_test (w_op ao_eqW (w_var rfl (w_int (feqW rfl rfl (by simp [PyData.depth]) (exb ⟨rfl, iteK rfl ?_⟩))))))
    exact wsv_ret (wv_mk (wa_cons (w_var rfl (wa_cons (w_var rfl (wa_nil ⟨[d1, d2], rfl, rfl, by simp, fun a => ⟨rfl, fin _ ⟨a, rfl⟩⟩⟩))))))
  · refine wsv_if (wt_test (w_op ao_eqW (w_var rfl (w_int (feqW rfl rfl (by simp [PyData.depth]) (exb ⟨rfl, iteN rfl ?_⟩))))))
    refine wsv_if (wt_test (w_op ao_eqW (w_var rfl (w_int (feqW rfl rfl (by simp [PyData.depth]) (exb ⟨rfl, iteN rfl ?_⟩))))))
    refine wsv_if (wt_test (w_op ao_eqW (w_var rfl (w_int (feqW rfl rfl (by simp [PyData.depth]) (exb ⟨rfl, iteN rfl ?_⟩))))))
    refine wsv_if (wt_test (w_op ao_eqW (w_var rfl (w_int (feqW rfl rfl (by simp [PyData.depth]) (exb ⟨rfl, iteN rfl ?_⟩))))))
    refine wsv_if (wt_test (w_op ao_eqW (w_var rfl (w_int (feqW rfl rfl (by simp [PyData.depth]) (exb ⟨rfl, iteK rfl ?_⟩))))))
    exact wsv_ret (wv_mk (wa_cons (w_var rfl (wa_cons (w_var rfl (wa_nil ⟨[d1, d2], rfl, rfl, by simp, fun a => ⟨rfl, fin _ ⟨a, rfl⟩⟩⟩))))))
  · refine wsv_if (wt_test (w_op ao_eqW (w_var rfl (w_int (feqW rfl rfl (by simp [PyData.depth]) (exb ⟨rfl, iteN rfl ?_⟩))))))
    refine wsv_if (wt_test (w_op ao_eqW (w_var rfl (w_int (feqW rfl rfl (by simp [PyData.depth]) (exb ⟨rfl, iteN rfl ?_⟩))))))
    refine wsv_if (wt_test (w_op ao_eqW (w_var rfl (w_int (feqW rfl rfl (by simp [PyData.depth]) (exb ⟨rfl, iteN rfl ?_⟩))))))
    refine wsv_if (wt_test (w_op ao_eqW (w_var rfl (w_int (feqW rfl rfl (by simp [PyData.depth]) (exb ⟨rfl, iteN rfl ?_⟩))))))
    refine wsv_if (wt_test (w_op ao_eqW (w_var rfl (w_int (feqW rfl rfl (by simp [PyData.depth]) (exb ⟨rfl, iteN rfl ?_⟩))))))
    refine wsv_if (wt_test (w_op ao_eqW (w_var rfl (w_int (feqW rfl rfl (by simp [PyData.depth]) (exb ⟨rfl, iteK rfl ?_⟩))))))
    exact wsv_ret (wv_mk (wa_cons (w_var rfl (wa_nil ⟨[d1], rfl, rfl, by simp, fun a => ⟨rfl, fin _ ⟨a, rfl⟩⟩⟩))))
  · refine wsv_if (wt_test (w_op ao_eqW (w_var rfl (w_int (feqW rfl rfl (by simp [PyData.depth]) (exb ⟨rfl, iteN rfl ?_⟩))))))
    refine wsv_if (wt_test (w_op ao_eqW (w_var rfl (w_int (feqW rfl rfl (by simp [PyData.depth]) (exb ⟨rfl, iteN rfl ?_⟩))))))
    refine wsv_if (wt_test (w_op ao_eqW (w_var rfl (w_int (feqW rfl rfl (by simp [PyData.depth]) (exb ⟨rfl, iteN rfl ?_⟩))))))
    refine wsv_if (wt_test (w_op ao_eqW (w_var rfl (w_int (feqW rfl rfl (by simp [PyData.depth]) (exb ⟨rfl, iteN rfl ?_⟩))))))
    refine wsv_if (wt_test (w_op ao_eqW (w_var rfl (w_int (feqW rfl rfl (by simp [PyData.depth]) (exb ⟨rfl, iteN rfl ?_⟩))))))
    refine wsv_if (wt_test (w_op ao_eqW (w_var rfl (w_int (feqW rfl rfl (by simp [PyData.depth]) (exb ⟨rfl, iteN rfl ?_⟩))))))
    refine wsv_if (wt_test (w_op ao_eqW (w_var rfl (w_int (feqW rfl rfl (by simp [PyData.depth]) (exb ⟨rfl, iteK rfl ?_⟩))))))
    exact wsv_ret (wv_mk (wa_cons (w_var rfl (wa_cons (w_var rfl (wa_nil ⟨[d1, d2], rfl, rfl, by simp, fun a => ⟨rfl, fin _ ⟨a, rfl⟩⟩⟩))))))
  · refine wsv_if (wt_test (w_op ao_eqW (w_var rfl (w_int (feqW rfl rfl (by simp [PyData.depth]) (exb ⟨rfl, iteN rfl ?_⟩))))))
    refine wsv_if (wt_test (w_op ao_eqW (w_var rfl (w_int (feqW rfl rfl (by simp [PyData.depth]) (exb ⟨rfl, iteN rfl ?_⟩))))))
    refine wsv_if (wt_test (w_op ao_eqW (w_var rfl (w_int (feqW rfl rfl (by simp [PyData.depth]) (exb ⟨rfl, iteN rfl ?_⟩))))))
    refine wsv_if (wt_test (w_op ao_eqW (w_var rfl (w_int (feqW rfl rfl (by simp [PyData.depth]) (exb ⟨rfl, iteN rfl ?_⟩))))))
    refine wsv_if (wt_test (w_op ao_eqW (w_var rfl (w_int (feqW rfl rfl (by simp [PyData.depth]) (exb ⟨rfl, iteN rfl ?_⟩))))))
    refine wsv_if (wt_test (w_op ao_eqW (w_var rfl (w_int (feqW rfl rfl (by simp [PyData.depth]) (exb ⟨rfl, iteN rfl ?_⟩))))))
    refine wsv_if (wt_test (w_op ao_eqW (w_var rfl (w_int (feqW rfl rfl (by simp [PyData.depth]) (exb ⟨rfl, iteN rfl ?_⟩))))))
    refine wsv_if (wt_test (w_op ao_eqW (w_var rfl (w_int (feqW rfl rfl (by simp [PyData.depth]) (exb ⟨rfl, iteK rfl ?_⟩))))))
    exact wsv_ret (wv_mk (wa_cons (w_var rfl (wa_nil ⟨[d1], rfl, rfl, by simp, fun a => ⟨rfl, fin _ ⟨a, rfl⟩⟩⟩))))
  · refine wsv_if (wt_test (w_op ao_eqW (w_var rfl (w_int (feqW rfl rfl (by simp [PyData.depth]) (exb ⟨rfl, iteN rfl ?_⟩))))))
    refine wsv_if (wt_test (w_op ao_eqW (w_var rfl (w_int (feqW rfl rfl (by simp [PyData.depth]) (exb ⟨rfl, iteN rfl ?_⟩))))))
    refine wsv_if (wt_test (w_op ao_eqW (w_var rfl (w_int (feqW rfl rfl (by simp [PyData.depth]) (exb ⟨rfl, iteN rfl ?_⟩))))))
    refine wsv_if (wt_test (w_op ao_eqW (w_var rfl (w_int (feqW rfl rfl (by simp [PyData.depth]) (exb ⟨rfl, iteN rfl ?_⟩))))))
    refine wsv_if (wt_test (w_op ao_eqW (w_var rfl (w_int (feqW rfl rfl (by simp [PyData.depth]) (exb ⟨rfl, iteN rfl ?_⟩))))))
    refine wsv_if (wt_test (w_op ao_eqW (w_var rfl (w_int (feqW rfl rfl (by simp [PyData.depth]) (exb ⟨rfl, iteN rfl ?_⟩))))))
    refine wsv_if (wt_test (w_op ao_eqW (w_var rfl (w_int (feqW rfl rfl (by simp [PyData.depth]) (exb ⟨rfl, iteN rfl ?_⟩))))))
    refine wsv_if (wt_test (w_op ao_eqW (w_var rfl (w_int (feqW rfl rfl (by simp [PyData.depth]) (exb ⟨rfl, iteN rfl ?_⟩))))))
    refine wsv_if (wt_test (w_op ao_eqW (w_var rfl (w_int (feqW rfl rfl (by simp [PyData.depth]) (exb ⟨rfl, iteK rfl ?_⟩))))))
    exact wsv_ret (wv_mk (wa_cons (w_var rfl (wa_nil ⟨[d1], rfl, rfl, by simp, fun a => ⟨rfl, fin _ ⟨a, rfl⟩⟩⟩))))
  · refine wsv_if (wt_test (w_op ao_eqW (w_var rfl (w_int (feqW rfl rfl (by simp [PyData.depth]) (exb ⟨rfl, iteN rfl ?_⟩))))))
    refine wsv_if (wt_test (w_op ao_eqW (w_var rfl (w_int (feqW rfl rfl (by simp [PyData.depth]) (exb ⟨rfl, iteN rfl ?_⟩))))))
    refine wsv_if (wt_test (w_op ao_eqW (w_var rfl (w_int (feqW rfl rfl (by simp [PyData.depth]) (exb ⟨rfl, iteN rfl ?_⟩))))))
    refine wsv_if (wt_test (w_op ao_eqW (w_var rfl (w_int (feqW rfl rfl (by simp [PyData.depth]) (exb ⟨rfl, iteN rfl ?_⟩))))))
    refine wsv_if (wt_test (w_op ao_eqW (w_var rfl (w_int (feqW rfl rfl (by simp [PyData.depth]) (exb ⟨rfl, iteN rfl ?_⟩))))))
    refine wsv_if (wt_test (w_op ao_eqW (w_var rfl (w_int (feqW rfl rfl (by simp [PyData.depth]) (exb ⟨rfl, iteN rfl ?_⟩))))))
    refine wsv_if (wt_test (w_op ao_eqW (w_var rfl (w_int (feqW rfl rfl (by simp [PyData.depth]) (exb ⟨rfl, iteN rfl ?_⟩))))))
    refine wsv_if (wt_test (w_op ao_eqW (w_var rfl (w_int (feqW rfl rfl (by simp [PyData.depth]) (exb ⟨rfl, iteN rfl ?_⟩))))))
    refine wsv_if (wt_test (w_op ao_eqW (w_var rfl (w_int (feqW rfl rfl (by simp [PyData.depth]) (exb ⟨rfl, iteN rfl ?_⟩))))))
    refine wsv_if (wt_test (w_op ao_eqW (w_var rfl (w_int (feqW rfl rfl (by simp [PyData.depth]) (exb ⟨rfl, iteK rfl ?_⟩))))))
    exact wsv_ret (wv_mk0 fun a => ⟨rfl, fin _ ⟨a, rfl⟩⟩)
  · refine wsv_if (wt_test (w_op ao_eqW (w_var rfl (w_int (feqW rfl rfl (by simp [PyData.depth]) (exb ⟨rfl, iteN rfl ?_⟩))))))
    refine wsv_if (wt_test (w_op ao_eqW (w_var rfl (w_int (feqW rfl rfl (by simp [PyData.depth]) (exb ⟨rfl, iteN rfl ?_⟩))))))
    refine wsv_if (wt_test (w_op ao_eqW (w_var rfl (w_int (feqW rfl rfl (by simp [PyData.depth]) (exb ⟨rfl, iteN rfl ?_⟩))))))
    refine wsv_if (wt_test (w_op ao_eqW (w_var rfl (w_int (feqW rfl rfl (by simp [PyData.depth]) (exb ⟨rfl, iteN rfl ?_⟩))))))
    refine wsv_if (wt_test (w_op ao_eqW (w_var rfl (w_int (feqW rfl rfl (by simp [PyData.depth]) (exb ⟨rfl, iteN rfl ?_⟩))))))
    refine wsv_if (wt_test (w_op ao_eqW (w_var rfl (w_int (feqW rfl rfl (by simp [PyData.depth]) (exb ⟨rfl, iteN rfl ?_⟩))))))
    refine wsv_if (wt_test (w_op ao_eqW (w_var rfl (w_int (feqW rfl rfl (by simp [PyData.depth]) (exb ⟨rfl, iteN rfl ?_⟩))))))
    refine wsv_if (wt_test (w_op ao_eqW (w_var rfl (w_int (feqW rfl rfl (by simp [PyData.depth]) (exb ⟨rfl, iteN rfl ?_⟩))))))
    refine wsv_if (wt_test (w_op ao_eqW (w_var rfl (w_int (feqW rfl rfl (by simp [PyData.depth]) (exb ⟨rfl, iteN rfl ?_⟩))))))
    refine wsv_if (wt_test (w_op ao_eqW (w_var rfl (w_int (feqW rfl rfl (by simp [PyData.depth]) (exb ⟨rfl, iteN rfl ?_⟩))))))
    refine wsv_if (wt_test (w_op ao_eqW (w_var rfl (w_int (feqW rfl rfl (by simp [PyData.depth]) (exb ⟨rfl, iteK rfl ?_⟩))))))
    exact wsv_ret (wv_mk (wa_cons (w_var rfl (wa_nil ⟨[d1], rfl, rfl, by simp, fun a => ⟨rfl, fin _ ⟨a, rfl⟩⟩⟩))))
  · refine wsv_if (wt_test (w_op ao_eqW (w_var rfl (w_int (feqW rfl rfl (by simp [PyData.depth]) (exb ⟨rfl, iteN rfl ?_⟩))))))
    refine wsv_if (wt_test (w_op ao_eqW (w_var rfl (w_int (feqW rfl rfl (by simp [PyData.depth]) (exb ⟨rfl, iteN rfl ?_⟩))))))
    refine wsv_if (wt_test (w_op ao_eqW (w_var rfl (w_int (feqW rfl rfl (by simp [PyData.depth]) (exb ⟨rfl, iteN rfl ?_⟩))))))
    refine wsv_if (wt_test (w_op ao_eqW (w_var rfl (w_int (feqW rfl rfl (by simp [PyData.depth]) (exb ⟨rfl, iteN rfl ?_⟩))))))
    refine wsv_if (wt_test (w_op ao_eqW (w_var rfl (w_int (feqW rfl rfl (by simp [PyData.depth]) (exb ⟨rfl, iteN rfl ?_⟩))))))
    refine wsv_if (wt_test (w_op ao_eqW (w_var rfl (w_int (feqW rfl rfl (by simp [PyData.depth]) (exb ⟨rfl, iteN rfl ?_⟩))))))
    refine wsv_if (wt_test (w_op ao_eqW (w_var rfl (w_int (feqW rfl rfl (by simp [PyData.depth]) (exb ⟨rfl, iteN rfl ?_⟩))))))
    refine wsv_if (wt_test (w_op ao_eqW (w_var rfl (w_int (feqW rfl rfl (by simp [PyData.depth]) (exb ⟨rfl, iteN rfl ?_⟩))))))
    refine wsv_if (wt_test (w_op ao_eqW (w_var rfl (w_int (feqW rfl rfl (by simp [PyData.depth]) (exb ⟨rfl, iteN rfl ?_⟩))))))
    refine wsv_if (wt_test (w_op ao_eqW (w_var rfl (w_int (feqW rfl rfl (by simp [PyData.depth]) (exb ⟨rfl, iteN rfl ?_⟩))))))
    refine wsv_if (wt_test (w_op ao_eqW (w_var rfl (w_int (feqW rfl rfl (by simp [PyData.depth]) (exb ⟨rfl, iteN rfl ?_⟩))))))
    refine wsv_if (wt_test (w_op ao_eqW (w_var rfl (w_int (feqW rfl rfl (by simp [PyData.depth]) (exb ⟨rfl, iteK rfl ?_⟩))))))
    exact wsv_ret (wv_mk (wa_cons (w_var rfl (wa_nil ⟨[d1], rfl, rfl, by simp, fun a => ⟨rfl, fin _ ⟨a, rfl⟩⟩⟩))))
  · refine wsv_if (wt_test (w_op ao_eqW (w_var rfl (w_int (feqW rfl rfl (by simp [PyData.depth]) (exb ⟨rfl, iteN rfl ?_⟩))))))
    refine wsv_if (wt_test (w_op ao_eqW (w_var rfl (w_int (feqW rfl rfl (by simp [PyData.depth]) (exb ⟨rfl, iteN rfl ?_⟩))))))
    refine wsv_if (wt_test (w_op ao_eqW (w_var rfl (w_int (feqW rfl rfl (by simp [PyData.depth]) (exb ⟨rfl, iteN rfl ?_⟩))))))
    refine wsv_if (wt_test (w_op ao_eqW (w_var rfl (w_int (feqW rfl rfl (by simp [PyData.depth]) (exb ⟨rfl, iteN rfl ?_⟩))))))
    refine wsv_if (wt_test (w_op ao_eqW (w_var rfl (w_int (feqW rfl rfl (by simp [PyData.depth]) (exb ⟨rfl, iteN rfl ?_⟩))))))
    refine wsv_if (wt_test (w_op ao_eqW (w_var rfl (w_int (feqW rfl rfl (by simp [PyData.depth]) (exb ⟨rfl, iteN rfl ?_⟩))))))
    refine wsv_if (wt_test (w_op ao_eqW (w_var rfl (w_int (feqW rfl rfl (by simp [PyData.depth]) (exb ⟨rfl, iteN rfl ?_⟩))))))
    refine wsv_if (wt_test (w_op ao_eqW (w_var rfl (w_int (feqW rfl rfl (by simp [PyData.depth]) (exb ⟨rfl, iteN rfl ?_⟩))))))
    refine wsv_if (wt_test (w_op ao_eqW (w_var rfl (w_int (feqW rfl rfl (by simp [PyData.depth]) (exb ⟨rfl, iteN rfl ?_⟩))))))
    refine wsv_if (wt_test (w_op ao_eqW (w_var rfl (w_int (feqW rfl rfl (by simp [PyData.depth]) (exb ⟨rfl, iteN rfl ?_⟩))))))
    refine wsv_if (wt_test (w_op ao_eqW (w_var rfl (w_int (feqW rfl rfl (by simp [PyData.depth]) (exb ⟨rfl, iteN rfl ?_⟩))))))
    refine wsv_if (wt_test (w_op ao_eqW (w_var rfl (w_int (feqW rfl rfl (by simp [PyData.depth]) (exb ⟨rfl, iteN rfl ?_⟩))))))
    refine wsv_if (wt_test (w_op ao_eqW (w_var rfl (w_int (feqW rfl rfl (by simp [PyData.depth]) (exb ⟨rfl, iteK rfl ?_⟩))))))
    exact wsv_ret (wv_mk (wa_cons (w_var rfl (wa_nil ⟨[d1], rfl, rfl, by simp, fun a => ⟨rfl, fin _ ⟨a, rfl⟩⟩⟩))))
  · refine wsv_if (wt_test (w_op ao_eqW (w_var rfl (w_int (feqW rfl rfl (by simp [PyData.depth]) (exb ⟨rfl, iteN rfl ?_⟩))))))
    refine wsv_if (wt_test (w_op ao_eqW (w_var rfl (w_int (feqW rfl rfl (by simp [PyData.depth]) (exb ⟨rfl, iteN rfl ?_⟩))))))
    refine wsv_if (wt_test (w_op ao_eqW (w_var rfl (w_int (feqW rfl rfl (by simp [PyData.depth]) (exb ⟨rfl, iteN rfl ?_⟩))))))
    refine wsv_if (wt_test (w_op ao_eqW (w_var rfl (w_int (feqW rfl rfl (by simp [PyData.depth]) (exb ⟨rfl, iteN rfl ?_⟩))))))
    refine wsv_if (wt_test (w_op ao_eqW (w_var rfl (w_int (feqW rfl rfl (by simp [PyData.depth]) (exb ⟨rfl, iteN rfl ?_⟩))))))
    refine wsv_if (wt_test (w_op ao_eqW (w_var rfl (w_int (feqW rfl rfl (by simp [PyData.depth]) (exb ⟨rfl, iteN rfl ?_⟩))))))
    refine wsv_if (wt_test (w_op ao_eqW (w_var rfl (w_int (feqW rfl rfl (by simp [PyData.depth]) (exb ⟨rfl, iteN rfl ?_⟩))))))
    refine wsv_if (wt_test (w_op ao_eqW (w_var rfl (w_int (feqW rfl rfl (by simp [PyData.depth]) (exb ⟨rfl, iteN rfl ?_⟩))))))
    refine wsv_if (wt_test (w_op ao_eqW (w_var rfl (w_int (feqW rfl rfl (by simp [PyData.depth]) (exb ⟨rfl, iteN rfl ?_⟩))))))
    refine wsv_if (wt_test (w_op ao_eqW (w_var rfl (w_int (feqW rfl rfl (by simp [PyData.depth]) (exb ⟨rfl, iteN rfl ?_⟩))))))
    refine wsv_if (wt_test (w_op ao_eqW (w_var rfl (w_int (feqW rfl rfl (by simp [PyData.depth]) (exb ⟨rfl, iteN rfl ?_⟩))))))
    refine wsv_if (wt_test (w_op ao_eqW (w_var rfl (w_int (feqW rfl rfl (by simp [PyData.depth]) (exb ⟨rfl, iteN rfl ?_⟩))))))
    refine wsv_if (wt_test (w_op ao_eqW (w_var rfl (w_int (feqW rfl rfl (by simp [PyData.depth]) (exb ⟨rfl, iteN rfl ?_⟩))))))
    refine wsv_if (wt_test (w_op ao_eqW (w_var rfl (w_int (feqW rfl rfl (by simp [PyData.depth]) (exb ⟨rfl, iteK rfl ?_⟩))))))
    exact wsv_ret (wv_mk (wa_cons (w_var rfl (wa_nil ⟨[d1], rfl, rfl, by simp, fun a => ⟨rfl, fin _ ⟨a, rfl⟩⟩⟩))))
  · refine wsv_if (wt_test (w_op ao_eqW (w_var rfl (w_int (feqW rfl rfl (by simp [PyData.depth]) (exb ⟨rfl, iteN rfl ?_⟩))))))
    refine wsv_if (wt_test (w_op ao_eqW (w_var rfl (w_int (feqW rfl rfl (by simp [PyData.depth]) (exb ⟨rfl, iteN rfl ?_⟩))))))
    refine wsv_if (wt_test (w_op ao_eqW (w_var rfl (w_int (feqW rfl rfl (by simp [PyData.depth]) (exb ⟨rfl, iteN rfl ?_⟩))))))
    refine wsv_if (wt_test (w_op ao_eqW (w_var rfl (w_int (feqW rfl rfl (by simp [PyData.depth]) (exb ⟨rfl, iteN rfl ?_⟩))))))
    refine wsv_if (wt_test (w_op ao_eqW (w_var rfl (w_int (feqW rfl rfl (by simp [PyData.depth]) (exb ⟨rfl, iteN rfl ?_⟩))))))
    refine wsv_if (wt_test (w_op ao_eqW (w_var rfl (w_int (feqW rfl rfl (by simp [PyData.depth]) (exb ⟨rfl, iteN rfl ?_⟩))))))
    refine wsv_if (wt_test (w_op ao_eqW (w_var rfl (w_int (feqW rfl rfl (by simp [PyData.depth]) (exb ⟨rfl, iteN rfl ?_⟩))))))
    refine wsv_if (wt_test (w_op ao_eqW (w_var rfl (w_int (feqW rfl rfl (by simp [PyData.depth]) (exb ⟨rfl, iteN rfl ?_⟩))))))
    refine wsv_if (wt_test (w_op ao_eqW (w_var rfl (w_int (feqW rfl rfl (by simp [PyData.depth]) (exb ⟨rfl, iteN rfl ?_⟩))))))
    refine wsv_if (wt_test (w_op ao_eqW (w_var rfl (w_int (feqW rfl rfl (by simp [PyData.depth]) (exb ⟨rfl, iteN rfl ?_⟩))))))
    refine wsv_if (wt_test (w_op ao_eqW (w_var rfl (w_int (feqW rfl rfl (by simp [PyData.depth]) (exb ⟨rfl, iteN rfl ?_⟩))))))
    refine wsv_if (wt_test (w_op ao_eqW (w_var rfl (w_int (feqW rfl rfl (by simp [PyData.depth]) (exb ⟨rfl, iteN rfl ?_⟩))))))
    refine wsv_if (wt_test (w_op ao_eqW (w_var rfl (w_int (feqW rfl rfl (by simp [PyData.depth]) (exb ⟨rfl, iteN rfl ?_⟩))))))
    refine wsv_if (wt_test (w_op ao_eqW (w_var rfl (w_int (feqW rfl rfl (by simp [PyData.depth]) (exb ⟨rfl, iteN rfl ?_⟩))))))
    refine wsv_if (wt_test (w_op ao_eqW (w_var rfl (w_int (feqW rfl rfl (by simp [PyData.depth]) (exb ⟨rfl, iteK rfl ?_⟩))))))
    exact wsv_ret (wv_mk (wa_cons (w_var rfl (wa_cons (w_var rfl (wa_cons (w_var rfl (wa_nil ⟨[d1, d2, d3], rfl, rfl, by simp, fun a => ⟨rfl, fin _ ⟨a, rfl⟩⟩⟩))))))))
  · refine wsv_if (wt_test (w_op ao_eqW (w_var rfl (w_int (feqW rfl rfl (by simp [PyData.depth]) (exb ⟨rfl, iteN rfl ?_⟩))))))
    refine wsv_if (wt_test (w_op ao_eqW (w_var rfl (w_int (feqW rfl rfl (by simp [PyData.depth]) (exb ⟨rfl, iteN rfl ?_⟩))))))
    refine wsv_if (wt_test (w_op ao_eqW (w_var rfl (w_int (feqW rfl rfl (by simp [PyData.depth]) (exb ⟨rfl, iteN rfl ?_⟩))))))
    refine wsv_if (wt_test (w_op ao_eqW (w_var rfl (w_int (feqW rfl rfl (by simp [PyData.depth]) (exb ⟨rfl, iteN rfl ?_⟩))))))
    refine wsv_if (wt_test (w_op ao_eqW (w_var rfl (w_int (feqW rfl rfl (by simp [PyData.depth]) (exb ⟨rfl, iteN rfl ?_⟩))))))
    refine wsv_if (wt_test (w_op ao_eqW (w_var rfl (w_int (feqW rfl rfl (by simp [PyData.depth]) (exb ⟨rfl, iteN rfl ?_⟩))))))
    refine wsv_if (wt_test (w_op ao_eqW (w_var rfl (w_int (feqW rfl rfl (by simp [PyData.depth]) (exb ⟨rfl, iteN rfl ?_⟩))))))
    refine wsv_if (wt_test (w_op ao_eqW (w_var rfl (w_int (feqW rfl rfl (by simp [PyData.depth]) (exb ⟨rfl, iteN rfl ?_⟩))))))
    refine wsv_if (wt_test (w_op ao_eqW (w_var rfl (w_int (feqW rfl rfl (by simp [PyData.depth]) (exb ⟨rfl, iteN rfl ?_⟩))))))
    refine wsv_if (wt_test (w_op ao_eqW (w_var rfl (w_int (feqW rfl rfl (by simp [PyData.depth]) (exb ⟨rfl, iteN rfl ?_⟩))))))
    refine wsv_if (wt_test (w_op ao_eqW (w_var rfl (w_int (feqW rfl rfl (by simp [PyData.depth]) (exb ⟨rfl, iteN rfl ?_⟩))))))
    refine wsv_if (wt_test (w_op ao_eqW (w_var rfl (w_int (feqW rfl rfl (by simp [PyData.depth]) (exb ⟨rfl, iteN rfl ?_⟩))))))
    refine wsv_if (wt_test (w_op ao_eqW (w_var rfl (w_int (feqW rfl rfl (by simp [PyData.depth]) (exb ⟨rfl, iteN rfl ?_⟩))))))
    refine wsv_if (wt_test (w_op ao_eqW (w_var rfl (w_int (feqW rfl rfl (by simp [PyData.depth]) (exb ⟨rfl, iteN rfl ?_⟩))))))
    refine wsv_if (wt_test (w_op ao_eqW (w_var rfl (w_int (feqW rfl rfl (by simp [PyData.depth]) (exb ⟨rfl, iteN rfl ?_⟩))))))
    refine wsv_if (wt_test (w_op ao_eqW (w_var rfl (w_int (feqW rfl rfl (by simp [PyData.depth]) (exb ⟨rfl, iteK rfl ?_⟩))))))
    exact wsv_ret (wv_mk (wa_cons (w_var rfl (wa_cons (w_var rfl (wa_nil ⟨[d1, d2], rfl, rfl, by simp, fun a => ⟨rfl, fin _ ⟨a, rfl⟩⟩⟩))))))
  · refine wsv_if (wt_test (w_op ao_eqW (w_var rfl (w_int (feqW rfl rfl (by simp [PyData.depth]) (exb ⟨rfl, iteN rfl ?_⟩))))))
    refine wsv_if (wt_test (w_op ao_eqW (w_var rfl (w_int (feqW rfl rfl (by simp [PyData.depth]) (exb ⟨rfl, iteN rfl ?_⟩))))))
    refine wsv_if (wt_test (w_op ao_eqW (w_var rfl (w_int (feqW rfl rfl (by simp [PyData.depth]) (exb ⟨rfl, iteN rfl ?_⟩))))))
    refine wsv_if (wt_test (w_op ao_eqW (w_var rfl (w_int (feqW rfl rfl (by simp [PyData.depth]) (exb ⟨rfl, iteN rfl ?_⟩))))))
    refine wsv_if (wt_test (w_op ao_eqW (w_var rfl (w_int (feqW rfl rfl (by simp [PyData.depth]) (exb ⟨rfl, iteN rfl ?_⟩))))))
    refine wsv_if (wt_test (w_op ao_eqW (w_var rfl (w_int (feqW rfl rfl (by simp [PyData.depth]) (exb ⟨rfl, iteN rfl ?_⟩))))))
    refine wsv_if (wt_test (w_op ao_eqW (w_var rfl (w_int (feqW rfl rfl (by simp [PyData.depth]) (exb ⟨rfl, iteN rfl ?_⟩))))))
    refine wsv_if (wt_test (w_op ao_eqW (w_var rfl (w_int (feqW rfl rfl (by simp [PyData.depth]) (exb ⟨rfl, iteN rfl ?_⟩))))))
    refine wsv_if (wt_test (w_op ao_eqW (w_var rfl (w_int (feqW rfl rfl (by simp [PyData.depth]) (exb ⟨rfl, iteN rfl ?_⟩))))))
    refine wsv_if (wt_test (w_op ao_eqW (w_var rfl (w_int (feqW rfl rfl (by simp [PyData.depth]) (exb ⟨rfl, iteN rfl ?_⟩))))))
    refine wsv_if (wt_test (w_op ao_eqW (w_var rfl (w_int (feqW rfl rfl (by simp [PyData.depth]) (exb ⟨rfl, iteN rfl ?_⟩))))))
    refine wsv_if (wt_test (w_op ao_eqW (w_var rfl (w_int (feqW rfl rfl (by simp [PyData.depth]) (exb ⟨rfl, iteN rfl ?_⟩))))))
    refine wsv_if (wt_test (w_op ao_eqW (w_var rfl (w_int (feqW rfl rfl (by simp [PyData.depth]) (exb ⟨rfl, iteN rfl ?_⟩))))))
    refine wsv_if (wt_test (w_op ao_eqW (w_var rfl (w_int (feqW rfl rfl (by simp [PyData.depth]) (exb ⟨rfl, iteN rfl ?_⟩))))))
    refine wsv_if (wt_test (w_op ao_eqW (w_var rfl (w_int (feqW rfl rfl (by simp [PyData.depth]) (exb ⟨rfl, iteN rfl ?_⟩))))))
    refine wsv_if (wt_test (w_op ao_eqW (w_var rfl (w_int (feqW rfl rfl (by simp [PyData.depth]) (exb ⟨rfl, iteN rfl ?_⟩))))))
    refine wsv_if (wt_test (w_op ao_eqW (w_var rfl (w_int (feqW rfl rfl (by simp [PyData.depth]) (exb ⟨rfl, iteK rfl ?_⟩))))))
    exact wsv_ret (wv_mk (wa_cons (w_var rfl (wa_cons (w_var rfl (wa_nil ⟨[d1, d2], rfl, rfl, by simp, fun a => ⟨rfl, fin _ ⟨a, rfl⟩⟩⟩))))))
  · refine wsv_if (wt_test (w_op ao_eqW (w_var rfl (w_int (feqW rfl rfl (by simp [PyData.depth]) (exb ⟨rfl, iteN rfl ?_⟩))))))
    refine wsv_if (wt_test (w_op ao_eqW (w_var rfl (w_int (feqW rfl rfl (by simp [PyData.depth]) (exb ⟨rfl, iteN rfl ?_⟩))))))
    refine wsv_if (wt_test (w_op ao_eqW (w_var rfl (w_int (feqW rfl rfl (by simp [PyData.depth]) (exb ⟨rfl, iteN rfl ?_⟩))))))
    refine wsv_if (wt_test (w_op ao_eqW (w_var rfl (w_int (feqW rfl rfl (by simp [PyData.depth]) (exb ⟨rfl, iteN rfl ?_⟩))))))
    refine wsv_if (wt_test (w_op ao_eqW (w_var rfl (w_int (feqW rfl rfl (by simp [PyData.depth]) (exb ⟨rfl, iteN rfl ?_⟩))))))
    refine wsv_if (wt_test (w_op ao_eqW (w_var rfl (w_int (feqW rfl rfl (by simp [PyData.depth]) (exb ⟨rfl, iteN rfl ?_⟩))))))
    refine wsv_if (wt_test (w_op ao_eqW (w_var rfl (w_int (feqW rfl rfl (by simp [PyData.depth]) (exb ⟨rfl, iteN rfl ?_⟩))))))
    refine wsv_if (wt_test (w_op ao_eqW (w_var rfl (w_int (feqW rfl rfl (by simp [PyData.depth]) (exb ⟨rfl, iteN rfl ?_⟩))))))
    refine wsv_if (wt_test (w_op ao_eqW (w_var rfl (w_int (feqW rfl rfl (by simp [PyData.depth]) (exb ⟨rfl, iteN rfl ?_⟩))))))
    refine wsv_if (wt_test (w_op ao_eqW (w_var rfl (w_int (feqW rfl rfl (by simp [PyData.depth]) (exb ⟨rfl, iteN rfl ?_⟩))))))
    refine wsv_if (wt_test (w_op ao_eqW (w_var rfl (w_int (feqW rfl rfl (by simp [PyData.depth]) (exb ⟨rfl, iteN rfl ?_⟩))))))
    refine wsv_if (wt_test (w_op ao_eqW (w_var rfl (w_int (feqW rfl rfl (by simp [PyData.depth]) (exb ⟨rfl, iteN rfl ?_⟩))))))
    refine wsv_if (wt_test (w_op ao_eqW (w_var rfl (w_int (feqW rfl rfl (by simp [PyData.depth]) (exb ⟨rfl, iteN rfl ?_⟩))))))
    refine wsv_if (wt_test (w_op ao_eqW (w_var rfl (w_int (feqW rfl rfl (by simp [PyData.depth]) (exb ⟨rfl, iteN rfl ?_⟩))))))
    refine wsv_if (wt_test (w_op ao_eqW (w_var rfl (w_int (feqW rfl rfl (by simp [PyData.depth]) (exb ⟨rfl, iteN rfl ?_⟩))))))
    refine wsv_if (wt_test (w_op ao_eqW (w_var rfl (w_int (feqW rfl rfl (by simp [PyData.depth]) (exb ⟨rfl, iteN rfl ?_⟩))))))
    refine wsv_if (wt_test (w_op ao_eqW (w_var rfl (w_int (feqW rfl rfl (by simp [PyData.depth]) (exb ⟨rfl, iteN rfl ?_⟩))))))
    refine wsv_if (wt_test (w_op ao_eqW (w_var rfl (w_int (feqW rfl rfl (by simp [PyData.depth]) (exb ⟨rfl, iteK rfl ?_⟩))))))
    exact wsv_ret (wv_mk0 fun a => ⟨rfl, fin _ ⟨a, rfl⟩⟩)
  · refine wsv_if (wt_test (w_op ao_eqW (w_var rfl (w_int (feqW rfl rfl (by simp [PyData.depth]) (exb ⟨rfl, iteN rfl ?_⟩))))))
    refine wsv_if (wt_test (w_op ao_eqW (w_var rfl (w_int (feqW rfl rfl (by simp [PyData.depth]) (exb ⟨rfl, iteN rfl ?_⟩))))))
    refine wsv_if (wt_test (w_op ao_eqW (w_var rfl (w_int (feqW rfl rfl (by simp [PyData.depth]) (exb ⟨rfl, iteN rfl ?_⟩))))))
    refine wsv_if (wt_test (w_op ao_eqW (w_var rfl (w_int (feqW rfl rfl (by simp [PyData.depth]) (exb ⟨rfl, iteN rfl ?_⟩))))))
    refine wsv_if (wt_test (w_op ao_eqW (w_var rfl (w_int (feqW rfl rfl (by simp [PyData.depth]) (exb ⟨rfl, iteN rfl ?_⟩))))))
    refine wsv_if (wt_test (w_op ao_eqW (w_var rfl (w_int (feqW rfl rfl (by simp [PyData.depth]) (exb ⟨rfl, iteN rfl ?_⟩))))))
    refine wsv_if (wt_test (w_op ao_eqW (w_var rfl (w_int (feqW rfl rfl (by simp [PyData.depth]) (exb ⟨rfl, iteN rfl ?_⟩))))))
    refine wsv_if (wt_test (w_op ao_eqW (w_var rfl (w_int (feqW rfl rfl (by simp [PyData.depth]) (exb ⟨rfl, iteN rfl ?_⟩))))))
    refine wsv_if (wt_test (w_op ao_eqW (w_var rfl (w_int (feqW rfl rfl (by simp [PyData.depth]) (exb ⟨rfl, iteN rfl ?_⟩))))))
    refine wsv_if (wt_test (w_op ao_eqW (w_var rfl (w_int (feqW rfl rfl (by simp [PyData.depth]) (exb ⟨rfl, iteN rfl ?_⟩))))))
    refine wsv_if (wt_test (w_op ao_eqW (w_var rfl (w_int (feqW rfl rfl (by simp [PyData.depth]) (exb ⟨rfl, iteN rfl ?_⟩))))))
    refine wsv_if (wt_test (w_op ao_eqW (w_var rfl (w_int (feqW rfl rfl (by simp [PyData.depth]) (exb ⟨rfl, iteN rfl ?_⟩))))))
    refine wsv_if (wt_test (w_op ao_eqW (w_var rfl (w_int (feqW rfl rfl (by simp [PyData.depth]) (exb ⟨rfl, iteN rfl ?_⟩))))))
    refine wsv_if (wt_test (w_op ao_eqW (w_var rfl (w_int (feqW rfl rfl (by simp [PyData.depth]) (exb ⟨rfl, iteN rfl ?_⟩))))))
    refine wsv_if (wt_test (w_op ao_eqW (w_var rfl (w_int (feqW rfl rfl (by simp [PyData.depth]) (exb ⟨rfl, iteN rfl ?_⟩))))))
    refine wsv_if (wt_test (w_op ao_eqW (w_var rfl (w_int (feqW rfl rfl (by simp [PyData.depth]) (exb ⟨rfl, iteN rfl ?_⟩))))))
    refine wsv_if (wt_test (w_op ao_eqW (w_var rfl (w_int (feqW rfl rfl (by simp [PyData.depth]) (exb ⟨rfl, iteN rfl ?_⟩))))))
    refine wsv_if (wt_test (w_op ao_eqW (w_var rfl (w_int (feqW rfl rfl (by simp [PyData.depth]) (exb ⟨rfl, iteN rfl ?_⟩))))))
    refine wsv_if (wt_test (w_op ao_eqW (w_var rfl (w_int (feqW rfl rfl (by simp [PyData.depth]) (exb ⟨rfl, iteK rfl ?_⟩))))))
    exact wsv_ret (wv_mk (wa_cons (w_var rfl (wa_cons (w_var rfl (wa_nil ⟨[d1, d2], rfl, rfl, by simp, fun a => ⟨rfl, fin _ ⟨a, rfl⟩⟩⟩))))))
  · refine wsv_if (wt_test (w_op ao_eqW (w_var rfl (w_int (feqW rfl rfl (by simp [PyData.depth]) (exb ⟨rfl, iteN rfl ?_⟩))))))
    refine wsv_if (wt_test (w_op ao_eqW (w_var rfl (w_int (feqW rfl rfl (by simp [PyData.depth]) (exb ⟨rfl, iteN rfl ?_⟩))))))
    refine wsv_if (wt_test (w_op ao_eqW (w_var rfl (w_int (feqW rfl rfl (by simp [PyData.depth]) (exb ⟨rfl, iteN rfl ?_⟩))))))
    refine wsv_if (wt_test (w_op ao_eqW (w_var rfl (w_int (feqW rfl rfl (by simp [PyData.depth]) (exb ⟨rfl, iteN rfl ?_⟩))))))
    refine wsv_if (wt_test (w_op ao_eqW (w_var rfl (w_int (feqW rfl rfl (by simp [PyData.depth]) (exb ⟨rfl, iteN rfl ?_⟩))))))
    refine wsv_if (wt_test (w_op ao_eqW (w_var rfl (w_int (feqW rfl rfl (by simp [PyData.depth]) (exb ⟨rfl, iteN rfl ?_⟩))))))
    refine wsv_if (wt_test (w_op ao_eqW (w_var rfl (w_int (feqW rfl rfl (by simp [PyData.depth]) (exb ⟨rfl, iteN rfl ?_⟩))))))
    refine wsv_if (wt_test (w_op ao_eqW (w_var rfl (w_int (feqW rfl rfl (by simp [PyData.depth]) (exb ⟨rfl, iteN rfl ?_⟩))))))
    refine wsv_if (wt_test (w_op ao_eqW (w_var rfl (w_int (feqW rfl rfl (by simp [PyData.depth]) (exb ⟨rfl, iteN rfl ?_⟩))))))
    refine wsv_if (wt_test (w_op ao_eqW (w_var rfl (w_int (feqW rfl rfl (by simp [PyData.depth]) (exb ⟨rfl, iteN rfl ?_⟩))))))
    refine wsv_if (wt_test (w_op ao_eqW (w_var rfl (w_int (feqW rfl rfl (by simp [PyData.depth]) (exb ⟨rfl, iteN rfl ?_⟩))))))
    refine wsv_if (wt_test (w_op ao_eqW (w_var rfl (w_int (feqW rfl rfl (by simp [PyData.depth]) (exb ⟨rfl, iteN rfl ?_⟩))))))
    refine wsv_if (wt_test (w_op ao_eqW (w_var rfl (w_int (feqW rfl rfl (by simp [PyData.depth]) (exb ⟨rfl, iteN rfl ?_⟩))))))
    refine wsv_if (wt_test (w_op ao_eqW (w_var rfl (w_int (feqW rfl rfl (by simp [PyData.depth]) (exb ⟨rfl, iteN rfl ?_⟩))))))
    refine wsv_if (wt_test (w_op ao_eqW (w_var rfl (w_int (feqW rfl rfl (by simp [PyData.depth]) (exb ⟨rfl, iteN rfl ?_⟩))))))
    refine wsv_if (wt_test (w_op ao_eqW (w_var rfl (w_int (feqW rfl rfl (by simp [PyData.depth]) (exb ⟨rfl, iteN rfl ?_⟩))))))
    refine wsv_if (wt_test (w_op ao_eqW (w_var rfl (w_int (feqW rfl rfl (by simp [PyData.depth]) (exb ⟨rfl, iteN rfl ?_⟩))))))
    refine wsv_if (wt_test (w_op ao_eqW (w_var rfl (w_int (feqW rfl rfl (by simp [PyData.depth]) (exb ⟨rfl, iteN rfl ?_⟩))))))
    refine wsv_if (wt_test (w_op ao_eqW (w_var rfl (w_int (feqW rfl rfl (by simp [PyData.depth]) (exb ⟨rfl, iteN rfl ?_⟩))))))
    exact wsv_ret (wv_mk (wa_cons (w_var rfl (wa_nil ⟨[d1], rfl, rfl, by simp, fun a => ⟨rfl, fin _ ⟨a, rfl⟩⟩⟩))))
end
section
variable {P : Program} {w : World} {K : PySem.W.Frag} {mg : Str → Option Value} {base : Heap} {cs : Nat → Addr} {A : Addr} (T : Txt K mg) (X : XS K mg cs A) (Y : MS P w K mg base cs)
include T X Y in
theorem ok_law_later_errors (F : Dfn K mg "_law_later_errors" s_law_later_errors ["_law_turn", "_law_one", "_law_other", "_law_third"]) : Cal P w K mg base 3 "_law_later_errors" ["_law_turn", "_law_one", "_law_other", "_law_third"] (spErr 20 cs K) := by
  have hn : ∀ ss, preErr 20 ss → ss.length = 4 := by rintro ss ⟨t, d1, d2, d3, rfl, _⟩; rfl
  refine F.ok sc_law_later_errors (fun vs H Q E h => spSV_len hn h) (fun f cdv A outer s H vs Q E hr h => ⟨_, (pss_cons (ps_if (pt_cmpR (k_eqW (K := K) rfl hr) (pv 0) pe_int (nomark _)) (pss_one (ps_ret (pe_oex0 PySem.F.excBase_ValueError X.p_NoFit X.x_NoFit.gC X.x_NoFit.kC (by rfl)))) pss_nil)
      (pss_cons (ps_if (pt_cmpR (k_eqW (K := K) rfl hr) (pv 0) pe_int (nomark _)) (pss_one (ps_ret (pe_mk Y.m_BadFamily hr (by decide) (pa_cons (pv 1) (pa_cons (pv 2) (pa_cons (pv 3) pa_nil)))))) pss_nil)
      (pss_cons (ps_if (pt_cmpR (k_eqW (K := K) rfl hr) (pv 0) pe_int (nomark _)) (pss_one (ps_ret (pe_mk Y.m_TooWide hr (by decide) (pa_cons (pv 1) pa_nil)))) pss_nil)
      (pss_cons (ps_if (pt_cmpR (k_eqW (K := K) rfl hr) (pv 0) pe_int (nomark _)) (pss_one (ps_ret (pe_mk Y.m_BadChange hr (by decide) (pa_cons (pv 1) pa_nil)))) pss_nil)
      (pss_cons (ps_if (pt_cmpR (k_eqW (K := K) rfl hr) (pv 0) pe_int (nomark _)) (pss_one (ps_ret (pe_mk Y.m_BadPlan hr (by decide) (pa_cons (pv 1) (pa_cons (pv 2) pa_nil))))) pss_nil)
      (pss_cons (ps_if (pt_cmpR (k_eqW (K := K) rfl hr) (pv 0) pe_int (nomark _)) (pss_one (ps_ret (pe_mk Y.m_BadPlans hr (by decide) (pa_cons (pv 1) (pa_cons (pv 2) (pa_cons (pv 3) pa_nil)))))) pss_nil)
      (pss_cons (ps_if (pt_cmpR (k_eqW (K := K) rfl hr) (pv 0) pe_int (nomark _)) (pss_one (ps_ret (pe_mk Y.m_BadAnswers hr (by decide) (pa_cons (pv 1) (pa_cons (pv 2) (pa_cons (pv 3) pa_nil)))))) pss_nil)
      (pss_cons (ps_if (pt_cmpR (k_eqW (K := K) rfl hr) (pv 0) pe_int (nomark _)) (pss_one (ps_ret (pe_mk Y.m_NoSuchPlace hr (by decide) (pa_cons (pv 1) pa_nil)))) pss_nil)
      (pss_cons (ps_if (pt_cmpR (k_eqW (K := K) rfl hr) (pv 0) pe_int (nomark _)) (pss_one (ps_ret (pe_mk Y.m_NoId hr (by decide) (pa_cons (pv 1) (pa_cons (pv 2) pa_nil))))) pss_nil)
      (pss_cons (ps_if (pt_cmpR (k_eqW (K := K) rfl hr) (pv 0) pe_int (nomark _)) (pss_one (ps_ret (pe_mk Y.m_BadPush hr (by decide) (pa_cons (pv 1) (pa_cons (pv 2) pa_nil))))) pss_nil)
      (pss_cons (ps_if (pt_cmpR (k_eqW (K := K) rfl hr) (pv 0) pe_int (nomark _)) (pss_one (ps_ret (pe_mk Y.m_BadNumbers hr (by decide) (pa_cons (pv 1) (pa_cons (pv 2) (pa_cons (pv 3) pa_nil)))))) pss_nil)
      (pss_cons (ps_if (pt_cmpR (k_eqW (K := K) rfl hr) (pv 0) pe_int (nomark _)) (pss_one (ps_ret (pe_oex0 PySem.F.excBase_ValueError X.p_BadKey X.x_BadKey.gC X.x_BadKey.kC (by rfl)))) pss_nil)
      (pss_cons (ps_if (pt_cmpR (k_eqW (K := K) rfl hr) (pv 0) pe_int (nomark _)) (pss_one (ps_ret (pe_mk Y.m_NoKey hr (by decide) (pa_cons (pv 1) (pa_cons (pv 2) pa_nil))))) pss_nil)
      (pss_cons (ps_if (pt_cmpR (k_eqW (K := K) rfl hr) (pv 0) pe_int (nomark _)) (pss_one (ps_ret (pe_mk Y.m_NotPlain hr (by decide) (pa_cons (pv 1) (pa_cons (pv 2) pa_nil))))) pss_nil)
      (pss_cons (ps_if (pt_cmpR (k_eqW (K := K) rfl hr) (pv 0) pe_int (nomark _)) (pss_one (ps_ret (pe_oex0 PySem.F.excBase_ValueError X.p_NotAlike X.x_NotAlike.gC X.x_NotAlike.kC (by rfl)))) pss_nil)
      (pss_cons (ps_if (pt_cmpR (k_eqW (K := K) rfl hr) (pv 0) pe_int (nomark _)) (pss_one (ps_ret (pe_mk Y.m_BadFolding hr (by decide) (pa_cons (pv 1) pa_nil)))) pss_nil)
      (pss_cons (ps_if (pt_cmpR (k_eqW (K := K) rfl hr) (pv 0) pe_int (nomark _)) (pss_one (ps_ret (pe_mk Y.m_BadDeed hr (by decide) (pa_cons (pv 1) pa_nil)))) pss_nil)
      (pss_cons (ps_if (pt_cmpR (k_eqW (K := K) rfl hr) (pv 0) pe_int (nomark _)) (pss_one (ps_ret (pe_mk Y.m_Known hr (by decide) (pa_cons (pv 1) pa_nil)))) pss_nil)
      (pss_cons (ps_if (pt_cmpR (k_eqW (K := K) rfl hr) (pv 0) pe_int (nomark _)) (pss_one (ps_ret (pe_mk Y.m_NoKept hr (by decide) (pa_cons (pv 1) pa_nil)))) pss_nil)
      (pss_one (ps_ret (pe_mk Y.m_Refused hr (by decide) (pa_cons (pv 1) pa_nil))))))))))))))))))))))), to_spSV hn (fun ss hp => ?_) h⟩)
  obtain ⟨t, d1, d2, d3, rfl, h1, h2⟩ := hp
  change WSV K _ [.dat (.int (t : Int)), .dat d1, .dat d2, .dat d3] _
  have fin : ∀ s, (∃ a, s = Sv.obj a (cs t) ((fldT.getD t []).zip [d1, d2, d3]).reverse) → postErr cs [.dat (.int (t : Int)), .dat d1, .dat d2, .dat d3] s := fun s e t' e1 e2 e3 h => by
    obtain ⟨rfl, rfl, rfl, rfl⟩ := sv4 h
    exact e
  rcases (show t = 20 ∨ t = 21 ∨ t = 22 ∨ t = 23 ∨ t = 24 ∨ t = 25 ∨ t = 26 ∨ t = 27 ∨ t = 28 ∨ t = 29 ∨ t = 30 ∨ t = 31 ∨ t = 32 ∨ t = 33 ∨ t = 34 ∨ t = 35 ∨ t = 36 ∨ t = 37 ∨ t = 38 ∨ t = 39 by omega) with rfl | rfl | rfl | rfl | rfl | rfl | rfl | rfl | rfl | rfl | rfl | rfl | rfl | rfl | rfl | rfl | rfl | rfl | rfl | rfl
  · refine wsv_if (wt_test (w_op ao_eqW (w_var rfl (w_int (feqW rfl rfl (by simp [PyData.depth]) (exb ⟨rfl, iteK rfl ?_⟩))))))
    exact wsv_ret (wv_mk0 fun a => ⟨rfl, fin _ ⟨a, rfl⟩⟩)
  · refine wsv_if (wt_test (w_op ao_eqW (w_var rfl (w_int (feqW rfl rfl (by simp [PyData.depth]) (exb ⟨rfl, iteN rfl ?_⟩))))))
    refine wsv_if (wt_test (w_op ao_eqW (w_var rfl (w_int (feqW rfl rfl (by simp [PyData.depth]) (exb ⟨rfl, iteK rfl ?_⟩))))))
    exact wsv_ret (wv_mk (wa_cons (w_var rfl (wa_cons (w_var rfl (wa_cons (w_var rfl (wa_nil ⟨[d1, d2, d3], rfl, rfl, by simp, fun a => ⟨rfl, fin _ ⟨a, rfl⟩⟩⟩))))))))
  · refine wsv_if (wt_test (w_op ao_eqW (w_var rfl (w_int (feqW rfl rfl (by simp [PyData.depth]) (exb ⟨rfl, iteN rfl ?_⟩))))))
    refine wsv_if (wt_test (w_op ao_eqW (w_var rfl (w_int (feqW rfl rfl (by simp [PyData.depth]) (exb ⟨rfl, iteN rfl ?_⟩))))))
    refine wsv_if (wt_test (w_op ao_eqW (w_var rfl (w_int (feqW rfl rfl (by simp [PyData.depth]) (exb ⟨rfl, iteK rfl ?_⟩))))))
    exact wsv_ret (wv_mk (wa_cons (w_var rfl (wa_nil ⟨[d1], rfl, rfl, by simp, fun a => ⟨rfl, fin _ ⟨a, rfl⟩⟩⟩))))
  · refine wsv_if (wt_test (w_op ao_eqW (w_var rfl (w_int (feqW rfl rfl (by simp [PyData.depth]) (exb ⟨rfl, iteN rfl ?_⟩))))))
    refine wsv_if (wt_test (w_op ao_eqW (w_var rfl (w_int (feqW rfl rfl (by simp [PyData.depth]) (exb ⟨rfl, iteN rfl ?_⟩))))))
    refine wsv_if (wt_test (w_op ao_eqW (w_var rfl (w_int (feqW rfl rfl (by simp [PyData.depth]) (exb ⟨rfl, iteN rfl ?_⟩))))))
    refine wsv_if (wt_test (w_op ao_eqW (w_var rfl (w_int (feqW rfl rfl (by simp [PyData.depth]) (exb ⟨rfl, iteK rfl ?_⟩))))))
    exact wsv_ret (wv_mk (wa_cons (w_var rfl (wa_nil ⟨[d1], rfl, rfl, by simp, fun a => ⟨rfl, fin _ ⟨a, rfl⟩⟩⟩))))
  · refine wsv_if (wt_test (w_op ao_eqW (w_var rfl (w_int (feqW rfl rfl (by simp [PyData.depth]) (exb ⟨rfl, iteN rfl ?_⟩))))))
    refine wsv_if (wt_test (w_op ao_eqW (w_var rfl (w_int (feqW rfl rfl (by simp [PyData.depth]) (exb ⟨rfl, iteN rfl ?_⟩))))))
    refine wsv_if (wt_test (w_op ao_eqW (w_var rfl (w_int (feqW rfl rfl (by simp [PyData.depth]) (exb ⟨rfl, iteN rfl ?_⟩))))))
    refine wsv_if (wt_test (w_op ao_eqW (w_var rfl (w_int (feqW rfl rfl (by simp [PyData.depth]) (exb ⟨rfl, iteN rfl ?_⟩))))))
    refine wsv_if (wt_test (w_op ao_eqW (w_var rfl (w_int (feqW rfl rfl (by simp [PyData.depth]) (exb ⟨rfl, iteK rfl ?_⟩))))))
    exact wsv_ret (wv_mk (wa_cons (w_var rfl (wa_cons (w_var rfl (wa_nil ⟨[d1, d2], rfl, rfl, by simp, fun a => ⟨rfl, fin _ ⟨a, rfl⟩⟩⟩))))))
  · refine wsv_if (wt_test (w_op ao_eqW (w_var rfl (w_int (feqW rfl rfl (by simp [PyData.depth]) (exb ⟨rfl, iteN rfl ?_⟩))))))
    refine wsv_if (wt_test (w_op ao_eqW (w_var rfl (w_int (feqW rfl rfl (by simp [PyData.depth]) (exb ⟨rfl, iteN rfl ?_⟩))))))
    refine wsv_if (wt_test (w_op ao_eqW (w_var rfl (w_int (feqW rfl rfl (by simp [PyData.depth]) (exb ⟨rfl, iteN rfl ?_⟩))))))
    refine wsv_if (wt_test (w_op ao_eqW (w_var rfl (w_int (feqW rfl rfl (by simp [PyData.depth]) (exb ⟨rfl, iteN rfl ?_⟩))))))
    refine wsv_if (wt_test (w_op ao_eqW (w_var rfl (w_int (feqW rfl rfl (by simp [PyData.depth]) (exb ⟨rfl, iteN rfl ?_⟩))))))
    refine wsv_if (wt_test (w_op ao_eqW (w_var rfl (w_int (feqW rfl rfl (by simp [PyData.depth]) (exb ⟨rfl, iteK rfl ?_⟩))))))
    exact wsv_ret (wv_mk (wa_cons (w_var rfl (wa_cons (w_var rfl (wa_cons (w_var rfl (wa_nil ⟨[d1, d2, d3], rfl, rfl, by simp, fun a => ⟨rfl, fin _ ⟨a, rfl⟩⟩⟩))))))))
  · refine wsv_if (wt_test (w_op ao_eqW (w_var rfl (w_int (feqW rfl rfl (by simp [PyData.depth]) (exb ⟨rfl, iteN rfl ?_⟩))))))
    refine wsv_if (wt_test (w_op ao_eqW (w_var rfl (w_int (feqW rfl rfl (by simp [PyData.depth]) (exb ⟨rfl, iteN rfl ?_⟩))))))
    refine wsv_if (wt_test (w_op ao_eqW (w_var rfl (w_int (feqW rfl rfl (by simp [PyData.depth]) (exb ⟨rfl, iteN rfl ?_⟩))))))
    refine wsv_if (wt_test (w_op ao_eqW (w_var rfl (w_int (feqW rfl rfl (by simp [PyData.depth]) (exb ⟨rfl, iteN rfl ?_⟩))))))
    refine wsv_if (wt_test (w_op ao_eqW (w_var rfl (w_int (feqW rfl rfl (by simp [PyData.depth]) (exb ⟨rfl, iteN rfl ?_⟩))))))
    refine wsv_if (wt_test (w_op ao_eqW (w_var rfl (w_int (feqW rfl rfl (by simp [PyData.depth]) (exb ⟨rfl, iteN rfl ?_⟩))))))
    refine wsv_if (wt_test (w_op ao_eqW (w_var rfl (w_int (feqW rfl rfl (by simp [PyData.depth]) (exb ⟨rfl, iteK rfl ?_⟩))))))
    exact wsv_ret (wv_mk (wa_cons (w_var rfl (wa_cons (w_var rfl (wa_cons (w_var rfl (wa_nil ⟨[d1, d2, d3], rfl, rfl, by simp, fun a => ⟨rfl, fin _ ⟨a, rfl⟩⟩⟩))))))))
  · refine wsv_if (wt_test (w_op ao_eqW (w_var rfl (w_int (feqW rfl rfl (by simp [PyData.depth]) (exb ⟨rfl, iteN rfl ?_⟩))))))
    refine wsv_if (wt_test (w_op ao_eqW (w_var rfl (w_int (feqW rfl rfl (by simp [PyData.depth]) (exb ⟨rfl, iteN rfl ?_⟩))))))
    refine wsv_if (wt_test (w_op ao_eqW (w_var rfl (w_int (feqW rfl rfl (by simp [PyData.depth]) (exb ⟨rfl, iteN rfl ?_⟩))))))
    refine wsv_if (wt_test (w_op ao_eqW (w_var rfl (w_int (feqW rfl rfl (by simp [PyData.depth]) (exb ⟨rfl, iteN rfl ?_⟩))))))
    refine wsv_if (wt_test (w_op ao_eqW (w_var rfl (w_int (feqW rfl rfl (by simp [PyData.depth]) (exb ⟨rfl, iteN rfl ?_⟩))))))
    refine wsv_if (wt_test (w_op ao_eqW (w_var rfl (w_int (feqW rfl rfl (by simp [PyData.depth]) (exb ⟨rfl, iteN rfl ?_⟩))))))
    refine wsv_if (wt_test (w_op ao_eqW (w_var rfl (w_int (feqW rfl rfl (by simp [PyData.depth]) (exb ⟨rfl, iteN rfl ?_⟩))))))
    refine wsv_if (wt_test (w_op ao_eqW (w_var rfl (w_int (feqW rfl rfl (by simp [PyData.depth]) (exb ⟨rfl, iteK rfl ?_⟩))))))
    exact wsv_ret (wv_mk (wa_cons (w_var rfl (wa_nil ⟨[d1], rfl, rfl, by simp, fun a => ⟨rfl, fin _ ⟨a, rfl⟩⟩⟩))))
  · refine wsv_if (wt_test (w_op ao_eqW (w_var rfl (w_int (feqW rfl rfl (by simp [PyData.depth]) (exb ⟨rfl, iteN rfl ?_⟩))))))
    refine wsv_if (wt_test (w_op ao_eqW (w_var rfl (w_int (feqW rfl rfl (by simp [PyData.depth]) (exb ⟨rfl, iteN rfl ?_⟩))))))
    refine wsv_if (wt_test (w_op ao_eqW (w_var rfl (w_int (feqW rfl rfl (by simp [PyData.depth]) (exb ⟨rfl, iteN rfl ?_⟩))))))
    refine wsv_if (wt_test (w_op ao_eqW (w_var rfl (w_int (feqW rfl rfl (by simp [PyData.depth]) (exb ⟨rfl, iteN rfl ?_⟩))))))
    refine wsv_if (wt_test (w_op ao_eqW (w_var rfl (w_int (feqW rfl rfl (by simp [PyData.depth]) (exb ⟨rfl, iteN rfl ?_⟩))))))
    refine wsv_if (wt_test (w_op ao_eqW (w_var rfl (w_int (feqW rfl rfl (by simp [PyData.depth]) (exb ⟨rfl, iteN rfl ?_⟩))))))
    refine wsv_if (wt_test (w_op ao_eqW (w_var rfl (w_int (feqW rfl rfl (by simp [PyData.depth]) (exb ⟨rfl, iteN rfl ?_⟩))))))
    refine wsv_if (wt_test (w_op ao_eqW (w_var rfl (w_int (feqW rfl rfl (by simp [PyData.depth]) (exb ⟨rfl, iteN rfl ?_⟩))))))
    refine wsv_if (wt_test (w_op ao_eqW (w_var rfl (w_int (feqW rfl rfl (by simp [PyData.depth]) (exb ⟨rfl, iteK rfl ?_⟩))))))
    exact wsv_ret (wv_mk (wa_cons (w_var rfl (wa_cons (w_var rfl (wa_nil ⟨[d1, d2], rfl, rfl, by simp, fun a => ⟨rfl, fin _ ⟨a, rfl⟩⟩⟩))))))
  · refine wsv_if (wt_test (w_op ao_eqW (w_var rfl (w_int (feqW rfl rfl (by simp [PyData.depth]) (exb ⟨rfl, iteN rfl ?_⟩))))))
    refine wsv_if (wt_test (w_op ao_eqW (w_var rfl (w_int (feqW rfl rfl (by simp [PyData.depth]) (exb ⟨rfl, iteN rfl ?_⟩))))))
    refine wsv_if (wt_test (w_op ao_eqW (w_var rfl (w_int (feqW rfl rfl (by simp [PyData.depth]) (exb ⟨rfl, iteN rfl ?_⟩))))))
    refine wsv_if (wt_test (w_op ao_eqW (w_var rfl (w_int (feqW rfl rfl (by simp [PyData.depth]) (exb ⟨rfl, iteN rfl ?_⟩))))))
    refine wsv_if (wt_test (w_op ao_eqW (w_var rfl (w_int (feqW rfl rfl (by simp [PyData.depth]) (exb ⟨rfl, iteN rfl ?_⟩))))))
    refine wsv_if (wt_test (w_op ao_eqW (w_var rfl (w_int (feqW rfl rfl (by simp [PyData.depth]) (exb ⟨rfl, iteN rfl ?_⟩))))))
    refine wsv_if (wt_test (w_op ao_eqW (w_var rfl (w_int (feqW rfl rfl (by simp [PyData.depth]) (exb ⟨rfl, iteN rfl ?_⟩))))))
    refine wsv_if (wt_test (w_op ao_eqW (w_var rfl (w_int (feqW rfl rfl (by simp [PyData.depth]) (exb ⟨rfl, iteN rfl ?_⟩))))))
    refine wsv_if (wt_test (w_op ao_eqW (w_var rfl (w_int (feqW rfl rfl (by simp [PyData.depth]) (exb ⟨rfl, iteN rfl ?_⟩))))))
    refine wsv_if (wt_test (w_op ao_eqW (w_var rfl (w_int (feqW rfl rfl (by simp [PyData.depth]) (exb ⟨rfl, iteK rfl ?_⟩))))))
    exact wsv_ret (wv_mk (wa_cons (w_var rfl (wa_cons (w_var rfl (wa_nil ⟨[d1, d2], rfl, rfl, by simp, fun a => ⟨rfl, fin _ ⟨a, rfl⟩⟩⟩))))))
  · refine wsv_if (wt_test (w_op ao_eqW (w_var rfl (w_int (feqW rfl rfl (by simp [PyData.depth]) (exb ⟨rfl, iteN rfl ?_⟩))))))
    refine wsv_if (wt_test (w_op ao_eqW (w_var rfl (w_int (feqW rfl rfl (by simp [PyData.depth]) (exb ⟨rfl, iteN rfl ?_⟩))))))
    refine wsv_if (wt_test (w_op ao_eqW (w_var rfl (w_int (feqW rfl rfl (by simp [PyData.depth]) (exb ⟨rfl, iteN rfl ?_⟩))))))
    refine wsv_if (wt_test (w_op ao_eqW (w_var rfl (w_int (feqW rfl rfl (by simp [PyData.depth]) (exb ⟨rfl, iteN rfl ?_⟩))))))
    refine wsv_if (wt_test (w_op ao_eqW (w_var rfl (w_int (feqW rfl rfl (by simp [PyData.depth]) (exb ⟨rfl, iteN rfl ?_⟩))))))
    refine wsv_if (wt_test (w_op ao_eqW (w_var rfl (w_int (feqW rfl rfl (by simp [PyData.depth]) (exb ⟨rfl, iteN rfl ?_⟩))))))
    refine wsv_if (wt_test (w_op ao_eqW (w_var rfl (w_int (feqW rfl rfl (by simp [PyData.depth]) (exb ⟨rfl, iteN rfl ?_⟩))))))
    refine wsv_if (wt_test (w_op ao_eqW (w_var rfl (w_int (feqW rfl rfl (by simp [PyData.depth]) (exb ⟨rfl, iteN rfl ?_⟩))))))
    refine wsv_if (wt_test (w_op ao_eqW (w_var rfl (w_int (feqW rfl rfl (by simp [PyData.depth]) (exb ⟨rfl, iteN rfl ?_⟩))))))
    refine wsv_if (wt_test (w_op ao_eqW (w_var rfl (w_int (feqW rfl rfl (by simp [PyData.depth]) (exb ⟨rfl, iteN rfl ?_⟩))))))
    refine wsv_if (wt_test (w_op ao_eqW (w_var rfl (w_int (feqW rfl rfl (by simp [PyData.depth]) (exb ⟨rfl, iteK rfl ?_⟩))))))
    exact wsv_ret (wv_mk (wa_cons (w_var rfl (wa_cons (w_var rfl (wa_cons (w_var rfl (wa_nil ⟨[d1, d2, d3], rfl, rfl, by simp, fun a => ⟨rfl, fin _ ⟨a, rfl⟩⟩⟩))))))))
  · refine wsv_if (wt_test (w_op ao_eqW (w_var rfl (w_int (feqW rfl rfl (by simp [PyData.depth]) (exb ⟨rfl, iteN rfl ?_⟩))))))
    refine wsv_if (wt_test (w_op ao_eqW (w_var rfl (w_int (feqW rfl rfl (by simp [PyData.depth]) (exb ⟨rfl, iteN rfl ?_⟩))))))
    refine wsv_if (wt_test (w_op ao_eqW (w_var rfl (w_int (feqW rfl rfl (by simp [PyData.depth]) (exb ⟨rfl, iteN rfl ?_⟩))))))
    refine wsv_if (wt_test (w_op ao_eqW (w_var rfl (w_int (feqW rfl rfl (by simp [PyData.depth]) (exb ⟨rfl, iteN rfl ?_⟩))))))
    refine wsv_if (wt_test (w_op ao_eqW (w_var rfl (w_int (feqW rfl rfl (by simp [PyData.depth]) (exb ⟨rfl, iteN rfl ?_⟩))))))
    refine wsv_if (wt_test (w_op ao_eqW (w_var rfl (w_int (feqW rfl rfl (by simp [PyData.depth]) (exb ⟨rfl, iteN rfl ?_⟩))))))
    refine wsv_if (wt_test (w_op ao_eqW (w_var rfl (w_int (feqW rfl rfl (by simp [PyData.depth]) (exb ⟨rfl, iteN rfl ?_⟩))))))
    refine wsv_if (wt_test (w_op ao_eqW (w_var rfl (w_int (feqW rfl rfl (by simp [PyData.depth]) (exb ⟨rfl, iteN rfl ?_⟩))))))
    refine wsv_if (wt_test (w_op ao_eqW (w_var rfl (w_int (feqW rfl rfl (by simp [PyData.depth]) (exb ⟨rfl, iteN rfl ?_⟩))))))
    refine wsv_if (wt_test (w_op ao_eqW (w_var rfl (w_int (feqW rfl rfl (by simp [PyData.depth]) (exb ⟨rfl, iteN rfl ?_⟩))))))
    refine wsv_if (wt_test (w_op ao_eqW (w_var rfl (w_int (feqW rfl rfl (by simp [PyData.depth]) (exb ⟨rfl, iteN rfl ?_⟩))))))
    refine wsv_if (wt_test (w_op ao_eqW (w_var rfl (w_int (feqW rfl rfl (by simp [PyData.depth]) (exb ⟨rfl, iteK rfl ?_⟩))))))
    exact wsv_ret (wv_mk0 fun a => ⟨rfl, fin _ ⟨a, rfl⟩⟩)
  · refine wsv_if (wt_test (w_op ao_eqW (w_var rfl (w_int (feqW rfl rfl (by simp [PyData.depth]) (exb ⟨rfl, iteN rfl ?_⟩))))))
    refine wsv_if (wt_test (w_op ao_eqW (w_var rfl (w_int (feqW rfl rfl (by simp [PyData.depth]) (exb ⟨rfl, iteN rfl ?_⟩))))))
    refine wsv_if (wt_test (w_op ao_eqW (w_var rfl (w_int (feqW rfl rfl (by simp [PyData.depth]) (exb ⟨rfl, iteN rfl ?_⟩))))))
    refine wsv_if (wt_test (w_op ao_eqW (w_var rfl (w_int (feqW rfl rfl (by simp [PyData.depth]) (exb ⟨rfl, iteN rfl ?_⟩))))))
    refine wsv_if (wt_test (w_op ao_eqW (w_var rfl (w_int (feqW rfl rfl (by simp [PyData.depth]) (exb ⟨rfl, iteN rfl ?_⟩))))))
    refine wsv_if (wt_test (w_op ao_eqW (w_var rfl (w_int (feqW rfl rfl (by simp [PyData.depth]) (exb ⟨rfl, iteN rfl ?_⟩))))))
    refine wsv_if (wt_test (w_op ao_eqW (w_var rfl (w_int (feqW rfl rfl (by simp [PyData.depth]) (exb ⟨rfl, iteN rfl ?_⟩))))))
    refine wsv_if (wt_test (w_op ao_eqW (w_var rfl (w_int (feqW rfl rfl (by simp [PyData.depth]) (exb ⟨rfl, iteN rfl ?_⟩))))))
    refine wsv_if (wt_test (w_op ao_eqW (w_var rfl (w_int (feqW rfl rfl (by simp [PyData.depth]) (exb ⟨rfl, iteN rfl ?_⟩))))))
    refine wsv_if (wt_test (w_op ao_eqW (w_var rfl (w_int (feqW rfl rfl (by simp [PyData.depth]) (exb ⟨rfl, iteN rfl ?_⟩))))))
    refine wsv_if (wt_test (w_op ao_eqW (w_var rfl (w_int (feqW rfl rfl (by simp [PyData.depth]) (exb ⟨rfl, iteN rfl ?_⟩))))))
    refine wsv_if (wt_test (w_op ao_eqW (w_var rfl (w_int (feqW rfl rfl (by simp [PyData.depth]) (exb ⟨rfl, iteN rfl ?_⟩))))))
    refine wsv_if (wt_test (w_op ao_eqW (w_var rfl (w_int (feqW rfl rfl (by simp [PyData.depth]) (exb ⟨rfl, iteK rfl ?_⟩))))))
    exact wsv_ret (wv_mk (wa_cons (w_var rfl (wa_cons (w_var rfl (wa_nil ⟨[d1, d2], rfl, rfl, by simp, fun a => ⟨rfl, fin _ ⟨a, rfl⟩⟩⟩))))))
  · refine wsv_if (wt_test (w_op ao_eqW (w_var rfl (w_int (feqW rfl rfl (by simp [PyData.depth]) (exb ⟨rfl, iteN rfl ?_⟩))))))
    refine wsv_if (wt_test (w_op ao_eqW (w_var rfl (w_int (feqW rfl rfl (by simp [PyData.depth]) (exb ⟨rfl, iteN rfl ?_⟩))))))
    refine wsv_if (wt_test (w_op ao_eqW (w_var rfl (w_int (feqW rfl rfl (by simp [PyData.depth]) (exb ⟨rfl, iteN rfl ?_⟩))))))
    refine wsv_if (wt_test (w_op ao_eqW (w_var rfl (w_int (feqW rfl rfl (by simp [PyData.depth]) (exb ⟨rfl, iteN rfl ?_⟩))))))
    refine wsv_if (wt_test (w_op ao_eqW (w_var rfl (w_int (feqW rfl rfl (by simp [PyData.depth]) (exb ⟨rfl, iteN rfl ?_⟩))))))
    refine wsv_if (wt_test (w_op ao_eqW (w_var rfl (w_int (feqW rfl rfl (by simp [PyData.depth]) (exb ⟨rfl, iteN rfl ?_⟩))))))
    refine wsv_if (wt_test (w_op ao_eqW (w_var rfl (w_int (feqW rfl rfl (by simp [PyData.depth]) (exb ⟨rfl, iteN rfl ?_⟩))))))
    refine wsv_if (wt_test (w_op ao_eqW (w_var rfl (w_int (feqW rfl rfl (by simp [PyData.depth]) (exb ⟨rfl, iteN rfl ?_⟩))))))
    refine wsv_if (wt_test (w_op ao_eqW (w_var rfl (w_int (feqW rfl rfl (by simp [PyData.depth]) (exb ⟨rfl, iteN rfl ?_⟩))))))
    refine wsv_if (wt_test (w_op ao_eqW (w_var rfl (w_int (feqW rfl rfl (by simp [PyData.depth]) (exb ⟨rfl, iteN rfl ?_⟩))))))
    refine wsv_if (wt_test (w_op ao_eqW (w_var rfl (w_int (feqW rfl rfl (by simp [PyData.depth]) (exb ⟨rfl, iteN rfl ?_⟩))))))
    refine wsv_if (wt_test (w_op ao_eqW (w_var rfl (w_int (feqW rfl rfl (by simp [PyData.depth]) (exb ⟨rfl, iteN rfl ?_⟩))))))
    refine wsv_if (wt_test (w_op ao_eqW (w_var rfl (w_int (feqW rfl rfl (by simp [PyData.depth]) (exb ⟨rfl, iteN rfl ?_⟩))))))
    refine wsv_if (wt_test (w_op ao_eqW (w_var rfl (w_int (feqW rfl rfl (by simp [PyData.depth]) (exb ⟨rfl, iteK rfl ?_⟩))))))
    exact wsv_ret (wv_mk (wa_cons (w_var rfl (wa_cons (w_var rfl (wa_nil ⟨[d1, d2], rfl, rfl, by simp, fun a => ⟨rfl, fin _ ⟨a, rfl⟩⟩⟩))))))
  · refine wsv_if (wt_test (w_op ao_eqW (w_var rfl (w_int (feqW rfl rfl (by simp [PyData.depth]) (exb ⟨rfl, iteN rfl ?_⟩))))))
    refine wsv_if (wt_test (w_op ao_eqW (w_var rfl (w_int (feqW rfl rfl (by simp [PyData.depth]) (exb ⟨rfl, iteN rfl ?_⟩))))))
    refine wsv_if (wt_test (w_op ao_eqW (w_var rfl (w_int (feqW rfl rfl (by simp [PyData.depth]) (exb ⟨rfl, iteN rfl ?_⟩))))))
    refine wsv_if (wt_test (w_op ao_eqW (w_var rfl (w_int (feqW rfl rfl (by simp [PyData.depth]) (exb ⟨rfl, iteN rfl ?_⟩))))))
    refine wsv_if (wt_test (w_op ao_eqW (w_var rfl (w_int (feqW rfl rfl (by simp [PyData.depth]) (exb ⟨rfl, iteN rfl ?_⟩))))))
    refine wsv_if (wt_test (w_op ao_eqW (w_var rfl (w_int (feqW rfl rfl (by simp [PyData.depth]) (exb ⟨rfl, iteN rfl ?_⟩))))))
    refine wsv_if (wt_test (w_op ao_eqW (w_var rfl (w_int (feqW rfl rfl (by simp [PyData.depth]) (exb ⟨rfl, iteN rfl ?_⟩))))))
    refine wsv_if (wt_test (w_op ao_eqW (w_var rfl (w_int (feqW rfl rfl (by simp [PyData.depth]) (exb ⟨rfl, iteN rfl ?_⟩))))))
    refine wsv_if (wt_test (w_op ao_eqW (w_var rfl (w_int (feqW rfl rfl (by simp [PyData.depth]) (exb ⟨rfl, iteN rfl ?_⟩))))))
    refine wsv_if (wt_test (w_op ao_eqW (w_var rfl (w_int (feqW rfl rfl (by simp [PyData.depth]) (exb ⟨rfl, iteN rfl ?_⟩))))))
    refine wsv_if (wt_test (w_op ao_eqW (w_var rfl (w_int (feqW rfl rfl (by simp [PyData.depth]) (exb ⟨rfl, iteN rfl ?_⟩))))))
    refine wsv_if (wt_test (w_op ao_eqW (w_var rfl (w_int (feqW rfl rfl (by simp [PyData.depth]) (exb ⟨rfl, iteN rfl ?_⟩))))))
    refine wsv_if (wt_test (w_op ao_eqW (w_var rfl (w_int (feqW rfl rfl (by simp [PyData.depth]) (exb ⟨rfl, iteN rfl ?_⟩))))))
    refine wsv_if (wt_test (w_op ao_eqW (w_var rfl (w_int (feqW rfl rfl (by simp [PyData.depth]) (exb ⟨rfl, iteN rfl ?_⟩))))))
    refine wsv_if (wt_test (w_op ao_eqW (w_var rfl (w_int (feqW rfl rfl (by simp [PyData.depth]) (exb ⟨rfl, iteK rfl ?_⟩))))))
    exact wsv_ret (wv_mk0 fun a => ⟨rfl, fin _ ⟨a, rfl⟩⟩)
  · refine wsv_if (wt_test (w_op ao_eqW (w_var rfl (w_int (feqW rfl rfl (by simp [PyData.depth]) (exb ⟨rfl, iteN rfl ?_⟩))))))
    refine wsv_if (wt_test (w_op ao_eqW (w_var rfl (w_int (feqW rfl rfl (by simp [PyData.depth]) (exb ⟨rfl, iteN rfl ?_⟩))))))
    refine wsv_if (wt_test (w_op ao_eqW (w_var rfl (w_int (feqW rfl rfl (by simp [PyData.depth]) (exb ⟨rfl, iteN rfl ?_⟩))))))
    refine wsv_if (wt_test (w_op ao_eqW (w_var rfl (w_int (feqW rfl rfl (by simp [PyData.depth]) (exb ⟨rfl, iteN rfl ?_⟩))))))
    refine wsv_if (wt_test (w_op ao_eqW (w_var rfl (w_int (feqW rfl rfl (by simp [PyData.depth]) (exb ⟨rfl, iteN rfl ?_⟩))))))
    refine wsv_if (wt_test (w_op ao_eqW (w_var rfl (w_int (feqW rfl rfl (by simp [PyData.depth]) (exb ⟨rfl, iteN rfl ?_⟩))))))
    refine wsv_if (wt_test (w_op ao_eqW (w_var rfl (w_int (feqW rfl rfl (by simp [PyData.depth]) (exb ⟨rfl, iteN rfl ?_⟩))))))
    refine wsv_if (wt_test (w_op ao_eqW (w_var rfl (w_int (feqW rfl rfl (by simp [PyData.depth]) (exb ⟨rfl, iteN rfl ?_⟩))))))
    refine wsv_if (wt_test (w_op ao_eqW (w_var rfl (w_int (feqW rfl rfl (by simp [PyData.depth]) (exb ⟨rfl, iteN rfl ?_⟩))))))
    refine wsv_if (wt_test (w_op ao_eqW (w_var rfl (w_int (feqW rfl rfl (by simp [PyData.depth]) (exb ⟨rfl, iteN rfl ?_⟩))))))
    refine wsv_if (wt_test (w_op ao_eqW (w_var rfl (w_int (feqW rfl rfl (by simp [PyData.depth]) (exb ⟨rfl, iteN rfl ?_⟩))))))
    refine wsv_if (wt_test (w_op ao_eqW (w_var rfl (w_int (feqW rfl rfl (by simp [PyData.depth]) (exb ⟨rfl, iteN rfl ?_⟩))))))
    refine wsv_if (wt_test (w_op ao_eqW (w_var rfl (w_int (feqW rfl rfl (by simp [PyData.depth]) (exb ⟨rfl, iteN rfl ?_⟩))))))
    refine wsv_if (wt_test (w_op ao_eqW (w_var rfl (w_int (feqW rfl rfl (by simp [PyData.depth]) (exb ⟨rfl, iteN rfl ?_⟩))))))
    refine wsv_if (wt_test (w_op ao_eqW (w_var rfl (w_int (feqW rfl rfl (by simp [PyData.depth]) (exb ⟨rfl, iteN rfl ?_⟩))))))
    refine wsv_if (wt_test (w_op ao_eqW (w_var rfl (w_int (feqW rfl rfl (by simp [PyData.depth]) (exb ⟨rfl, iteK rfl ?_⟩))))))
    exact wsv_ret (wv_mk (wa_cons (w_var rfl (wa_nil ⟨[d1], rfl, rfl, by simp, fun a => ⟨rfl, fin _ ⟨a, rfl⟩⟩⟩))))
  · refine wsv_if (wt_test (w_op ao_eqW (w_var rfl (w_int (feqW rfl rfl (by simp [PyData.depth]) (exb ⟨rfl, iteN rfl ?_⟩))))))
    refine wsv_if (wt_test (w_op ao_eqW (w_var rfl (w_int (feqW rfl rfl (by simp [PyData.depth]) (exb ⟨rfl, iteN rfl ?_⟩))))))
    refine wsv_if (wt_test (w_op ao_eqW (w_var rfl (w_int (feqW rfl rfl (by simp [PyData.depth]) (exb ⟨rfl, iteN rfl ?_⟩))))))
    refine wsv_if (wt_test (w_op ao_eqW (w_var rfl (w_int (feqW rfl rfl (by simp [PyData.depth]) (exb ⟨rfl, iteN rfl ?_⟩))))))
    refine wsv_if (wt_test (w_op ao_eqW (w_var rfl (w_int (feqW rfl rfl (by simp [PyData.depth]) (exb ⟨rfl, iteN rfl ?_⟩))))))
    refine wsv_if (wt_test (w_op ao_eqW (w_var rfl (w_int (feqW rfl rfl (by simp [PyData.depth]) (exb ⟨rfl, iteN rfl ?_⟩))))))
    refine wsv_if (wt_test (w_op ao_eqW (w_var rfl (w_int (feqW rfl rfl (by simp [PyData.depth]) (exb ⟨rfl, iteN rfl ?_⟩))))))
    refine wsv_if (wt_test (w_op ao_eqW (w_var rfl (w_int (feqW rfl rfl (by simp [PyData.depth]) (exb ⟨rfl, iteN rfl ?_⟩))))))
    refine wsv_if (wt_test (w_op ao_eqW (w_var rfl (w_int (feqW rfl rfl (by simp [PyData.depth]) (exb ⟨rfl, iteN rfl ?_⟩))))))
    refine wsv_if (wt_test (w_op ao_eqW (w_var rfl (w_int (feqW rfl rfl (by simp [PyData.depth]) (exb ⟨rfl, iteN rfl ?_⟩))))))
    refine wsv_if (wt_test (w_op ao_eqW (w_var rfl (w_int (feqW rfl rfl (by simp [PyData.depth]) (exb ⟨rfl, iteN rfl ?_⟩))))))
    refine wsv_if (wt_test (w_op ao_eqW (w_var rfl (w_int (feqW rfl rfl (by simp [PyData.depth]) (exb ⟨rfl, iteN rfl ?_⟩))))))
    refine wsv_if (wt_test (w_op ao_eqW (w_var rfl (w_int (feqW rfl rfl (by simp [PyData.depth]) (exb ⟨rfl, iteN rfl ?_⟩))))))
    refine wsv_if (wt_test (w_op ao_eqW (w_var rfl (w_int (feqW rfl rfl (by simp [PyData.depth]) (exb ⟨rfl, iteN rfl ?_⟩))))))
    refine wsv_if (wt_test (w_op ao_eqW (w_var rfl (w_int (feqW rfl rfl (by simp [PyData.depth]) (exb ⟨rfl, iteN rfl ?_⟩))))))
    refine wsv_if (wt_test (w_op ao_eqW (w_var rfl (w_int (feqW rfl rfl (by simp [PyData.depth]) (exb ⟨rfl, iteN rfl ?_⟩))))))
    refine wsv_if (wt_test (w_op ao_eqW (w_var rfl (w_int (feqW rfl rfl (by simp [PyData.depth]) (exb ⟨rfl, iteK rfl ?_⟩))))))
    exact wsv_ret (wv_mk (wa_cons (w_var rfl (wa_nil ⟨[d1], rfl, rfl, by simp, fun a => ⟨rfl, fin _ ⟨a, rfl⟩⟩⟩))))
  · refine wsv_if (wt_test (w_op ao_eqW (w_var rfl (w_int (feqW rfl rfl (by simp [PyData.depth]) (exb ⟨rfl, iteN rfl ?_⟩))))))
    refine wsv_if (wt_test (w_op ao_eqW (w_var rfl (w_int (feqW rfl rfl (by simp [PyData.depth]) (exb ⟨rfl, iteN rfl ?_⟩))))))
    refine wsv_if (wt_test (w_op ao_eqW (w_var rfl (w_int (feqW rfl rfl (by simp [PyData.depth]) (exb ⟨rfl, iteN rfl ?_⟩))))))
    refine wsv_if (wt_test (w_op ao_eqW (w_var rfl (w_int (feqW rfl rfl (by simp [PyData.depth]) (exb ⟨rfl, iteN rfl ?_⟩))))))
    refine wsv_if (wt_test (w_op ao_eqW (w_var rfl (w_int (feqW rfl rfl (by simp [PyData.depth]) (exb ⟨rfl, iteN rfl ?_⟩))))))
    refine wsv_if (wt_test (w_op ao_eqW (w_var rfl (w_int (feqW rfl rfl (by simp [PyData.depth]) (exb ⟨rfl, iteN rfl ?_⟩))))))
    refine wsv_if (wt_test (w_op ao_eqW (w_var rfl (w_int (feqW rfl rfl (by simp [PyData.depth]) (exb ⟨rfl, iteN rfl ?_⟩))))))
    refine wsv_if (wt_test (w_op ao_eqW (w_var rfl (w_int (feqW rfl rfl (by simp [PyData.depth]) (exb ⟨rfl, iteN rfl ?_⟩))))))
    refine wsv_if (wt_test (w_op ao_eqW (w_var rfl (w_int (feqW rfl rfl (by simp [PyData.depth]) (exb ⟨rfl, iteN rfl ?_⟩))))))
    refine wsv_if (wt_test (w_op ao_eqW (w_var rfl (w_int (feqW rfl rfl (by simp [PyData.depth]) (exb ⟨rfl, iteN rfl ?_⟩))))))
    refine wsv_if (wt_test (w_op ao_eqW (w_var rfl (w_int (feqW rfl rfl (by simp [PyData.depth]) (exb ⟨rfl, iteN rfl ?_⟩))))))
    refine wsv_if (wt_test (w_op ao_eqW (w_var rfl (w_int (feqW rfl rfl (by simp [PyData.depth]) (exb ⟨rfl, iteN rfl ?_⟩))))))
    refine wsv_if (wt_test (w_op ao_eqW (w_var rfl (w_int (feqW rfl rfl (by simp [PyData.depth]) (exb ⟨rfl, iteN rfl ?_⟩))))))
    refine wsv_if (wt_test (w_op ao_eqW (w_var rfl (w_int (feqW rfl rfl (by simp [PyData.depth]) (exb ⟨rfl, iteN rfl ?_⟩))))))
    refine wsv_if (wt_test (w_op ao_eqW (w_var rfl (w_int (feqW rfl rfl (by simp [PyData.depth]) (exb ⟨rfl, iteN rfl ?_⟩))))))
    refine wsv_if (wt_test (w_op ao_eqW (w_var rfl (w_int (feqW rfl rfl (by simp [PyData.depth]) (exb ⟨rfl, iteN rfl ?_⟩))))))
    refine wsv_if (wt_test (w_op ao_eqW (w_var rfl (w_int (feqW rfl rfl (by simp [PyData.depth]) (exb ⟨rfl, iteN rfl ?_⟩))))))
    refine wsv_if (wt_test (w_op ao_eqW (w_var rfl (w_int (feqW rfl rfl (by simp [PyData.depth]) (exb ⟨rfl, iteK rfl ?_⟩))))))
    exact wsv_ret (wv_mk (wa_cons (w_var rfl (wa_nil ⟨[d1], rfl, rfl, by simp, fun a => ⟨rfl, fin _ ⟨a, rfl⟩⟩⟩))))
  · refine wsv_if (wt_test (w_op ao_eqW (w_var rfl (w_int (feqW rfl rfl (by simp [PyData.depth]) (exb ⟨rfl, iteN rfl ?_⟩))))))
    refine wsv_if (wt_test (w_op ao_eqW (w_var rfl (w_int (feqW rfl rfl (by simp [PyData.depth]) (exb ⟨rfl, iteN rfl ?_⟩))))))
    refine wsv_if (wt_test (w_op ao_eqW (w_var rfl (w_int (feqW rfl rfl (by simp [PyData.depth]) (exb ⟨rfl, iteN rfl ?_⟩))))))
    refine wsv_if (wt_test (w_op ao_eqW (w_var rfl (w_int (feqW rfl rfl (by simp [PyData.depth]) (exb ⟨rfl, iteN rfl ?_⟩))))))
    refine wsv_if (wt_test (w_op ao_eqW (w_var rfl (w_int (feqW rfl rfl (by simp [PyData.depth]) (exb ⟨rfl, iteN rfl ?_⟩))))))
    refine wsv_if (wt_test (w_op ao_eqW (w_var rfl (w_int (feqW rfl rfl (by simp [PyData.depth]) (exb ⟨rfl, iteN rfl ?_⟩))))))
    refine wsv_if (wt_test (w_op ao_eqW (w_var rfl (w_int (feqW rfl rfl (by simp [PyData.depth]) (exb ⟨rfl, iteN rfl ?_⟩))))))
    refine wsv_if (wt_test (w_op ao_eqW (w_var rfl (w_int (feqW rfl rfl (by simp [PyData.depth]) (exb ⟨rfl, iteN rfl ?_⟩))))))
    refine wsv_if (wt_test (w_op ao_eqW (w_var rfl (w_int (feqW rfl rfl (by simp [PyData.depth]) (exb ⟨rfl, iteN rfl ?_⟩))))))
    refine wsv_if (wt_test (w_op ao_eqW (w_var rfl (w_int (feqW rfl rfl (by simp [PyData.depth]) (exb ⟨rfl, iteN rfl ?_⟩))))))
    refine wsv_if (wt_test (w_op ao_eqW (w_var rfl (w_int (feqW rfl rfl (by simp [PyData.depth]) (exb ⟨rfl, iteN rfl ?_⟩))))))
    refine wsv_if (wt_test (w_op ao_eqW (w_var rfl (w_int (feqW rfl rfl (by simp [PyData.depth]) (exb ⟨rfl, iteN rfl ?_⟩))))))
    refine wsv_if (wt_test (w_op ao_eqW (w_var rfl (w_int (feqW rfl rfl (by simp [PyData.depth]) (exb ⟨rfl, iteN rfl ?_⟩))))))
    refine wsv_if (wt_test (w_op ao_eqW (w_var rfl (w_int (feqW rfl rfl (by simp [PyData.depth]) (exb ⟨rfl, iteN rfl ?_⟩))))))
    refine wsv_if (wt_test (w_op ao_eqW (w_var rfl (w_int (feqW rfl rfl (by simp [PyData.depth]) (exb ⟨rfl, iteN rfl ?_⟩))))))
    refine wsv_if (wt_test (w_op ao_eqW (w_var rfl (w_int (feqW rfl rfl (by simp [PyData.depth]) (exb ⟨rfl, iteN rfl ?_⟩))))))
    refine wsv_if (wt_test (w_op ao_eqW (w_var rfl (w_int (feqW rfl rfl (by simp [PyData.depth]) (exb ⟨rfl, iteN rfl ?_⟩))))))
    refine wsv_if (wt_test (w_op ao_eqW (w_var rfl (w_int (feqW rfl rfl (by simp [PyData.depth]) (exb ⟨rfl, iteN rfl ?_⟩))))))
    refine wsv_if (wt_test (w_op ao_eqW (w_var rfl (w_int (feqW rfl rfl (by simp [PyData.depth]) (exb ⟨rfl, iteK rfl ?_⟩))))))
    exact wsv_ret (wv_mk (wa_cons (w_var rfl (wa_nil ⟨[d1], rfl, rfl, by simp, fun a => ⟨rfl, fin _ ⟨a, rfl⟩⟩⟩))))
  · refine wsv_if (wt_test (w_op ao_eqW (w_var rfl (w_int (feqW rfl rfl (by simp [PyData.depth]) (exb ⟨rfl, iteN rfl ?_⟩))))))
    refine wsv_if (wt_test (w_op ao_eqW (w_var rfl (w_int (feqW rfl rfl (by simp [PyData.depth]) (exb ⟨rfl, iteN rfl ?_⟩))))))
    refine wsv_if (wt_test (w_op ao_eqW (w_var rfl (w_int (feqW rfl rfl (by simp [PyData.depth]) (exb ⟨rfl, iteN rfl ?_⟩))))))
    refine wsv_if (wt_test (w_op ao_eqW (w_var rfl (w_int (feqW rfl rfl (by simp [PyData.depth]) (exb ⟨rfl, iteN rfl ?_⟩))))))
    refine wsv_if (wt_test (w_op ao_eqW (w_var rfl (w_int (feqW rfl rfl (by simp [PyData.depth]) (exb ⟨rfl, iteN rfl ?_⟩))))))
    refine wsv_if (wt_test (w_op ao_eqW (w_var rfl (w_int (feqW rfl rfl (by simp [PyData.depth]) (exb ⟨rfl, iteN rfl ?_⟩))))))
    refine wsv_if (wt_test (w_op ao_eqW (w_var rfl (w_int (feqW rfl rfl (by simp [PyData.depth]) (exb ⟨rfl, iteN rfl ?_⟩))))))
    refine wsv_if (wt_test (w_op ao_eqW (w_var rfl (w_int (feqW rfl rfl (by simp [PyData.depth]) (exb ⟨rfl, iteN rfl ?_⟩))))))
    refine wsv_if (wt_test (w_op ao_eqW (w_var rfl (w_int (feqW rfl rfl (by simp [PyData.depth]) (exb ⟨rfl, iteN rfl ?_⟩))))))
    refine wsv_if (wt_test (w_op ao_eqW (w_var rfl (w_int (feqW rfl rfl (by simp [PyData.depth]) (exb ⟨rfl, iteN rfl ?_⟩))))))
    refine wsv_if (wt_test (w_op ao_eqW (w_var rfl (w_int (feqW rfl rfl (by simp [PyData.depth]) (exb ⟨rfl, iteN rfl ?_⟩))))))
    refine wsv_if (wt_test (w_op ao_eqW (w_var rfl (w_int (feqW rfl rfl (by simp [PyData.depth]) (exb ⟨rfl, iteN rfl ?_⟩))))))
    refine wsv_if (wt_test (w_op ao_eqW (w_var rfl (w_int (feqW rfl rfl (by simp [PyData.depth]) (exb ⟨rfl, iteN rfl ?_⟩))))))
    refine wsv_if (wt_test (w_op ao_eqW (w_var rfl (w_int (feqW rfl rfl (by simp [PyData.depth]) (exb ⟨rfl, iteN rfl ?_⟩))))))
    refine wsv_if (wt_test (w_op ao_eqW (w_var rfl (w_int (feqW rfl rfl (by simp [PyData.depth]) (exb ⟨rfl, iteN rfl ?_⟩))))))
    refine wsv_if (wt_test (w_op ao_eqW (w_var rfl (w_int (feqW rfl rfl (by simp [PyData.depth]) (exb ⟨rfl, iteN rfl ?_⟩))))))
    refine wsv_if (wt_test (w_op ao_eqW (w_var rfl (w_int (feqW rfl rfl (by simp [PyData.depth]) (exb ⟨rfl, iteN rfl ?_⟩))))))
    refine wsv_if (wt_test (w_op ao_eqW (w_var rfl (w_int (feqW rfl rfl (by simp [PyData.depth]) (exb ⟨rfl, iteN rfl ?_⟩))))))
    refine wsv_if (wt_test (w_op ao_eqW (w_var rfl (w_int (feqW rfl rfl (by simp [PyData.depth]) (exb ⟨rfl, iteN rfl ?_⟩))))))
    exact wsv_ret (wv_mk (wa_cons (w_var rfl (wa_nil ⟨[d1], rfl, rfl, by simp, fun a => ⟨rfl, fin _ ⟨a, rfl⟩⟩⟩))))
end
end E5

set_option Elab.async false
set_option linter.all false
set_option maxRecDepth 100000
set_option maxHeartbeats 4000000
namespace E5
open PySem PySem.Spec PyProof.Rows L2 Ab

/-- one step of the reading -/
local macro_rules | `(tactic| walk_at "w") => `(tactic| first
  | (with_reducible refine ws_seq ?_) | (with_reducible refine ws_next ?_) | (with_reducible refine ws_set ?_) | (with_reducible refine ws_par ?_) | (with_reducible refine ws_ret ?_) | (with_reducible refine ws_if ?_) | (with_reducible refine ws_drop ?_)
  | (refine w_var rfl ?_) | (with_reducible refine w_int ?_) | (with_reducible refine w_str ?_) | (with_reducible refine w_bl ?_) | (with_reducible refine w_non ?_)
  | (with_reducible refine wa_nil ?_) | (with_reducible refine wa_cons ?_) | (with_reducible refine w_tup ?_) | (with_reducible refine w_lst ?_)
  | (with_reducible refine wt_test ?_) | (with_reducible refine wt_B ?_) | (with_reducible refine wt_not ?_) | (with_reducible refine wt_and ?_) | (with_reducible refine wt_or ?_)
  | (with_reducible refine w_andV ?_) | (with_reducible refine w_orV ?_) | (with_reducible refine w_notV ?_) | (with_reducible refine w_ite ?_)
  | (with_reducible refine w_op ao_eqW ?_) | (with_reducible refine w_op ao_neW ?_) | (with_reducible refine w_op ao_eq ?_) | (with_reducible refine w_op ao_ne ?_) | (with_reducible refine w_op ao_isB ?_) | (with_reducible refine w_op ao_notB ?_) | (with_reducible refine w_op ao_ix ?_) | (with_reducible refine w_op ao_plus ?_) | (with_reducible refine w_op ao_less ?_) | (with_reducible refine w_op ao_le ?_) | (with_reducible refine w_op ao_gt ?_) | (with_reducible refine w_op ao_ge ?_)
  | (with_reducible refine w_op ao_sub ?_) | (with_reducible refine w_op ao_mul ?_) | (with_reducible refine w_op ao_mod ?_) | (with_reducible refine w_op ao_div ?_) | (with_reducible refine w_op ao_pow ?_) | (with_reducible refine w_op ao_isNo ?_) | (with_reducible refine w_op ao_inSg ?_) | (with_reducible refine w_op ao_inW ?_) | (with_reducible refine w_op ao_ninW ?_) | (with_reducible refine w_op ao_inSeq ?_) | (with_reducible refine w_op ao_ninSeq ?_)
  | (with_reducible refine w_cb ac_len ?_) | (with_reducible refine w_cb ac_tupleOf ?_) | (with_reducible refine w_cb ac_intOf ?_) | (with_reducible refine w_cb ac_abs ?_) | (with_reducible refine w_cb ac_ord ?_) | (with_reducible refine w_cb ac_all ?_) | (with_reducible refine w_cb ac_any ?_)
  | (with_reducible refine w_isi (by decide) ?_) | (with_reducible refine w_isi2 (by decide) (by decide) ?_) | (with_reducible refine w_sl ?_) | (with_reducible refine wo_none ?_) | (with_reducible refine wo_some ?_)
  | (with_reducible refine w_chain ao_le ao_le ?_) | (with_reducible refine w_chain ao_leS ao_leS ?_) | (with_reducible refine w_call ?_))
local macro_rules | `(tactic| walk_at "v") => `(tactic| first
  | (with_reducible refine m0 ?_) | (with_reducible refine m1 ?_) | (with_reducible refine m2 ?_) | (with_reducible refine m3 ?_) | (with_reducible refine m5 ?_)
  | (with_reducible refine exb ?_) | (with_reducible refine exi ?_) | (with_reducible refine exl ?_) | (with_reducible refine exql ?_) | (with_reducible refine exqt ?_)
  | (refine fixt rfl ?_) | (refine fixl rfl ?_) | (refine fslt rfl ?_) | (refine fsll rfl ?_)
  | (with_reducible refine flent ?_; dsimp only [List.length_cons, List.length_nil]) | (with_reducible refine flenl ?_; dsimp only [List.length_cons, List.length_nil])
  | (with_reducible refine fii (by first | trivial | decide) ?_) | (with_reducible refine fpi ?_) | (with_reducible refine flti ?_) | (with_reducible refine fint ?_) | (with_reducible refine ftupl ?_) | (with_reducible refine ftupt ?_)
  | (with_reducible refine feqW (by decide +kernel) (by decide +kernel) (by decide +kernel) ?_) | (with_reducible refine fneW (by decide +kernel) (by decide +kernel) (by decide +kernel) ?_)
  | (with_reducible refine feq (by decide +kernel) (by decide +kernel) ?_) | (with_reducible refine fne (by decide +kernel) (by decide +kernel) ?_)
  | (with_reducible refine iteK rfl ?_) | (with_reducible refine iteN rfl ?_) | (with_reducible refine iteK (by decide +kernel) ?_) | (with_reducible refine iteN (by decide +kernel) ?_))
local macro_rules | `(tactic| walk_at "x") => `(tactic| first | (with_reducible refine wx_seq ?_) | (with_reducible refine wx_if ?_) | (with_reducible refine wx_next ?_) | (with_reducible refine wx_ret ?_) | (with_reducible refine wr_tup ?_) | (with_reducible refine war_cons ?_) | (with_reducible refine war_nil ?_))
local macro_rules | `(tactic| walk_at "ww") => `(tactic| repeat (first | walk_at "w" | walk_at "v" | walk_at "x"))

def preAtt (lo : Nat) (cs : Nat → Addr) (ss : List Sv) : Prop := ∃ (t : Nat) (a : Addr) (d1 d2 d3 : PyData), ss = [.dat (.int (t : Int)), .obj a (cs t) ((fldT.getD t []).zip [d1, d2, d3]).reverse] ∧ lo ≤ t ∧ t < lo + 20
def postAtt (ss : List Sv) (x : PyData) : Prop := ∀ (t : Nat) (a C : Addr) (fs : List (Str × PyData)), ss = [.dat (.int (t : Int)), .obj a C fs] → x = .list (fs.map (·.2)).reverse
abbrev spAtt (lo : Nat) (cs : Nat → Addr) (K : PySem.W.Frag) : Sp := spS (preAtt lo cs) postAtt K
def preFlg (cs : Nat → Addr) (ss : List Sv) : Prop := ∃ (t : Nat) (a : Addr) (fs : List (Str × PyData)), ss = [.obj a (cs t) fs] ∧ t < 40
def postFlg (cs : Nat → Addr) (ss : List Sv) (x : PyData) : Prop := ∀ (t : Nat) (a : Addr) (fs : List (Str × PyData)), ss = [.obj a (cs t) fs] → t < 40 → x = .list ((List.range 40).map fun j => .bool (decide (j = t)))
abbrev spFlg (cs : Nat → Addr) (K : PySem.W.Frag) : Sp := spS (preFlg cs) (postFlg cs) K
structure XC0 (K : PySem.W.Frag) (C A : Addr) : Prop where
  cf : CF K C (tailM A)
  ec : ExcC K C
section
variable {P : Program} {w : World} {K : PySem.W.Frag} {mg : Str → Option Value} {base : Heap} {cs : Nat → Addr} {A : Addr} (T : Txt K mg) (X : XS K mg cs A)
include T X in
theorem ok_law_first_attributes (F : Dfn K mg "_law_first_attributes" s_law_first_attributes ["_law_turn", "_law_error"]) : Cal P w K mg base 1 "_law_first_attributes" ["_law_turn", "_law_error"] (spAtt 0 cs K) := by
  have hn : ∀ ss, preAtt 0 cs ss → ss.length = 2 := by rintro ss ⟨t, a, d1, d2, d3, rfl, _⟩; rfl
  refine F.ok sc_law_first_attributes (fun vs H Q E h => spS_len hn h) (fun f cdv A outer s H vs Q E hr h => ⟨_, (pss_cons (ps_if (pt_cmpR (k_eqW (K := K) rfl hr) (pv 0) pe_int (nomark _)) (pss_one (ps_ret (pe_lst (pa_cons (k_ox (K := K) rfl (pv 1)) pa_nil)))) pss_nil)
      (pss_cons (ps_if (pt_cmpR (k_eqW (K := K) rfl hr) (pv 0) pe_int (nomark _)) (pss_one (ps_ret (pe_lst (pa_cons (k_ox (K := K) rfl (pv 1)) pa_nil)))) pss_nil)
      (pss_cons (ps_if (pt_cmpR (k_eqW (K := K) rfl hr) (pv 0) pe_int (nomark _)) (pss_one (ps_ret (pe_lst (pa_cons (k_ox (K := K) rfl (pv 1)) (pa_cons (k_ox (K := K) rfl (pv 1)) pa_nil))))) pss_nil)
      (pss_cons (ps_if (pt_cmpR (k_eqW (K := K) rfl hr) (pv 0) pe_int (nomark _)) (pss_one (ps_ret (pe_lst (pa_cons (k_ox (K := K) rfl (pv 1)) (pa_cons (k_ox (K := K) rfl (pv 1)) pa_nil))))) pss_nil)
      (pss_cons (ps_if (pt_cmpR (k_eqW (K := K) rfl hr) (pv 0) pe_int (nomark _)) (pss_one (ps_ret (pe_lst (pa_cons (k_ox (K := K) rfl (pv 1)) pa_nil)))) pss_nil)
      (pss_cons (ps_if (pt_cmpR (k_eqW (K := K) rfl hr) (pv 0) pe_int (nomark _)) (pss_one (ps_ret (pe_lst (pa_cons (k_ox (K := K) rfl (pv 1)) (pa_cons (k_ox (K := K) rfl (pv 1)) pa_nil))))) pss_nil)
      (pss_cons (ps_if (pt_cmpR (k_eqW (K := K) rfl hr) (pv 0) pe_int (nomark _)) (pss_one (ps_ret (pe_lst (pa_cons (k_ox (K := K) rfl (pv 1)) pa_nil)))) pss_nil)
      (pss_cons (ps_if (pt_cmpR (k_eqW (K := K) rfl hr) (pv 0) pe_int (nomark _)) (pss_one (ps_ret (pe_lst (pa_cons (k_ox (K := K) rfl (pv 1)) pa_nil)))) pss_nil)
      (pss_cons (ps_if (pt_cmpR (k_eqW (K := K) rfl hr) (pv 0) pe_int (nomark _)) (pss_one (ps_ret (pe_lst (pa_cons (k_ox (K := K) rfl (pv 1)) pa_nil)))) pss_nil)
      (pss_cons (ps_if (pt_cmpR (k_eqW (K := K) rfl hr) (pv 0) pe_int (nomark _)) (pss_one (ps_ret (pe_lst (pa_cons (k_ox (K := K) rfl (pv 1)) pa_nil)))) pss_nil)
      (pss_cons (ps_if (pt_cmpR (k_eqW (K := K) rfl hr) (pv 0) pe_int (nomark _)) (pss_one (ps_ret (pe_lst (pa_cons (k_ox (K := K) rfl (pv 1)) pa_nil)))) pss_nil)
      (pss_cons (ps_if (pt_cmpR (k_eqW (K := K) rfl hr) (pv 0) pe_int (nomark _)) (pss_one (ps_ret (pe_lst (pa_cons (k_ox (K := K) rfl (pv 1)) pa_nil)))) pss_nil)
      (pss_cons (ps_if (pt_cmpR (k_eqW (K := K) rfl hr) (pv 0) pe_int (nomark _)) (pss_one (ps_ret (pe_lst (pa_cons (k_ox (K := K) rfl (pv 1)) (pa_cons (k_ox (K := K) rfl (pv 1)) (pa_cons (k_ox (K := K) rfl (pv 1)) pa_nil)))))) pss_nil)
      (pss_cons (ps_if (pt_cmpR (k_eqW (K := K) rfl hr) (pv 0) pe_int (nomark _)) (pss_one (ps_ret (pe_lst (pa_cons (k_ox (K := K) rfl (pv 1)) (pa_cons (k_ox (K := K) rfl (pv 1)) pa_nil))))) pss_nil)
      (pss_cons (ps_if (pt_cmpR (k_eqW (K := K) rfl hr) (pv 0) pe_int (nomark _)) (pss_one (ps_ret (pe_lst (pa_cons (k_ox (K := K) rfl (pv 1)) (pa_cons (k_ox (K := K) rfl (pv 1)) pa_nil))))) pss_nil)
      (pss_cons (ps_if (pt_cmpR (k_eqW (K := K) rfl hr) (pv 0) pe_int (nomark _)) (pss_one (ps_ret (pe_lst (pa_cons (k_ox (K := K) rfl (pv 1)) (pa_cons (k_ox (K := K) rfl (pv 1)) pa_nil))))) pss_nil)
      (pss_cons (ps_if (pt_cmpR (k_eqW (K := K) rfl hr) (pv 0) pe_int (nomark _)) (pss_one (ps_ret (pe_lst (pa_cons (k_ox (K := K) rfl (pv 1)) pa_nil)))) pss_nil)
      (pss_one (ps_ret (pe_lst pa_nil)))))))))))))))))))), to_spS hn (fun ss hp => ?_) h⟩)
  obtain ⟨t, a, d1, d2, d3, rfl, h1, h2⟩ := hp
  change WS K _ [.dat (.int (t : Int)), .obj a (cs t) ((fldT.getD t []).zip [d1, d2, d3]).reverse] [] _
  have fin : ∀ x, x = PyData.list ((((fldT.getD t []).zip [d1, d2, d3]).reverse).map (·.2)).reverse → postAtt [.dat (.int (t : Int)), .obj a (cs t) ((fldT.getD t []).zip [d1, d2, d3]).reverse] x := fun x e t' a' C' fs' h => by
    simp only [List.cons.injEq, Sv.obj.injEq] at h
    rw [e, h.2.1.2.2]
  rcases (show t = 0 ∨ t = 1 ∨ t = 2 ∨ t = 3 ∨ t = 4 ∨ t = 5 ∨ t = 6 ∨ t = 7 ∨ t = 8 ∨ t = 9 ∨ t = 10 ∨ t = 11 ∨ t = 12 ∨ t = 13 ∨ t = 14 ∨ t = 15 ∨ t = 16 ∨ t = 17 ∨ t = 18 ∨ t = 19 by omega) with rfl | rfl | rfl | rfl | rfl | rfl | rfl | rfl | rfl | rfl | rfl | rfl | rfl | rfl | rfl | rfl | rfl | rfl | rfl | rfl
  · refine ws_seq (ws_if (wt_test (w_op ao_eqW (w_var rfl (w_int (feqW rfl rfl (by simp [PyData.depth]) (exb (iteN rfl (ws_next ?_)))))))))
    refine ws_seq (ws_if (wt_test (w_op ao_eqW (w_var rfl (w_int (feqW rfl rfl (by simp [PyData.depth]) (exb (iteN rfl (ws_next ?_)))))))))
    refine ws_seq (ws_if (wt_test (w_op ao_eqW (w_var rfl (w_int (feqW rfl rfl (by simp [PyData.depth]) (exb (iteN rfl (ws_next ?_)))))))))
    refine ws_seq (ws_if (wt_test (w_op ao_eqW (w_var rfl (w_int (feqW rfl rfl (by simp [PyData.depth]) (exb (iteN rfl (ws_next ?_)))))))))
    refine ws_seq (ws_if (wt_test (w_op ao_eqW (w_var rfl (w_int (feqW rfl rfl (by simp [PyData.depth]) (exb (iteN rfl (ws_next ?_)))))))))
    refine ws_seq (ws_if (wt_test (w_op ao_eqW (w_var rfl (w_int (feqW rfl rfl (by simp [PyData.depth]) (exb (iteN rfl (ws_next ?_)))))))))
    refine ws_seq (ws_if (wt_test (w_op ao_eqW (w_var rfl (w_int (feqW rfl rfl (by simp [PyData.depth]) (exb (iteN rfl (ws_next ?_)))))))))
    refine ws_seq (ws_if (wt_test (w_op ao_eqW (w_var rfl (w_int (feqW rfl rfl (by simp [PyData.depth]) (exb (iteN rfl (ws_next ?_)))))))))
    refine ws_seq (ws_if (wt_test (w_op ao_eqW (w_var rfl (w_int (feqW rfl rfl (by simp [PyData.depth]) (exb (iteN rfl (ws_next ?_)))))))))
    refine ws_seq (ws_if (wt_test (w_op ao_eqW (w_var rfl (w_int (feqW rfl rfl (by simp [PyData.depth]) (exb (iteN rfl (ws_next ?_)))))))))
    refine ws_seq (ws_if (wt_test (w_op ao_eqW (w_var rfl (w_int (feqW rfl rfl (by simp [PyData.depth]) (exb (iteN rfl (ws_next ?_)))))))))
    refine ws_seq (ws_if (wt_test (w_op ao_eqW (w_var rfl (w_int (feqW rfl rfl (by simp [PyData.depth]) (exb (iteN rfl (ws_next ?_)))))))))
    refine ws_seq (ws_if (wt_test (w_op ao_eqW (w_var rfl (w_int (feqW rfl rfl (by simp [PyData.depth]) (exb (iteN rfl (ws_next ?_)))))))))
    refine ws_seq (ws_if (wt_test (w_op ao_eqW (w_var rfl (w_int (feqW rfl rfl (by simp [PyData.depth]) (exb (iteN rfl (ws_next ?_)))))))))
    refine ws_seq (ws_if (wt_test (w_op ao_eqW (w_var rfl (w_int (feqW rfl rfl (by simp [PyData.depth]) (exb (iteN rfl (ws_next ?_)))))))))
    refine ws_seq (ws_if (wt_test (w_op ao_eqW (w_var rfl (w_int (feqW rfl rfl (by simp [PyData.depth]) (exb (iteN rfl (ws_next ?_)))))))))
    refine ws_seq (ws_if (wt_test (w_op ao_eqW (w_var rfl (w_int (feqW rfl rfl (by simp [PyData.depth]) (exb (iteN rfl (ws_next ?_)))))))))
    exact ws_ret (w_lst (wa_nil ⟨[], rfl, by simp, fin _ rfl⟩))
  · refine ws_seq (ws_if (wt_test (w_op ao_eqW (w_var rfl (w_int (feqW rfl rfl (by simp [PyData.depth]) (exb (iteK rfl (ws_ret ?_)))))))))
    exact w_lst (wa_cons (w_ox rfl X.x_NoPlace.xf (X.x_NoPlace.no "steps" (by simp)) rfl (wa_nil ⟨[d1], rfl, by simp, fin _ rfl⟩)))
  · refine ws_seq (ws_if (wt_test (w_op ao_eqW (w_var rfl (w_int (feqW rfl rfl (by simp [PyData.depth]) (exb (iteN rfl (ws_next ?_)))))))))
    refine ws_seq (ws_if (wt_test (w_op ao_eqW (w_var rfl (w_int (feqW rfl rfl (by simp [PyData.depth]) (exb (iteK rfl (ws_ret ?_)))))))))
    exact w_lst (wa_cons (w_ox rfl X.x_NoPath.xf (X.x_NoPath.no "path" (by simp)) rfl (wa_nil ⟨[d1], rfl, by simp, fin _ rfl⟩)))
  · refine ws_seq (ws_if (wt_test (w_op ao_eqW (w_var rfl (w_int (feqW rfl rfl (by simp [PyData.depth]) (exb (iteN rfl (ws_next ?_)))))))))
    refine ws_seq (ws_if (wt_test (w_op ao_eqW (w_var rfl (w_int (feqW rfl rfl (by simp [PyData.depth]) (exb (iteN rfl (ws_next ?_)))))))))
    refine ws_seq (ws_if (wt_test (w_op ao_eqW (w_var rfl (w_int (feqW rfl rfl (by simp [PyData.depth]) (exb (iteK rfl (ws_ret ?_)))))))))
    exact w_lst (wa_cons (w_ox rfl X.x_BadTerm.xf (X.x_BadTerm.no "path" (by simp)) rfl (wa_cons (w_ox rfl X.x_BadTerm.xf (X.x_BadTerm.no "what" (by simp)) rfl (wa_nil ⟨[d1, d2], rfl, by simp, fin _ rfl⟩)))))
  · refine ws_seq (ws_if (wt_test (w_op ao_eqW (w_var rfl (w_int (feqW rfl rfl (by simp [PyData.depth]) (exb (iteN rfl (ws_next ?_)))))))))
    refine ws_seq (ws_if (wt_test (w_op ao_eqW (w_var rfl (w_int (feqW rfl rfl (by simp [PyData.depth]) (exb (iteN rfl (ws_next ?_)))))))))
    refine ws_seq (ws_if (wt_test (w_op ao_eqW (w_var rfl (w_int (feqW rfl rfl (by simp [PyData.depth]) (exb (iteN rfl (ws_next ?_)))))))))
    refine ws_seq (ws_if (wt_test (w_op ao_eqW (w_var rfl (w_int (feqW rfl rfl (by simp [PyData.depth]) (exb (iteK rfl (ws_ret ?_)))))))))
    exact w_lst (wa_cons (w_ox rfl X.x_BadHeads.xf (X.x_BadHeads.no "at" (by simp)) rfl (wa_cons (w_ox rfl X.x_BadHeads.xf (X.x_BadHeads.no "what" (by simp)) rfl (wa_nil ⟨[d1, d2], rfl, by simp, fin _ rfl⟩)))))
  · refine ws_seq (ws_if (wt_test (w_op ao_eqW (w_var rfl (w_int (feqW rfl rfl (by simp [PyData.depth]) (exb (iteN rfl (ws_next ?_)))))))))
    refine ws_seq (ws_if (wt_test (w_op ao_eqW (w_var rfl (w_int (feqW rfl rfl (by simp [PyData.depth]) (exb (iteN rfl (ws_next ?_)))))))))
    refine ws_seq (ws_if (wt_test (w_op ao_eqW (w_var rfl (w_int (feqW rfl rfl (by simp [PyData.depth]) (exb (iteN rfl (ws_next ?_)))))))))
    refine ws_seq (ws_if (wt_test (w_op ao_eqW (w_var rfl (w_int (feqW rfl rfl (by simp [PyData.depth]) (exb (iteN rfl (ws_next ?_)))))))))
    refine ws_seq (ws_if (wt_test (w_op ao_eqW (w_var rfl (w_int (feqW rfl rfl (by simp [PyData.depth]) (exb (iteK rfl (ws_ret ?_)))))))))
    exact w_lst (wa_cons (w_ox rfl X.x_NoTable.xf (X.x_NoTable.no "table" (by simp)) rfl (wa_nil ⟨[d1], rfl, by simp, fin _ rfl⟩)))
  · refine ws_seq (ws_if (wt_test (w_op ao_eqW (w_var rfl (w_int (feqW rfl rfl (by simp [PyData.depth]) (exb (iteN rfl (ws_next ?_)))))))))
    refine ws_seq (ws_if (wt_test (w_op ao_eqW (w_var rfl (w_int (feqW rfl rfl (by simp [PyData.depth]) (exb (iteN rfl (ws_next ?_)))))))))
    refine ws_seq (ws_if (wt_test (w_op ao_eqW (w_var rfl (w_int (feqW rfl rfl (by simp [PyData.depth]) (exb (iteN rfl (ws_next ?_)))))))))
    refine ws_seq (ws_if (wt_test (w_op ao_eqW (w_var rfl (w_int (feqW rfl rfl (by simp [PyData.depth]) (exb (iteN rfl (ws_next ?_)))))))))
    refine ws_seq (ws_if (wt_test (w_op ao_eqW (w_var rfl (w_int (feqW rfl rfl (by simp [PyData.depth]) (exb (iteN rfl (ws_next ?_)))))))))
    refine ws_seq (ws_if (wt_test (w_op ao_eqW (w_var rfl (w_int (feqW rfl rfl (by simp [PyData.depth]) (exb (iteK rfl (ws_ret ?_)))))))))
    exact w_lst (wa_cons (w_ox rfl X.x_NoRow.xf (X.x_NoRow.no "table" (by simp)) rfl (wa_cons (w_ox rfl X.x_NoRow.xf (X.x_NoRow.no "number" (by simp)) rfl (wa_nil ⟨[d1, d2], rfl, by simp, fin _ rfl⟩)))))
  · refine ws_seq (ws_if (wt_test (w_op ao_eqW (w_var rfl (w_int (feqW rfl rfl (by simp [PyData.depth]) (exb (iteN rfl (ws_next ?_)))))))))
    refine ws_seq (ws_if (wt_test (w_op ao_eqW (w_var rfl (w_int (feqW rfl rfl (by simp [PyData.depth]) (exb (iteN rfl (ws_next ?_)))))))))
    refine ws_seq (ws_if (wt_test (w_op ao_eqW (w_var rfl (w_int (feqW rfl rfl (by simp [PyData.depth]) (exb (iteN rfl (ws_next ?_)))))))))
    refine ws_seq (ws_if (wt_test (w_op ao_eqW (w_var rfl (w_int (feqW rfl rfl (by simp [PyData.depth]) (exb (iteN rfl (ws_next ?_)))))))))
    refine ws_seq (ws_if (wt_test (w_op ao_eqW (w_var rfl (w_int (feqW rfl rfl (by simp [PyData.depth]) (exb (iteN rfl (ws_next ?_)))))))))
    refine ws_seq (ws_if (wt_test (w_op ao_eqW (w_var rfl (w_int (feqW rfl rfl (by simp [PyData.depth]) (exb (iteN rfl (ws_next ?_)))))))))
    refine ws_seq (ws_if (wt_test (w_op ao_eqW (w_var rfl (w_int (feqW rfl rfl (by simp [PyData.depth]) (exb (iteK rfl (ws_ret ?_)))))))))
    exact w_lst (wa_cons (w_ox rfl X.x_NoColumn.xf (X.x_NoColumn.no "column" (by simp)) rfl (wa_nil ⟨[d1], rfl, by simp, fin _ rfl⟩)))
  · refine ws_seq (ws_if (wt_test (w_op ao_eqW (w_var rfl (w_int (feqW rfl rfl (by simp [PyData.depth]) (exb (iteN rfl (ws_next ?_)))))))))
    refine ws_seq (ws_if (wt_test (w_op ao_eqW (w_var rfl (w_int (feqW rfl rfl (by simp [PyData.depth]) (exb (iteN rfl (ws_next ?_)))))))))
    refine ws_seq (ws_if (wt_test (w_op ao_eqW (w_var rfl (w_int (feqW rfl rfl (by simp [PyData.depth]) (exb (iteN rfl (ws_next ?_)))))))))
    refine ws_seq (ws_if (wt_test (w_op ao_eqW (w_var rfl (w_int (feqW rfl rfl (by simp [PyData.depth]) (exb (iteN rfl (ws_next ?_)))))))))
    refine ws_seq (ws_if (wt_test (w_op ao_eqW (w_var rfl (w_int (feqW rfl rfl (by simp [PyData.depth]) (exb (iteN rfl (ws_next ?_)))))))))
    refine ws_seq (ws_if (wt_test (w_op ao_eqW (w_var rfl (w_int (feqW rfl rfl (by simp [PyData.depth]) (exb (iteN rfl (ws_next ?_)))))))))
    refine ws_seq (ws_if (wt_test (w_op ao_eqW (w_var rfl (w_int (feqW rfl rfl (by simp [PyData.depth]) (exb (iteN rfl (ws_next ?_)))))))))
    refine ws_seq (ws_if (wt_test (w_op ao_eqW (w_var rfl (w_int (feqW rfl rfl (by simp [PyData.depth]) (exb (iteK rfl (ws_ret ?_)))))))))
    exact w_lst (wa_cons (w_ox rfl X.x_BadRow.xf (X.x_BadRow.no "at" (by simp)) rfl (wa_nil ⟨[d1], rfl, by simp, fin _ rfl⟩)))
  · refine ws_seq (ws_if (wt_test (w_op ao_eqW (w_var rfl (w_int (feqW rfl rfl (by simp [PyData.depth]) (exb (iteN rfl (ws_next ?_)))))))))
    refine ws_seq (ws_if (wt_test (w_op ao_eqW (w_var rfl (w_int (feqW rfl rfl (by simp [PyData.depth]) (exb (iteN rfl (ws_next ?_)))))))))
    refine ws_seq (ws_if (wt_test (w_op ao_eqW (w_var rfl (w_int (feqW rfl rfl (by simp [PyData.depth]) (exb (iteN rfl (ws_next ?_)))))))))
    refine ws_seq (ws_if (wt_test (w_op ao_eqW (w_var rfl (w_int (feqW rfl rfl (by simp [PyData.depth]) (exb (iteN rfl (ws_next ?_)))))))))
    refine ws_seq (ws_if (wt_test (w_op ao_eqW (w_var rfl (w_int (feqW rfl rfl (by simp [PyData.depth]) (exb (iteN rfl (ws_next ?_)))))))))
    refine ws_seq (ws_if (wt_test (w_op ao_eqW (w_var rfl (w_int (feqW rfl rfl (by simp [PyData.depth]) (exb (iteN rfl (ws_next ?_)))))))))
    refine ws_seq (ws_if (wt_test (w_op ao_eqW (w_var rfl (w_int (feqW rfl rfl (by simp [PyData.depth]) (exb (iteN rfl (ws_next ?_)))))))))
    refine ws_seq (ws_if (wt_test (w_op ao_eqW (w_var rfl (w_int (feqW rfl rfl (by simp [PyData.depth]) (exb (iteN rfl (ws_next ?_)))))))))
    refine ws_seq (ws_if (wt_test (w_op ao_eqW (w_var rfl (w_int (feqW rfl rfl (by simp [PyData.depth]) (exb (iteN rfl (ws_next ?_)))))))))
    refine ws_seq (ws_if (wt_test (w_op ao_eqW (w_var rfl (w_int (feqW rfl rfl (by simp [PyData.depth]) (exb (iteN rfl (ws_next ?_)))))))))
    refine ws_seq (ws_if (wt_test (w_op ao_eqW (w_var rfl (w_int (feqW rfl rfl (by simp [PyData.depth]) (exb (iteN rfl (ws_next ?_)))))))))
    refine ws_seq (ws_if (wt_test (w_op ao_eqW (w_var rfl (w_int (feqW rfl rfl (by simp [PyData.depth]) (exb (iteN rfl (ws_next ?_)))))))))
    refine ws_seq (ws_if (wt_test (w_op ao_eqW (w_var rfl (w_int (feqW rfl rfl (by simp [PyData.depth]) (exb (iteN rfl (ws_next ?_)))))))))
    refine ws_seq (ws_if (wt_test (w_op ao_eqW (w_var rfl (w_int (feqW rfl rfl (by simp [PyData.depth]) (exb (iteN rfl (ws_next ?_)))))))))
    refine ws_seq (ws_if (wt_test (w_op ao_eqW (w_var rfl (w_int (feqW rfl rfl (by simp [PyData.depth]) (exb (iteN rfl (ws_next ?_)))))))))
    refine ws_seq (ws_if (wt_test (w_op ao_eqW (w_var rfl (w_int (feqW rfl rfl (by simp [PyData.depth]) (exb (iteN rfl (ws_next ?_)))))))))
    refine ws_seq (ws_if (wt_test (w_op ao_eqW (w_var rfl (w_int (feqW rfl rfl (by simp [PyData.depth]) (exb (iteN rfl (ws_next ?_)))))))))
    exact ws_ret (w_lst (wa_nil ⟨[], rfl, by simp, fin _ rfl⟩))
  · refine ws_seq (ws_if (wt_test (w_op ao_eqW (w_var rfl (w_int (feqW rfl rfl (by simp [PyData.depth]) (exb (iteN rfl (ws_next ?_)))))))))
    refine ws_seq (ws_if (wt_test (w_op ao_eqW (w_var rfl (w_int (feqW rfl rfl (by simp [PyData.depth]) (exb (iteN rfl (ws_next ?_)))))))))
    refine ws_seq (ws_if (wt_test (w_op ao_eqW (w_var rfl (w_int (feqW rfl rfl (by simp [PyData.depth]) (exb (iteN rfl (ws_next ?_)))))))))
    refine ws_seq (ws_if (wt_test (w_op ao_eqW (w_var rfl (w_int (feqW rfl rfl (by simp [PyData.depth]) (exb (iteN rfl (ws_next ?_)))))))))
    refine ws_seq (ws_if (wt_test (w_op ao_eqW (w_var rfl (w_int (feqW rfl rfl (by simp [PyData.depth]) (exb (iteN rfl (ws_next ?_)))))))))
    refine ws_seq (ws_if (wt_test (w_op ao_eqW (w_var rfl (w_int (feqW rfl rfl (by simp [PyData.depth]) (exb (iteN rfl (ws_next ?_)))))))))
    refine ws_seq (ws_if (wt_test (w_op ao_eqW (w_var rfl (w_int (feqW rfl rfl (by simp [PyData.depth]) (exb (iteN rfl (ws_next ?_)))))))))
    refine ws_seq (ws_if (wt_test (w_op ao_eqW (w_var rfl (w_int (feqW rfl rfl (by simp [PyData.depth]) (exb (iteN rfl (ws_next ?_)))))))))
    refine ws_seq (ws_if (wt_test (w_op ao_eqW (w_var rfl (w_int (feqW rfl rfl (by simp [PyData.depth]) (exb (iteK rfl (ws_ret ?_)))))))))
    exact w_lst (wa_cons (w_ox rfl X.x_BadText.xf (X.x_BadText.no "place" (by simp)) rfl (wa_nil ⟨[d1], rfl, by simp, fin _ rfl⟩)))
  · refine ws_seq (ws_if (wt_test (w_op ao_eqW (w_var rfl (w_int (feqW rfl rfl (by simp [PyData.depth]) (exb (iteN rfl (ws_next ?_)))))))))
    refine ws_seq (ws_if (wt_test (w_op ao_eqW (w_var rfl (w_int (feqW rfl rfl (by simp [PyData.depth]) (exb (iteN rfl (ws_next ?_)))))))))
    refine ws_seq (ws_if (wt_test (w_op ao_eqW (w_var rfl (w_int (feqW rfl rfl (by simp [PyData.depth]) (exb (iteN rfl (ws_next ?_)))))))))
    refine ws_seq (ws_if (wt_test (w_op ao_eqW (w_var rfl (w_int (feqW rfl rfl (by simp [PyData.depth]) (exb (iteN rfl (ws_next ?_)))))))))
    refine ws_seq (ws_if (wt_test (w_op ao_eqW (w_var rfl (w_int (feqW rfl rfl (by simp [PyData.depth]) (exb (iteN rfl (ws_next ?_)))))))))
    refine ws_seq (ws_if (wt_test (w_op ao_eqW (w_var rfl (w_int (feqW rfl rfl (by simp [PyData.depth]) (exb (iteN rfl (ws_next ?_)))))))))
    refine ws_seq (ws_if (wt_test (w_op ao_eqW (w_var rfl (w_int (feqW rfl rfl (by simp [PyData.depth]) (exb (iteN rfl (ws_next ?_)))))))))
    refine ws_seq (ws_if (wt_test (w_op ao_eqW (w_var rfl (w_int (feqW rfl rfl (by simp [PyData.depth]) (exb (iteN rfl (ws_next ?_)))))))))
    refine ws_seq (ws_if (wt_test (w_op ao_eqW (w_var rfl (w_int (feqW rfl rfl (by simp [PyData.depth]) (exb (iteN rfl (ws_next ?_)))))))))
    refine ws_seq (ws_if (wt_test (w_op ao_eqW (w_var rfl (w_int (feqW rfl rfl (by simp [PyData.depth]) (exb (iteK rfl (ws_ret ?_)))))))))
    exact w_lst (wa_cons (w_ox rfl X.x_BadForm.xf (X.x_BadForm.no "what" (by simp)) rfl (wa_nil ⟨[d1], rfl, by simp, fin _ rfl⟩)))
  · refine ws_seq (ws_if (wt_test (w_op ao_eqW (w_var rfl (w_int (feqW rfl rfl (by simp [PyData.depth]) (exb (iteN rfl (ws_next ?_)))))))))
    refine ws_seq (ws_if (wt_test (w_op ao_eqW (w_var rfl (w_int (feqW rfl rfl (by simp [PyData.depth]) (exb (iteN rfl (ws_next ?_)))))))))
    refine ws_seq (ws_if (wt_test (w_op ao_eqW (w_var rfl (w_int (feqW rfl rfl (by simp [PyData.depth]) (exb (iteN rfl (ws_next ?_)))))))))
    refine ws_seq (ws_if (wt_test (w_op ao_eqW (w_var rfl (w_int (feqW rfl rfl (by simp [PyData.depth]) (exb (iteN rfl (ws_next ?_)))))))))
    refine ws_seq (ws_if (wt_test (w_op ao_eqW (w_var rfl (w_int (feqW rfl rfl (by simp [PyData.depth]) (exb (iteN rfl (ws_next ?_)))))))))
    refine ws_seq (ws_if (wt_test (w_op ao_eqW (w_var rfl (w_int (feqW rfl rfl (by simp [PyData.depth]) (exb (iteN rfl (ws_next ?_)))))))))
    refine ws_seq (ws_if (wt_test (w_op ao_eqW (w_var rfl (w_int (feqW rfl rfl (by simp [PyData.depth]) (exb (iteN rfl (ws_next ?_)))))))))
    refine ws_seq (ws_if (wt_test (w_op ao_eqW (w_var rfl (w_int (feqW rfl rfl (by simp [PyData.depth]) (exb (iteN rfl (ws_next ?_)))))))))
    refine ws_seq (ws_if (wt_test (w_op ao_eqW (w_var rfl (w_int (feqW rfl rfl (by simp [PyData.depth]) (exb (iteN rfl (ws_next ?_)))))))))
    refine ws_seq (ws_if (wt_test (w_op ao_eqW (w_var rfl (w_int (feqW rfl rfl (by simp [PyData.depth]) (exb (iteN rfl (ws_next ?_)))))))))
    refine ws_seq (ws_if (wt_test (w_op ao_eqW (w_var rfl (w_int (feqW rfl rfl (by simp [PyData.depth]) (exb (iteK rfl (ws_ret ?_)))))))))
    exact w_lst (wa_cons (w_ox rfl X.x_BadChoices.xf (X.x_BadChoices.no "number" (by simp)) rfl (wa_nil ⟨[d1], rfl, by simp, fin _ rfl⟩)))
  · refine ws_seq (ws_if (wt_test (w_op ao_eqW (w_var rfl (w_int (feqW rfl rfl (by simp [PyData.depth]) (exb (iteN rfl (ws_next ?_)))))))))
    refine ws_seq (ws_if (wt_test (w_op ao_eqW (w_var rfl (w_int (feqW rfl rfl (by simp [PyData.depth]) (exb (iteN rfl (ws_next ?_)))))))))
    refine ws_seq (ws_if (wt_test (w_op ao_eqW (w_var rfl (w_int (feqW rfl rfl (by simp [PyData.depth]) (exb (iteN rfl (ws_next ?_)))))))))
    refine ws_seq (ws_if (wt_test (w_op ao_eqW (w_var rfl (w_int (feqW rfl rfl (by simp [PyData.depth]) (exb (iteN rfl (ws_next ?_)))))))))
    refine ws_seq (ws_if (wt_test (w_op ao_eqW (w_var rfl (w_int (feqW rfl rfl (by simp [PyData.depth]) (exb (iteN rfl (ws_next ?_)))))))))
    refine ws_seq (ws_if (wt_test (w_op ao_eqW (w_var rfl (w_int (feqW rfl rfl (by simp [PyData.depth]) (exb (iteN rfl (ws_next ?_)))))))))
    refine ws_seq (ws_if (wt_test (w_op ao_eqW (w_var rfl (w_int (feqW rfl rfl (by simp [PyData.depth]) (exb (iteN rfl (ws_next ?_)))))))))
    refine ws_seq (ws_if (wt_test (w_op ao_eqW (w_var rfl (w_int (feqW rfl rfl (by simp [PyData.depth]) (exb (iteN rfl (ws_next ?_)))))))))
    refine ws_seq (ws_if (wt_test (w_op ao_eqW (w_var rfl (w_int (feqW rfl rfl (by simp [PyData.depth]) (exb (iteN rfl (ws_next ?_)))))))))
    refine ws_seq (ws_if (wt_test (w_op ao_eqW (w_var rfl (w_int (feqW rfl rfl (by simp [PyData.depth]) (exb (iteN rfl (ws_next ?_)))))))))
    refine ws_seq (ws_if (wt_test (w_op ao_eqW (w_var rfl (w_int (feqW rfl rfl (by simp [PyData.depth]) (exb (iteN rfl (ws_next ?_)))))))))
    refine ws_seq (ws_if (wt_test (w_op ao_eqW (w_var rfl (w_int (feqW rfl rfl (by simp [PyData.depth]) (exb (iteK rfl (ws_ret ?_)))))))))
    exact w_lst (wa_cons (w_ox rfl X.x_BadProgram.xf (X.x_BadProgram.no "what" (by simp)) rfl (wa_nil ⟨[d1], rfl, by simp, fin _ rfl⟩)))
  · refine ws_seq (ws_if (wt_test (w_op ao_eqW (w_var rfl (w_int (feqW rfl rfl (by simp [PyData.depth]) (exb (iteN rfl (ws_next ?_)))))))))
    refine ws_seq (ws_if (wt_test (w_op ao_eqW (w_var rfl (w_int (feqW rfl rfl (by simp [PyData.depth]) (exb (iteN rfl (ws_next ?_)))))))))
    refine ws_seq (ws_if (wt_test (w_op ao_eqW (w_var rfl (w_int (feqW rfl rfl (by simp [PyData.depth]) (exb (iteN rfl (ws_next ?_)))))))))
    refine ws_seq (ws_if (wt_test (w_op ao_eqW (w_var rfl (w_int (feqW rfl rfl (by simp [PyData.depth]) (exb (iteN rfl (ws_next ?_)))))))))
    refine ws_seq (ws_if (wt_test (w_op ao_eqW (w_var rfl (w_int (feqW rfl rfl (by simp [PyData.depth]) (exb (iteN rfl (ws_next ?_)))))))))
    refine ws_seq (ws_if (wt_test (w_op ao_eqW (w_var rfl (w_int (feqW rfl rfl (by simp [PyData.depth]) (exb (iteN rfl (ws_next ?_)))))))))
    refine ws_seq (ws_if (wt_test (w_op ao_eqW (w_var rfl (w_int (feqW rfl rfl (by simp [PyData.depth]) (exb (iteN rfl (ws_next ?_)))))))))
    refine ws_seq (ws_if (wt_test (w_op ao_eqW (w_var rfl (w_int (feqW rfl rfl (by simp [PyData.depth]) (exb (iteN rfl (ws_next ?_)))))))))
    refine ws_seq (ws_if (wt_test (w_op ao_eqW (w_var rfl (w_int (feqW rfl rfl (by simp [PyData.depth]) (exb (iteN rfl (ws_next ?_)))))))))
    refine ws_seq (ws_if (wt_test (w_op ao_eqW (w_var rfl (w_int (feqW rfl rfl (by simp [PyData.depth]) (exb (iteN rfl (ws_next ?_)))))))))
    refine ws_seq (ws_if (wt_test (w_op ao_eqW (w_var rfl (w_int (feqW rfl rfl (by simp [PyData.depth]) (exb (iteN rfl (ws_next ?_)))))))))
    refine ws_seq (ws_if (wt_test (w_op ao_eqW (w_var rfl (w_int (feqW rfl rfl (by simp [PyData.depth]) (exb (iteN rfl (ws_next ?_)))))))))
    refine ws_seq (ws_if (wt_test (w_op ao_eqW (w_var rfl (w_int (feqW rfl rfl (by simp [PyData.depth]) (exb (iteK rfl (ws_ret ?_)))))))))
    exact w_lst (wa_cons (w_ox rfl X.x_Unknown.xf (X.x_Unknown.no "at" (by simp)) rfl (wa_cons (w_ox rfl X.x_Unknown.xf (X.x_Unknown.no "path" (by simp)) rfl (wa_cons (w_ox rfl X.x_Unknown.xf (X.x_Unknown.no "name" (by simp)) rfl (wa_nil ⟨[d1, d2, d3], rfl, by simp, fin _ rfl⟩)))))))
  · refine ws_seq (ws_if (wt_test (w_op ao_eqW (w_var rfl (w_int (feqW rfl rfl (by simp [PyData.depth]) (exb (iteN rfl (ws_next ?_)))))))))
    refine ws_seq (ws_if (wt_test (w_op ao_eqW (w_var rfl (w_int (feqW rfl rfl (by simp [PyData.depth]) (exb (iteN rfl (ws_next ?_)))))))))
    refine ws_seq (ws_if (wt_test (w_op ao_eqW (w_var rfl (w_int (feqW rfl rfl (by simp [PyData.depth]) (exb (iteN rfl (ws_next ?_)))))))))
    refine ws_seq (ws_if (wt_test (w_op ao_eqW (w_var rfl (w_int (feqW rfl rfl (by simp [PyData.depth]) (exb (iteN rfl (ws_next ?_)))))))))
    refine ws_seq (ws_if (wt_test (w_op ao_eqW (w_var rfl (w_int (feqW rfl rfl (by simp [PyData.depth]) (exb (iteN rfl (ws_next ?_)))))))))
    refine ws_seq (ws_if (wt_test (w_op ao_eqW (w_var rfl (w_int (feqW rfl rfl (by simp [PyData.depth]) (exb (iteN rfl (ws_next ?_)))))))))
    refine ws_seq (ws_if (wt_test (w_op ao_eqW (w_var rfl (w_int (feqW rfl rfl (by simp [PyData.depth]) (exb (iteN rfl (ws_next ?_)))))))))
    refine ws_seq (ws_if (wt_test (w_op ao_eqW (w_var rfl (w_int (feqW rfl rfl (by simp [PyData.depth]) (exb (iteN rfl (ws_next ?_)))))))))
    refine ws_seq (ws_if (wt_test (w_op ao_eqW (w_var rfl (w_int (feqW rfl rfl (by simp [PyData.depth]) (exb (iteN rfl (ws_next ?_)))))))))
    refine ws_seq (ws_if (wt_test (w_op ao_eqW (w_var rfl (w_int (feqW rfl rfl (by simp [PyData.depth]) (exb (iteN rfl (ws_next ?_)))))))))
    refine ws_seq (ws_if (wt_test (w_op ao_eqW (w_var rfl (w_int (feqW rfl rfl (by simp [PyData.depth]) (exb (iteN rfl (ws_next ?_)))))))))
    refine ws_seq (ws_if (wt_test (w_op ao_eqW (w_var rfl (w_int (feqW rfl rfl (by simp [PyData.depth]) (exb (iteN rfl (ws_next ?_)))))))))
    refine ws_seq (ws_if (wt_test (w_op ao_eqW (w_var rfl (w_int (feqW rfl rfl (by simp [PyData.depth]) (exb (iteN rfl (ws_next ?_)))))))))
    refine ws_seq (ws_if (wt_test (w_op ao_eqW (w_var rfl (w_int (feqW rfl rfl (by simp [PyData.depth]) (exb (iteK rfl (ws_ret ?_)))))))))
    exact w_lst (wa_cons (w_ox rfl X.x_Misfit.xf (X.x_Misfit.no "at" (by simp)) rfl (wa_cons (w_ox rfl X.x_Misfit.xf (X.x_Misfit.no "path" (by simp)) rfl (wa_nil ⟨[d1, d2], rfl, by simp, fin _ rfl⟩)))))
  · refine ws_seq (ws_if (wt_test (w_op ao_eqW (w_var rfl (w_int (feqW rfl rfl (by simp [PyData.depth]) (exb (iteN rfl (ws_next ?_)))))))))
    refine ws_seq (ws_if (wt_test (w_op ao_eqW (w_var rfl (w_int (feqW rfl rfl (by simp [PyData.depth]) (exb (iteN rfl (ws_next ?_)))))))))
    refine ws_seq (ws_if (wt_test (w_op ao_eqW (w_var rfl (w_int (feqW rfl rfl (by simp [PyData.depth]) (exb (iteN rfl (ws_next ?_)))))))))
    refine ws_seq (ws_if (wt_test (w_op ao_eqW (w_var rfl (w_int (feqW rfl rfl (by simp [PyData.depth]) (exb (iteN rfl (ws_next ?_)))))))))
    refine ws_seq (ws_if (wt_test (w_op ao_eqW (w_var rfl (w_int (feqW rfl rfl (by simp [PyData.depth]) (exb (iteN rfl (ws_next ?_)))))))))
    refine ws_seq (ws_if (wt_test (w_op ao_eqW (w_var rfl (w_int (feqW rfl rfl (by simp [PyData.depth]) (exb (iteN rfl (ws_next ?_)))))))))
    refine ws_seq (ws_if (wt_test (w_op ao_eqW (w_var rfl (w_int (feqW rfl rfl (by simp [PyData.depth]) (exb (iteN rfl (ws_next ?_)))))))))
    refine ws_seq (ws_if (wt_test (w_op ao_eqW (w_var rfl (w_int (feqW rfl rfl (by simp [PyData.depth]) (exb (iteN rfl (ws_next ?_)))))))))
    refine ws_seq (ws_if (wt_test (w_op ao_eqW (w_var rfl (w_int (feqW rfl rfl (by simp [PyData.depth]) (exb (iteN rfl (ws_next ?_)))))))))
    refine ws_seq (ws_if (wt_test (w_op ao_eqW (w_var rfl (w_int (feqW rfl rfl (by simp [PyData.depth]) (exb (iteN rfl (ws_next ?_)))))))))
    refine ws_seq (ws_if (wt_test (w_op ao_eqW (w_var rfl (w_int (feqW rfl rfl (by simp [PyData.depth]) (exb (iteN rfl (ws_next ?_)))))))))
    refine ws_seq (ws_if (wt_test (w_op ao_eqW (w_var rfl (w_int (feqW rfl rfl (by simp [PyData.depth]) (exb (iteN rfl (ws_next ?_)))))))))
    refine ws_seq (ws_if (wt_test (w_op ao_eqW (w_var rfl (w_int (feqW rfl rfl (by simp [PyData.depth]) (exb (iteN rfl (ws_next ?_)))))))))
    refine ws_seq (ws_if (wt_test (w_op ao_eqW (w_var rfl (w_int (feqW rfl rfl (by simp [PyData.depth]) (exb (iteN rfl (ws_next ?_)))))))))
    refine ws_seq (ws_if (wt_test (w_op ao_eqW (w_var rfl (w_int (feqW rfl rfl (by simp [PyData.depth]) (exb (iteK rfl (ws_ret ?_)))))))))
    exact w_lst (wa_cons (w_ox rfl X.x_Unclear.xf (X.x_Unclear.no "at" (by simp)) rfl (wa_cons (w_ox rfl X.x_Unclear.xf (X.x_Unclear.no "path" (by simp)) rfl (wa_nil ⟨[d1, d2], rfl, by simp, fin _ rfl⟩)))))
  · refine ws_seq (ws_if (wt_test (w_op ao_eqW (w_var rfl (w_int (feqW rfl rfl (by simp [PyData.depth]) (exb (iteN rfl (ws_next ?_)))))))))
    refine ws_seq (ws_if (wt_test (w_op ao_eqW (w_var rfl (w_int (feqW rfl rfl (by simp [PyData.depth]) (exb (iteN rfl (ws_next ?_)))))))))
    refine ws_seq (ws_if (wt_test (w_op ao_eqW (w_var rfl (w_int (feqW rfl rfl (by simp [PyData.depth]) (exb (iteN rfl (ws_next ?_)))))))))
    refine ws_seq (ws_if (wt_test (w_op ao_eqW (w_var rfl (w_int (feqW rfl rfl (by simp [PyData.depth]) (exb (iteN rfl (ws_next ?_)))))))))
    refine ws_seq (ws_if (wt_test (w_op ao_eqW (w_var rfl (w_int (feqW rfl rfl (by simp [PyData.depth]) (exb (iteN rfl (ws_next ?_)))))))))
    refine ws_seq (ws_if (wt_test (w_op ao_eqW (w_var rfl (w_int (feqW rfl rfl (by simp [PyData.depth]) (exb (iteN rfl (ws_next ?_)))))))))
    refine ws_seq (ws_if (wt_test (w_op ao_eqW (w_var rfl (w_int (feqW rfl rfl (by simp [PyData.depth]) (exb (iteN rfl (ws_next ?_)))))))))
    refine ws_seq (ws_if (wt_test (w_op ao_eqW (w_var rfl (w_int (feqW rfl rfl (by simp [PyData.depth]) (exb (iteN rfl (ws_next ?_)))))))))
    refine ws_seq (ws_if (wt_test (w_op ao_eqW (w_var rfl (w_int (feqW rfl rfl (by simp [PyData.depth]) (exb (iteN rfl (ws_next ?_)))))))))
    refine ws_seq (ws_if (wt_test (w_op ao_eqW (w_var rfl (w_int (feqW rfl rfl (by simp [PyData.depth]) (exb (iteN rfl (ws_next ?_)))))))))
    refine ws_seq (ws_if (wt_test (w_op ao_eqW (w_var rfl (w_int (feqW rfl rfl (by simp [PyData.depth]) (exb (iteN rfl (ws_next ?_)))))))))
    refine ws_seq (ws_if (wt_test (w_op ao_eqW (w_var rfl (w_int (feqW rfl rfl (by simp [PyData.depth]) (exb (iteN rfl (ws_next ?_)))))))))
    refine ws_seq (ws_if (wt_test (w_op ao_eqW (w_var rfl (w_int (feqW rfl rfl (by simp [PyData.depth]) (exb (iteN rfl (ws_next ?_)))))))))
    refine ws_seq (ws_if (wt_test (w_op ao_eqW (w_var rfl (w_int (feqW rfl rfl (by simp [PyData.depth]) (exb (iteN rfl (ws_next ?_)))))))))
    refine ws_seq (ws_if (wt_test (w_op ao_eqW (w_var rfl (w_int (feqW rfl rfl (by simp [PyData.depth]) (exb (iteN rfl (ws_next ?_)))))))))
    refine ws_seq (ws_if (wt_test (w_op ao_eqW (w_var rfl (w_int (feqW rfl rfl (by simp [PyData.depth]) (exb (iteN rfl (ws_next ?_)))))))))
    refine ws_seq (ws_if (wt_test (w_op ao_eqW (w_var rfl (w_int (feqW rfl rfl (by simp [PyData.depth]) (exb (iteN rfl (ws_next ?_)))))))))
    exact ws_ret (w_lst (wa_nil ⟨[], rfl, by simp, fin _ rfl⟩))
  · refine ws_seq (ws_if (wt_test (w_op ao_eqW (w_var rfl (w_int (feqW rfl rfl (by simp [PyData.depth]) (exb (iteN rfl (ws_next ?_)))))))))
    refine ws_seq (ws_if (wt_test (w_op ao_eqW (w_var rfl (w_int (feqW rfl rfl (by simp [PyData.depth]) (exb (iteN rfl (ws_next ?_)))))))))
    refine ws_seq (ws_if (wt_test (w_op ao_eqW (w_var rfl (w_int (feqW rfl rfl (by simp [PyData.depth]) (exb (iteN rfl (ws_next ?_)))))))))
    refine ws_seq (ws_if (wt_test (w_op ao_eqW (w_var rfl (w_int (feqW rfl rfl (by simp [PyData.depth]) (exb (iteN rfl (ws_next ?_)))))))))
    refine ws_seq (ws_if (wt_test (w_op ao_eqW (w_var rfl (w_int (feqW rfl rfl (by simp [PyData.depth]) (exb (iteN rfl (ws_next ?_)))))))))
    refine ws_seq (ws_if (wt_test (w_op ao_eqW (w_var rfl (w_int (feqW rfl rfl (by simp [PyData.depth]) (exb (iteN rfl (ws_next ?_)))))))))
    refine ws_seq (ws_if (wt_test (w_op ao_eqW (w_var rfl (w_int (feqW rfl rfl (by simp [PyData.depth]) (exb (iteN rfl (ws_next ?_)))))))))
    refine ws_seq (ws_if (wt_test (w_op ao_eqW (w_var rfl (w_int (feqW rfl rfl (by simp [PyData.depth]) (exb (iteN rfl (ws_next ?_)))))))))
    refine ws_seq (ws_if (wt_test (w_op ao_eqW (w_var rfl (w_int (feqW rfl rfl (by simp [PyData.depth]) (exb (iteN rfl (ws_next ?_)))))))))
    refine ws_seq (ws_if (wt_test (w_op ao_eqW (w_var rfl (w_int (feqW rfl rfl (by simp [PyData.depth]) (exb (iteN rfl (ws_next ?_)))))))))
    refine ws_seq (ws_if (wt_test (w_op ao_eqW (w_var rfl (w_int (feqW rfl rfl (by simp [PyData.depth]) (exb (iteN rfl (ws_next ?_)))))))))
    refine ws_seq (ws_if (wt_test (w_op ao_eqW (w_var rfl (w_int (feqW rfl rfl (by simp [PyData.depth]) (exb (iteN rfl (ws_next ?_)))))))))
    refine ws_seq (ws_if (wt_test (w_op ao_eqW (w_var rfl (w_int (feqW rfl rfl (by simp [PyData.depth]) (exb (iteN rfl (ws_next ?_)))))))))
    refine ws_seq (ws_if (wt_test (w_op ao_eqW (w_var rfl (w_int (feqW rfl rfl (by simp [PyData.depth]) (exb (iteN rfl (ws_next ?_)))))))))
    refine ws_seq (ws_if (wt_test (w_op ao_eqW (w_var rfl (w_int (feqW rfl rfl (by simp [PyData.depth]) (exb (iteN rfl (ws_next ?_)))))))))
    refine ws_seq (ws_if (wt_test (w_op ao_eqW (w_var rfl (w_int (feqW rfl rfl (by simp [PyData.depth]) (exb (iteK rfl (ws_ret ?_)))))))))
    exact w_lst (wa_cons (w_ox rfl X.x_BadChain.xf (X.x_BadChain.no "at" (by simp)) rfl (wa_cons (w_ox rfl X.x_BadChain.xf (X.x_BadChain.no "word" (by simp)) rfl (wa_nil ⟨[d1, d2], rfl, by simp, fin _ rfl⟩)))))
  · refine ws_seq (ws_if (wt_test (w_op ao_eqW (w_var rfl (w_int (feqW rfl rfl (by simp [PyData.depth]) (exb (iteN rfl (ws_next ?_)))))))))
    refine ws_seq (ws_if (wt_test (w_op ao_eqW (w_var rfl (w_int (feqW rfl rfl (by simp [PyData.depth]) (exb (iteN rfl (ws_next ?_)))))))))
    refine ws_seq (ws_if (wt_test (w_op ao_eqW (w_var rfl (w_int (feqW rfl rfl (by simp [PyData.depth]) (exb (iteN rfl (ws_next ?_)))))))))
    refine ws_seq (ws_if (wt_test (w_op ao_eqW (w_var rfl (w_int (feqW rfl rfl (by simp [PyData.depth]) (exb (iteN rfl (ws_next ?_)))))))))
    refine ws_seq (ws_if (wt_test (w_op ao_eqW (w_var rfl (w_int (feqW rfl rfl (by simp [PyData.depth]) (exb (iteN rfl (ws_next ?_)))))))))
    refine ws_seq (ws_if (wt_test (w_op ao_eqW (w_var rfl (w_int (feqW rfl rfl (by simp [PyData.depth]) (exb (iteN rfl (ws_next ?_)))))))))
    refine ws_seq (ws_if (wt_test (w_op ao_eqW (w_var rfl (w_int (feqW rfl rfl (by simp [PyData.depth]) (exb (iteN rfl (ws_next ?_)))))))))
    refine ws_seq (ws_if (wt_test (w_op ao_eqW (w_var rfl (w_int (feqW rfl rfl (by simp [PyData.depth]) (exb (iteN rfl (ws_next ?_)))))))))
    refine ws_seq (ws_if (wt_test (w_op ao_eqW (w_var rfl (w_int (feqW rfl rfl (by simp [PyData.depth]) (exb (iteN rfl (ws_next ?_)))))))))
    refine ws_seq (ws_if (wt_test (w_op ao_eqW (w_var rfl (w_int (feqW rfl rfl (by simp [PyData.depth]) (exb (iteN rfl (ws_next ?_)))))))))
    refine ws_seq (ws_if (wt_test (w_op ao_eqW (w_var rfl (w_int (feqW rfl rfl (by simp [PyData.depth]) (exb (iteN rfl (ws_next ?_)))))))))
    refine ws_seq (ws_if (wt_test (w_op ao_eqW (w_var rfl (w_int (feqW rfl rfl (by simp [PyData.depth]) (exb (iteN rfl (ws_next ?_)))))))))
    refine ws_seq (ws_if (wt_test (w_op ao_eqW (w_var rfl (w_int (feqW rfl rfl (by simp [PyData.depth]) (exb (iteN rfl (ws_next ?_)))))))))
    refine ws_seq (ws_if (wt_test (w_op ao_eqW (w_var rfl (w_int (feqW rfl rfl (by simp [PyData.depth]) (exb (iteN rfl (ws_next ?_)))))))))
    refine ws_seq (ws_if (wt_test (w_op ao_eqW (w_var rfl (w_int (feqW rfl rfl (by simp [PyData.depth]) (exb (iteN rfl (ws_next ?_)))))))))
    refine ws_seq (ws_if (wt_test (w_op ao_eqW (w_var rfl (w_int (feqW rfl rfl (by simp [PyData.depth]) (exb (iteN rfl (ws_next ?_)))))))))
    refine ws_seq (ws_if (wt_test (w_op ao_eqW (w_var rfl (w_int (feqW rfl rfl (by simp [PyData.depth]) (exb (iteK rfl (ws_ret ?_)))))))))
    exact w_lst (wa_cons (w_ox rfl X.x_BadCell.xf (X.x_BadCell.no "cell" (by simp)) rfl (wa_nil ⟨[d1], rfl, by simp, fin _ rfl⟩)))
end
section
variable {P : Program} {w : World} {K : PySem.W.Frag} {mg : Str → Option Value} {base : Heap} {cs : Nat → Addr} {A : Addr} (T : Txt K mg) (X : XS K mg cs A)
include T X in
theorem ok_law_later_attributes (F : Dfn K mg "_law_later_attributes" s_law_later_attributes ["_law_turn", "_law_error"]) : Cal P w K mg base 1 "_law_later_attributes" ["_law_turn", "_law_error"] (spAtt 20 cs K) := by
  have hn : ∀ ss, preAtt 20 cs ss → ss.length = 2 := by rintro ss ⟨t, a, d1, d2, d3, rfl, _⟩; rfl
  refine F.ok sc_law_later_attributes (fun vs H Q E h => spS_len hn h) (fun f cdv A outer s H vs Q E hr h => ⟨_, (pss_cons (ps_if (pt_cmpR (k_eqW (K := K) rfl hr) (pv 0) pe_int (nomark _)) (pss_one (ps_ret (pe_lst (pa_cons (k_ox (K := K) rfl (pv 1)) (pa_cons (k_ox (K := K) rfl (pv 1)) (pa_cons (k_ox (K := K) rfl (pv 1)) pa_nil)))))) pss_nil)
      (pss_cons (ps_if (pt_cmpR (k_eqW (K := K) rfl hr) (pv 0) pe_int (nomark _)) (pss_one (ps_ret (pe_lst (pa_cons (k_ox (K := K) rfl (pv 1)) pa_nil)))) pss_nil)
      (pss_cons (ps_if (pt_cmpR (k_eqW (K := K) rfl hr) (pv 0) pe_int (nomark _)) (pss_one (ps_ret (pe_lst (pa_cons (k_ox (K := K) rfl (pv 1)) pa_nil)))) pss_nil)
      (pss_cons (ps_if (pt_cmpR (k_eqW (K := K) rfl hr) (pv 0) pe_int (nomark _)) (pss_one (ps_ret (pe_lst (pa_cons (k_ox (K := K) rfl (pv 1)) (pa_cons (k_ox (K := K) rfl (pv 1)) pa_nil))))) pss_nil)
      (pss_cons (ps_if (pt_cmpR (k_eqW (K := K) rfl hr) (pv 0) pe_int (nomark _)) (pss_one (ps_ret (pe_lst (pa_cons (k_ox (K := K) rfl (pv 1)) (pa_cons (k_ox (K := K) rfl (pv 1)) (pa_cons (k_ox (K := K) rfl (pv 1)) pa_nil)))))) pss_nil)
      (pss_cons (ps_if (pt_cmpR (k_eqW (K := K) rfl hr) (pv 0) pe_int (nomark _)) (pss_one (ps_ret (pe_lst (pa_cons (k_ox (K := K) rfl (pv 1)) (pa_cons (k_ox (K := K) rfl (pv 1)) (pa_cons (k_ox (K := K) rfl (pv 1)) pa_nil)))))) pss_nil)
      (pss_cons (ps_if (pt_cmpR (k_eqW (K := K) rfl hr) (pv 0) pe_int (nomark _)) (pss_one (ps_ret (pe_lst (pa_cons (k_ox (K := K) rfl (pv 1)) pa_nil)))) pss_nil)
      (pss_cons (ps_if (pt_cmpR (k_eqW (K := K) rfl hr) (pv 0) pe_int (nomark _)) (pss_one (ps_ret (pe_lst (pa_cons (k_ox (K := K) rfl (pv 1)) (pa_cons (k_ox (K := K) rfl (pv 1)) pa_nil))))) pss_nil)
      (pss_cons (ps_if (pt_cmpR (k_eqW (K := K) rfl hr) (pv 0) pe_int (nomark _)) (pss_one (ps_ret (pe_lst (pa_cons (k_ox (K := K) rfl (pv 1)) (pa_cons (k_ox (K := K) rfl (pv 1)) pa_nil))))) pss_nil)
      (pss_cons (ps_if (pt_cmpR (k_eqW (K := K) rfl hr) (pv 0) pe_int (nomark _)) (pss_one (ps_ret (pe_lst (pa_cons (k_ox (K := K) rfl (pv 1)) (pa_cons (k_ox (K := K) rfl (pv 1)) (pa_cons (k_ox (K := K) rfl (pv 1)) pa_nil)))))) pss_nil)
      (pss_cons (ps_if (pt_cmpR (k_eqW (K := K) rfl hr) (pv 0) pe_int (nomark _)) (pss_one (ps_ret (pe_lst (pa_cons (k_ox (K := K) rfl (pv 1)) (pa_cons (k_ox (K := K) rfl (pv 1)) pa_nil))))) pss_nil)
      (pss_cons (ps_if (pt_cmpR (k_eqW (K := K) rfl hr) (pv 0) pe_int (nomark _)) (pss_one (ps_ret (pe_lst (pa_cons (k_ox (K := K) rfl (pv 1)) (pa_cons (k_ox (K := K) rfl (pv 1)) pa_nil))))) pss_nil)
      (pss_cons (ps_if (pt_cmpR (k_eqW (K := K) rfl hr) (pv 0) pe_int (nomark _)) (pss_one (ps_ret (pe_lst (pa_cons (k_ox (K := K) rfl (pv 1)) pa_nil)))) pss_nil)
      (pss_cons (ps_if (pt_cmpR (k_eqW (K := K) rfl hr) (pv 0) pe_int (nomark _)) (pss_one (ps_ret (pe_lst (pa_cons (k_ox (K := K) rfl (pv 1)) pa_nil)))) pss_nil)
      (pss_cons (ps_if (pt_cmpR (k_eqW (K := K) rfl hr) (pv 0) pe_int (nomark _)) (pss_one (ps_ret (pe_lst (pa_cons (k_ox (K := K) rfl (pv 1)) pa_nil)))) pss_nil)
      (pss_cons (ps_if (pt_cmpR (k_eqW (K := K) rfl hr) (pv 0) pe_int (nomark _)) (pss_one (ps_ret (pe_lst (pa_cons (k_ox (K := K) rfl (pv 1)) pa_nil)))) pss_nil)
      (pss_cons (ps_if (pt_cmpR (k_eqW (K := K) rfl hr) (pv 0) pe_int (nomark _)) (pss_one (ps_ret (pe_lst (pa_cons (k_ox (K := K) rfl (pv 1)) pa_nil)))) pss_nil)
      (pss_one (ps_ret (pe_lst pa_nil)))))))))))))))))))), to_spS hn (fun ss hp => ?_) h⟩)
  obtain ⟨t, a, d1, d2, d3, rfl, h1, h2⟩ := hp
  change WS K _ [.dat (.int (t : Int)), .obj a (cs t) ((fldT.getD t []).zip [d1, d2, d3]).reverse] [] _
  have fin : ∀ x, x = PyData.list ((((fldT.getD t []).zip [d1, d2, d3]).reverse).map (·.2)).reverse → postAtt [.dat (.int (t : Int)), .obj a (cs t) ((fldT.getD t []).zip [d1, d2, d3]).reverse] x := fun x e t' a' C' fs' h => by
    simp only [List.cons.injEq, Sv.obj.injEq] at h
    rw [e, h.2.1.2.2]
  rcases (show t = 20 ∨ t = 21 ∨ t = 22 ∨ t = 23 ∨ t = 24 ∨ t = 25 ∨ t = 26 ∨ t = 27 ∨ t = 28 ∨ t = 29 ∨ t = 30 ∨ t = 31 ∨ t = 32 ∨ t = 33 ∨ t = 34 ∨ t = 35 ∨ t = 36 ∨ t = 37 ∨ t = 38 ∨ t = 39 by omega) with rfl | rfl | rfl | rfl | rfl | rfl | rfl | rfl | rfl | rfl | rfl | rfl | rfl | rfl | rfl | rfl | rfl | rfl | rfl | rfl
  · refine ws_seq (ws_if (wt_test (w_op ao_eqW (w_var rfl (w_int (feqW rfl rfl (by simp [PyData.depth]) (exb (iteN rfl (ws_next ?_)))))))))
    refine ws_seq (ws_if (wt_test (w_op ao_eqW (w_var rfl (w_int (feqW rfl rfl (by simp [PyData.depth]) (exb (iteN rfl (ws_next ?_)))))))))
    refine ws_seq (ws_if (wt_test (w_op ao_eqW (w_var rfl (w_int (feqW rfl rfl (by simp [PyData.depth]) (exb (iteN rfl (ws_next ?_)))))))))
    refine ws_seq (ws_if (wt_test (w_op ao_eqW (w_var rfl (w_int (feqW rfl rfl (by simp [PyData.depth]) (exb (iteN rfl (ws_next ?_)))))))))
    refine ws_seq (ws_if (wt_test (w_op ao_eqW (w_var rfl (w_int (feqW rfl rfl (by simp [PyData.depth]) (exb (iteN rfl (ws_next ?_)))))))))
    refine ws_seq (ws_if (wt_test (w_op ao_eqW (w_var rfl (w_int (feqW rfl rfl (by simp [PyData.depth]) (exb (iteN rfl (ws_next ?_)))))))))
    refine ws_seq (ws_if (wt_test (w_op ao_eqW (w_var rfl (w_int (feqW rfl rfl (by simp [PyData.depth]) (exb (iteN rfl (ws_next ?_)))))))))
    refine ws_seq (ws_if (wt_test (w_op ao_eqW (w_var rfl (w_int (feqW rfl rfl (by simp [PyData.depth]) (exb (iteN rfl (ws_next ?_)))))))))
    refine ws_seq (ws_if (wt_test (w_op ao_eqW (w_var rfl (w_int (feqW rfl rfl (by simp [PyData.depth]) (exb (iteN rfl (ws_next ?_)))))))))
    refine ws_seq (ws_if (wt_test (w_op ao_eqW (w_var rfl (w_int (feqW rfl rfl (by simp [PyData.depth]) (exb (iteN rfl (ws_next ?_)))))))))
    refine ws_seq (ws_if (wt_test (w_op ao_eqW (w_var rfl (w_int (feqW rfl rfl (by simp [PyData.depth]) (exb (iteN rfl (ws_next ?_)))))))))
    refine ws_seq (ws_if (wt_test (w_op ao_eqW (w_var rfl (w_int (feqW rfl rfl (by simp [PyData.depth]) (exb (iteN rfl (ws_next ?_)))))))))
    refine ws_seq (ws_if (wt_test (w_op ao_eqW (w_var rfl (w_int (feqW rfl rfl (by simp [PyData.depth]) (exb (iteN rfl (ws_next ?_)))))))))
    refine ws_seq (ws_if (wt_test (w_op ao_eqW (w_var rfl (w_int (feqW rfl rfl (by simp [PyData.depth]) (exb (iteN rfl (ws_next ?_)))))))))
    refine ws_seq (ws_if (wt_test (w_op ao_eqW (w_var rfl (w_int (feqW rfl rfl (by simp [PyData.depth]) (exb (iteN rfl (ws_next ?_)))))))))
    refine ws_seq (ws_if (wt_test (w_op ao_eqW (w_var rfl (w_int (feqW rfl rfl (by simp [PyData.depth]) (exb (iteN rfl (ws_next ?_)))))))))
    refine ws_seq (ws_if (wt_test (w_op ao_eqW (w_var rfl (w_int (feqW rfl rfl (by simp [PyData.depth]) (exb (iteN rfl (ws_next ?_)))))))))
    exact ws_ret (w_lst (wa_nil ⟨[], rfl, by simp, fin _ rfl⟩))
  · refine ws_seq (ws_if (wt_test (w_op ao_eqW (w_var rfl (w_int (feqW rfl rfl (by simp [PyData.depth]) (exb (iteK rfl (ws_ret ?_)))))))))
    exact w_lst (wa_cons (w_ox rfl X.x_BadFamily.xf (X.x_BadFamily.no "place" (by simp)) rfl (wa_cons (w_ox rfl X.x_BadFamily.xf (X.x_BadFamily.no "member" (by simp)) rfl (wa_cons (w_ox rfl X.x_BadFamily.xf (X.x_BadFamily.no "what" (by simp)) rfl (wa_nil ⟨[d1, d2, d3], rfl, by simp, fin _ rfl⟩)))))))
  · refine ws_seq (ws_if (wt_test (w_op ao_eqW (w_var rfl (w_int (feqW rfl rfl (by simp [PyData.depth]) (exb (iteN rfl (ws_next ?_)))))))))
    refine ws_seq (ws_if (wt_test (w_op ao_eqW (w_var rfl (w_int (feqW rfl rfl (by simp [PyData.depth]) (exb (iteK rfl (ws_ret ?_)))))))))
    exact w_lst (wa_cons (w_ox rfl X.x_TooWide.xf (X.x_TooWide.no "what" (by simp)) rfl (wa_nil ⟨[d1], rfl, by simp, fin _ rfl⟩)))
  · refine ws_seq (ws_if (wt_test (w_op ao_eqW (w_var rfl (w_int (feqW rfl rfl (by simp [PyData.depth]) (exb (iteN rfl (ws_next ?_)))))))))
    refine ws_seq (ws_if (wt_test (w_op ao_eqW (w_var rfl (w_int (feqW rfl rfl (by simp [PyData.depth]) (exb (iteN rfl (ws_next ?_)))))))))
    refine ws_seq (ws_if (wt_test (w_op ao_eqW (w_var rfl (w_int (feqW rfl rfl (by simp [PyData.depth]) (exb (iteK rfl (ws_ret ?_)))))))))
    exact w_lst (wa_cons (w_ox rfl X.x_BadChange.xf (X.x_BadChange.no "word" (by simp)) rfl (wa_nil ⟨[d1], rfl, by simp, fin _ rfl⟩)))
  · refine ws_seq (ws_if (wt_test (w_op ao_eqW (w_var rfl (w_int (feqW rfl rfl (by simp [PyData.depth]) (exb (iteN rfl (ws_next ?_)))))))))
    refine ws_seq (ws_if (wt_test (w_op ao_eqW (w_var rfl (w_int (feqW rfl rfl (by simp [PyData.depth]) (exb (iteN rfl (ws_next ?_)))))))))
    refine ws_seq (ws_if (wt_test (w_op ao_eqW (w_var rfl (w_int (feqW rfl rfl (by simp [PyData.depth]) (exb (iteN rfl (ws_next ?_)))))))))
    refine ws_seq (ws_if (wt_test (w_op ao_eqW (w_var rfl (w_int (feqW rfl rfl (by simp [PyData.depth]) (exb (iteK rfl (ws_ret ?_)))))))))
    exact w_lst (wa_cons (w_ox rfl X.x_BadPlan.xf (X.x_BadPlan.no "at" (by simp)) rfl (wa_cons (w_ox rfl X.x_BadPlan.xf (X.x_BadPlan.no "word" (by simp)) rfl (wa_nil ⟨[d1, d2], rfl, by simp, fin _ rfl⟩)))))
  · refine ws_seq (ws_if (wt_test (w_op ao_eqW (w_var rfl (w_int (feqW rfl rfl (by simp [PyData.depth]) (exb (iteN rfl (ws_next ?_)))))))))
    refine ws_seq (ws_if (wt_test (w_op ao_eqW (w_var rfl (w_int (feqW rfl rfl (by simp [PyData.depth]) (exb (iteN rfl (ws_next ?_)))))))))
    refine ws_seq (ws_if (wt_test (w_op ao_eqW (w_var rfl (w_int (feqW rfl rfl (by simp [PyData.depth]) (exb (iteN rfl (ws_next ?_)))))))))
    refine ws_seq (ws_if (wt_test (w_op ao_eqW (w_var rfl (w_int (feqW rfl rfl (by simp [PyData.depth]) (exb (iteN rfl (ws_next ?_)))))))))
    refine ws_seq (ws_if (wt_test (w_op ao_eqW (w_var rfl (w_int (feqW rfl rfl (by simp [PyData.depth]) (exb (iteK rfl (ws_ret ?_)))))))))
    exact w_lst (wa_cons (w_ox rfl X.x_BadPlans.xf (X.x_BadPlans.no "number" (by simp)) rfl (wa_cons (w_ox rfl X.x_BadPlans.xf (X.x_BadPlans.no "at" (by simp)) rfl (wa_cons (w_ox rfl X.x_BadPlans.xf (X.x_BadPlans.no "word" (by simp)) rfl (wa_nil ⟨[d1, d2, d3], rfl, by simp, fin _ rfl⟩)))))))
  · refine ws_seq (ws_if (wt_test (w_op ao_eqW (w_var rfl (w_int (feqW rfl rfl (by simp [PyData.depth]) (exb (iteN rfl (ws_next ?_)))))))))
    refine ws_seq (ws_if (wt_test (w_op ao_eqW (w_var rfl (w_int (feqW rfl rfl (by simp [PyData.depth]) (exb (iteN rfl (ws_next ?_)))))))))
    refine ws_seq (ws_if (wt_test (w_op ao_eqW (w_var rfl (w_int (feqW rfl rfl (by simp [PyData.depth]) (exb (iteN rfl (ws_next ?_)))))))))
    refine ws_seq (ws_if (wt_test (w_op ao_eqW (w_var rfl (w_int (feqW rfl rfl (by simp [PyData.depth]) (exb (iteN rfl (ws_next ?_)))))))))
    refine ws_seq (ws_if (wt_test (w_op ao_eqW (w_var rfl (w_int (feqW rfl rfl (by simp [PyData.depth]) (exb (iteN rfl (ws_next ?_)))))))))
    refine ws_seq (ws_if (wt_test (w_op ao_eqW (w_var rfl (w_int (feqW rfl rfl (by simp [PyData.depth]) (exb (iteK rfl (ws_ret ?_)))))))))
    exact w_lst (wa_cons (w_ox rfl X.x_BadAnswers.xf (X.x_BadAnswers.no "place" (by simp)) rfl (wa_cons (w_ox rfl X.x_BadAnswers.xf (X.x_BadAnswers.no "row" (by simp)) rfl (wa_cons (w_ox rfl X.x_BadAnswers.xf (X.x_BadAnswers.no "what" (by simp)) rfl (wa_nil ⟨[d1, d2, d3], rfl, by simp, fin _ rfl⟩)))))))
  · refine ws_seq (ws_if (wt_test (w_op ao_eqW (w_var rfl (w_int (feqW rfl rfl (by simp [PyData.depth]) (exb (iteN rfl (ws_next ?_)))))))))
    refine ws_seq (ws_if (wt_test (w_op ao_eqW (w_var rfl (w_int (feqW rfl rfl (by simp [PyData.depth]) (exb (iteN rfl (ws_next ?_)))))))))
    refine ws_seq (ws_if (wt_test (w_op ao_eqW (w_var rfl (w_int (feqW rfl rfl (by simp [PyData.depth]) (exb (iteN rfl (ws_next ?_)))))))))
    refine ws_seq (ws_if (wt_test (w_op ao_eqW (w_var rfl (w_int (feqW rfl rfl (by simp [PyData.depth]) (exb (iteN rfl (ws_next ?_)))))))))
    refine ws_seq (ws_if (wt_test (w_op ao_eqW (w_var rfl (w_int (feqW rfl rfl (by simp [PyData.depth]) (exb (iteN rfl (ws_next ?_)))))))))
    refine ws_seq (ws_if (wt_test (w_op ao_eqW (w_var rfl (w_int (feqW rfl rfl (by simp [PyData.depth]) (exb (iteN rfl (ws_next ?_)))))))))
    refine ws_seq (ws_if (wt_test (w_op ao_eqW (w_var rfl (w_int (feqW rfl rfl (by simp [PyData.depth]) (exb (iteK rfl (ws_ret ?_)))))))))
    exact w_lst (wa_cons (w_ox rfl X.x_NoSuchPlace.xf (X.x_NoSuchPlace.no "place" (by simp)) rfl (wa_nil ⟨[d1], rfl, by simp, fin _ rfl⟩)))
  · refine ws_seq (ws_if (wt_test (w_op ao_eqW (w_var rfl (w_int (feqW rfl rfl (by simp [PyData.depth]) (exb (iteN rfl (ws_next ?_)))))))))
    refine ws_seq (ws_if (wt_test (w_op ao_eqW (w_var rfl (w_int (feqW rfl rfl (by simp [PyData.depth]) (exb (iteN rfl (ws_next ?_)))))))))
    refine ws_seq (ws_if (wt_test (w_op ao_eqW (w_var rfl (w_int (feqW rfl rfl (by simp [PyData.depth]) (exb (iteN rfl (ws_next ?_)))))))))
    refine ws_seq (ws_if (wt_test (w_op ao_eqW (w_var rfl (w_int (feqW rfl rfl (by simp [PyData.depth]) (exb (iteN rfl (ws_next ?_)))))))))
    refine ws_seq (ws_if (wt_test (w_op ao_eqW (w_var rfl (w_int (feqW rfl rfl (by simp [PyData.depth]) (exb (iteN rfl (ws_next ?_)))))))))
    refine ws_seq (ws_if (wt_test (w_op ao_eqW (w_var rfl (w_int (feqW rfl rfl (by simp [PyData.depth]) (exb (iteN rfl (ws_next ?_)))))))))
    refine ws_seq (ws_if (wt_test (w_op ao_eqW (w_var rfl (w_int (feqW rfl rfl (by simp [PyData.depth]) (exb (iteN rfl (ws_next ?_)))))))))
    refine ws_seq (ws_if (wt_test (w_op ao_eqW (w_var rfl (w_int (feqW rfl rfl (by simp [PyData.depth]) (exb (iteK rfl (ws_ret ?_)))))))))
    exact w_lst (wa_cons (w_ox rfl X.x_NoId.xf (X.x_NoId.no "place" (by simp)) rfl (wa_cons (w_ox rfl X.x_NoId.xf (X.x_NoId.no "own" (by simp)) rfl (wa_nil ⟨[d1, d2], rfl, by simp, fin _ rfl⟩)))))
  · refine ws_seq (ws_if (wt_test (w_op ao_eqW (w_var rfl (w_int (feqW rfl rfl (by simp [PyData.depth]) (exb (iteN rfl (ws_next ?_)))))))))
    refine ws_seq (ws_if (wt_test (w_op ao_eqW (w_var rfl (w_int (feqW rfl rfl (by simp [PyData.depth]) (exb (iteN rfl (ws_next ?_)))))))))
    refine ws_seq (ws_if (wt_test (w_op ao_eqW (w_var rfl (w_int (feqW rfl rfl (by simp [PyData.depth]) (exb (iteN rfl (ws_next ?_)))))))))
    refine ws_seq (ws_if (wt_test (w_op ao_eqW (w_var rfl (w_int (feqW rfl rfl (by simp [PyData.depth]) (exb (iteN rfl (ws_next ?_)))))))))
    refine ws_seq (ws_if (wt_test (w_op ao_eqW (w_var rfl (w_int (feqW rfl rfl (by simp [PyData.depth]) (exb (iteN rfl (ws_next ?_)))))))))
    refine ws_seq (ws_if (wt_test (w_op ao_eqW (w_var rfl (w_int (feqW rfl rfl (by simp [PyData.depth]) (exb (iteN rfl (ws_next ?_)))))))))
    refine ws_seq (ws_if (wt_test (w_op ao_eqW (w_var rfl (w_int (feqW rfl rfl (by simp [PyData.depth]) (exb (iteN rfl (ws_next ?_)))))))))
    refine ws_seq (ws_if (wt_test (w_op ao_eqW (w_var rfl (w_int (feqW rfl rfl (by simp [PyData.depth]) (exb (iteN rfl (ws_next ?_)))))))))
    refine ws_seq (ws_if (wt_test (w_op ao_eqW (w_var rfl (w_int (feqW rfl rfl (by simp [PyData.depth]) (exb (iteK rfl (ws_ret ?_)))))))))
    exact w_lst (wa_cons (w_ox rfl X.x_BadPush.xf (X.x_BadPush.no "place" (by simp)) rfl (wa_cons (w_ox rfl X.x_BadPush.xf (X.x_BadPush.no "what" (by simp)) rfl (wa_nil ⟨[d1, d2], rfl, by simp, fin _ rfl⟩)))))
  · refine ws_seq (ws_if (wt_test (w_op ao_eqW (w_var rfl (w_int (feqW rfl rfl (by simp [PyData.depth]) (exb (iteN rfl (ws_next ?_)))))))))
    refine ws_seq (ws_if (wt_test (w_op ao_eqW (w_var rfl (w_int (feqW rfl rfl (by simp [PyData.depth]) (exb (iteN rfl (ws_next ?_)))))))))
    refine ws_seq (ws_if (wt_test (w_op ao_eqW (w_var rfl (w_int (feqW rfl rfl (by simp [PyData.depth]) (exb (iteN rfl (ws_next ?_)))))))))
    refine ws_seq (ws_if (wt_test (w_op ao_eqW (w_var rfl (w_int (feqW rfl rfl (by simp [PyData.depth]) (exb (iteN rfl (ws_next ?_)))))))))
    refine ws_seq (ws_if (wt_test (w_op ao_eqW (w_var rfl (w_int (feqW rfl rfl (by simp [PyData.depth]) (exb (iteN rfl (ws_next ?_)))))))))
    refine ws_seq (ws_if (wt_test (w_op ao_eqW (w_var rfl (w_int (feqW rfl rfl (by simp [PyData.depth]) (exb (iteN rfl (ws_next ?_)))))))))
    refine ws_seq (ws_if (wt_test (w_op ao_eqW (w_var rfl (w_int (feqW rfl rfl (by simp [PyData.depth]) (exb (iteN rfl (ws_next ?_)))))))))
    refine ws_seq (ws_if (wt_test (w_op ao_eqW (w_var rfl (w_int (feqW rfl rfl (by simp [PyData.depth]) (exb (iteN rfl (ws_next ?_)))))))))
    refine ws_seq (ws_if (wt_test (w_op ao_eqW (w_var rfl (w_int (feqW rfl rfl (by simp [PyData.depth]) (exb (iteN rfl (ws_next ?_)))))))))
    refine ws_seq (ws_if (wt_test (w_op ao_eqW (w_var rfl (w_int (feqW rfl rfl (by simp [PyData.depth]) (exb (iteK rfl (ws_ret ?_)))))))))
    exact w_lst (wa_cons (w_ox rfl X.x_BadNumbers.xf (X.x_BadNumbers.no "place" (by simp)) rfl (wa_cons (w_ox rfl X.x_BadNumbers.xf (X.x_BadNumbers.no "key" (by simp)) rfl (wa_cons (w_ox rfl X.x_BadNumbers.xf (X.x_BadNumbers.no "what" (by simp)) rfl (wa_nil ⟨[d1, d2, d3], rfl, by simp, fin _ rfl⟩)))))))
  · refine ws_seq (ws_if (wt_test (w_op ao_eqW (w_var rfl (w_int (feqW rfl rfl (by simp [PyData.depth]) (exb (iteN rfl (ws_next ?_)))))))))
    refine ws_seq (ws_if (wt_test (w_op ao_eqW (w_var rfl (w_int (feqW rfl rfl (by simp [PyData.depth]) (exb (iteN rfl (ws_next ?_)))))))))
    refine ws_seq (ws_if (wt_test (w_op ao_eqW (w_var rfl (w_int (feqW rfl rfl (by simp [PyData.depth]) (exb (iteN rfl (ws_next ?_)))))))))
    refine ws_seq (ws_if (wt_test (w_op ao_eqW (w_var rfl (w_int (feqW rfl rfl (by simp [PyData.depth]) (exb (iteN rfl (ws_next ?_)))))))))
    refine ws_seq (ws_if (wt_test (w_op ao_eqW (w_var rfl (w_int (feqW rfl rfl (by simp [PyData.depth]) (exb (iteN rfl (ws_next ?_)))))))))
    refine ws_seq (ws_if (wt_test (w_op ao_eqW (w_var rfl (w_int (feqW rfl rfl (by simp [PyData.depth]) (exb (iteN rfl (ws_next ?_)))))))))
    refine ws_seq (ws_if (wt_test (w_op ao_eqW (w_var rfl (w_int (feqW rfl rfl (by simp [PyData.depth]) (exb (iteN rfl (ws_next ?_)))))))))
    refine ws_seq (ws_if (wt_test (w_op ao_eqW (w_var rfl (w_int (feqW rfl rfl (by simp [PyData.depth]) (exb (iteN rfl (ws_next ?_)))))))))
    refine ws_seq (ws_if (wt_test (w_op ao_eqW (w_var rfl (w_int (feqW rfl rfl (by simp [PyData.depth]) (exb (iteN rfl (ws_next ?_)))))))))
    refine ws_seq (ws_if (wt_test (w_op ao_eqW (w_var rfl (w_int (feqW rfl rfl (by simp [PyData.depth]) (exb (iteN rfl (ws_next ?_)))))))))
    refine ws_seq (ws_if (wt_test (w_op ao_eqW (w_var rfl (w_int (feqW rfl rfl (by simp [PyData.depth]) (exb (iteN rfl (ws_next ?_)))))))))
    refine ws_seq (ws_if (wt_test (w_op ao_eqW (w_var rfl (w_int (feqW rfl rfl (by simp [PyData.depth]) (exb (iteN rfl (ws_next ?_)))))))))
    refine ws_seq (ws_if (wt_test (w_op ao_eqW (w_var rfl (w_int (feqW rfl rfl (by simp [PyData.depth]) (exb (iteN rfl (ws_next ?_)))))))))
    refine ws_seq (ws_if (wt_test (w_op ao_eqW (w_var rfl (w_int (feqW rfl rfl (by simp [PyData.depth]) (exb (iteN rfl (ws_next ?_)))))))))
    refine ws_seq (ws_if (wt_test (w_op ao_eqW (w_var rfl (w_int (feqW rfl rfl (by simp [PyData.depth]) (exb (iteN rfl (ws_next ?_)))))))))
    refine ws_seq (ws_if (wt_test (w_op ao_eqW (w_var rfl (w_int (feqW rfl rfl (by simp [PyData.depth]) (exb (iteN rfl (ws_next ?_)))))))))
    refine ws_seq (ws_if (wt_test (w_op ao_eqW (w_var rfl (w_int (feqW rfl rfl (by simp [PyData.depth]) (exb (iteN rfl (ws_next ?_)))))))))
    exact ws_ret (w_lst (wa_nil ⟨[], rfl, by simp, fin _ rfl⟩))
  · refine ws_seq (ws_if (wt_test (w_op ao_eqW (w_var rfl (w_int (feqW rfl rfl (by simp [PyData.depth]) (exb (iteN rfl (ws_next ?_)))))))))
    refine ws_seq (ws_if (wt_test (w_op ao_eqW (w_var rfl (w_int (feqW rfl rfl (by simp [PyData.depth]) (exb (iteN rfl (ws_next ?_)))))))))
    refine ws_seq (ws_if (wt_test (w_op ao_eqW (w_var rfl (w_int (feqW rfl rfl (by simp [PyData.depth]) (exb (iteN rfl (ws_next ?_)))))))))
    refine ws_seq (ws_if (wt_test (w_op ao_eqW (w_var rfl (w_int (feqW rfl rfl (by simp [PyData.depth]) (exb (iteN rfl (ws_next ?_)))))))))
    refine ws_seq (ws_if (wt_test (w_op ao_eqW (w_var rfl (w_int (feqW rfl rfl (by simp [PyData.depth]) (exb (iteN rfl (ws_next ?_)))))))))
    refine ws_seq (ws_if (wt_test (w_op ao_eqW (w_var rfl (w_int (feqW rfl rfl (by simp [PyData.depth]) (exb (iteN rfl (ws_next ?_)))))))))
    refine ws_seq (ws_if (wt_test (w_op ao_eqW (w_var rfl (w_int (feqW rfl rfl (by simp [PyData.depth]) (exb (iteN rfl (ws_next ?_)))))))))
    refine ws_seq (ws_if (wt_test (w_op ao_eqW (w_var rfl (w_int (feqW rfl rfl (by simp [PyData.depth]) (exb (iteN rfl (ws_next ?_)))))))))
    refine ws_seq (ws_if (wt_test (w_op ao_eqW (w_var rfl (w_int (feqW rfl rfl (by simp [PyData.depth]) (exb (iteN rfl (ws_next ?_)))))))))
    refine ws_seq (ws_if (wt_test (w_op ao_eqW (w_var rfl (w_int (feqW rfl rfl (by simp [PyData.depth]) (exb (iteN rfl (ws_next ?_)))))))))
    refine ws_seq (ws_if (wt_test (w_op ao_eqW (w_var rfl (w_int (feqW rfl rfl (by simp [PyData.depth]) (exb (iteK rfl (ws_ret ?_)))))))))
    exact w_lst (wa_cons (w_ox rfl X.x_NoKey.xf (X.x_NoKey.no "place" (by simp)) rfl (wa_cons (w_ox rfl X.x_NoKey.xf (X.x_NoKey.no "key" (by simp)) rfl (wa_nil ⟨[d1, d2], rfl, by simp, fin _ rfl⟩)))))
  · refine ws_seq (ws_if (wt_test (w_op ao_eqW (w_var rfl (w_int (feqW rfl rfl (by simp [PyData.depth]) (exb (iteN rfl (ws_next ?_)))))))))
    refine ws_seq (ws_if (wt_test (w_op ao_eqW (w_var rfl (w_int (feqW rfl rfl (by simp [PyData.depth]) (exb (iteN rfl (ws_next ?_)))))))))
    refine ws_seq (ws_if (wt_test (w_op ao_eqW (w_var rfl (w_int (feqW rfl rfl (by simp [PyData.depth]) (exb (iteN rfl (ws_next ?_)))))))))
    refine ws_seq (ws_if (wt_test (w_op ao_eqW (w_var rfl (w_int (feqW rfl rfl (by simp [PyData.depth]) (exb (iteN rfl (ws_next ?_)))))))))
    refine ws_seq (ws_if (wt_test (w_op ao_eqW (w_var rfl (w_int (feqW rfl rfl (by simp [PyData.depth]) (exb (iteN rfl (ws_next ?_)))))))))
    refine ws_seq (ws_if (wt_test (w_op ao_eqW (w_var rfl (w_int (feqW rfl rfl (by simp [PyData.depth]) (exb (iteN rfl (ws_next ?_)))))))))
    refine ws_seq (ws_if (wt_test (w_op ao_eqW (w_var rfl (w_int (feqW rfl rfl (by simp [PyData.depth]) (exb (iteN rfl (ws_next ?_)))))))))
    refine ws_seq (ws_if (wt_test (w_op ao_eqW (w_var rfl (w_int (feqW rfl rfl (by simp [PyData.depth]) (exb (iteN rfl (ws_next ?_)))))))))
    refine ws_seq (ws_if (wt_test (w_op ao_eqW (w_var rfl (w_int (feqW rfl rfl (by simp [PyData.depth]) (exb (iteN rfl (ws_next ?_)))))))))
    refine ws_seq (ws_if (wt_test (w_op ao_eqW (w_var rfl (w_int (feqW rfl rfl (by simp [PyData.depth]) (exb (iteN rfl (ws_next ?_)))))))))
    refine ws_seq (ws_if (wt_test (w_op ao_eqW (w_var rfl (w_int (feqW rfl rfl (by simp [PyData.depth]) (exb (iteN rfl (ws_next ?_)))))))))
    refine ws_seq (ws_if (wt_test (w_op ao_eqW (w_var rfl (w_int (feqW rfl rfl (by simp [PyData.depth]) (exb (iteK rfl (ws_ret ?_)))))))))
    exact w_lst (wa_cons (w_ox rfl X.x_NotPlain.xf (X.x_NotPlain.no "member" (by simp)) rfl (wa_cons (w_ox rfl X.x_NotPlain.xf (X.x_NotPlain.no "what" (by simp)) rfl (wa_nil ⟨[d1, d2], rfl, by simp, fin _ rfl⟩)))))
  · refine ws_seq (ws_if (wt_test (w_op ao_eqW (w_var rfl (w_int (feqW rfl rfl (by simp [PyData.depth]) (exb (iteN rfl (ws_next ?_)))))))))
    refine ws_seq (ws_if (wt_test (w_op ao_eqW (w_var rfl (w_int (feqW rfl rfl (by simp [PyData.depth]) (exb (iteN rfl (ws_next ?_)))))))))
    refine ws_seq (ws_if (wt_test (w_op ao_eqW (w_var rfl (w_int (feqW rfl rfl (by simp [PyData.depth]) (exb (iteN rfl (ws_next ?_)))))))))
    refine ws_seq (ws_if (wt_test (w_op ao_eqW (w_var rfl (w_int (feqW rfl rfl (by simp [PyData.depth]) (exb (iteN rfl (ws_next ?_)))))))))
    refine ws_seq (ws_if (wt_test (w_op ao_eqW (w_var rfl (w_int (feqW rfl rfl (by simp [PyData.depth]) (exb (iteN rfl (ws_next ?_)))))))))
    refine ws_seq (ws_if (wt_test (w_op ao_eqW (w_var rfl (w_int (feqW rfl rfl (by simp [PyData.depth]) (exb (iteN rfl (ws_next ?_)))))))))
    refine ws_seq (ws_if (wt_test (w_op ao_eqW (w_var rfl (w_int (feqW rfl rfl (by simp [PyData.depth]) (exb (iteN rfl (ws_next ?_)))))))))
    refine ws_seq (ws_if (wt_test (w_op ao_eqW (w_var rfl (w_int (feqW rfl rfl (by simp [PyData.depth]) (exb (iteN rfl (ws_next ?_)))))))))
    refine ws_seq (ws_if (wt_test (w_op ao_eqW (w_var rfl (w_int (feqW rfl rfl (by simp [PyData.depth]) (exb (iteN rfl (ws_next ?_)))))))))
    refine ws_seq (ws_if (wt_test (w_op ao_eqW (w_var rfl (w_int (feqW rfl rfl (by simp [PyData.depth]) (exb (iteN rfl (ws_next ?_)))))))))
    refine ws_seq (ws_if (wt_test (w_op ao_eqW (w_var rfl (w_int (feqW rfl rfl (by simp [PyData.depth]) (exb (iteN rfl (ws_next ?_)))))))))
    refine ws_seq (ws_if (wt_test (w_op ao_eqW (w_var rfl (w_int (feqW rfl rfl (by simp [PyData.depth]) (exb (iteN rfl (ws_next ?_)))))))))
    refine ws_seq (ws_if (wt_test (w_op ao_eqW (w_var rfl (w_int (feqW rfl rfl (by simp [PyData.depth]) (exb (iteN rfl (ws_next ?_)))))))))
    refine ws_seq (ws_if (wt_test (w_op ao_eqW (w_var rfl (w_int (feqW rfl rfl (by simp [PyData.depth]) (exb (iteN rfl (ws_next ?_)))))))))
    refine ws_seq (ws_if (wt_test (w_op ao_eqW (w_var rfl (w_int (feqW rfl rfl (by simp [PyData.depth]) (exb (iteN rfl (ws_next ?_)))))))))
    refine ws_seq (ws_if (wt_test (w_op ao_eqW (w_var rfl (w_int (feqW rfl rfl (by simp [PyData.depth]) (exb (iteN rfl (ws_next ?_)))))))))
    refine ws_seq (ws_if (wt_test (w_op ao_eqW (w_var rfl (w_int (feqW rfl rfl (by simp [PyData.depth]) (exb (iteN rfl (ws_next ?_)))))))))
    exact ws_ret (w_lst (wa_nil ⟨[], rfl, by simp, fin _ rfl⟩))
  · refine ws_seq (ws_if (wt_test (w_op ao_eqW (w_var rfl (w_int (feqW rfl rfl (by simp [PyData.depth]) (exb (iteN rfl (ws_next ?_)))))))))
    refine ws_seq (ws_if (wt_test (w_op ao_eqW (w_var rfl (w_int (feqW rfl rfl (by simp [PyData.depth]) (exb (iteN rfl (ws_next ?_)))))))))
    refine ws_seq (ws_if (wt_test (w_op ao_eqW (w_var rfl (w_int (feqW rfl rfl (by simp [PyData.depth]) (exb (iteN rfl (ws_next ?_)))))))))
    refine ws_seq (ws_if (wt_test (w_op ao_eqW (w_var rfl (w_int (feqW rfl rfl (by simp [PyData.depth]) (exb (iteN rfl (ws_next ?_)))))))))
    refine ws_seq (ws_if (wt_test (w_op ao_eqW (w_var rfl (w_int (feqW rfl rfl (by simp [PyData.depth]) (exb (iteN rfl (ws_next ?_)))))))))
    refine ws_seq (ws_if (wt_test (w_op ao_eqW (w_var rfl (w_int (feqW rfl rfl (by simp [PyData.depth]) (exb (iteN rfl (ws_next ?_)))))))))
    refine ws_seq (ws_if (wt_test (w_op ao_eqW (w_var rfl (w_int (feqW rfl rfl (by simp [PyData.depth]) (exb (iteN rfl (ws_next ?_)))))))))
    refine ws_seq (ws_if (wt_test (w_op ao_eqW (w_var rfl (w_int (feqW rfl rfl (by simp [PyData.depth]) (exb (iteN rfl (ws_next ?_)))))))))
    refine ws_seq (ws_if (wt_test (w_op ao_eqW (w_var rfl (w_int (feqW rfl rfl (by simp [PyData.depth]) (exb (iteN rfl (ws_next ?_)))))))))
    refine ws_seq (ws_if (wt_test (w_op ao_eqW (w_var rfl (w_int (feqW rfl rfl (by simp [PyData.depth]) (exb (iteN rfl (ws_next ?_)))))))))
    refine ws_seq (ws_if (wt_test (w_op ao_eqW (w_var rfl (w_int (feqW rfl rfl (by simp [PyData.depth]) (exb (iteN rfl (ws_next ?_)))))))))
    refine ws_seq (ws_if (wt_test (w_op ao_eqW (w_var rfl (w_int (feqW rfl rfl (by simp [PyData.depth]) (exb (iteN rfl (ws_next ?_)))))))))
    refine ws_seq (ws_if (wt_test (w_op ao_eqW (w_var rfl (w_int (feqW rfl rfl (by simp [PyData.depth]) (exb (iteK rfl (ws_ret ?_)))))))))
    exact w_lst (wa_cons (w_ox rfl X.x_BadFolding.xf (X.x_BadFolding.no "what" (by simp)) rfl (wa_nil ⟨[d1], rfl, by simp, fin _ rfl⟩)))
  · refine ws_seq (ws_if (wt_test (w_op ao_eqW (w_var rfl (w_int (feqW rfl rfl (by simp [PyData.depth]) (exb (iteN rfl (ws_next ?_)))))))))
    refine ws_seq (ws_if (wt_test (w_op ao_eqW (w_var rfl (w_int (feqW rfl rfl (by simp [PyData.depth]) (exb (iteN rfl (ws_next ?_)))))))))
    refine ws_seq (ws_if (wt_test (w_op ao_eqW (w_var rfl (w_int (feqW rfl rfl (by simp [PyData.depth]) (exb (iteN rfl (ws_next ?_)))))))))
    refine ws_seq (ws_if (wt_test (w_op ao_eqW (w_var rfl (w_int (feqW rfl rfl (by simp [PyData.depth]) (exb (iteN rfl (ws_next ?_)))))))))
    refine ws_seq (ws_if (wt_test (w_op ao_eqW (w_var rfl (w_int (feqW rfl rfl (by simp [PyData.depth]) (exb (iteN rfl (ws_next ?_)))))))))
    refine ws_seq (ws_if (wt_test (w_op ao_eqW (w_var rfl (w_int (feqW rfl rfl (by simp [PyData.depth]) (exb (iteN rfl (ws_next ?_)))))))))
    refine ws_seq (ws_if (wt_test (w_op ao_eqW (w_var rfl (w_int (feqW rfl rfl (by simp [PyData.depth]) (exb (iteN rfl (ws_next ?_)))))))))
    refine ws_seq (ws_if (wt_test (w_op ao_eqW (w_var rfl (w_int (feqW rfl rfl (by simp [PyData.depth]) (exb (iteN rfl (ws_next ?_)))))))))
    refine ws_seq (ws_if (wt_test (w_op ao_eqW (w_var rfl (w_int (feqW rfl rfl (by simp [PyData.depth]) (exb (iteN rfl (ws_next ?_)))))))))
    refine ws_seq (ws_if (wt_test (w_op ao_eqW (w_var rfl (w_int (feqW rfl rfl (by simp [PyData.depth]) (exb (iteN rfl (ws_next ?_)))))))))
    refine ws_seq (ws_if (wt_test (w_op ao_eqW (w_var rfl (w_int (feqW rfl rfl (by simp [PyData.depth]) (exb (iteN rfl (ws_next ?_)))))))))
    refine ws_seq (ws_if (wt_test (w_op ao_eqW (w_var rfl (w_int (feqW rfl rfl (by simp [PyData.depth]) (exb (iteN rfl (ws_next ?_)))))))))
    refine ws_seq (ws_if (wt_test (w_op ao_eqW (w_var rfl (w_int (feqW rfl rfl (by simp [PyData.depth]) (exb (iteN rfl (ws_next ?_)))))))))
    refine ws_seq (ws_if (wt_test (w_op ao_eqW (w_var rfl (w_int (feqW rfl rfl (by simp [PyData.depth]) (exb (iteK rfl (ws_ret ?_)))))))))
    exact w_lst (wa_cons (w_ox rfl X.x_BadDeed.xf (X.x_BadDeed.no "what" (by simp)) rfl (wa_nil ⟨[d1], rfl, by simp, fin _ rfl⟩)))
  · refine ws_seq (ws_if (wt_test (w_op ao_eqW (w_var rfl (w_int (feqW rfl rfl (by simp [PyData.depth]) (exb (iteN rfl (ws_next ?_)))))))))
    refine ws_seq (ws_if (wt_test (w_op ao_eqW (w_var rfl (w_int (feqW rfl rfl (by simp [PyData.depth]) (exb (iteN rfl (ws_next ?_)))))))))
    refine ws_seq (ws_if (wt_test (w_op ao_eqW (w_var rfl (w_int (feqW rfl rfl (by simp [PyData.depth]) (exb (iteN rfl (ws_next ?_)))))))))
    refine ws_seq (ws_if (wt_test (w_op ao_eqW (w_var rfl (w_int (feqW rfl rfl (by simp [PyData.depth]) (exb (iteN rfl (ws_next ?_)))))))))
    refine ws_seq (ws_if (wt_test (w_op ao_eqW (w_var rfl (w_int (feqW rfl rfl (by simp [PyData.depth]) (exb (iteN rfl (ws_next ?_)))))))))
    refine ws_seq (ws_if (wt_test (w_op ao_eqW (w_var rfl (w_int (feqW rfl rfl (by simp [PyData.depth]) (exb (iteN rfl (ws_next ?_)))))))))
    refine ws_seq (ws_if (wt_test (w_op ao_eqW (w_var rfl (w_int (feqW rfl rfl (by simp [PyData.depth]) (exb (iteN rfl (ws_next ?_)))))))))
    refine ws_seq (ws_if (wt_test (w_op ao_eqW (w_var rfl (w_int (feqW rfl rfl (by simp [PyData.depth]) (exb (iteN rfl (ws_next ?_)))))))))
    refine ws_seq (ws_if (wt_test (w_op ao_eqW (w_var rfl (w_int (feqW rfl rfl (by simp [PyData.depth]) (exb (iteN rfl (ws_next ?_)))))))))
    refine ws_seq (ws_if (wt_test (w_op ao_eqW (w_var rfl (w_int (feqW rfl rfl (by simp [PyData.depth]) (exb (iteN rfl (ws_next ?_)))))))))
    refine ws_seq (ws_if (wt_test (w_op ao_eqW (w_var rfl (w_int (feqW rfl rfl (by simp [PyData.depth]) (exb (iteN rfl (ws_next ?_)))))))))
    refine ws_seq (ws_if (wt_test (w_op ao_eqW (w_var rfl (w_int (feqW rfl rfl (by simp [PyData.depth]) (exb (iteN rfl (ws_next ?_)))))))))
    refine ws_seq (ws_if (wt_test (w_op ao_eqW (w_var rfl (w_int (feqW rfl rfl (by simp [PyData.depth]) (exb (iteN rfl (ws_next ?_)))))))))
    refine ws_seq (ws_if (wt_test (w_op ao_eqW (w_var rfl (w_int (feqW rfl rfl (by simp [PyData.depth]) (exb (iteN rfl (ws_next ?_)))))))))
    refine ws_seq (ws_if (wt_test (w_op ao_eqW (w_var rfl (w_int (feqW rfl rfl (by simp [PyData.depth]) (exb (iteK rfl (ws_ret ?_)))))))))
    exact w_lst (wa_cons (w_ox rfl X.x_Known.xf (X.x_Known.no "name" (by simp)) rfl (wa_nil ⟨[d1], rfl, by simp, fin _ rfl⟩)))
  · refine ws_seq (ws_if (wt_test (w_op ao_eqW (w_var rfl (w_int (feqW rfl rfl (by simp [PyData.depth]) (exb (iteN rfl (ws_next ?_)))))))))
    refine ws_seq (ws_if (wt_test (w_op ao_eqW (w_var rfl (w_int (feqW rfl rfl (by simp [PyData.depth]) (exb (iteN rfl (ws_next ?_)))))))))
    refine ws_seq (ws_if (wt_test (w_op ao_eqW (w_var rfl (w_int (feqW rfl rfl (by simp [PyData.depth]) (exb (iteN rfl (ws_next ?_)))))))))
    refine ws_seq (ws_if (wt_test (w_op ao_eqW (w_var rfl (w_int (feqW rfl rfl (by simp [PyData.depth]) (exb (iteN rfl (ws_next ?_)))))))))
    refine ws_seq (ws_if (wt_test (w_op ao_eqW (w_var rfl (w_int (feqW rfl rfl (by simp [PyData.depth]) (exb (iteN rfl (ws_next ?_)))))))))
    refine ws_seq (ws_if (wt_test (w_op ao_eqW (w_var rfl (w_int (feqW rfl rfl (by simp [PyData.depth]) (exb (iteN rfl (ws_next ?_)))))))))
    refine ws_seq (ws_if (wt_test (w_op ao_eqW (w_var rfl (w_int (feqW rfl rfl (by simp [PyData.depth]) (exb (iteN rfl (ws_next ?_)))))))))
    refine ws_seq (ws_if (wt_test (w_op ao_eqW (w_var rfl (w_int (feqW rfl rfl (by simp [PyData.depth]) (exb (iteN rfl (ws_next ?_)))))))))
    refine ws_seq (ws_if (wt_test (w_op ao_eqW (w_var rfl (w_int (feqW rfl rfl (by simp [PyData.depth]) (exb (iteN rfl (ws_next ?_)))))))))
    refine ws_seq (ws_if (wt_test (w_op ao_eqW (w_var rfl (w_int (feqW rfl rfl (by simp [PyData.depth]) (exb (iteN rfl (ws_next ?_)))))))))
    refine ws_seq (ws_if (wt_test (w_op ao_eqW (w_var rfl (w_int (feqW rfl rfl (by simp [PyData.depth]) (exb (iteN rfl (ws_next ?_)))))))))
    refine ws_seq (ws_if (wt_test (w_op ao_eqW (w_var rfl (w_int (feqW rfl rfl (by simp [PyData.depth]) (exb (iteN rfl (ws_next ?_)))))))))
    refine ws_seq (ws_if (wt_test (w_op ao_eqW (w_var rfl (w_int (feqW rfl rfl (by simp [PyData.depth]) (exb (iteN rfl (ws_next ?_)))))))))
    refine ws_seq (ws_if (wt_test (w_op ao_eqW (w_var rfl (w_int (feqW rfl rfl (by simp [PyData.depth]) (exb (iteN rfl (ws_next ?_)))))))))
    refine ws_seq (ws_if (wt_test (w_op ao_eqW (w_var rfl (w_int (feqW rfl rfl (by simp [PyData.depth]) (exb (iteN rfl (ws_next ?_)))))))))
    refine ws_seq (ws_if (wt_test (w_op ao_eqW (w_var rfl (w_int (feqW rfl rfl (by simp [PyData.depth]) (exb (iteK rfl (ws_ret ?_)))))))))
    exact w_lst (wa_cons (w_ox rfl X.x_NoKept.xf (X.x_NoKept.no "name" (by simp)) rfl (wa_nil ⟨[d1], rfl, by simp, fin _ rfl⟩)))
  · refine ws_seq (ws_if (wt_test (w_op ao_eqW (w_var rfl (w_int (feqW rfl rfl (by simp [PyData.depth]) (exb (iteN rfl (ws_next ?_)))))))))
    refine ws_seq (ws_if (wt_test (w_op ao_eqW (w_var rfl (w_int (feqW rfl rfl (by simp [PyData.depth]) (exb (iteN rfl (ws_next ?_)))))))))
    refine ws_seq (ws_if (wt_test (w_op ao_eqW (w_var rfl (w_int (feqW rfl rfl (by simp [PyData.depth]) (exb (iteN rfl (ws_next ?_)))))))))
    refine ws_seq (ws_if (wt_test (w_op ao_eqW (w_var rfl (w_int (feqW rfl rfl (by simp [PyData.depth]) (exb (iteN rfl (ws_next ?_)))))))))
    refine ws_seq (ws_if (wt_test (w_op ao_eqW (w_var rfl (w_int (feqW rfl rfl (by simp [PyData.depth]) (exb (iteN rfl (ws_next ?_)))))))))
    refine ws_seq (ws_if (wt_test (w_op ao_eqW (w_var rfl (w_int (feqW rfl rfl (by simp [PyData.depth]) (exb (iteN rfl (ws_next ?_)))))))))
    refine ws_seq (ws_if (wt_test (w_op ao_eqW (w_var rfl (w_int (feqW rfl rfl (by simp [PyData.depth]) (exb (iteN rfl (ws_next ?_)))))))))
    refine ws_seq (ws_if (wt_test (w_op ao_eqW (w_var rfl (w_int (feqW rfl rfl (by simp [PyData.depth]) (exb (iteN rfl (ws_next ?_)))))))))
    refine ws_seq (ws_if (wt_test (w_op ao_eqW (w_var rfl (w_int (feqW rfl rfl (by simp [PyData.depth]) (exb (iteN rfl (ws_next ?_)))))))))
    refine ws_seq (ws_if (wt_test (w_op ao_eqW (w_var rfl (w_int (feqW rfl rfl (by simp [PyData.depth]) (exb (iteN rfl (ws_next ?_)))))))))
    refine ws_seq (ws_if (wt_test (w_op ao_eqW (w_var rfl (w_int (feqW rfl rfl (by simp [PyData.depth]) (exb (iteN rfl (ws_next ?_)))))))))
    refine ws_seq (ws_if (wt_test (w_op ao_eqW (w_var rfl (w_int (feqW rfl rfl (by simp [PyData.depth]) (exb (iteN rfl (ws_next ?_)))))))))
    refine ws_seq (ws_if (wt_test (w_op ao_eqW (w_var rfl (w_int (feqW rfl rfl (by simp [PyData.depth]) (exb (iteN rfl (ws_next ?_)))))))))
    refine ws_seq (ws_if (wt_test (w_op ao_eqW (w_var rfl (w_int (feqW rfl rfl (by simp [PyData.depth]) (exb (iteN rfl (ws_next ?_)))))))))
    refine ws_seq (ws_if (wt_test (w_op ao_eqW (w_var rfl (w_int (feqW rfl rfl (by simp [PyData.depth]) (exb (iteN rfl (ws_next ?_)))))))))
    refine ws_seq (ws_if (wt_test (w_op ao_eqW (w_var rfl (w_int (feqW rfl rfl (by simp [PyData.depth]) (exb (iteN rfl (ws_next ?_)))))))))
    refine ws_seq (ws_if (wt_test (w_op ao_eqW (w_var rfl (w_int (feqW rfl rfl (by simp [PyData.depth]) (exb (iteK rfl (ws_ret ?_)))))))))
    exact w_lst (wa_cons (w_ox rfl X.x_Refused.xf (X.x_Refused.no "at" (by simp)) rfl (wa_nil ⟨[d1], rfl, by simp, fin _ rfl⟩)))
end
section
variable {P : Program} {w : World} {K : PySem.W.Frag} {mg : Str → Option Value} {base : Heap} {cs : Nat → Addr} {A : Addr} (T : Txt K mg) (X : XS K mg cs A)
theorem XS.cfs (X : XS K mg cs A) {t : Nat} (h : t < 40) : XC0 K (cs t) A := by
  rcases (show t = 0 ∨ t = 1 ∨ t = 2 ∨ t = 3 ∨ t = 4 ∨ t = 5 ∨ t = 6 ∨ t = 7 ∨ t = 8 ∨ t = 9 ∨ t = 10 ∨ t = 11 ∨ t = 12 ∨ t = 13 ∨ t = 14 ∨ t = 15 ∨ t = 16 ∨ t = 17 ∨ t = 18 ∨ t = 19 ∨ t = 20 ∨ t = 21 ∨ t = 22 ∨ t = 23 ∨ t = 24 ∨ t = 25 ∨ t = 26 ∨ t = 27 ∨ t = 28 ∨ t = 29 ∨ t = 30 ∨ t = 31 ∨ t = 32 ∨ t = 33 ∨ t = 34 ∨ t = 35 ∨ t = 36 ∨ t = 37 ∨ t = 38 ∨ t = 39 by omega) with rfl | rfl | rfl | rfl | rfl | rfl | rfl | rfl | rfl | rfl | rfl | rfl | rfl | rfl | rfl | rfl | rfl | rfl | rfl | rfl | rfl | rfl | rfl | rfl | rfl | rfl | rfl | rfl | rfl | rfl | rfl | rfl | rfl | rfl | rfl | rfl | rfl | rfl | rfl | rfl
  · exact ⟨X.x_BadKind.cf, X.x_BadKind.ec⟩
  · exact ⟨X.x_NoPlace.cf, X.x_NoPlace.ec⟩
  · exact ⟨X.x_NoPath.cf, X.x_NoPath.ec⟩
  · exact ⟨X.x_BadTerm.cf, X.x_BadTerm.ec⟩
  · exact ⟨X.x_BadHeads.cf, X.x_BadHeads.ec⟩
  · exact ⟨X.x_NoTable.cf, X.x_NoTable.ec⟩
  · exact ⟨X.x_NoRow.cf, X.x_NoRow.ec⟩
  · exact ⟨X.x_NoColumn.cf, X.x_NoColumn.ec⟩
  · exact ⟨X.x_BadRow.cf, X.x_BadRow.ec⟩
  · exact ⟨X.x_BadLots.cf, X.x_BadLots.ec⟩
  · exact ⟨X.x_BadText.cf, X.x_BadText.ec⟩
  · exact ⟨X.x_BadForm.cf, X.x_BadForm.ec⟩
  · exact ⟨X.x_BadChoices.cf, X.x_BadChoices.ec⟩
  · exact ⟨X.x_BadProgram.cf, X.x_BadProgram.ec⟩
  · exact ⟨X.x_Unknown.cf, X.x_Unknown.ec⟩
  · exact ⟨X.x_Misfit.cf, X.x_Misfit.ec⟩
  · exact ⟨X.x_Unclear.cf, X.x_Unclear.ec⟩
  · exact ⟨X.x_NoAnswer.cf, X.x_NoAnswer.ec⟩
  · exact ⟨X.x_BadChain.cf, X.x_BadChain.ec⟩
  · exact ⟨X.x_BadCell.cf, X.x_BadCell.ec⟩
  · exact ⟨X.x_NoFit.cf, X.x_NoFit.ec⟩
  · exact ⟨X.x_BadFamily.cf, X.x_BadFamily.ec⟩
  · exact ⟨X.x_TooWide.cf, X.x_TooWide.ec⟩
  · exact ⟨X.x_BadChange.cf, X.x_BadChange.ec⟩
  · exact ⟨X.x_BadPlan.cf, X.x_BadPlan.ec⟩
  · exact ⟨X.x_BadPlans.cf, X.x_BadPlans.ec⟩
  · exact ⟨X.x_BadAnswers.cf, X.x_BadAnswers.ec⟩
  · exact ⟨X.x_NoSuchPlace.cf, X.x_NoSuchPlace.ec⟩
  · exact ⟨X.x_NoId.cf, X.x_NoId.ec⟩
  · exact ⟨X.x_BadPush.cf, X.x_BadPush.ec⟩
  · exact ⟨X.x_BadNumbers.cf, X.x_BadNumbers.ec⟩
  · exact ⟨X.x_BadKey.cf, X.x_BadKey.ec⟩
  · exact ⟨X.x_NoKey.cf, X.x_NoKey.ec⟩
  · exact ⟨X.x_NotPlain.cf, X.x_NotPlain.ec⟩
  · exact ⟨X.x_NotAlike.cf, X.x_NotAlike.ec⟩
  · exact ⟨X.x_BadFolding.cf, X.x_BadFolding.ec⟩
  · exact ⟨X.x_BadDeed.cf, X.x_BadDeed.ec⟩
  · exact ⟨X.x_Known.cf, X.x_Known.ec⟩
  · exact ⟨X.x_NoKept.cf, X.x_NoKept.ec⟩
  · exact ⟨X.x_Refused.cf, X.x_Refused.ec⟩
include T X in
theorem ok_law_flags (F : Dfn K mg "_law_flags" s_law_flags ["_law_error"]) : Cal P w K mg base 1 "_law_flags" ["_law_error"] (spFlg cs K) := by
  have hn : ∀ ss, preFlg cs ss → ss.length = 1 := by rintro ss ⟨t, a, fs, rfl, _⟩; rfl
  refine F.ok sc_law_flags (fun vs H Q E h => spS_len hn h) (fun f cdv A outer s H vs Q E hr h => ⟨_, (pss_cons (ps_set (i := 1) sc_law_flags.nd rfl (by first | exact .inl rfl | exact .inr rfl) (pe_lst (pa_cons (pe_callB (k_isX (K := K) rfl) (by rfl) T.n_isinstance (by decide +kernel) (pa_cons (pv 0) (pa_cons (pe_gref (by rfl) X.x_BadKind.gC) pa_nil))) (pa_cons (pe_callB (k_isX (K := K) rfl) (by rfl) T.n_isinstance (by decide +kernel) (pa_cons (pv 0) (pa_cons (pe_gref (by rfl) X.x_NoPlace.gC) pa_nil))) (pa_cons (pe_callB (k_isX (K := K) rfl) (by rfl) T.n_isinstance (by decide +kernel) (pa_cons (pv 0) (pa_cons (pe_gref (by rfl) X.x_NoPath.gC) pa_nil))) (pa_cons (pe_callB (k_isX (K := K) rfl) (by rfl) T.n_isinstance (by decide +kernel) (pa_cons (pv 0) (pa_cons (pe_gref (by rfl) X.x_BadTerm.gC) pa_nil))) (pa_cons (pe_callB (k_isX (K := K) rfl) (by rfl) T.n_isinstance (by decide +kernel) (pa_cons (pv 0) (pa_cons (pe_gref (by rfl) X.x_BadHeads.gC) pa_nil))) (pa_cons (pe_callB (k_isX (K := K) rfl) (by rfl) T.n_isinstance (by decide +kernel) (pa_cons (pv 0) (pa_cons (pe_gref (by rfl) X.x_NoTable.gC) pa_nil))) (pa_cons (pe_callB (k_isX (K := K) rfl) (by rfl) T.n_isinstance (by decide +kernel) (pa_cons (pv 0) (pa_cons (pe_gref (by rfl) X.x_NoRow.gC) pa_nil))) (pa_cons (pe_callB (k_isX (K := K) rfl) (by rfl) T.n_isinstance (by decide +kernel) (pa_cons (pv 0) (pa_cons (pe_gref (by rfl) X.x_NoColumn.gC) pa_nil))) (pa_cons (pe_callB (k_isX (K := K) rfl) (by rfl) T.n_isinstance (by decide +kernel) (pa_cons (pv 0) (pa_cons (pe_gref (by rfl) X.x_BadRow.gC) pa_nil))) (pa_cons (pe_callB (k_isX (K := K) rfl) (by rfl) T.n_isinstance (by decide +kernel) (pa_cons (pv 0) (pa_cons (pe_gref (by rfl) X.x_BadLots.gC) pa_nil))) (pa_cons (pe_callB (k_isX (K := K) rfl) (by rfl) T.n_isinstance (by decide +kernel) (pa_cons (pv 0) (pa_cons (pe_gref (by rfl) X.x_BadText.gC) pa_nil))) (pa_cons (pe_callB (k_isX (K := K) rfl) (by rfl) T.n_isinstance (by decide +kernel) (pa_cons (pv 0) (pa_cons (pe_gref (by rfl) X.x_BadForm.gC) pa_nil))) (pa_cons (pe_callB (k_isX (K := K) rfl) (by rfl) T.n_isinstance (by decide +kernel) (pa_cons (pv 0) (pa_cons (pe_gref (by rfl) X.x_BadChoices.gC) pa_nil))) (pa_cons (pe_callB (k_isX (K := K) rfl) (by rfl) T.n_isinstance (by decide +kernel) (pa_cons (pv 0) (pa_cons (pe_gref (by rfl) X.x_BadProgram.gC) pa_nil))) (pa_cons (pe_callB (k_isX (K := K) rfl) (by rfl) T.n_isinstance (by decide +kernel) (pa_cons (pv 0) (pa_cons (pe_gref (by rfl) X.x_Unknown.gC) pa_nil))) (pa_cons (pe_callB (k_isX (K := K) rfl) (by rfl) T.n_isinstance (by decide +kernel) (pa_cons (pv 0) (pa_cons (pe_gref (by rfl) X.x_Misfit.gC) pa_nil))) (pa_cons (pe_callB (k_isX (K := K) rfl) (by rfl) T.n_isinstance (by decide +kernel) (pa_cons (pv 0) (pa_cons (pe_gref (by rfl) X.x_Unclear.gC) pa_nil))) (pa_cons (pe_callB (k_isX (K := K) rfl) (by rfl) T.n_isinstance (by decide +kernel) (pa_cons (pv 0) (pa_cons (pe_gref (by rfl) X.x_NoAnswer.gC) pa_nil))) (pa_cons (pe_callB (k_isX (K := K) rfl) (by rfl) T.n_isinstance (by decide +kernel) (pa_cons (pv 0) (pa_cons (pe_gref (by rfl) X.x_BadChain.gC) pa_nil))) (pa_cons (pe_callB (k_isX (K := K) rfl) (by rfl) T.n_isinstance (by decide +kernel) (pa_cons (pv 0) (pa_cons (pe_gref (by rfl) X.x_BadCell.gC) pa_nil))) pa_nil))))))))))))))))))))))
      (pss_one (ps_ret (pe_op (k_plus (K := K) rfl) (pv 1) (pe_lst (pa_cons (pe_callB (k_isX (K := K) rfl) (by rfl) T.n_isinstance (by decide +kernel) (pa_cons (pv 0) (pa_cons (pe_gref (by rfl) X.x_NoFit.gC) pa_nil))) (pa_cons (pe_callB (k_isX (K := K) rfl) (by rfl) T.n_isinstance (by decide +kernel) (pa_cons (pv 0) (pa_cons (pe_gref (by rfl) X.x_BadFamily.gC) pa_nil))) (pa_cons (pe_callB (k_isX (K := K) rfl) (by rfl) T.n_isinstance (by decide +kernel) (pa_cons (pv 0) (pa_cons (pe_gref (by rfl) X.x_TooWide.gC) pa_nil))) (pa_cons (pe_callB (k_isX (K := K) rfl) (by rfl) T.n_isinstance (by decide +kernel) (pa_cons (pv 0) (pa_cons (pe_gref (by rfl) X.x_BadChange.gC) pa_nil))) (pa_cons (pe_callB (k_isX (K := K) rfl) (by rfl) T.n_isinstance (by decide +kernel) (pa_cons (pv 0) (pa_cons (pe_gref (by rfl) X.x_BadPlan.gC) pa_nil))) (pa_cons (pe_callB (k_isX (K := K) rfl) (by rfl) T.n_isinstance (by decide +kernel) (pa_cons (pv 0) (pa_cons (pe_gref (by rfl) X.x_BadPlans.gC) pa_nil))) (pa_cons (pe_callB (k_isX (K := K) rfl) (by rfl) T.n_isinstance (by decide +kernel) (pa_cons (pv 0) (pa_cons (pe_gref (by rfl) X.x_BadAnswers.gC) pa_nil))) (pa_cons (pe_callB (k_isX (K := K) rfl) (by rfl) T.n_isinstance (by decide +kernel) (pa_cons (pv 0) (pa_cons (pe_gref (by rfl) X.x_NoSuchPlace.gC) pa_nil))) (pa_cons (pe_callB (k_isX (K := K) rfl) (by rfl) T.n_isinstance (by decide +kernel) (pa_cons (pv 0) (pa_cons (pe_gref (by rfl) X.x_NoId.gC) pa_nil))) (pa_cons (pe_callB (k_isX (K := K) rfl) (by rfl) T.n_isinstance (by decide +kernel) (pa_cons (pv 0) (pa_cons (pe_gref (by rfl) X.x_BadPush.gC) pa_nil))) (pa_cons (pe_callB (k_isX (K := K) rfl) (by rfl) T.n_isinstance (by decide +kernel) (pa_cons (pv 0) (pa_cons (pe_gref (by rfl) X.x_BadNumbers.gC) pa_nil))) (pa_cons (pe_callB (k_isX (K := K) rfl) (by rfl) T.n_isinstance (by decide +kernel) (pa_cons (pv 0) (pa_cons (pe_gref (by rfl) X.x_BadKey.gC) pa_nil))) (pa_cons (pe_callB (k_isX (K := K) rfl) (by rfl) T.n_isinstance (by decide +kernel) (pa_cons (pv 0) (pa_cons (pe_gref (by rfl) X.x_NoKey.gC) pa_nil))) (pa_cons (pe_callB (k_isX (K := K) rfl) (by rfl) T.n_isinstance (by decide +kernel) (pa_cons (pv 0) (pa_cons (pe_gref (by rfl) X.x_NotPlain.gC) pa_nil))) (pa_cons (pe_callB (k_isX (K := K) rfl) (by rfl) T.n_isinstance (by decide +kernel) (pa_cons (pv 0) (pa_cons (pe_gref (by rfl) X.x_NotAlike.gC) pa_nil))) (pa_cons (pe_callB (k_isX (K := K) rfl) (by rfl) T.n_isinstance (by decide +kernel) (pa_cons (pv 0) (pa_cons (pe_gref (by rfl) X.x_BadFolding.gC) pa_nil))) (pa_cons (pe_callB (k_isX (K := K) rfl) (by rfl) T.n_isinstance (by decide +kernel) (pa_cons (pv 0) (pa_cons (pe_gref (by rfl) X.x_BadDeed.gC) pa_nil))) (pa_cons (pe_callB (k_isX (K := K) rfl) (by rfl) T.n_isinstance (by decide +kernel) (pa_cons (pv 0) (pa_cons (pe_gref (by rfl) X.x_Known.gC) pa_nil))) (pa_cons (pe_callB (k_isX (K := K) rfl) (by rfl) T.n_isinstance (by decide +kernel) (pa_cons (pv 0) (pa_cons (pe_gref (by rfl) X.x_NoKept.gC) pa_nil))) (pa_cons (pe_callB (k_isX (K := K) rfl) (by rfl) T.n_isinstance (by decide +kernel) (pa_cons (pv 0) (pa_cons (pe_gref (by rfl) X.x_Refused.gC) pa_nil))) pa_nil))))))))))))))))))))))))), to_spS hn (fun ss hp => ?_) h⟩)
  obtain ⟨t, a, fs, rfl, h1⟩ := hp
  change WS K _ [.obj a (cs t) fs, .no] [] _
  have z := X.cfs h1
  refine ws_seq (ws_set (w_lst (wa_cons (w_isX rfl (.own _) z.ec (X.kit h1 (by decide) z.cf X.x_BadKind.cf)
      (wa_cons (w_isX rfl (.own _) z.ec (X.kit h1 (by decide) z.cf X.x_NoPlace.cf)
      (wa_cons (w_isX rfl (.own _) z.ec (X.kit h1 (by decide) z.cf X.x_NoPath.cf)
      (wa_cons (w_isX rfl (.own _) z.ec (X.kit h1 (by decide) z.cf X.x_BadTerm.cf)
      (wa_cons (w_isX rfl (.own _) z.ec (X.kit h1 (by decide) z.cf X.x_BadHeads.cf)
      (wa_cons (w_isX rfl (.own _) z.ec (X.kit h1 (by decide) z.cf X.x_NoTable.cf)
      (wa_cons (w_isX rfl (.own _) z.ec (X.kit h1 (by decide) z.cf X.x_NoRow.cf)
      (wa_cons (w_isX rfl (.own _) z.ec (X.kit h1 (by decide) z.cf X.x_NoColumn.cf)
      (wa_cons (w_isX rfl (.own _) z.ec (X.kit h1 (by decide) z.cf X.x_BadRow.cf)
      (wa_cons (w_isX rfl (.own _) z.ec (X.kit h1 (by decide) z.cf X.x_BadLots.cf)
      (wa_cons (w_isX rfl (.own _) z.ec (X.kit h1 (by decide) z.cf X.x_BadText.cf)
      (wa_cons (w_isX rfl (.own _) z.ec (X.kit h1 (by decide) z.cf X.x_BadForm.cf)
      (wa_cons (w_isX rfl (.own _) z.ec (X.kit h1 (by decide) z.cf X.x_BadChoices.cf)
      (wa_cons (w_isX rfl (.own _) z.ec (X.kit h1 (by decide) z.cf X.x_BadProgram.cf)
      (wa_cons (w_isX rfl (.own _) z.ec (X.kit h1 (by decide) z.cf X.x_Unknown.cf)
      (wa_cons (w_isX rfl (.own _) z.ec (X.kit h1 (by decide) z.cf X.x_Misfit.cf)
      (wa_cons (w_isX rfl (.own _) z.ec (X.kit h1 (by decide) z.cf X.x_Unclear.cf)
      (wa_cons (w_isX rfl (.own _) z.ec (X.kit h1 (by decide) z.cf X.x_NoAnswer.cf)
      (wa_cons (w_isX rfl (.own _) z.ec (X.kit h1 (by decide) z.cf X.x_BadChain.cf)
      (wa_cons (w_isX rfl (.own _) z.ec (X.kit h1 (by decide) z.cf X.x_BadCell.cf)
      (wa_nil ⟨[.bool (decide (0 = t)), .bool (decide (1 = t)), .bool (decide (2 = t)), .bool (decide (3 = t)), .bool (decide (4 = t)), .bool (decide (5 = t)), .bool (decide (6 = t)), .bool (decide (7 = t)), .bool (decide (8 = t)), .bool (decide (9 = t)), .bool (decide (10 = t)), .bool (decide (11 = t)), .bool (decide (12 = t)), .bool (decide (13 = t)), .bool (decide (14 = t)), .bool (decide (15 = t)), .bool (decide (16 = t)), .bool (decide (17 = t)), .bool (decide (18 = t)), .bool (decide (19 = t))], rfl, by simp, ?_⟩)))))))))))))))))))))))))))))))))))))))))))
  change WS K _ [.obj a (cs t) fs, .dat (.list [.bool (decide (0 = t)), .bool (decide (1 = t)), .bool (decide (2 = t)), .bool (decide (3 = t)), .bool (decide (4 = t)), .bool (decide (5 = t)), .bool (decide (6 = t)), .bool (decide (7 = t)), .bool (decide (8 = t)), .bool (decide (9 = t)), .bool (decide (10 = t)), .bool (decide (11 = t)), .bool (decide (12 = t)), .bool (decide (13 = t)), .bool (decide (14 = t)), .bool (decide (15 = t)), .bool (decide (16 = t)), .bool (decide (17 = t)), .bool (decide (18 = t)), .bool (decide (19 = t))])] [] _
  refine ws_ret (w_op ao_plus (w_var rfl (w_lst (wa_cons (w_isX rfl (.own _) z.ec (X.kit h1 (by decide) z.cf X.x_NoFit.cf)
      (wa_cons (w_isX rfl (.own _) z.ec (X.kit h1 (by decide) z.cf X.x_BadFamily.cf)
      (wa_cons (w_isX rfl (.own _) z.ec (X.kit h1 (by decide) z.cf X.x_TooWide.cf)
      (wa_cons (w_isX rfl (.own _) z.ec (X.kit h1 (by decide) z.cf X.x_BadChange.cf)
      (wa_cons (w_isX rfl (.own _) z.ec (X.kit h1 (by decide) z.cf X.x_BadPlan.cf)
      (wa_cons (w_isX rfl (.own _) z.ec (X.kit h1 (by decide) z.cf X.x_BadPlans.cf)
      (wa_cons (w_isX rfl (.own _) z.ec (X.kit h1 (by decide) z.cf X.x_BadAnswers.cf)
      (wa_cons (w_isX rfl (.own _) z.ec (X.kit h1 (by decide) z.cf X.x_NoSuchPlace.cf)
      (wa_cons (w_isX rfl (.own _) z.ec (X.kit h1 (by decide) z.cf X.x_NoId.cf)
      (wa_cons (w_isX rfl (.own _) z.ec (X.kit h1 (by decide) z.cf X.x_BadPush.cf)
      (wa_cons (w_isX rfl (.own _) z.ec (X.kit h1 (by decide) z.cf X.x_BadNumbers.cf)
      (wa_cons (w_isX rfl (.own _) z.ec (X.kit h1 (by decide) z.cf X.x_BadKey.cf)
      (wa_cons (w_isX rfl (.own _) z.ec (X.kit h1 (by decide) z.cf X.x_NoKey.cf)
      (wa_cons (w_isX rfl (.own _) z.ec (X.kit h1 (by decide) z.cf X.x_NotPlain.cf)
      (wa_cons (w_isX rfl (.own _) z.ec (X.kit h1 (by decide) z.cf X.x_NotAlike.cf)
      (wa_cons (w_isX rfl (.own _) z.ec (X.kit h1 (by decide) z.cf X.x_BadFolding.cf)
      (wa_cons (w_isX rfl (.own _) z.ec (X.kit h1 (by decide) z.cf X.x_BadDeed.cf)
      (wa_cons (w_isX rfl (.own _) z.ec (X.kit h1 (by decide) z.cf X.x_Known.cf)
      (wa_cons (w_isX rfl (.own _) z.ec (X.kit h1 (by decide) z.cf X.x_NoKept.cf)
      (wa_cons (w_isX rfl (.own _) z.ec (X.kit h1 (by decide) z.cf X.x_Refused.cf)
      (wa_nil ⟨[.bool (decide (20 = t)), .bool (decide (21 = t)), .bool (decide (22 = t)), .bool (decide (23 = t)), .bool (decide (24 = t)), .bool (decide (25 = t)), .bool (decide (26 = t)), .bool (decide (27 = t)), .bool (decide (28 = t)), .bool (decide (29 = t)), .bool (decide (30 = t)), .bool (decide (31 = t)), .bool (decide (32 = t)), .bool (decide (33 = t)), .bool (decide (34 = t)), .bool (decide (35 = t)), .bool (decide (36 = t)), .bool (decide (37 = t)), .bool (decide (38 = t)), .bool (decide (39 = t))], rfl, by simp, ?_⟩))))))))))))))))))))))))))))))))))))))))))))
  refine fpl (by simp) ?_
  intro t' a' fs' h h2
  simp only [List.cons.injEq, Sv.obj.injEq] at h
  have e := X.nd t t' h1 h2
  rw [h.1.2.1, beq_self_eq_true] at e
  have e : t' = t := of_decide_eq_true e.symm
  subst e
  rfl
end
end E5

set_option Elab.async false
set_option linter.all false
set_option maxRecDepth 100000
set_option maxHeartbeats 4000000
namespace E5
open PySem PySem.Spec PyProof.Rows L2 Ab

/-- one step of the reading -/
local macro_rules | `(tactic| walk_at "w") => `(tactic| first
  | (with_reducible refine ws_seq ?_) | (with_reducible refine ws_next ?_) | (with_reducible refine ws_set ?_) | (with_reducible refine ws_par ?_) | (with_reducible refine ws_ret ?_) | (with_reducible refine ws_if ?_) | (with_reducible refine ws_drop ?_)
  | (refine w_var rfl ?_) | (with_reducible refine w_int ?_) | (with_reducible refine w_str ?_) | (with_reducible refine w_bl ?_) | (with_reducible refine w_non ?_)
  | (with_reducible refine wa_nil ?_) | (with_reducible refine wa_cons ?_) | (with_reducible refine w_tup ?_) | (with_reducible refine w_lst ?_)
  | (with_reducible refine wt_test ?_) | (with_reducible refine wt_B ?_) | (with_reducible refine wt_not ?_) | (with_reducible refine wt_and ?_) | (with_reducible refine wt_or ?_)
  | (with_reducible refine w_andV ?_) | (with_reducible refine w_orV ?_) | (with_reducible refine w_notV ?_) | (with_reducible refine w_ite ?_)
  | (with_reducible refine w_op ao_eqW ?_) | (with_reducible refine w_op ao_neW ?_) | (with_reducible refine w_op ao_eq ?_) | (with_reducible refine w_op ao_ne ?_) | (with_reducible refine w_op ao_isB ?_) | (with_reducible refine w_op ao_notB ?_) | (with_reducible refine w_op ao_ix ?_) | (with_reducible refine w_op ao_plus ?_) | (with_reducible refine w_op ao_less ?_) | (with_reducible refine w_op ao_le ?_) | (with_reducible refine w_op ao_gt ?_) | (with_reducible refine w_op ao_ge ?_)
  | (with_reducible refine w_op ao_sub ?_) | (with_reducible refine w_op ao_mul ?_) | (with_reducible refine w_op ao_mod ?_) | (with_reducible refine w_op ao_div ?_) | (with_reducible refine w_op ao_pow ?_) | (with_reducible refine w_op ao_isNo ?_) | (with_reducible refine w_op ao_inSg ?_) | (with_reducible refine w_op ao_inW ?_) | (with_reducible refine w_op ao_ninW ?_) | (with_reducible refine w_op ao_inSeq ?_) | (with_reducible refine w_op ao_ninSeq ?_)
  | (with_reducible refine w_cb ac_len ?_) | (with_reducible refine w_cb ac_tupleOf ?_) | (with_reducible refine w_cb ac_intOf ?_) | (with_reducible refine w_cb ac_abs ?_) | (with_reducible refine w_cb ac_ord ?_) | (with_reducible refine w_cb ac_all ?_) | (with_reducible refine w_cb ac_any ?_)
  | (with_reducible refine w_isi (by decide) ?_) | (with_reducible refine w_isi2 (by decide) (by decide) ?_) | (with_reducible refine w_sl ?_) | (with_reducible refine wo_none ?_) | (with_reducible refine wo_some ?_)
  | (with_reducible refine w_chain ao_le ao_le ?_) | (with_reducible refine w_chain ao_leS ao_leS ?_) | (with_reducible refine w_call ?_))
local macro_rules | `(tactic| walk_at "v") => `(tactic| first
  | (with_reducible refine m0 ?_) | (with_reducible refine m1 ?_) | (with_reducible refine m2 ?_) | (with_reducible refine m3 ?_) | (with_reducible refine m5 ?_)
  | (with_reducible refine exb ?_) | (with_reducible refine exi ?_) | (with_reducible refine exl ?_) | (with_reducible refine exql ?_) | (with_reducible refine exqt ?_)
  | (refine fixt rfl ?_) | (refine fixl rfl ?_) | (refine fslt rfl ?_) | (refine fsll rfl ?_)
  | (with_reducible refine flent ?_; dsimp only [List.length_cons, List.length_nil]) | (with_reducible refine flenl ?_; dsimp only [List.length_cons, List.length_nil])
  | (with_reducible refine fii (by first | trivial | decide) ?_) | (with_reducible refine fpi ?_) | (with_reducible refine flti ?_) | (with_reducible refine fint ?_) | (with_reducible refine ftupl ?_) | (with_reducible refine ftupt ?_)
  | (with_reducible refine feqW (by decide +kernel) (by decide +kernel) (by decide +kernel) ?_) | (with_reducible refine fneW (by decide +kernel) (by decide +kernel) (by decide +kernel) ?_)
  | (with_reducible refine feq (by decide +kernel) (by decide +kernel) ?_) | (with_reducible refine fne (by decide +kernel) (by decide +kernel) ?_)
  | (with_reducible refine iteK rfl ?_) | (with_reducible refine iteN rfl ?_) | (with_reducible refine iteK (by decide +kernel) ?_) | (with_reducible refine iteN (by decide +kernel) ?_))
local macro_rules | `(tactic| walk_at "x") => `(tactic| first | (with_reducible refine wx_seq ?_) | (with_reducible refine wx_if ?_) | (with_reducible refine wx_next ?_) | (with_reducible refine wx_ret ?_) | (with_reducible refine wr_tup ?_) | (with_reducible refine war_cons ?_) | (with_reducible refine war_nil ?_))
local macro_rules | `(tactic| walk_at "ww") => `(tactic| repeat (first | walk_at "w" | walk_at "v" | walk_at "x"))

abbrev spLaw (K : PySem.W.Frag) : Sp := spP (fun ds => ∃ ns : List Int, ds = [intL ns] ∧ ns.length ≤ 63) (fun _ x => x = .bool true) K
theorem ws_mid {K : PySem.W.Frag} {ts : TS} {as : List Sv} {M : Mm} {A : AE} {J : List Sv → Mm → Prop} (h : WS K ts as M { A with nx := J }) (q : ∀ as' M', J as' M' → A.nx as' M') : WS K ts as M A := fun S H0 σ H D k r n rt b c =>
  h S H0 σ H D k r (fun σ' H' as' M' k' r' e' p => n σ' H' as' M' k' r' e' (q as' M' p)) rt b c
theorem ms_c {p c : Addr} {ys pl pl' : List PyData} (h : c ≠ p) : mset [(p, true, ys), (c, true, pl)] c pl' = [(p, true, ys), (c, true, pl')] := by simp [mset, Ne.symm h]
theorem ms_p {p c : Addr} {ys ys' pl : List PyData} (h : c ≠ p) : mset [(p, true, ys), (c, true, pl)] p ys' = [(p, true, ys'), (c, true, pl)] := by simp [mset, h]
theorem md_p {p c : Addr} {ys pl : List PyData} (h : c ≠ p) : mdel [(p, true, ys), (c, true, pl)] p = [(c, true, pl)] := by simp [mdel, h]
theorem lay_txt {cs : List Nat} (h : ∀ c ∈ cs, c ∈ signs12) : (PyData.str (txt cs)).canLay0 = true := by
  have a : ∀ c ∈ signs12, decide (c < 0x110000) = true := by decide +kernel
  show (txt cs).cps.all _ = true
  rw [← Array.all_toList, txt_list]
  exact List.all_eq_true.mpr fun c hc => a c (h c hc)
theorem bv_ex {k : Str} {d : PyData} (h : BV k d) : EX 1 d := by
  cases h with
  | int => exact .int
  | txt _ hc => exact .str (lay_txt hc)
theorem cut_take {y1 y2 y3 : PyData} {k : Nat} (h : k ≤ 3) : cutD [y1, y2, y3] none (some ((([y1, y2, y3].take k).length : Nat) : Int)) = [y1, y2, y3].take k := by
  match k, h with
  | 0, _ => rfl
  | 1, _ => rfl
  | 2, _ => rfl
  | 3, _ => rfl
theorem fld_le {t : Nat} : (fldT.getD t []).length ≤ 3 := by
  have a : ∀ l ∈ fldT, l.length ≤ 3 := by decide +kernel
  rw [List.getD_eq_getElem?_getD]
  cases h : fldT[t]? with
  | none => decide
  | some l => exact a l (List.mem_of_getElem? h)
theorem zip_take {ns : List Str} {y1 y2 y3 : PyData} (h : ns.length ≤ 3) : ((((ns.zip [y1, y2, y3]).reverse).map (·.2)).reverse) = [y1, y2, y3].take ns.length := by
  match ns, h with
  | [], _ => rfl
  | [_], _ => rfl
  | [_, _], _ => rfl
  | [_, _, _], _ => rfl
section
variable {P0 : Program} {w : World} {K : PySem.W.Frag} {mg : Str → Option Value} {base : Heap} {cs : Nat → Addr} {A : Addr} (T : Txt K mg) (X : XS K mg cs A)
theorem w_ex {n : Nat} {ta : TA} {as : List Sv} {M : Mm} {R : PyData → Mm → Prop} (h : WA K ta as M fun ss M1 => ∃ d, ss = [.dat d, .dat d] ∧ EX n d ∧ R (.bool true) M1) : W K (tCall (spEx n K) [] E0 ta) as M R :=
  w_call fun S H0 σ H k r Q q => h S H0 σ H k r Q fun vs H1 ss M1 k1 e1 b1 p1 => q vs H1 ss M1 k1 e1 b1 (by
    obtain ⟨d, es, he, hr⟩ := p1
    exact ⟨[d, d], es, ⟨d, rfl, he⟩, fun x hx => by rw [hx]; exact hr⟩)
include T X in
theorem ok_law {f0 : Addr} {fd0 : FuncData} (F : Fun K "law" "law" s_law f0 fd0) (q_law_pool : Cal P0 w K mg base 1 "_law_pool" ["_law_script", "_law_at"] (spN prePool (fun _ pl => poolD pl) K)) (q_law_draw : Cal P0 w K mg base 1 "_law_draw" ["_law_pool_here", "_law_many"] (spQ preDraw postDraw K))
    (q_law_exact : Cal P0 w K mg base 3 "_law_exact" ["_law_told", "_law_due"] (spEx 2 K)) (q_law_base_value : Cal P0 w K mg base 2 "_law_base_value" ["_law_pool_here", "_law_kind"] (spBV K)) (c_law_first_errors : Cal P0 w K mg base 3 "_law_first_errors" ["_law_turn", "_law_one", "_law_other", "_law_third"] (spErr 0 cs K))
    (c_law_later_errors : Cal P0 w K mg base 3 "_law_later_errors" ["_law_turn", "_law_one", "_law_other", "_law_third"] (spErr 20 cs K)) (q_law_first_attributes : Cal P0 w K mg base 1 "_law_first_attributes" ["_law_turn", "_law_error"] (spAtt 0 cs K)) (q_law_later_attributes : Cal P0 w K mg base 1 "_law_later_attributes" ["_law_turn", "_law_error"] (spAtt 20 cs K))
    (q_law_flags : Cal P0 w K mg base 1 "_law_flags" ["_law_error"] (spFlg cs K)) : FnOk P0 w K mg base CX0 4 f0 fd0 ["_law_script"] (spLaw K) := by
  have hn : ∀ ds, (∃ ns : List Int, ds = [intL ns] ∧ ns.length ≤ 63) → ds.length = 1 := by rintro ds ⟨ns, rfl, _⟩; rfl
  have c_law_pool := q_law_pool.mono (show 1 ≤ 3 by decide)
  have c_law_draw := q_law_draw.mono (show 1 ≤ 3 by decide)
  have c_law_exact := q_law_exact
  have c_law_base_value := q_law_base_value.mono (show 2 ≤ 3 by decide)
  have c_law_first_attributes := q_law_first_attributes.mono (show 1 ≤ 3 by decide)
  have c_law_later_attributes := q_law_later_attributes.mono (show 1 ≤ 3 by decide)
  have c_law_flags := q_law_flags.mono (show 1 ≤ 3 by decide)
  refine F.ok sc_law (fun vs H Q E h => spP_len hn h) (fun cdv A outer s H vs Q E hr h => ⟨_, (pss_cons (ps_set (i := 1) sc_law.nd rfl (by first | exact .inl rfl | exact .inr rfl) (pe_cal c_law_pool hr (pa_cons (pv 0) (pa_cons pe_int pa_nil))))
      (pss_cons (ps_for PassesOwn.never rfl (pi_range1 (by rfl) T.n_range (pa_cons pe_int pa_nil)) (pg_name (i := 2) sc_law.nd rfl (by first | exact .inl rfl | exact .inr rfl)) (pss_cons (ps_set (i := 3) sc_law.nd rfl (by first | exact .inl rfl | exact .inr rfl) (pe_lst pa_nil))
      (pss_cons (ps_for PassesOwn.never rfl (pi_range1 (by rfl) T.n_range (pa_cons pe_int pa_nil)) (pg_name (i := 4) sc_law.nd rfl (by first | exact .inl rfl | exact .inr rfl)) (pss_one (ps_expr (pe_bm PySem.F.plainAttrs_list PySem.F.slot_list_append PySem.F.type_list_append mt_append (pv 3) (pa_cons (pe_ix (k_ix (K := K) rfl) (pe_lst (pa_cons (pe_cal c_law_base_value hr (pa_cons (pv 1) (pa_cons pe_str pa_nil))) (pa_cons (pe_cal c_law_base_value hr (pa_cons (pv 1) (pa_cons pe_str pa_nil))) (pa_cons (pe_tup (pa_cons pe_int (pa_cons pe_str pa_nil))) (pa_cons (pe_tup pa_nil) pa_nil))))) (pe_cal c_law_draw hr (pa_cons (pv 1) (pa_cons pe_int pa_nil))) (fun _ _ => rfl)) pa_nil)))))
      (pss_cons (ps_if (pt_cmpR op_less (pv 2) pe_int (nomark _)) (pss_cons (ps_set (i := 5) sc_law.nd rfl (by first | exact .inl rfl | exact .inr rfl) (pe_cal c_law_first_errors hr (pa_cons (pv 2) (pa_cons (pe_ix (k_ix (K := K) rfl) (pv 3) pe_int (fun _ _ => rfl)) (pa_cons (pe_ix (k_ix (K := K) rfl) (pv 3) pe_int (fun _ _ => rfl)) (pa_cons (pe_ix (k_ix (K := K) rfl) (pv 3) pe_int (fun _ _ => rfl)) pa_nil))))))
      (pss_one (ps_set (i := 6) sc_law.nd rfl (by first | exact .inl rfl | exact .inr rfl) (pe_cal c_law_first_attributes hr (pa_cons (pv 2) (pa_cons (pv 5) pa_nil)))))) (pss_cons (ps_set (i := 5) sc_law.nd rfl (by first | exact .inl rfl | exact .inr rfl) (pe_cal c_law_later_errors hr (pa_cons (pv 2) (pa_cons (pe_ix (k_ix (K := K) rfl) (pv 3) pe_int (fun _ _ => rfl)) (pa_cons (pe_ix (k_ix (K := K) rfl) (pv 3) pe_int (fun _ _ => rfl)) (pa_cons (pe_ix (k_ix (K := K) rfl) (pv 3) pe_int (fun _ _ => rfl)) pa_nil))))))
      (pss_one (ps_set (i := 6) sc_law.nd rfl (by first | exact .inl rfl | exact .inr rfl) (pe_cal c_law_later_attributes hr (pa_cons (pv 2) (pa_cons (pv 5) pa_nil)))))))
      (pss_cons (ps_if (PW.pt (pw_or (pt_not (pt_val (pe_cal c_law_exact hr (pa_cons (pv 6) (pa_cons (pe_slice (k_sl (K := K) rfl) (pv 3) po_none (po_some (pe_callB (k_len (K := K) rfl) (by rfl) T.n_len (by decide +kernel) (pa_cons (pv 6) pa_nil)))) pa_nil))))) (pw_or (pt_not (pt_val (pe_callB (k_isX (K := K) rfl) (by rfl) T.n_isinstance (by decide +kernel) (pa_cons (pv 5) (pa_cons (pe_gref (by rfl) X.x_AskError.gC) pa_nil))))) (pw_or1 (pt_not (pt_val (pe_callB (k_isX (K := K) rfl) (by rfl) T.n_isinstance (by decide +kernel) (pa_cons (pv 5) (pa_cons (pe_bltn (v := .ty "ValueError") (u := .type "ValueError") (by rfl) T.n_ValueError (by decide +kernel) rfl) pa_nil))))))))) (pss_one (ps_ret pe_bl)) pss_nil)
      (pss_one (ps_if (pt_not (pt_val (pe_cal c_law_exact hr (pa_cons (pe_cal c_law_flags hr (pa_cons (pv 5) pa_nil)) (pa_cons (pe_lc (own := [("_law_own", 7)]) (by rfl) sc_law.nd (pi_range1 (by rfl) T.n_range (pa_cons pe_int pa_nil)) (blkOk_by (N := ["_law_script", "_law_pool_here", "_law_turn", "_law_things", "_law_k", "_law_error", "_law_told", "_law_own"]) (sc := defScope s_law) (by decide +kernel)) (fun _ _ _ _ _ => (pg_name (i := 7) sc_law.nd rfl (by first | exact .inl rfl | exact .inr rfl))) (fun _ _ _ _ _ => pts_nil) (fun _ _ _ _ _ => (pe_cmpR (k_eqW (K := K) rfl hr) (pv 7) (pv 2) (nomark _)))) pa_nil))))) (pss_one (ps_ret pe_bl)) pss_nil)))))))
      (pss_one (ps_ret pe_bl)))), to_spP hn (fun ds hp => ?_) h⟩)
  obtain ⟨ns, rfl, hns⟩ := hp
  change WS K _ [.dat (intL ns), .no, .no, .no, .no, .no, .no, .no] [] _
  refine ws_seq (ws_setN (wa_cons (w_var rfl (wa_cons (w_int (wa_nil (m2 ⟨⟨ns, 0, rfl, hns⟩, fun c pl _ hpl => ?_⟩)))))))
  change WS K _ [.dat (intL ns), .own c, .no, .no, .no, .no, .no, .no] [(c, true, pl)] _
  refine ws_seq (ws_for ga_name (wi_rng (wa_cons (w_int (wa_nil ⟨40, rfl, by decide, by decide, fun _ as' M' => ∃ (x2 x3 x4 x5 x6 x7 : Sv) (pl : List PyData), as' = [.dat (intL ns), .own c, x2, x3, x4, x5, x6, x7] ∧ M' = [(c, true, pl)] ∧ poolD pl, ⟨_, _, _, _, _, _, _, rfl, rfl, hpl⟩, ?_, ?_⟩)))))
  · rintro i x as' M' hx ⟨x2, x3, x4, x5, x6, x7, pl1, rfl, rfl, hpl1⟩
    obtain ⟨hi, rfl⟩ := List.getElem?_eq_some_iff.mp hx
    rw [List.length_map, List.length_range] at hi
    have hi : i < 40 := hi
    rw [List.getElem_map, List.getElem_range]
    change WS K _ [.dat (intL ns), .own c, .dat (.int (i : Int)), x3, x4, x5, x6, x7] [(c, true, pl1)] _
    -- the things
    refine ws_seq (ws_new (wa_nil ⟨[], rfl, by simp, fun p hp => ?_⟩))
    have hcp : c ≠ p := hp (c, true, pl1) (by simp)
    change WS K _ [.dat (intL ns), .own c, .dat (.int (i : Int)), .own p, x4, x5, x6, x7] [(p, true, []), (c, true, pl1)] _
    refine ws_seq (ws_for ga_name (wi_rng (wa_cons (w_int (wa_nil ⟨3, rfl, by decide, by decide, fun j as' M' => ∃ (x4 : Sv) (ys pl : List PyData), as' = [.dat (intL ns), .own c, .dat (.int (i : Int)), .own p, x4, x5, x6, x7] ∧ M' = [(p, true, ys), (c, true, pl)] ∧ poolD pl ∧ ys.length = j ∧ j ≤ 3 ∧ ∀ y ∈ ys, EX 1 y, ⟨_, [], pl1, rfl, rfl, hpl1, rfl, by decide, by simp⟩, ?_, ?_⟩)))))
    · rintro j y as' M' hy ⟨x4, ys, pl2, rfl, rfl, hpl2, hl, hj, hE⟩
      have hj3 : j < 3 := by simpa using (List.getElem?_eq_some_iff.mp hy).1
      change WS K _ [.dat (intL ns), .own c, .dat (.int (i : Int)), .own p, .dat y, x5, x6, x7] [(p, true, ys), (c, true, pl2)] _
      refine ws_app rfl List.mem_cons_self (w_op ao_ix (w_lst (wa_cons ?_)))
      refine w_callQm (wa_mut rfl (wa_cons (w_str (wa_nil ⟨c, true, pl2, [.str "int"], rfl, by simp, hpl2, ⟨"int", rfl, .inl rfl⟩, fun d1 pl3 hpl3 hd1 => ?_⟩))))
      rw [ms_c hcp]
      refine wa_cons (w_callQm (wa_mut rfl (wa_cons (w_str (wa_nil ⟨c, true, pl3, [.str "text"], rfl, by simp, hpl3, ⟨"text", rfl, .inr rfl⟩, fun d2 pl4 hpl4 hd2 => ?_⟩)))))
      rw [ms_c hcp]
      refine wa_cons (w_tup (wa_cons (w_int (wa_cons (w_str (wa_nil (m2 ⟨by simp, wa_cons (w_tup (wa_nil (m0 ⟨by simp, wa_nil ⟨[d1, d2, .tuple [.int 1, .str "a"], .tuple []], rfl, by simp, ?_⟩⟩)))⟩)))))))
      refine w_callQm (wa_mut rfl (wa_cons (w_int (wa_nil ⟨c, true, pl4, [.int 4], rfl, by simp, hpl4, ⟨4, rfl, by decide, by decide⟩, fun d pl5 hpl5 hd => ?_⟩))))
      rw [ms_c hcp]
      obtain ⟨n, rfl, hn4⟩ := hd 4 rfl
      have hn4 : n < 4 := by omega
      have hat : ∃ z, [d1, d2, .tuple [.int 1, .str "a"], .tuple []][n]? = some z ∧ EX 1 z := by
        have h4 : n = 0 ∨ n = 1 ∨ n = 2 ∨ n = 3 := by omega
        rcases h4 with rfl | rfl | rfl | rfl
        · exact ⟨_, rfl, bv_ex (hd1 _ rfl)⟩
        · exact ⟨_, rfl, bv_ex (hd2 _ rfl)⟩
        · refine ⟨_, rfl, .tup (by simp) fun x hx => ?_⟩
          simp only [List.mem_cons, List.mem_nil_iff, or_false] at hx
          rcases hx with rfl | rfl
          · exact .int
          · exact .str (by decide +kernel)
        · exact ⟨_, rfl, .tup (by simp) fun x hx => by cases hx⟩
      obtain ⟨z, hz, hEz⟩ := hat
      refine fixl (atI_nat hz) ⟨true, ys, by simp, by omega, ?_⟩
      rw [ms_p hcp]
      exact ⟨_, ys ++ [z], pl5, rfl, rfl, hpl5, by simp [hl], by omega, fun y hy => by
        rcases List.mem_append.mp hy with hy | hy
        · exact hE y hy
        · rw [List.mem_singleton.mp hy]; exact hEz⟩
    · rintro as' M' ⟨x4, ys, pl2, rfl, rfl, hpl2, hl, _, hE⟩
      have hl : ys.length = 3 := by simpa using hl
      obtain ⟨y1, y2, y3, rfl⟩ : ∃ y1 y2 y3, ys = [y1, y2, y3] := by
        match ys, hl with
        | [a, b, c], _ => exact ⟨a, b, c, rfl⟩
      refine ws_frz (p := p) List.mem_cons_self ?_
      rw [md_p hcp]
      have ec : afrz p [y1, y2, y3] (.own c) = .own c := by simp [afrz, hcp]
      have ep : afrz p [y1, y2, y3] (.own p) = .dat (.list [y1, y2, y3]) := by simp [afrz]
      simp only [List.map_cons, List.map_nil, ec, ep]
      rw [show afrz p [y1, y2, y3] (.dat (intL ns)) = .dat (intL ns) from rfl, show afrz p [y1, y2, y3] (.dat (.int (i : Int))) = .dat (.int (i : Int)) from rfl]
      generalize afrz p [y1, y2, y3] x4 = z4
      generalize afrz p [y1, y2, y3] x5 = z5
      generalize afrz p [y1, y2, y3] x6 = z6
      generalize afrz p [y1, y2, y3] x7 = z7
      -- the error, its attributes
      refine ws_seq (ws_mid (J := fun as' M' => ∃ a, as' = [.dat (intL ns), .own c, .dat (.int (i : Int)), .dat (.list [y1, y2, y3]), z4, .obj a (cs i) ((fldT.getD i []).zip [y1, y2, y3]).reverse, .dat (.list ([y1, y2, y3].take (fldT.getD i []).length)), z7] ∧ M' = [(c, true, pl2)]) ?_ ?_)
      · have two : ∀ lo, lo ≤ i → i < lo + 20 → WS K (tSeq (tAsg (tCall (spErr lo cs K) [] E0 (tCons (tVar 2) (tCons (tOp (rIx K) (tVar 3) (tC (.int 0))) (tCons (tOp (rIx K) (tVar 3) (tC (.int 1))) (tCons (tOp (rIx K) (tVar 3) (tC (.int 2))) tNil))))) (gName 5)) (tAsg (tCall (spAtt lo cs K) [] E0 (tCons (tVar 2) (tCons (tVar 5) tNil))) (gName 6)))
            [.dat (intL ns), .own c, .dat (.int (i : Int)), .dat (.list [y1, y2, y3]), z4, z5, z6, z7] [(c, true, pl2)] ⟨fun as' M' => ∃ a, as' = [.dat (intL ns), .own c, .dat (.int (i : Int)), .dat (.list [y1, y2, y3]), z4, .obj a (cs i) ((fldT.getD i []).zip [y1, y2, y3]).reverse, .dat (.list ([y1, y2, y3].take (fldT.getD i []).length)), z7] ∧ M' = [(c, true, pl2)], fun _ _ => False, fun _ _ => False, fun _ _ => False⟩ := fun lo h1 h2 => by
          refine ws_seq (ws_setV (wv_call (wa_cons (w_var rfl (wa_cons (w_op ao_ix (w_var rfl (w_int (fixl rfl (wa_cons (w_op ao_ix (w_var rfl (w_int (fixl rfl (wa_cons (w_op ao_ix (w_var rfl (w_int (fixl rfl (wa_nil ⟨⟨i, y1, y2, y3, rfl, h1, h2⟩, fun s hs => ?_⟩))))))))))))))))))))
          obtain ⟨a, rfl⟩ := hs i y1 y2 y3 rfl
          change WS K _ [.dat (intL ns), .own c, .dat (.int (i : Int)), .dat (.list [y1, y2, y3]), z4, .obj a (cs i) ((fldT.getD i []).zip [y1, y2, y3]).reverse, z6, z7] [(c, true, pl2)] _
          refine ws_set (w_callS (wa_cons (w_var rfl (wa_obj rfl (wa_nil ⟨⟨i, a, y1, y2, y3, rfl, h1, h2⟩, fun d hd => ?_⟩)))))
          have hd := hd i a _ _ rfl
          rw [zip_take fld_le] at hd
          subst hd
          exact ⟨a, rfl, rfl⟩
        refine ws_if (wt_test (w_op ao_less (w_var rfl (w_int (flti (exb ?_))))))
        refine iteB (fun h => ?_) (fun h => ?_)
        · have h : i < 20 := by have := of_decide_eq_true h; omega
          exact fun S H0 σ H D k r n rt b c => two 0 (by omega) (by omega) S H0 σ H D k r n (fun _ _ _ _ _ _ z => z.elim) (fun _ _ _ _ _ _ _ z => z.elim) (fun _ _ _ _ _ _ _ z => z.elim)
        · have h : ¬ i < 20 := by intro z; rw [decide_eq_true (show (i : Int) < 20 by omega)] at h; cases h
          exact fun S H0 σ H D k r n rt b c => two 20 (by omega) (by omega) S H0 σ H D k r n (fun _ _ _ _ _ _ z => z.elim) (fun _ _ _ _ _ _ _ z => z.elim) (fun _ _ _ _ _ _ _ z => z.elim)
      · rintro as' M' ⟨a, rfl, rfl⟩
        have z := X.cfs hi
        have hE3 : ∀ k, EX 2 (.list ([y1, y2, y3].take k)) := fun k => .lst (by simp; omega) fun x hx => hE x (List.mem_of_mem_take hx)
        refine ws_seq (ws_if (wt_or (wt_not (wt_B (w_ex (wa_cons (w_var rfl (wa_cons (w_sl (w_var rfl (wo_none (wo_some (w_cb ac_len (wa_cons (w_var rfl (wa_nil (m1 (flenl (exi (fsll (cut_take fld_le) (wa_nil ⟨_, rfl, hE3 _, exb (iteN rfl ?_)⟩)))))))))))))))))))))
        refine wt_or (wt_not (wt_B (w_isX rfl (.own _) z.ec (X.kitA z.cf) (exb (iteN rfl ?_)))))
        refine wt_not (wt_B (w_isX rfl (.ty _) z.ec (kit_ve z.cf) (exb (iteN rfl (ws_next ?_)))))
        refine ws_if (wt_not (wt_B (w_ex (wa_cons (w_callS (wa_obj rfl (wa_nil ⟨⟨i, a, _, rfl, hi⟩, fun d hd => ?_⟩)))))))
        have hd := hd i a _ rfl hi
        subst hd
        refine wa_cons (w_map (by decide) (wi_rng (wa_cons (w_int (wa_nil ⟨40, rfl, by decide, by decide, fun x => .bool (PyData.eqv x (.int (i : Int))), by simp, fun x hx => ?_, wa_nil ⟨.list ((List.range 40).map fun j => .bool (decide (j = i))), ?_, ?_, exb (iteN rfl (ws_next ?_))⟩⟩)))))
        · obtain ⟨j, hj, rfl⟩ := List.mem_map.mp hx
          change W K _ [.dat (intL ns), .own c, .dat (.int (i : Int)), .dat (.list [y1, y2, y3]), z4, .obj a (cs i) ((fldT.getD i []).zip [y1, y2, y3]).reverse, .dat (.list ([y1, y2, y3].take (fldT.getD i []).length)), .dat (.int (j : Int))] _ _
          exact w_op ao_eqW (w_var rfl (w_var rfl (feqW rfl rfl (by simp [PyData.depth]) ⟨rfl, rfl⟩)))
        · rw [List.map_map]
          have e : ((fun x => PyData.bool (PyData.eqv x (.int (i : Int)))) ∘ fun (j : Nat) => PyData.int (j : Int)) = fun j => PyData.bool (decide (j = i)) := by
            funext j
            show PyData.bool ((j : Int) == (i : Int)) = _
            congr 1
            rw [Bool.eq_iff_iff]; simp; omega
          rw [e]; rfl
        · refine .lst (by simp) fun x hx => ?_
          obtain ⟨j, _, rfl⟩ := List.mem_map.mp hx
          exact .bl
        · exact ⟨_, _, _, _, _, _, pl2, rfl, rfl, hpl2⟩
  · rintro as' M' _
    exact ws_ret (w_bl rfl)
end
end E5

set_option Elab.async false
set_option linter.all false
set_option maxRecDepth 100000
set_option maxHeartbeats 4000000
namespace E5
open PySem PySem.Spec PyProof.Rows L2 Ab

structure XN (K : PySem.W.Frag) (nm : Str) (C A : Addr) (ns : List Str) : Prop where
  nm : PySem.W.nsIn K mainGlobals nm = some (some (.ref C))
  cf : CF K C (tailM A)
  kC : PySem.W.keepIn K (.ref C) = true
  hg : PySem.W.findIn K (.ref C) "__getattribute__" = some (some (.builtin "BaseException.__getattribute__"))
  hk : PySem.W.findIn K (.ref C) "__getattr__" = some none
  ha : PySem.W.findIn K (.ref C) "__class__" = some (some (.builtin "object.__class__"))
  no : ∀ n ∈ ns, PySem.W.findIn K (.ref C) n = some none
theorem XN.of {K : PySem.W.Frag} {nm : Str} {C A : Addr} {ns : List Str} {nm' : Str} {q : Str} {N : Addr} {bs sub : List Value} {sn : List Str} {ab : Bool} {col : Option Bool} {dd : Option Addr} {m0 m1 m2 m3 m5 : Option Value}
    (h1 : PySem.W.nsIn K mainGlobals nm = some (some (.ref C)))
    (h2 : K.lookup C = some (excClassObj nm' q C N bs [.ref A, .type "ValueError", .type "Exception", .type "BaseException", .type "object"] true sn sub ab col dd m0 m1 m2 m3 m5 "ValueError.__new__"))
    (h3 : PySem.W.keepIn K (.ref C) = true) (h4 : PySem.W.findIn K (.ref C) "__getattribute__" = some (some (.builtin "BaseException.__getattribute__"))) (h5 : PySem.W.findIn K (.ref C) "__getattr__" = some none) (h6 : PySem.W.findIn K (.ref C) "__class__" = some (some (.builtin "object.__class__")))
    (h7 : ∀ n ∈ ns, PySem.W.findIn K (.ref C) n = some none) : XN K nm C A ns := ⟨h1, ⟨⟨_, _, _, _, _, _, _, _, _, _, _, _, _, _, h2⟩⟩, h3, h4, h5, h6, h7⟩
structure XAN (K : PySem.W.Frag) (A : Addr) : Prop where
  nm : PySem.W.nsIn K mainGlobals "AskError" = some (some (.ref A))
  cf : CF K A [.type "ValueError", .type "Exception", .type "BaseException", .type "object"]
theorem XAN.of {K : PySem.W.Frag} {A : Addr} {nm' : Str} {q : Str} {N : Addr} {bs sub : List Value} {sn : List Str} {ab : Bool} {col : Option Bool} {dd : Option Addr} {m0 m1 m2 m3 m5 : Option Value}
    (h1 : PySem.W.nsIn K mainGlobals "AskError" = some (some (.ref A)))
    (h2 : K.lookup A = some (excClassObj nm' q A N bs [.type "ValueError", .type "Exception", .type "BaseException", .type "object"] true sn sub ab col dd m0 m1 m2 m3 m5 "ValueError.__new__")) : XAN K A := ⟨h1, ⟨⟨_, _, _, _, _, _, _, _, _, _, _, _, _, _, h2⟩⟩⟩
theorem no0 {K : PySem.W.Frag} {C : Addr} : ∀ n ∈ ([] : List Str), PySem.W.findIn K (.ref C) n = some none := fun n h => by cases h
theorem no1 {K : PySem.W.Frag} {C : Addr} {a : Str} (h1 : PySem.W.findIn K (.ref C) a = some none) : ∀ n ∈ [a], PySem.W.findIn K (.ref C) n = some none := fun n h => by
  rw [List.mem_singleton.mp h]; exact h1
theorem no2 {K : PySem.W.Frag} {C : Addr} {a b : Str} (h1 : PySem.W.findIn K (.ref C) a = some none) (h2 : PySem.W.findIn K (.ref C) b = some none) : ∀ n ∈ [a, b], PySem.W.findIn K (.ref C) n = some none := fun n h => by
  rcases List.mem_cons.mp h with rfl | h
  · exact h1
  · exact no1 h2 n h
theorem no3 {K : PySem.W.Frag} {C : Addr} {a b c : Str} (h1 : PySem.W.findIn K (.ref C) a = some none) (h2 : PySem.W.findIn K (.ref C) b = some none) (h3 : PySem.W.findIn K (.ref C) c = some none) : ∀ n ∈ [a, b, c], PySem.W.findIn K (.ref C) n = some none := fun n h => by
  rcases List.mem_cons.mp h with rfl | h
  · exact h1
  · exact no2 h2 h3 n h
structure IIn (K : PySem.W.Frag) (C : Addr) (qn : Str) (st : Stmt) : Prop where
  ex : ∃ (fI : Addr) (oc kV dc pm cd ct : Value) (od an : Option Addr) (sl : Array (Option Value)), PySem.W.findIn K (.ref C) "__init__" = some (some (.ref fI)) ∧ K.lookup fI = some ⟨oc, od, .func (PySem.W.fnOf "__init__" qn (defArgs st) (defBody st) (defScope st) .none kV dc pm an cd ct), sl⟩ ∧
    PySem.W.codeIn K cd qn = true ∧ PySem.W.keepIn K (.ref fI) = true ∧ PySem.W.typeIn K (.ref fI) = some (.type "function")
  sa : PySem.W.findIn K (.ref C) "__setattr__" = some (some (.builtin "object.__setattr__"))
theorem IIn.of {K : PySem.W.Frag} {C : Addr} {qn : Str} {st : Stmt} {fI : Addr} {oc kV dc pm cd ct : Value} {od an : Option Addr} {sl : Array (Option Value)} (h1 : PySem.W.findIn K (.ref C) "__init__" = some (some (.ref fI)))
    (h2 : K.lookup fI = some ⟨oc, od, .func (PySem.W.fnOf "__init__" qn (defArgs st) (defBody st) (defScope st) .none kV dc pm an cd ct), sl⟩) (h3 : PySem.W.codeIn K cd qn = true) (h4 : PySem.W.keepIn K (.ref fI) = true) (h5 : PySem.W.typeIn K (.ref fI) = some (.type "function"))
    (h6 : PySem.W.findIn K (.ref C) "__setattr__" = some (some (.builtin "object.__setattr__"))) : IIn K C qn st := ⟨⟨_, _, _, _, _, _, _, _, _, _, h1, h2, h3, h4, h5⟩, h6⟩
section
variable {K : PySem.W.Frag} {C : Addr}
theorem xi_NoPlace (D : IIn K C "NoPlace.__init__" i_NoPlace) : XI K C "NoPlace.__init__" i_NoPlace ["self", "steps"] := by
  obtain ⟨fI, oc, kV, dc, pm, cd, ct, od, an, sl, h1, h2, h3, h4, h5⟩ := D.ex
  have FI := fun_mk (st := i_NoPlace) h2 h3 h4
  exact ⟨⟨fI, _, FI, FI.binds (ps := ["self", "steps"]) fun _ _ _ _ _ _ us hl => match us, hl with | [_, _], _ => rfl, h1, h5⟩, D.sa⟩
theorem xi_NoPath (D : IIn K C "NoPath.__init__" i_NoPath) : XI K C "NoPath.__init__" i_NoPath ["self", "path"] := by
  obtain ⟨fI, oc, kV, dc, pm, cd, ct, od, an, sl, h1, h2, h3, h4, h5⟩ := D.ex
  have FI := fun_mk (st := i_NoPath) h2 h3 h4
  exact ⟨⟨fI, _, FI, FI.binds (ps := ["self", "path"]) fun _ _ _ _ _ _ us hl => match us, hl with | [_, _], _ => rfl, h1, h5⟩, D.sa⟩
theorem xi_BadTerm (D : IIn K C "BadTerm.__init__" i_BadTerm) : XI K C "BadTerm.__init__" i_BadTerm ["self", "path", "what"] := by
  obtain ⟨fI, oc, kV, dc, pm, cd, ct, od, an, sl, h1, h2, h3, h4, h5⟩ := D.ex
  have FI := fun_mk (st := i_BadTerm) h2 h3 h4
  exact ⟨⟨fI, _, FI, FI.binds (ps := ["self", "path", "what"]) fun _ _ _ _ _ _ us hl => match us, hl with | [_, _, _], _ => rfl, h1, h5⟩, D.sa⟩
theorem xi_BadHeads (D : IIn K C "BadHeads.__init__" i_BadHeads) : XI K C "BadHeads.__init__" i_BadHeads ["self", "at", "what"] := by
  obtain ⟨fI, oc, kV, dc, pm, cd, ct, od, an, sl, h1, h2, h3, h4, h5⟩ := D.ex
  have FI := fun_mk (st := i_BadHeads) h2 h3 h4
  exact ⟨⟨fI, _, FI, FI.binds (ps := ["self", "at", "what"]) fun _ _ _ _ _ _ us hl => match us, hl with | [_, _, _], _ => rfl, h1, h5⟩, D.sa⟩
theorem xi_NoTable (D : IIn K C "NoTable.__init__" i_NoTable) : XI K C "NoTable.__init__" i_NoTable ["self", "table"] := by
  obtain ⟨fI, oc, kV, dc, pm, cd, ct, od, an, sl, h1, h2, h3, h4, h5⟩ := D.ex
  have FI := fun_mk (st := i_NoTable) h2 h3 h4
  exact ⟨⟨fI, _, FI, FI.binds (ps := ["self", "table"]) fun _ _ _ _ _ _ us hl => match us, hl with | [_, _], _ => rfl, h1, h5⟩, D.sa⟩
theorem xi_NoRow (D : IIn K C "NoRow.__init__" i_NoRow) : XI K C "NoRow.__init__" i_NoRow ["self", "table", "number"] := by
  obtain ⟨fI, oc, kV, dc, pm, cd, ct, od, an, sl, h1, h2, h3, h4, h5⟩ := D.ex
  have FI := fun_mk (st := i_NoRow) h2 h3 h4
  exact ⟨⟨fI, _, FI, FI.binds (ps := ["self", "table", "number"]) fun _ _ _ _ _ _ us hl => match us, hl with | [_, _, _], _ => rfl, h1, h5⟩, D.sa⟩
theorem xi_NoColumn (D : IIn K C "NoColumn.__init__" i_NoColumn) : XI K C "NoColumn.__init__" i_NoColumn ["self", "column"] := by
  obtain ⟨fI, oc, kV, dc, pm, cd, ct, od, an, sl, h1, h2, h3, h4, h5⟩ := D.ex
  have FI := fun_mk (st := i_NoColumn) h2 h3 h4
  exact ⟨⟨fI, _, FI, FI.binds (ps := ["self", "column"]) fun _ _ _ _ _ _ us hl => match us, hl with | [_, _], _ => rfl, h1, h5⟩, D.sa⟩
theorem xi_BadRow (D : IIn K C "BadRow.__init__" i_BadRow) : XI K C "BadRow.__init__" i_BadRow ["self", "at"] := by
  obtain ⟨fI, oc, kV, dc, pm, cd, ct, od, an, sl, h1, h2, h3, h4, h5⟩ := D.ex
  have FI := fun_mk (st := i_BadRow) h2 h3 h4
  exact ⟨⟨fI, _, FI, FI.binds (ps := ["self", "at"]) fun _ _ _ _ _ _ us hl => match us, hl with | [_, _], _ => rfl, h1, h5⟩, D.sa⟩
theorem xi_BadText (D : IIn K C "BadText.__init__" i_BadText) : XI K C "BadText.__init__" i_BadText ["self", "place"] := by
  obtain ⟨fI, oc, kV, dc, pm, cd, ct, od, an, sl, h1, h2, h3, h4, h5⟩ := D.ex
  have FI := fun_mk (st := i_BadText) h2 h3 h4
  exact ⟨⟨fI, _, FI, FI.binds (ps := ["self", "place"]) fun _ _ _ _ _ _ us hl => match us, hl with | [_, _], _ => rfl, h1, h5⟩, D.sa⟩
theorem xi_BadForm (D : IIn K C "BadForm.__init__" i_BadForm) : XI K C "BadForm.__init__" i_BadForm ["self", "what"] := by
  obtain ⟨fI, oc, kV, dc, pm, cd, ct, od, an, sl, h1, h2, h3, h4, h5⟩ := D.ex
  have FI := fun_mk (st := i_BadForm) h2 h3 h4
  exact ⟨⟨fI, _, FI, FI.binds (ps := ["self", "what"]) fun _ _ _ _ _ _ us hl => match us, hl with | [_, _], _ => rfl, h1, h5⟩, D.sa⟩
theorem xi_BadChoices (D : IIn K C "BadChoices.__init__" i_BadChoices) : XI K C "BadChoices.__init__" i_BadChoices ["self", "number"] := by
  obtain ⟨fI, oc, kV, dc, pm, cd, ct, od, an, sl, h1, h2, h3, h4, h5⟩ := D.ex
  have FI := fun_mk (st := i_BadChoices) h2 h3 h4
  exact ⟨⟨fI, _, FI, FI.binds (ps := ["self", "number"]) fun _ _ _ _ _ _ us hl => match us, hl with | [_, _], _ => rfl, h1, h5⟩, D.sa⟩
theorem xi_BadProgram (D : IIn K C "BadProgram.__init__" i_BadProgram) : XI K C "BadProgram.__init__" i_BadProgram ["self", "what"] := by
  obtain ⟨fI, oc, kV, dc, pm, cd, ct, od, an, sl, h1, h2, h3, h4, h5⟩ := D.ex
  have FI := fun_mk (st := i_BadProgram) h2 h3 h4
  exact ⟨⟨fI, _, FI, FI.binds (ps := ["self", "what"]) fun _ _ _ _ _ _ us hl => match us, hl with | [_, _], _ => rfl, h1, h5⟩, D.sa⟩
theorem xi_Unknown (D : IIn K C "Unknown.__init__" i_Unknown) : XI K C "Unknown.__init__" i_Unknown ["self", "at", "path", "name"] := by
  obtain ⟨fI, oc, kV, dc, pm, cd, ct, od, an, sl, h1, h2, h3, h4, h5⟩ := D.ex
  have FI := fun_mk (st := i_Unknown) h2 h3 h4
  exact ⟨⟨fI, _, FI, FI.binds (ps := ["self", "at", "path", "name"]) fun _ _ _ _ _ _ us hl => match us, hl with | [_, _, _, _], _ => rfl, h1, h5⟩, D.sa⟩
theorem xi_Misfit (D : IIn K C "Misfit.__init__" i_Misfit) : XI K C "Misfit.__init__" i_Misfit ["self", "at", "path"] := by
  obtain ⟨fI, oc, kV, dc, pm, cd, ct, od, an, sl, h1, h2, h3, h4, h5⟩ := D.ex
  have FI := fun_mk (st := i_Misfit) h2 h3 h4
  exact ⟨⟨fI, _, FI, FI.binds (ps := ["self", "at", "path"]) fun _ _ _ _ _ _ us hl => match us, hl with | [_, _, _], _ => rfl, h1, h5⟩, D.sa⟩
theorem xi_Unclear (D : IIn K C "Unclear.__init__" i_Unclear) : XI K C "Unclear.__init__" i_Unclear ["self", "at", "path"] := by
  obtain ⟨fI, oc, kV, dc, pm, cd, ct, od, an, sl, h1, h2, h3, h4, h5⟩ := D.ex
  have FI := fun_mk (st := i_Unclear) h2 h3 h4
  exact ⟨⟨fI, _, FI, FI.binds (ps := ["self", "at", "path"]) fun _ _ _ _ _ _ us hl => match us, hl with | [_, _, _], _ => rfl, h1, h5⟩, D.sa⟩
theorem xi_BadChain (D : IIn K C "BadChain.__init__" i_BadChain) : XI K C "BadChain.__init__" i_BadChain ["self", "at", "word"] := by
  obtain ⟨fI, oc, kV, dc, pm, cd, ct, od, an, sl, h1, h2, h3, h4, h5⟩ := D.ex
  have FI := fun_mk (st := i_BadChain) h2 h3 h4
  exact ⟨⟨fI, _, FI, FI.binds (ps := ["self", "at", "word"]) fun _ _ _ _ _ _ us hl => match us, hl with | [_, _, _], _ => rfl, h1, h5⟩, D.sa⟩
theorem xi_BadCell (D : IIn K C "BadCell.__init__" i_BadCell) : XI K C "BadCell.__init__" i_BadCell ["self", "cell"] := by
  obtain ⟨fI, oc, kV, dc, pm, cd, ct, od, an, sl, h1, h2, h3, h4, h5⟩ := D.ex
  have FI := fun_mk (st := i_BadCell) h2 h3 h4
  exact ⟨⟨fI, _, FI, FI.binds (ps := ["self", "cell"]) fun _ _ _ _ _ _ us hl => match us, hl with | [_, _], _ => rfl, h1, h5⟩, D.sa⟩
theorem xi_BadFamily (D : IIn K C "BadFamily.__init__" i_BadFamily) : XI K C "BadFamily.__init__" i_BadFamily ["self", "place", "member", "what"] := by
  obtain ⟨fI, oc, kV, dc, pm, cd, ct, od, an, sl, h1, h2, h3, h4, h5⟩ := D.ex
  have FI := fun_mk (st := i_BadFamily) h2 h3 h4
  exact ⟨⟨fI, _, FI, FI.binds (ps := ["self", "place", "member", "what"]) fun _ _ _ _ _ _ us hl => match us, hl with | [_, _, _, _], _ => rfl, h1, h5⟩, D.sa⟩
theorem xi_TooWide (D : IIn K C "TooWide.__init__" i_TooWide) : XI K C "TooWide.__init__" i_TooWide ["self", "what"] := by
  obtain ⟨fI, oc, kV, dc, pm, cd, ct, od, an, sl, h1, h2, h3, h4, h5⟩ := D.ex
  have FI := fun_mk (st := i_TooWide) h2 h3 h4
  exact ⟨⟨fI, _, FI, FI.binds (ps := ["self", "what"]) fun _ _ _ _ _ _ us hl => match us, hl with | [_, _], _ => rfl, h1, h5⟩, D.sa⟩
theorem xi_BadChange (D : IIn K C "BadChange.__init__" i_BadChange) : XI K C "BadChange.__init__" i_BadChange ["self", "word"] := by
  obtain ⟨fI, oc, kV, dc, pm, cd, ct, od, an, sl, h1, h2, h3, h4, h5⟩ := D.ex
  have FI := fun_mk (st := i_BadChange) h2 h3 h4
  exact ⟨⟨fI, _, FI, FI.binds (ps := ["self", "word"]) fun _ _ _ _ _ _ us hl => match us, hl with | [_, _], _ => rfl, h1, h5⟩, D.sa⟩
theorem xi_BadPlan (D : IIn K C "BadPlan.__init__" i_BadPlan) : XI K C "BadPlan.__init__" i_BadPlan ["self", "at", "word"] := by
  obtain ⟨fI, oc, kV, dc, pm, cd, ct, od, an, sl, h1, h2, h3, h4, h5⟩ := D.ex
  have FI := fun_mk (st := i_BadPlan) h2 h3 h4
  exact ⟨⟨fI, _, FI, FI.binds (ps := ["self", "at", "word"]) fun _ _ _ _ _ _ us hl => match us, hl with | [_, _, _], _ => rfl, h1, h5⟩, D.sa⟩
theorem xi_BadPlans (D : IIn K C "BadPlans.__init__" i_BadPlans) : XI K C "BadPlans.__init__" i_BadPlans ["self", "number", "at", "word"] := by
  obtain ⟨fI, oc, kV, dc, pm, cd, ct, od, an, sl, h1, h2, h3, h4, h5⟩ := D.ex
  have FI := fun_mk (st := i_BadPlans) h2 h3 h4
  exact ⟨⟨fI, _, FI, FI.binds (ps := ["self", "number", "at", "word"]) fun _ _ _ _ _ _ us hl => match us, hl with | [_, _, _, _], _ => rfl, h1, h5⟩, D.sa⟩
theorem xi_BadAnswers (D : IIn K C "BadAnswers.__init__" i_BadAnswers) : XI K C "BadAnswers.__init__" i_BadAnswers ["self", "place", "row", "what"] := by
  obtain ⟨fI, oc, kV, dc, pm, cd, ct, od, an, sl, h1, h2, h3, h4, h5⟩ := D.ex
  have FI := fun_mk (st := i_BadAnswers) h2 h3 h4
  exact ⟨⟨fI, _, FI, FI.binds (ps := ["self", "place", "row", "what"]) fun _ _ _ _ _ _ us hl => match us, hl with | [_, _, _, _], _ => rfl, h1, h5⟩, D.sa⟩
theorem xi_NoSuchPlace (D : IIn K C "NoSuchPlace.__init__" i_NoSuchPlace) : XI K C "NoSuchPlace.__init__" i_NoSuchPlace ["self", "place"] := by
  obtain ⟨fI, oc, kV, dc, pm, cd, ct, od, an, sl, h1, h2, h3, h4, h5⟩ := D.ex
  have FI := fun_mk (st := i_NoSuchPlace) h2 h3 h4
  exact ⟨⟨fI, _, FI, FI.binds (ps := ["self", "place"]) fun _ _ _ _ _ _ us hl => match us, hl with | [_, _], _ => rfl, h1, h5⟩, D.sa⟩
theorem xi_NoId (D : IIn K C "NoId.__init__" i_NoId) : XI K C "NoId.__init__" i_NoId ["self", "place", "own"] := by
  obtain ⟨fI, oc, kV, dc, pm, cd, ct, od, an, sl, h1, h2, h3, h4, h5⟩ := D.ex
  have FI := fun_mk (st := i_NoId) h2 h3 h4
  exact ⟨⟨fI, _, FI, FI.binds (ps := ["self", "place", "own"]) fun _ _ _ _ _ _ us hl => match us, hl with | [_, _, _], _ => rfl, h1, h5⟩, D.sa⟩
theorem xi_BadPush (D : IIn K C "BadPush.__init__" i_BadPush) : XI K C "BadPush.__init__" i_BadPush ["self", "place", "what"] := by
  obtain ⟨fI, oc, kV, dc, pm, cd, ct, od, an, sl, h1, h2, h3, h4, h5⟩ := D.ex
  have FI := fun_mk (st := i_BadPush) h2 h3 h4
  exact ⟨⟨fI, _, FI, FI.binds (ps := ["self", "place", "what"]) fun _ _ _ _ _ _ us hl => match us, hl with | [_, _, _], _ => rfl, h1, h5⟩, D.sa⟩
theorem xi_BadNumbers (D : IIn K C "BadNumbers.__init__" i_BadNumbers) : XI K C "BadNumbers.__init__" i_BadNumbers ["self", "place", "key", "what"] := by
  obtain ⟨fI, oc, kV, dc, pm, cd, ct, od, an, sl, h1, h2, h3, h4, h5⟩ := D.ex
  have FI := fun_mk (st := i_BadNumbers) h2 h3 h4
  exact ⟨⟨fI, _, FI, FI.binds (ps := ["self", "place", "key", "what"]) fun _ _ _ _ _ _ us hl => match us, hl with | [_, _, _, _], _ => rfl, h1, h5⟩, D.sa⟩
theorem xi_NoKey (D : IIn K C "NoKey.__init__" i_NoKey) : XI K C "NoKey.__init__" i_NoKey ["self", "place", "key"] := by
  obtain ⟨fI, oc, kV, dc, pm, cd, ct, od, an, sl, h1, h2, h3, h4, h5⟩ := D.ex
  have FI := fun_mk (st := i_NoKey) h2 h3 h4
  exact ⟨⟨fI, _, FI, FI.binds (ps := ["self", "place", "key"]) fun _ _ _ _ _ _ us hl => match us, hl with | [_, _, _], _ => rfl, h1, h5⟩, D.sa⟩
theorem xi_NotPlain (D : IIn K C "NotPlain.__init__" i_NotPlain) : XI K C "NotPlain.__init__" i_NotPlain ["self", "member", "what"] := by
  obtain ⟨fI, oc, kV, dc, pm, cd, ct, od, an, sl, h1, h2, h3, h4, h5⟩ := D.ex
  have FI := fun_mk (st := i_NotPlain) h2 h3 h4
  exact ⟨⟨fI, _, FI, FI.binds (ps := ["self", "member", "what"]) fun _ _ _ _ _ _ us hl => match us, hl with | [_, _, _], _ => rfl, h1, h5⟩, D.sa⟩
theorem xi_BadFolding (D : IIn K C "BadFolding.__init__" i_BadFolding) : XI K C "BadFolding.__init__" i_BadFolding ["self", "what"] := by
  obtain ⟨fI, oc, kV, dc, pm, cd, ct, od, an, sl, h1, h2, h3, h4, h5⟩ := D.ex
  have FI := fun_mk (st := i_BadFolding) h2 h3 h4
  exact ⟨⟨fI, _, FI, FI.binds (ps := ["self", "what"]) fun _ _ _ _ _ _ us hl => match us, hl with | [_, _], _ => rfl, h1, h5⟩, D.sa⟩
theorem xi_BadDeed (D : IIn K C "BadDeed.__init__" i_BadDeed) : XI K C "BadDeed.__init__" i_BadDeed ["self", "what"] := by
  obtain ⟨fI, oc, kV, dc, pm, cd, ct, od, an, sl, h1, h2, h3, h4, h5⟩ := D.ex
  have FI := fun_mk (st := i_BadDeed) h2 h3 h4
  exact ⟨⟨fI, _, FI, FI.binds (ps := ["self", "what"]) fun _ _ _ _ _ _ us hl => match us, hl with | [_, _], _ => rfl, h1, h5⟩, D.sa⟩
theorem xi_Known (D : IIn K C "Known.__init__" i_Known) : XI K C "Known.__init__" i_Known ["self", "name"] := by
  obtain ⟨fI, oc, kV, dc, pm, cd, ct, od, an, sl, h1, h2, h3, h4, h5⟩ := D.ex
  have FI := fun_mk (st := i_Known) h2 h3 h4
  exact ⟨⟨fI, _, FI, FI.binds (ps := ["self", "name"]) fun _ _ _ _ _ _ us hl => match us, hl with | [_, _], _ => rfl, h1, h5⟩, D.sa⟩
theorem xi_NoKept (D : IIn K C "NoKept.__init__" i_NoKept) : XI K C "NoKept.__init__" i_NoKept ["self", "name"] := by
  obtain ⟨fI, oc, kV, dc, pm, cd, ct, od, an, sl, h1, h2, h3, h4, h5⟩ := D.ex
  have FI := fun_mk (st := i_NoKept) h2 h3 h4
  exact ⟨⟨fI, _, FI, FI.binds (ps := ["self", "name"]) fun _ _ _ _ _ _ us hl => match us, hl with | [_, _], _ => rfl, h1, h5⟩, D.sa⟩
theorem xi_Refused (D : IIn K C "Refused.__init__" i_Refused) : XI K C "Refused.__init__" i_Refused ["self", "at"] := by
  obtain ⟨fI, oc, kV, dc, pm, cd, ct, od, an, sl, h1, h2, h3, h4, h5⟩ := D.ex
  have FI := fun_mk (st := i_Refused) h2 h3 h4
  exact ⟨⟨fI, _, FI, FI.binds (ps := ["self", "at"]) fun _ _ _ _ _ _ us hl => match us, hl with | [_, _], _ => rfl, h1, h5⟩, D.sa⟩
end
def csOf (l : List Addr) (t : Nat) : Addr := l.getD t 0
theorem cs_nd {l : List Addr} (hl : l.length = 40) (h : l.Nodup) (i j : Nat) (hi : i < 40) (hj : j < 40) : (csOf l i == csOf l j) = decide (j = i) := by
  unfold csOf
  rw [List.getD_eq_getElem?_getD, List.getD_eq_getElem?_getD, List.getElem?_eq_getElem (by omega), List.getElem?_eq_getElem (by omega)]
  show (l[i] == l[j]) = _
  rw [Bool.eq_iff_iff]
  simp only [beq_iff_eq, decide_eq_true_eq]
  have h := List.pairwise_iff_getElem.mp h
  constructor
  · intro z
    rcases Nat.lt_trichotomy i j with k | k | k
    · exact absurd z (h i j (by omega) (by omega) k)
    · exact k.symm
    · exact absurd z.symm (h j i (by omega) (by omega) k)
  · intro z
    subst z
    rfl
theorem cs_na {l : List Addr} {A : Addr} (hl : l.length = 40) (h : (A :: l).Nodup) (i : Nat) (hi : i < 40) : (A == csOf l i) = false := by
  unfold csOf
  rw [List.getD_eq_getElem?_getD, List.getElem?_eq_getElem (by omega)]
  show (A == l[i]) = false
  rw [beq_eq_false_iff_ne]
  intro z
  rw [List.nodup_cons] at h
  exact h.1 (z ▸ List.getElem_mem (by omega))
section
variable {K : PySem.W.Frag} {h : Heap} {mg : Str → Option Value}
theorem xs_mk (X : K.In h) (G : h.Ns mainGlobals mg) {A C0 C1 C2 C3 C4 C5 C6 C7 C8 C9 C10 C11 C12 C13 C14 C15 C16 C17 C18 C19 C20 C21 C22 C23 C24 C25 C26 C27 C28 C29 C30 C31 C32 C33 C34 C35 C36 C37 C38 C39 : Addr} (nd : (A :: [C0, C1, C2, C3, C4, C5, C6, C7, C8, C9, C10, C11, C12, C13, C14, C15, C16, C17, C18, C19, C20, C21, C22, C23, C24, C25, C26, C27, C28, C29, C30, C31, C32, C33, C34, C35, C36, C37, C38, C39]).Nodup) (hn : PySem.W.specialIn K (.builtin "object.__class__") "__get__" = some (some (.builtin "getset_descriptor.__get__"))) (ht : PySem.W.takesIn K (.builtin "object.__class__") = some true) (XA_ : XAN K A)
    (X0 : XN K "BadKind" C0 A [])
    (X1 : XN K "NoPlace" C1 A ["steps"])
    (X2 : XN K "NoPath" C2 A ["path"])
    (X3 : XN K "BadTerm" C3 A ["path", "what"])
    (X4 : XN K "BadHeads" C4 A ["at", "what"])
    (X5 : XN K "NoTable" C5 A ["table"])
    (X6 : XN K "NoRow" C6 A ["table", "number"])
    (X7 : XN K "NoColumn" C7 A ["column"])
    (X8 : XN K "BadRow" C8 A ["at"])
    (X9 : XN K "BadLots" C9 A [])
    (X10 : XN K "BadText" C10 A ["place"])
    (X11 : XN K "BadForm" C11 A ["what"])
    (X12 : XN K "BadChoices" C12 A ["number"])
    (X13 : XN K "BadProgram" C13 A ["what"])
    (X14 : XN K "Unknown" C14 A ["at", "path", "name"])
    (X15 : XN K "Misfit" C15 A ["at", "path"])
    (X16 : XN K "Unclear" C16 A ["at", "path"])
    (X17 : XN K "NoAnswer" C17 A [])
    (X18 : XN K "BadChain" C18 A ["at", "word"])
    (X19 : XN K "BadCell" C19 A ["cell"])
    (X20 : XN K "NoFit" C20 A [])
    (X21 : XN K "BadFamily" C21 A ["place", "member", "what"])
    (X22 : XN K "TooWide" C22 A ["what"])
    (X23 : XN K "BadChange" C23 A ["word"])
    (X24 : XN K "BadPlan" C24 A ["at", "word"])
    (X25 : XN K "BadPlans" C25 A ["number", "at", "word"])
    (X26 : XN K "BadAnswers" C26 A ["place", "row", "what"])
    (X27 : XN K "NoSuchPlace" C27 A ["place"])
    (X28 : XN K "NoId" C28 A ["place", "own"])
    (X29 : XN K "BadPush" C29 A ["place", "what"])
    (X30 : XN K "BadNumbers" C30 A ["place", "key", "what"])
    (X31 : XN K "BadKey" C31 A [])
    (X32 : XN K "NoKey" C32 A ["place", "key"])
    (X33 : XN K "NotPlain" C33 A ["member", "what"])
    (X34 : XN K "NotAlike" C34 A [])
    (X35 : XN K "BadFolding" C35 A ["what"])
    (X36 : XN K "BadDeed" C36 A ["what"])
    (X37 : XN K "Known" C37 A ["name"])
    (X38 : XN K "NoKept" C38 A ["name"])
    (X39 : XN K "Refused" C39 A ["at"])
    (P0 : PySem.W.excIn K C0 [.type "ValueError", .type "Exception", .type "BaseException", .type "object"] "ValueError.__new__" = true)
    (P9 : PySem.W.excIn K C9 [.type "ValueError", .type "Exception", .type "BaseException", .type "object"] "ValueError.__new__" = true)
    (P17 : PySem.W.excIn K C17 [.type "ValueError", .type "Exception", .type "BaseException", .type "object"] "ValueError.__new__" = true)
    (P20 : PySem.W.excIn K C20 [.type "ValueError", .type "Exception", .type "BaseException", .type "object"] "ValueError.__new__" = true)
    (P31 : PySem.W.excIn K C31 [.type "ValueError", .type "Exception", .type "BaseException", .type "object"] "ValueError.__new__" = true)
    (P34 : PySem.W.excIn K C34 [.type "ValueError", .type "Exception", .type "BaseException", .type "object"] "ValueError.__new__" = true)
    : XS K mg (csOf [C0, C1, C2, C3, C4, C5, C6, C7, C8, C9, C10, C11, C12, C13, C14, C15, C16, C17, C18, C19, C20, C21, C22, C23, C24, C25, C26, C27, C28, C29, C30, C31, C32, C33, C34, C35, C36, C37, C38, C39]) A :=
  { nd := cs_nd rfl (List.nodup_cons.mp nd).2, na := cs_na rfl nd, x_AskError := ⟨PySem.W.mg_of X G XA_.nm, XA_.cf⟩
    x_BadKind := ⟨PySem.W.mg_of X G X0.nm, X0.cf, X0.kC, X0.hg, X0.hk, X0.ha, hn, ht, X0.no⟩
    x_NoPlace := ⟨PySem.W.mg_of X G X1.nm, X1.cf, X1.kC, X1.hg, X1.hk, X1.ha, hn, ht, X1.no⟩
    x_NoPath := ⟨PySem.W.mg_of X G X2.nm, X2.cf, X2.kC, X2.hg, X2.hk, X2.ha, hn, ht, X2.no⟩
    x_BadTerm := ⟨PySem.W.mg_of X G X3.nm, X3.cf, X3.kC, X3.hg, X3.hk, X3.ha, hn, ht, X3.no⟩
    x_BadHeads := ⟨PySem.W.mg_of X G X4.nm, X4.cf, X4.kC, X4.hg, X4.hk, X4.ha, hn, ht, X4.no⟩
    x_NoTable := ⟨PySem.W.mg_of X G X5.nm, X5.cf, X5.kC, X5.hg, X5.hk, X5.ha, hn, ht, X5.no⟩
    x_NoRow := ⟨PySem.W.mg_of X G X6.nm, X6.cf, X6.kC, X6.hg, X6.hk, X6.ha, hn, ht, X6.no⟩
    x_NoColumn := ⟨PySem.W.mg_of X G X7.nm, X7.cf, X7.kC, X7.hg, X7.hk, X7.ha, hn, ht, X7.no⟩
    x_BadRow := ⟨PySem.W.mg_of X G X8.nm, X8.cf, X8.kC, X8.hg, X8.hk, X8.ha, hn, ht, X8.no⟩
    x_BadLots := ⟨PySem.W.mg_of X G X9.nm, X9.cf, X9.kC, X9.hg, X9.hk, X9.ha, hn, ht, X9.no⟩
    x_BadText := ⟨PySem.W.mg_of X G X10.nm, X10.cf, X10.kC, X10.hg, X10.hk, X10.ha, hn, ht, X10.no⟩
    x_BadForm := ⟨PySem.W.mg_of X G X11.nm, X11.cf, X11.kC, X11.hg, X11.hk, X11.ha, hn, ht, X11.no⟩
    x_BadChoices := ⟨PySem.W.mg_of X G X12.nm, X12.cf, X12.kC, X12.hg, X12.hk, X12.ha, hn, ht, X12.no⟩
    x_BadProgram := ⟨PySem.W.mg_of X G X13.nm, X13.cf, X13.kC, X13.hg, X13.hk, X13.ha, hn, ht, X13.no⟩
    x_Unknown := ⟨PySem.W.mg_of X G X14.nm, X14.cf, X14.kC, X14.hg, X14.hk, X14.ha, hn, ht, X14.no⟩
    x_Misfit := ⟨PySem.W.mg_of X G X15.nm, X15.cf, X15.kC, X15.hg, X15.hk, X15.ha, hn, ht, X15.no⟩
    x_Unclear := ⟨PySem.W.mg_of X G X16.nm, X16.cf, X16.kC, X16.hg, X16.hk, X16.ha, hn, ht, X16.no⟩
    x_NoAnswer := ⟨PySem.W.mg_of X G X17.nm, X17.cf, X17.kC, X17.hg, X17.hk, X17.ha, hn, ht, X17.no⟩
    x_BadChain := ⟨PySem.W.mg_of X G X18.nm, X18.cf, X18.kC, X18.hg, X18.hk, X18.ha, hn, ht, X18.no⟩
    x_BadCell := ⟨PySem.W.mg_of X G X19.nm, X19.cf, X19.kC, X19.hg, X19.hk, X19.ha, hn, ht, X19.no⟩
    x_NoFit := ⟨PySem.W.mg_of X G X20.nm, X20.cf, X20.kC, X20.hg, X20.hk, X20.ha, hn, ht, X20.no⟩
    x_BadFamily := ⟨PySem.W.mg_of X G X21.nm, X21.cf, X21.kC, X21.hg, X21.hk, X21.ha, hn, ht, X21.no⟩
    x_TooWide := ⟨PySem.W.mg_of X G X22.nm, X22.cf, X22.kC, X22.hg, X22.hk, X22.ha, hn, ht, X22.no⟩
    x_BadChange := ⟨PySem.W.mg_of X G X23.nm, X23.cf, X23.kC, X23.hg, X23.hk, X23.ha, hn, ht, X23.no⟩
    x_BadPlan := ⟨PySem.W.mg_of X G X24.nm, X24.cf, X24.kC, X24.hg, X24.hk, X24.ha, hn, ht, X24.no⟩
    x_BadPlans := ⟨PySem.W.mg_of X G X25.nm, X25.cf, X25.kC, X25.hg, X25.hk, X25.ha, hn, ht, X25.no⟩
    x_BadAnswers := ⟨PySem.W.mg_of X G X26.nm, X26.cf, X26.kC, X26.hg, X26.hk, X26.ha, hn, ht, X26.no⟩
    x_NoSuchPlace := ⟨PySem.W.mg_of X G X27.nm, X27.cf, X27.kC, X27.hg, X27.hk, X27.ha, hn, ht, X27.no⟩
    x_NoId := ⟨PySem.W.mg_of X G X28.nm, X28.cf, X28.kC, X28.hg, X28.hk, X28.ha, hn, ht, X28.no⟩
    x_BadPush := ⟨PySem.W.mg_of X G X29.nm, X29.cf, X29.kC, X29.hg, X29.hk, X29.ha, hn, ht, X29.no⟩
    x_BadNumbers := ⟨PySem.W.mg_of X G X30.nm, X30.cf, X30.kC, X30.hg, X30.hk, X30.ha, hn, ht, X30.no⟩
    x_BadKey := ⟨PySem.W.mg_of X G X31.nm, X31.cf, X31.kC, X31.hg, X31.hk, X31.ha, hn, ht, X31.no⟩
    x_NoKey := ⟨PySem.W.mg_of X G X32.nm, X32.cf, X32.kC, X32.hg, X32.hk, X32.ha, hn, ht, X32.no⟩
    x_NotPlain := ⟨PySem.W.mg_of X G X33.nm, X33.cf, X33.kC, X33.hg, X33.hk, X33.ha, hn, ht, X33.no⟩
    x_NotAlike := ⟨PySem.W.mg_of X G X34.nm, X34.cf, X34.kC, X34.hg, X34.hk, X34.ha, hn, ht, X34.no⟩
    x_BadFolding := ⟨PySem.W.mg_of X G X35.nm, X35.cf, X35.kC, X35.hg, X35.hk, X35.ha, hn, ht, X35.no⟩
    x_BadDeed := ⟨PySem.W.mg_of X G X36.nm, X36.cf, X36.kC, X36.hg, X36.hk, X36.ha, hn, ht, X36.no⟩
    x_Known := ⟨PySem.W.mg_of X G X37.nm, X37.cf, X37.kC, X37.hg, X37.hk, X37.ha, hn, ht, X37.no⟩
    x_NoKept := ⟨PySem.W.mg_of X G X38.nm, X38.cf, X38.kC, X38.hg, X38.hk, X38.ha, hn, ht, X38.no⟩
    x_Refused := ⟨PySem.W.mg_of X G X39.nm, X39.cf, X39.kC, X39.hg, X39.hk, X39.ha, hn, ht, X39.no⟩
    p_BadKind := P0
    p_BadLots := P9
    p_NoAnswer := P17
    p_NoFit := P20
    p_BadKey := P31
    p_NotAlike := P34 }
end
end E5

set_option Elab.async false
set_option linter.all false
set_option maxRecDepth 100000
set_option maxHeartbeats 4000000
namespace E5
open PySem PySem.Spec PyProof.Rows L2 Ab
/-! ### what the top has written -/
/-- a def's name, its object, its code -/
structure DefIn (K : PySem.W.Frag) (x : Str) (st : Stmt) (f : Addr) : Prop where
  ex : ∃ (oc kV dc pm cd ct : Value) (od an : Option Addr) (sl : Array (Option Value)), K.lookup f = some ⟨oc, od, .func (PySem.W.fnOf x x (defArgs st) (defBody st) (defScope st) .none kV dc pm an cd ct), sl⟩ ∧ PySem.W.codeIn K cd x = true
  nm : PySem.W.nsIn K mainGlobals x = some (some (.ref f))
  kp : PySem.W.keepIn K (.ref f) = true
theorem DefIn.of {K : PySem.W.Frag} {x : Str} {st : Stmt} {f : Addr} {oc kV dc pm cd ct : Value} {od an : Option Addr} {sl : Array (Option Value)} (h3 : PySem.W.nsIn K mainGlobals x = some (some (.ref f)))
    (h1 : K.lookup f = some ⟨oc, od, .func (PySem.W.fnOf x x (defArgs st) (defBody st) (defScope st) .none kV dc pm an cd ct), sl⟩) (h2 : PySem.W.codeIn K cd x = true) (h4 : PySem.W.keepIn K (.ref f) = true) : DefIn K x st f := ⟨⟨_, _, _, _, _, _, _, _, _, h1, h2⟩, h3, h4⟩
theorem gs_of {K : PySem.W.Frag} {x z : Str} {t : Nat} (h : PySem.W.nsIn K mainGlobals x = some (some (.str z t))) : ∃ t, PySem.W.nsIn K mainGlobals x = some (some (.str z t)) := ⟨t, h⟩
theorem gi_of {K : PySem.W.Frag} {x : Str} {z : Int} {t : Nat} (h : PySem.W.nsIn K mainGlobals x = some (some (.int z t))) : ∃ t, PySem.W.nsIn K mainGlobals x = some (some (.int z t)) := ⟨t, h⟩
theorem te_of {K : PySem.W.Frag} {C : Addr} (h1 : PySem.W.subIn K (.ref C) (.type "BaseException") = some true) (h2 : PySem.W.isClsIn K C = true) (h3 : PySem.W.typeIn K (.ref C) = some (.type "type")) (h4 : PySem.W.subIn K (.ref C) (.ref C) = some true) : PySem.W.exmOne K (.ref C) (.ref C) = some true := by
  have h2' : (PySem.W.clsIn K C).isSome = true := h2
  unfold PySem.W.exmOne PySem.W.kitCls
  simp [h1, h2', h3, h4]
theorem ki_of {K : PySem.W.Frag} {C : Addr} : PySem.W.kitOne K (.ref C) (.ref C) = some true := by
  unfold PySem.W.kitOne
  rw [if_pos (beq_self_eq_true _)]
theorem dp_ints {K : PySem.W.Frag} {H : Hp} {a : Addr} {ns : List Int} (h : SqL K H a (ns.map V.int)) : Dp K (Hide (fun _ => false) H) (.ref a) (intL ns) := by
  have sm : Same H (Hide (fun _ => false) H) := fun b o e => by rw [hide_f rfl]; exact e
  refine .lst (sm.seq h) ?_
  clear h
  induction ns with
  | nil => exact .nil
  | cons n ns ih => exact .cons (.int n) ih
section
variable {K : PySem.W.Frag} {h : Heap} {mg : Str → Option Value} {f : Addr} (X : K.In h) (G : h.Ns mainGlobals mg)
include X G
theorem d_law_pool (D : DefIn K "_law_pool" s_law_pool f) : Dfn K mg "_law_pool" s_law_pool ["_law_script", "_law_at"] := by
  obtain ⟨oc, kV, dc, pm, cd, ct, od, an, sl, l, c⟩ := D.ex
  have F := fun_mk (st := s_law_pool) l c D.kp
  exact ⟨f, _, F, PySem.W.mg_of X G D.nm, F.binds (ps := ["_law_script", "_law_at"]) fun _ _ _ _ _ _ us hl => match us, hl with | [_, _], _ => rfl⟩
theorem d_law_draw (D : DefIn K "_law_draw" s_law_draw f) : Dfn K mg "_law_draw" s_law_draw ["_law_pool_here", "_law_many"] := by
  obtain ⟨oc, kV, dc, pm, cd, ct, od, an, sl, l, c⟩ := D.ex
  have F := fun_mk (st := s_law_draw) l c D.kp
  exact ⟨f, _, F, PySem.W.mg_of X G D.nm, F.binds (ps := ["_law_pool_here", "_law_many"]) fun _ _ _ _ _ _ us hl => match us, hl with | [_, _], _ => rfl⟩
theorem d_law_exact (D : DefIn K "_law_exact" s_law_exact f) : Dfn K mg "_law_exact" s_law_exact ["_law_told", "_law_due"] := by
  obtain ⟨oc, kV, dc, pm, cd, ct, od, an, sl, l, c⟩ := D.ex
  have F := fun_mk (st := s_law_exact) l c D.kp
  exact ⟨f, _, F, PySem.W.mg_of X G D.nm, F.binds (ps := ["_law_told", "_law_due"]) fun _ _ _ _ _ _ us hl => match us, hl with | [_, _], _ => rfl⟩
theorem d_law_base_value (D : DefIn K "_law_base_value" s_law_base_value f) : Dfn K mg "_law_base_value" s_law_base_value ["_law_pool_here", "_law_kind"] := by
  obtain ⟨oc, kV, dc, pm, cd, ct, od, an, sl, l, c⟩ := D.ex
  have F := fun_mk (st := s_law_base_value) l c D.kp
  exact ⟨f, _, F, PySem.W.mg_of X G D.nm, F.binds (ps := ["_law_pool_here", "_law_kind"]) fun _ _ _ _ _ _ us hl => match us, hl with | [_, _], _ => rfl⟩
theorem d_law_first_errors (D : DefIn K "_law_first_errors" s_law_first_errors f) : Dfn K mg "_law_first_errors" s_law_first_errors ["_law_turn", "_law_one", "_law_other", "_law_third"] := by
  obtain ⟨oc, kV, dc, pm, cd, ct, od, an, sl, l, c⟩ := D.ex
  have F := fun_mk (st := s_law_first_errors) l c D.kp
  exact ⟨f, _, F, PySem.W.mg_of X G D.nm, F.binds (ps := ["_law_turn", "_law_one", "_law_other", "_law_third"]) fun _ _ _ _ _ _ us hl => match us, hl with | [_, _, _, _], _ => rfl⟩
theorem d_law_later_errors (D : DefIn K "_law_later_errors" s_law_later_errors f) : Dfn K mg "_law_later_errors" s_law_later_errors ["_law_turn", "_law_one", "_law_other", "_law_third"] := by
  obtain ⟨oc, kV, dc, pm, cd, ct, od, an, sl, l, c⟩ := D.ex
  have F := fun_mk (st := s_law_later_errors) l c D.kp
  exact ⟨f, _, F, PySem.W.mg_of X G D.nm, F.binds (ps := ["_law_turn", "_law_one", "_law_other", "_law_third"]) fun _ _ _ _ _ _ us hl => match us, hl with | [_, _, _, _], _ => rfl⟩
theorem d_law_first_attributes (D : DefIn K "_law_first_attributes" s_law_first_attributes f) : Dfn K mg "_law_first_attributes" s_law_first_attributes ["_law_turn", "_law_error"] := by
  obtain ⟨oc, kV, dc, pm, cd, ct, od, an, sl, l, c⟩ := D.ex
  have F := fun_mk (st := s_law_first_attributes) l c D.kp
  exact ⟨f, _, F, PySem.W.mg_of X G D.nm, F.binds (ps := ["_law_turn", "_law_error"]) fun _ _ _ _ _ _ us hl => match us, hl with | [_, _], _ => rfl⟩
theorem d_law_later_attributes (D : DefIn K "_law_later_attributes" s_law_later_attributes f) : Dfn K mg "_law_later_attributes" s_law_later_attributes ["_law_turn", "_law_error"] := by
  obtain ⟨oc, kV, dc, pm, cd, ct, od, an, sl, l, c⟩ := D.ex
  have F := fun_mk (st := s_law_later_attributes) l c D.kp
  exact ⟨f, _, F, PySem.W.mg_of X G D.nm, F.binds (ps := ["_law_turn", "_law_error"]) fun _ _ _ _ _ _ us hl => match us, hl with | [_, _], _ => rfl⟩
theorem d_law_flags (D : DefIn K "_law_flags" s_law_flags f) : Dfn K mg "_law_flags" s_law_flags ["_law_error"] := by
  obtain ⟨oc, kV, dc, pm, cd, ct, od, an, sl, l, c⟩ := D.ex
  have F := fun_mk (st := s_law_flags) l c D.kp
  exact ⟨f, _, F, PySem.W.mg_of X G D.nm, F.binds (ps := ["_law_error"]) fun _ _ _ _ _ _ us hl => match us, hl with | [_], _ => rfl⟩
end
/-- the world in which the law stands -/
theorem all_mk {l : PySem.W.OpenLaw} {w : World} {K : PySem.W.Frag} {h : Heap} {mg : Str → Option Value} {fa : Addr} (X : K.In h) (G : h.Ns mainGlobals mg) (hfa : mg "law" = some (.ref fa))
    {f_law_pool f_law_draw f_law_exact f_law_base_value f_law_first_errors f_law_later_errors f_law_first_attributes f_law_later_attributes f_law_flags f_law : Addr}
    (D_law_pool : DefIn K "_law_pool" s_law_pool f_law_pool)
    (D_law_draw : DefIn K "_law_draw" s_law_draw f_law_draw)
    (D_law_exact : DefIn K "_law_exact" s_law_exact f_law_exact)
    (D_law_base_value : DefIn K "_law_base_value" s_law_base_value f_law_base_value)
    (D_law_first_errors : DefIn K "_law_first_errors" s_law_first_errors f_law_first_errors)
    (D_law_later_errors : DefIn K "_law_later_errors" s_law_later_errors f_law_later_errors)
    (D_law_first_attributes : DefIn K "_law_first_attributes" s_law_first_attributes f_law_first_attributes)
    (D_law_later_attributes : DefIn K "_law_later_attributes" s_law_later_attributes f_law_later_attributes)
    (D_law_flags : DefIn K "_law_flags" s_law_flags f_law_flags)
    (D_law : DefIn K "law" s_law f_law)
    (z_ValueError : PySem.W.nsIn K mainGlobals "ValueError" = some none)
    (z_bool : PySem.W.nsIn K mainGlobals "bool" = some none)
    (z_int : PySem.W.nsIn K mainGlobals "int" = some none)
    (z_isinstance : PySem.W.nsIn K mainGlobals "isinstance" = some none)
    (z_len : PySem.W.nsIn K mainGlobals "len" = some none)
    (z_list : PySem.W.nsIn K mainGlobals "list" = some none)
    (z_range : PySem.W.nsIn K mainGlobals "range" = some none)
    (z_str : PySem.W.nsIn K mainGlobals "str" = some none)
    (z_tuple : PySem.W.nsIn K mainGlobals "tuple" = some none)
    {A C0 C1 C2 C3 C4 C5 C6 C7 C8 C9 C10 C11 C12 C13 C14 C15 C16 C17 C18 C19 C20 C21 C22 C23 C24 C25 C26 C27 C28 C29 C30 C31 C32 C33 C34 C35 C36 C37 C38 C39 : Addr}
    (zA : XAN K A)
    (x0 : XN K "BadKind" C0 A [])
    (x1 : XN K "NoPlace" C1 A ["steps"])
    (x2 : XN K "NoPath" C2 A ["path"])
    (x3 : XN K "BadTerm" C3 A ["path", "what"])
    (x4 : XN K "BadHeads" C4 A ["at", "what"])
    (x5 : XN K "NoTable" C5 A ["table"])
    (x6 : XN K "NoRow" C6 A ["table", "number"])
    (x7 : XN K "NoColumn" C7 A ["column"])
    (x8 : XN K "BadRow" C8 A ["at"])
    (x9 : XN K "BadLots" C9 A [])
    (x10 : XN K "BadText" C10 A ["place"])
    (x11 : XN K "BadForm" C11 A ["what"])
    (x12 : XN K "BadChoices" C12 A ["number"])
    (x13 : XN K "BadProgram" C13 A ["what"])
    (x14 : XN K "Unknown" C14 A ["at", "path", "name"])
    (x15 : XN K "Misfit" C15 A ["at", "path"])
    (x16 : XN K "Unclear" C16 A ["at", "path"])
    (x17 : XN K "NoAnswer" C17 A [])
    (x18 : XN K "BadChain" C18 A ["at", "word"])
    (x19 : XN K "BadCell" C19 A ["cell"])
    (x20 : XN K "NoFit" C20 A [])
    (x21 : XN K "BadFamily" C21 A ["place", "member", "what"])
    (x22 : XN K "TooWide" C22 A ["what"])
    (x23 : XN K "BadChange" C23 A ["word"])
    (x24 : XN K "BadPlan" C24 A ["at", "word"])
    (x25 : XN K "BadPlans" C25 A ["number", "at", "word"])
    (x26 : XN K "BadAnswers" C26 A ["place", "row", "what"])
    (x27 : XN K "NoSuchPlace" C27 A ["place"])
    (x28 : XN K "NoId" C28 A ["place", "own"])
    (x29 : XN K "BadPush" C29 A ["place", "what"])
    (x30 : XN K "BadNumbers" C30 A ["place", "key", "what"])
    (x31 : XN K "BadKey" C31 A [])
    (x32 : XN K "NoKey" C32 A ["place", "key"])
    (x33 : XN K "NotPlain" C33 A ["member", "what"])
    (x34 : XN K "NotAlike" C34 A [])
    (x35 : XN K "BadFolding" C35 A ["what"])
    (x36 : XN K "BadDeed" C36 A ["what"])
    (x37 : XN K "Known" C37 A ["name"])
    (x38 : XN K "NoKept" C38 A ["name"])
    (x39 : XN K "Refused" C39 A ["at"])
    (p0 : PySem.W.excIn K C0 [.type "ValueError", .type "Exception", .type "BaseException", .type "object"] "ValueError.__new__" = true)
    (i1 : IIn K C1 "NoPlace.__init__" i_NoPlace)
    (i2 : IIn K C2 "NoPath.__init__" i_NoPath)
    (i3 : IIn K C3 "BadTerm.__init__" i_BadTerm)
    (i4 : IIn K C4 "BadHeads.__init__" i_BadHeads)
    (i5 : IIn K C5 "NoTable.__init__" i_NoTable)
    (i6 : IIn K C6 "NoRow.__init__" i_NoRow)
    (i7 : IIn K C7 "NoColumn.__init__" i_NoColumn)
    (i8 : IIn K C8 "BadRow.__init__" i_BadRow)
    (p9 : PySem.W.excIn K C9 [.type "ValueError", .type "Exception", .type "BaseException", .type "object"] "ValueError.__new__" = true)
    (i10 : IIn K C10 "BadText.__init__" i_BadText)
    (i11 : IIn K C11 "BadForm.__init__" i_BadForm)
    (i12 : IIn K C12 "BadChoices.__init__" i_BadChoices)
    (i13 : IIn K C13 "BadProgram.__init__" i_BadProgram)
    (i14 : IIn K C14 "Unknown.__init__" i_Unknown)
    (i15 : IIn K C15 "Misfit.__init__" i_Misfit)
    (i16 : IIn K C16 "Unclear.__init__" i_Unclear)
    (p17 : PySem.W.excIn K C17 [.type "ValueError", .type "Exception", .type "BaseException", .type "object"] "ValueError.__new__" = true)
    (i18 : IIn K C18 "BadChain.__init__" i_BadChain)
    (i19 : IIn K C19 "BadCell.__init__" i_BadCell)
    (p20 : PySem.W.excIn K C20 [.type "ValueError", .type "Exception", .type "BaseException", .type "object"] "ValueError.__new__" = true)
    (i21 : IIn K C21 "BadFamily.__init__" i_BadFamily)
    (i22 : IIn K C22 "TooWide.__init__" i_TooWide)
    (i23 : IIn K C23 "BadChange.__init__" i_BadChange)
    (i24 : IIn K C24 "BadPlan.__init__" i_BadPlan)
    (i25 : IIn K C25 "BadPlans.__init__" i_BadPlans)
    (i26 : IIn K C26 "BadAnswers.__init__" i_BadAnswers)
    (i27 : IIn K C27 "NoSuchPlace.__init__" i_NoSuchPlace)
    (i28 : IIn K C28 "NoId.__init__" i_NoId)
    (i29 : IIn K C29 "BadPush.__init__" i_BadPush)
    (i30 : IIn K C30 "BadNumbers.__init__" i_BadNumbers)
    (p31 : PySem.W.excIn K C31 [.type "ValueError", .type "Exception", .type "BaseException", .type "object"] "ValueError.__new__" = true)
    (i32 : IIn K C32 "NoKey.__init__" i_NoKey)
    (i33 : IIn K C33 "NotPlain.__init__" i_NotPlain)
    (p34 : PySem.W.excIn K C34 [.type "ValueError", .type "Exception", .type "BaseException", .type "object"] "ValueError.__new__" = true)
    (i35 : IIn K C35 "BadFolding.__init__" i_BadFolding)
    (i36 : IIn K C36 "BadDeed.__init__" i_BadDeed)
    (i37 : IIn K C37 "Known.__init__" i_Known)
    (i38 : IIn K C38 "NoKept.__init__" i_NoKept)
    (i39 : IIn K C39 "Refused.__init__" i_Refused)
    (hn : PySem.W.specialIn K (.builtin "object.__class__") "__get__" = some (some (.builtin "getset_descriptor.__get__"))) (ht : PySem.W.takesIn K (.builtin "object.__class__") = some true)
    (nd : (A :: [C0, C1, C2, C3, C4, C5, C6, C7, C8, C9, C10, C11, C12, C13, C14, C15, C16, C17, C18, C19, C20, C21, C22, C23, C24, C25, C26, C27, C28, C29, C30, C31, C32, C33, C34, C35, C36, C37, C38, C39]).Nodup) :
    ∃ fd : FuncData, (∀ (s : Shared) (v : Value), BindsTo s fd ⟨[v], []⟩ [("_law_script", v)]) ∧ ∀ base : Heap, K.In base → base.Ns mainGlobals mg → FnOk l.prog w K mg base CX0 4 fa fd ["_law_script"] (spLaw K) := by
  have e := hfa.symm.trans (PySem.W.mg_of X G D_law.nm)
  cases e
  have T : Txt K mg :=
    { n_ValueError := PySem.W.mg_none_of X G z_ValueError,
      n_bool := PySem.W.mg_none_of X G z_bool,
      n_int := PySem.W.mg_none_of X G z_int,
      n_isinstance := PySem.W.mg_none_of X G z_isinstance,
      n_len := PySem.W.mg_none_of X G z_len,
      n_list := PySem.W.mg_none_of X G z_list,
      n_range := PySem.W.mg_none_of X G z_range,
      n_str := PySem.W.mg_none_of X G z_str,
      n_tuple := PySem.W.mg_none_of X G z_tuple }
  have XX := xs_mk X G nd hn ht zA x0 x1 x2 x3 x4 x5 x6 x7 x8 x9 x10 x11 x12 x13 x14 x15 x16 x17 x18 x19 x20 x21 x22 x23 x24 x25 x26 x27 x28 x29 x30 x31 x32 x33 x34 x35 x36 x37 x38 x39 p0 p9 p17 p20 p31 p34
  obtain ⟨oc, kV, dc, pm, cd, ct, od, an, sl, ll, lc⟩ := D_law.ex
  have FL := fun_mk (st := s_law) ll lc D_law.kp
  refine ⟨PySem.W.fnOf "law" "law" (defArgs s_law) (defBody s_law) (defScope s_law) .none kV dc pm an cd ct, fun s v => .of_eq rfl, fun base KB GB => ?_⟩
  have Y : MS l.prog w K mg base (csOf [C0, C1, C2, C3, C4, C5, C6, C7, C8, C9, C10, C11, C12, C13, C14, C15, C16, C17, C18, C19, C20, C21, C22, C23, C24, C25, C26, C27, C28, C29, C30, C31, C32, C33, C34, C35, C36, C37, C38, C39]) :=
    { m_NoPlace := mk_NoPlace XX (xi_NoPlace i1)
      m_NoPath := mk_NoPath XX (xi_NoPath i2)
      m_BadTerm := mk_BadTerm XX (xi_BadTerm i3)
      m_BadHeads := mk_BadHeads XX (xi_BadHeads i4)
      m_NoTable := mk_NoTable XX (xi_NoTable i5)
      m_NoRow := mk_NoRow XX (xi_NoRow i6)
      m_NoColumn := mk_NoColumn XX (xi_NoColumn i7)
      m_BadRow := mk_BadRow XX (xi_BadRow i8)
      m_BadText := mk_BadText XX (xi_BadText i10)
      m_BadForm := mk_BadForm XX (xi_BadForm i11)
      m_BadChoices := mk_BadChoices XX (xi_BadChoices i12)
      m_BadProgram := mk_BadProgram XX (xi_BadProgram i13)
      m_Unknown := mk_Unknown XX (xi_Unknown i14)
      m_Misfit := mk_Misfit XX (xi_Misfit i15)
      m_Unclear := mk_Unclear XX (xi_Unclear i16)
      m_BadChain := mk_BadChain XX (xi_BadChain i18)
      m_BadCell := mk_BadCell XX (xi_BadCell i19)
      m_BadFamily := mk_BadFamily XX (xi_BadFamily i21)
      m_TooWide := mk_TooWide XX (xi_TooWide i22)
      m_BadChange := mk_BadChange XX (xi_BadChange i23)
      m_BadPlan := mk_BadPlan XX (xi_BadPlan i24)
      m_BadPlans := mk_BadPlans XX (xi_BadPlans i25)
      m_BadAnswers := mk_BadAnswers XX (xi_BadAnswers i26)
      m_NoSuchPlace := mk_NoSuchPlace XX (xi_NoSuchPlace i27)
      m_NoId := mk_NoId XX (xi_NoId i28)
      m_BadPush := mk_BadPush XX (xi_BadPush i29)
      m_BadNumbers := mk_BadNumbers XX (xi_BadNumbers i30)
      m_NoKey := mk_NoKey XX (xi_NoKey i32)
      m_NotPlain := mk_NotPlain XX (xi_NotPlain i33)
      m_BadFolding := mk_BadFolding XX (xi_BadFolding i35)
      m_BadDeed := mk_BadDeed XX (xi_BadDeed i36)
      m_Known := mk_Known XX (xi_Known i37)
      m_NoKept := mk_NoKept XX (xi_NoKept i38)
      m_Refused := mk_Refused XX (xi_Refused i39) }
  have q1 := ok_law_pool (P := l.prog) (w := w) (base := base) T (d_law_pool X G D_law_pool)
  have q2 := ok_law_draw (P := l.prog) (w := w) (base := base) T (d_law_draw X G D_law_draw)
  have q3 := ok_law_exact (P := l.prog) (w := w) (base := base) T (d_law_exact X G D_law_exact) 2
  have q4 := ok_law_base_value (P := l.prog) (w := w) (base := base) T (d_law_base_value X G D_law_base_value) q2
  have q5 := ok_law_first_errors (P := l.prog) (w := w) (base := base) T XX Y (d_law_first_errors X G D_law_first_errors)
  have q6 := ok_law_later_errors (P := l.prog) (w := w) (base := base) T XX Y (d_law_later_errors X G D_law_later_errors)
  have q7 := ok_law_first_attributes (P := l.prog) (w := w) (base := base) T XX (d_law_first_attributes X G D_law_first_attributes)
  have q8 := ok_law_later_attributes (P := l.prog) (w := w) (base := base) T XX (d_law_later_attributes X G D_law_later_attributes)
  have q9 := ok_law_flags (P := l.prog) (w := w) (base := base) T XX (d_law_flags X G D_law_flags)
  exact ok_law T XX FL q1 q2 q3 q4 q5 q6 q7 q8 q9
end E5

set_option Elab.async false
set_option linter.all false
open PySem PySem.W PyProof.Rows
set_option maxRecDepth 100000 in
set_option maxHeartbeats 0 in
theorem PySem.Challenge.cw_listasks_k95_errors_side_by_side_holds : PySem.Challenge.rw_listasks_k95_errors_side_by_side.Holds := by
  w_on; o_law; k_headL; (case hw => w_witness2)
  k_fill
  refine L2.walk_of (l := PySem.Challenge.rw_listasks_k95_errors_side_by_side) (n := 63) (k := 4) (x := "_law_script") (CX := fun _ => L2.CX0) (sp := fun w => E5.spLaw _) rfl (by decide) rfl ⟨rfl, by decide, by decide⟩ (fun w h Y => PySem.W.kIn_of Y) ?F
    (fun _ H a ns hl _ hS => ⟨⟨fun _ => false, fun _ => True, fun _ _ _ _ => trivial, fun _ _ _ e => by cases e⟩, [E5.intL ns], trivial, ⟨ns, rfl, hl⟩, .cons (E5.dp_ints hS) .nil, fun v H' d _ _ hd e => by subst e; cases hd; rfl⟩) (fun _ _ _ _ _ h => h)
  case F =>
    as_aux_lemma =>
      intro w mg fa h KX G hmg
      refine' E5.all_mk KX G hmg ?D_law_pool ?D_law_draw ?D_law_exact ?D_law_base_value ?D_law_first_errors ?D_law_later_errors ?D_law_first_attributes ?D_law_later_attributes ?D_law_flags ?D_law ?z_ValueError ?z_bool ?z_int ?z_isinstance ?z_len ?z_list ?z_range ?z_str ?z_tuple ?zA ?x0 ?x1 ?x2 ?x3 ?x4 ?x5 ?x6 ?x7 ?x8 ?x9 ?x10 ?x11 ?x12 ?x13 ?x14 ?x15 ?x16 ?x17 ?x18 ?x19 ?x20 ?x21 ?x22 ?x23 ?x24 ?x25 ?x26 ?x27 ?x28 ?x29 ?x30 ?x31 ?x32 ?x33 ?x34 ?x35 ?x36 ?x37 ?x38 ?x39 ?p0 ?i1 ?i2 ?i3 ?i4 ?i5 ?i6 ?i7 ?i8 ?p9 ?i10 ?i11 ?i12 ?i13 ?i14 ?i15 ?i16 ?p17 ?i18 ?i19 ?p20 ?i21 ?i22 ?i23 ?i24 ?i25 ?i26 ?i27 ?i28 ?i29 ?i30 ?p31 ?i32 ?i33 ?p34 ?i35 ?i36 ?i37 ?i38 ?i39 ?hn ?ht ?nd
      (case D_law_pool => (refine' E5.DefIn.of ?l3 ?l1 ?l2 ?l4; (case l3 => k_is); (case l1 => k_is); (case l2 => k_is); (case l4 => k_is)))
      (case D_law_draw => (refine' E5.DefIn.of ?l3 ?l1 ?l2 ?l4; (case l3 => k_is); (case l1 => k_is); (case l2 => k_is); (case l4 => k_is)))
      (case D_law_exact => (refine' E5.DefIn.of ?l3 ?l1 ?l2 ?l4; (case l3 => k_is); (case l1 => k_is); (case l2 => k_is); (case l4 => k_is)))
      (case D_law_base_value => (refine' E5.DefIn.of ?l3 ?l1 ?l2 ?l4; (case l3 => k_is); (case l1 => k_is); (case l2 => k_is); (case l4 => k_is)))
      (case D_law_first_errors => (refine' E5.DefIn.of ?l3 ?l1 ?l2 ?l4; (case l3 => k_is); (case l1 => k_is); (case l2 => k_is); (case l4 => k_is)))
      (case D_law_later_errors => (refine' E5.DefIn.of ?l3 ?l1 ?l2 ?l4; (case l3 => k_is); (case l1 => k_is); (case l2 => k_is); (case l4 => k_is)))
      (case D_law_first_attributes => (refine' E5.DefIn.of ?l3 ?l1 ?l2 ?l4; (case l3 => k_is); (case l1 => k_is); (case l2 => k_is); (case l4 => k_is)))
      (case D_law_later_attributes => (refine' E5.DefIn.of ?l3 ?l1 ?l2 ?l4; (case l3 => k_is); (case l1 => k_is); (case l2 => k_is); (case l4 => k_is)))
      (case D_law_flags => (refine' E5.DefIn.of ?l3 ?l1 ?l2 ?l4; (case l3 => k_is); (case l1 => k_is); (case l2 => k_is); (case l4 => k_is)))
      (case D_law => (refine' E5.DefIn.of ?l3 ?l1 ?l2 ?l4; (case l3 => k_is); (case l1 => k_is); (case l2 => k_is); (case l4 => k_is)))
      (case z_ValueError => k_is)
      (case z_bool => k_is)
      (case z_int => k_is)
      (case z_isinstance => k_is)
      (case z_len => k_is)
      (case z_list => k_is)
      (case z_range => k_is)
      (case z_str => k_is)
      (case z_tuple => k_is)
      (case zA => (refine' E5.XAN.of ?l1 ?l2; (case l1 => k_is); (case l2 => k_is)))
      (case x0 => (refine' E5.XN.of ?l1 ?l2 ?l3 ?l4 ?l5 ?l6 ?l7; (case l1 => k_is); (case l2 => k_is); (case l3 => k_is); (case l4 => k_is); (case l5 => k_is); (case l6 => k_is); (case l7 => exact E5.no0)))
      (case x1 => (refine' E5.XN.of ?l1 ?l2 ?l3 ?l4 ?l5 ?l6 ?l7; (case l1 => k_is); (case l2 => k_is); (case l3 => k_is); (case l4 => k_is); (case l5 => k_is); (case l6 => k_is); (case l7 => (refine' E5.no1 ?n0; (case n0 => k_is)))))
      (case x2 => (refine' E5.XN.of ?l1 ?l2 ?l3 ?l4 ?l5 ?l6 ?l7; (case l1 => k_is); (case l2 => k_is); (case l3 => k_is); (case l4 => k_is); (case l5 => k_is); (case l6 => k_is); (case l7 => (refine' E5.no1 ?n0; (case n0 => k_is)))))
      (case x3 => (refine' E5.XN.of ?l1 ?l2 ?l3 ?l4 ?l5 ?l6 ?l7; (case l1 => k_is); (case l2 => k_is); (case l3 => k_is); (case l4 => k_is); (case l5 => k_is); (case l6 => k_is); (case l7 => (refine' E5.no2 ?n0 ?n1; (case n0 => k_is); (case n1 => k_is)))))
      (case x4 => (refine' E5.XN.of ?l1 ?l2 ?l3 ?l4 ?l5 ?l6 ?l7; (case l1 => k_is); (case l2 => k_is); (case l3 => k_is); (case l4 => k_is); (case l5 => k_is); (case l6 => k_is); (case l7 => (refine' E5.no2 ?n0 ?n1; (case n0 => k_is); (case n1 => k_is)))))
      (case x5 => (refine' E5.XN.of ?l1 ?l2 ?l3 ?l4 ?l5 ?l6 ?l7; (case l1 => k_is); (case l2 => k_is); (case l3 => k_is); (case l4 => k_is); (case l5 => k_is); (case l6 => k_is); (case l7 => (refine' E5.no1 ?n0; (case n0 => k_is)))))
      (case x6 => (refine' E5.XN.of ?l1 ?l2 ?l3 ?l4 ?l5 ?l6 ?l7; (case l1 => k_is); (case l2 => k_is); (case l3 => k_is); (case l4 => k_is); (case l5 => k_is); (case l6 => k_is); (case l7 => (refine' E5.no2 ?n0 ?n1; (case n0 => k_is); (case n1 => k_is)))))
      (case x7 => (refine' E5.XN.of ?l1 ?l2 ?l3 ?l4 ?l5 ?l6 ?l7; (case l1 => k_is); (case l2 => k_is); (case l3 => k_is); (case l4 => k_is); (case l5 => k_is); (case l6 => k_is); (case l7 => (refine' E5.no1 ?n0; (case n0 => k_is)))))
      (case x8 => (refine' E5.XN.of ?l1 ?l2 ?l3 ?l4 ?l5 ?l6 ?l7; (case l1 => k_is); (case l2 => k_is); (case l3 => k_is); (case l4 => k_is); (case l5 => k_is); (case l6 => k_is); (case l7 => (refine' E5.no1 ?n0; (case n0 => k_is)))))
      (case x9 => (refine' E5.XN.of ?l1 ?l2 ?l3 ?l4 ?l5 ?l6 ?l7; (case l1 => k_is); (case l2 => k_is); (case l3 => k_is); (case l4 => k_is); (case l5 => k_is); (case l6 => k_is); (case l7 => exact E5.no0)))
      (case x10 => (refine' E5.XN.of ?l1 ?l2 ?l3 ?l4 ?l5 ?l6 ?l7; (case l1 => k_is); (case l2 => k_is); (case l3 => k_is); (case l4 => k_is); (case l5 => k_is); (case l6 => k_is); (case l7 => (refine' E5.no1 ?n0; (case n0 => k_is)))))
      (case x11 => (refine' E5.XN.of ?l1 ?l2 ?l3 ?l4 ?l5 ?l6 ?l7; (case l1 => k_is); (case l2 => k_is); (case l3 => k_is); (case l4 => k_is); (case l5 => k_is); (case l6 => k_is); (case l7 => (refine' E5.no1 ?n0; (case n0 => k_is)))))
      (case x12 => (refine' E5.XN.of ?l1 ?l2 ?l3 ?l4 ?l5 ?l6 ?l7; (case l1 => k_is); (case l2 => k_is); (case l3 => k_is); (case l4 => k_is); (case l5 => k_is); (case l6 => k_is); (case l7 => (refine' E5.no1 ?n0; (case n0 => k_is)))))
      (case x13 => (refine' E5.XN.of ?l1 ?l2 ?l3 ?l4 ?l5 ?l6 ?l7; (case l1 => k_is); (case l2 => k_is); (case l3 => k_is); (case l4 => k_is); (case l5 => k_is); (case l6 => k_is); (case l7 => (refine' E5.no1 ?n0; (case n0 => k_is)))))
      (case x14 => (refine' E5.XN.of ?l1 ?l2 ?l3 ?l4 ?l5 ?l6 ?l7; (case l1 => k_is); (case l2 => k_is); (case l3 => k_is); (case l4 => k_is); (case l5 => k_is); (case l6 => k_is); (case l7 => (refine' E5.no3 ?n0 ?n1 ?n2; (case n0 => k_is); (case n1 => k_is); (case n2 => k_is)))))
      (case x15 => (refine' E5.XN.of ?l1 ?l2 ?l3 ?l4 ?l5 ?l6 ?l7; (case l1 => k_is); (case l2 => k_is); (case l3 => k_is); (case l4 => k_is); (case l5 => k_is); (case l6 => k_is); (case l7 => (refine' E5.no2 ?n0 ?n1; (case n0 => k_is); (case n1 => k_is)))))
      (case x16 => (refine' E5.XN.of ?l1 ?l2 ?l3 ?l4 ?l5 ?l6 ?l7; (case l1 => k_is); (case l2 => k_is); (case l3 => k_is); (case l4 => k_is); (case l5 => k_is); (case l6 => k_is); (case l7 => (refine' E5.no2 ?n0 ?n1; (case n0 => k_is); (case n1 => k_is)))))
      (case x17 => (refine' E5.XN.of ?l1 ?l2 ?l3 ?l4 ?l5 ?l6 ?l7; (case l1 => k_is); (case l2 => k_is); (case l3 => k_is); (case l4 => k_is); (case l5 => k_is); (case l6 => k_is); (case l7 => exact E5.no0)))
      (case x18 => (refine' E5.XN.of ?l1 ?l2 ?l3 ?l4 ?l5 ?l6 ?l7; (case l1 => k_is); (case l2 => k_is); (case l3 => k_is); (case l4 => k_is); (case l5 => k_is); (case l6 => k_is); (case l7 => (refine' E5.no2 ?n0 ?n1; (case n0 => k_is); (case n1 => k_is)))))
      (case x19 => (refine' E5.XN.of ?l1 ?l2 ?l3 ?l4 ?l5 ?l6 ?l7; (case l1 => k_is); (case l2 => k_is); (case l3 => k_is); (case l4 => k_is); (case l5 => k_is); (case l6 => k_is); (case l7 => (refine' E5.no1 ?n0; (case n0 => k_is)))))
      (case x20 => (refine' E5.XN.of ?l1 ?l2 ?l3 ?l4 ?l5 ?l6 ?l7; (case l1 => k_is); (case l2 => k_is); (case l3 => k_is); (case l4 => k_is); (case l5 => k_is); (case l6 => k_is); (case l7 => exact E5.no0)))
      (case x21 => (refine' E5.XN.of ?l1 ?l2 ?l3 ?l4 ?l5 ?l6 ?l7; (case l1 => k_is); (case l2 => k_is); (case l3 => k_is); (case l4 => k_is); (case l5 => k_is); (case l6 => k_is); (case l7 => (refine' E5.no3 ?n0 ?n1 ?n2; (case n0 => k_is); (case n1 => k_is); (case n2 => k_is)))))
      (case x22 => (refine' E5.XN.of ?l1 ?l2 ?l3 ?l4 ?l5 ?l6 ?l7; (case l1 => k_is); (case l2 => k_is); (case l3 => k_is); (case l4 => k_is); (case l5 => k_is); (case l6 => k_is); (case l7 => (refine' E5.no1 ?n0; (case n0 => k_is)))))
      (case x23 => (refine' E5.XN.of ?l1 ?l2 ?l3 ?l4 ?l5 ?l6 ?l7; (case l1 => k_is); (case l2 => k_is); (case l3 => k_is); (case l4 => k_is); (case l5 => k_is); (case l6 => k_is); (case l7 => (refine' E5.no1 ?n0; (case n0 => k_is)))))
      (case x24 => (refine' E5.XN.of ?l1 ?l2 ?l3 ?l4 ?l5 ?l6 ?l7; (case l1 => k_is); (case l2 => k_is); (case l3 => k_is); (case l4 => k_is); (case l5 => k_is); (case l6 => k_is); (case l7 => (refine' E5.no2 ?n0 ?n1; (case n0 => k_is); (case n1 => k_is)))))
      (case x25 => (refine' E5.XN.of ?l1 ?l2 ?l3 ?l4 ?l5 ?l6 ?l7; (case l1 => k_is); (case l2 => k_is); (case l3 => k_is); (case l4 => k_is); (case l5 => k_is); (case l6 => k_is); (case l7 => (refine' E5.no3 ?n0 ?n1 ?n2; (case n0 => k_is); (case n1 => k_is); (case n2 => k_is)))))
      (case x26 => (refine' E5.XN.of ?l1 ?l2 ?l3 ?l4 ?l5 ?l6 ?l7; (case l1 => k_is); (case l2 => k_is); (case l3 => k_is); (case l4 => k_is); (case l5 => k_is); (case l6 => k_is); (case l7 => (refine' E5.no3 ?n0 ?n1 ?n2; (case n0 => k_is); (case n1 => k_is); (case n2 => k_is)))))
      (case x27 => (refine' E5.XN.of ?l1 ?l2 ?l3 ?l4 ?l5 ?l6 ?l7; (case l1 => k_is); (case l2 => k_is); (case l3 => k_is); (case l4 => k_is); (case l5 => k_is); (case l6 => k_is); (case l7 => (refine' E5.no1 ?n0; (case n0 => k_is)))))
      (case x28 => (refine' E5.XN.of ?l1 ?l2 ?l3 ?l4 ?l5 ?l6 ?l7; (case l1 => k_is); (case l2 => k_is); (case l3 => k_is); (case l4 => k_is); (case l5 => k_is); (case l6 => k_is); (case l7 => (refine' E5.no2 ?n0 ?n1; (case n0 => k_is); (case n1 => k_is)))))
      (case x29 => (refine' E5.XN.of ?l1 ?l2 ?l3 ?l4 ?l5 ?l6 ?l7; (case l1 => k_is); (case l2 => k_is); (case l3 => k_is); (case l4 => k_is); (case l5 => k_is); (case l6 => k_is); (case l7 => (refine' E5.no2 ?n0 ?n1; (case n0 => k_is); (case n1 => k_is)))))
      (case x30 => (refine' E5.XN.of ?l1 ?l2 ?l3 ?l4 ?l5 ?l6 ?l7; (case l1 => k_is); (case l2 => k_is); (case l3 => k_is); (case l4 => k_is); (case l5 => k_is); (case l6 => k_is); (case l7 => (refine' E5.no3 ?n0 ?n1 ?n2; (case n0 => k_is); (case n1 => k_is); (case n2 => k_is)))))
      (case x31 => (refine' E5.XN.of ?l1 ?l2 ?l3 ?l4 ?l5 ?l6 ?l7; (case l1 => k_is); (case l2 => k_is); (case l3 => k_is); (case l4 => k_is); (case l5 => k_is); (case l6 => k_is); (case l7 => exact E5.no0)))
      (case x32 => (refine' E5.XN.of ?l1 ?l2 ?l3 ?l4 ?l5 ?l6 ?l7; (case l1 => k_is); (case l2 => k_is); (case l3 => k_is); (case l4 => k_is); (case l5 => k_is); (case l6 => k_is); (case l7 => (refine' E5.no2 ?n0 ?n1; (case n0 => k_is); (case n1 => k_is)))))
      (case x33 => (refine' E5.XN.of ?l1 ?l2 ?l3 ?l4 ?l5 ?l6 ?l7; (case l1 => k_is); (case l2 => k_is); (case l3 => k_is); (case l4 => k_is); (case l5 => k_is); (case l6 => k_is); (case l7 => (refine' E5.no2 ?n0 ?n1; (case n0 => k_is); (case n1 => k_is)))))
      (case x34 => (refine' E5.XN.of ?l1 ?l2 ?l3 ?l4 ?l5 ?l6 ?l7; (case l1 => k_is); (case l2 => k_is); (case l3 => k_is); (case l4 => k_is); (case l5 => k_is); (case l6 => k_is); (case l7 => exact E5.no0)))
      (case x35 => (refine' E5.XN.of ?l1 ?l2 ?l3 ?l4 ?l5 ?l6 ?l7; (case l1 => k_is); (case l2 => k_is); (case l3 => k_is); (case l4 => k_is); (case l5 => k_is); (case l6 => k_is); (case l7 => (refine' E5.no1 ?n0; (case n0 => k_is)))))
      (case x36 => (refine' E5.XN.of ?l1 ?l2 ?l3 ?l4 ?l5 ?l6 ?l7; (case l1 => k_is); (case l2 => k_is); (case l3 => k_is); (case l4 => k_is); (case l5 => k_is); (case l6 => k_is); (case l7 => (refine' E5.no1 ?n0; (case n0 => k_is)))))
      (case x37 => (refine' E5.XN.of ?l1 ?l2 ?l3 ?l4 ?l5 ?l6 ?l7; (case l1 => k_is); (case l2 => k_is); (case l3 => k_is); (case l4 => k_is); (case l5 => k_is); (case l6 => k_is); (case l7 => (refine' E5.no1 ?n0; (case n0 => k_is)))))
      (case x38 => (refine' E5.XN.of ?l1 ?l2 ?l3 ?l4 ?l5 ?l6 ?l7; (case l1 => k_is); (case l2 => k_is); (case l3 => k_is); (case l4 => k_is); (case l5 => k_is); (case l6 => k_is); (case l7 => (refine' E5.no1 ?n0; (case n0 => k_is)))))
      (case x39 => (refine' E5.XN.of ?l1 ?l2 ?l3 ?l4 ?l5 ?l6 ?l7; (case l1 => k_is); (case l2 => k_is); (case l3 => k_is); (case l4 => k_is); (case l5 => k_is); (case l6 => k_is); (case l7 => (refine' E5.no1 ?n0; (case n0 => k_is)))))
      (case p0 => k_exc)
      (case i1 => (refine' E5.IIn.of ?l1 ?l2 ?l3 ?l4 ?l5 ?l6; (case l1 => k_is); (case l2 => k_is); (case l3 => k_is); (case l4 => k_is); (case l5 => k_is); (case l6 => k_is)))
      (case i2 => (refine' E5.IIn.of ?l1 ?l2 ?l3 ?l4 ?l5 ?l6; (case l1 => k_is); (case l2 => k_is); (case l3 => k_is); (case l4 => k_is); (case l5 => k_is); (case l6 => k_is)))
      (case i3 => (refine' E5.IIn.of ?l1 ?l2 ?l3 ?l4 ?l5 ?l6; (case l1 => k_is); (case l2 => k_is); (case l3 => k_is); (case l4 => k_is); (case l5 => k_is); (case l6 => k_is)))
      (case i4 => (refine' E5.IIn.of ?l1 ?l2 ?l3 ?l4 ?l5 ?l6; (case l1 => k_is); (case l2 => k_is); (case l3 => k_is); (case l4 => k_is); (case l5 => k_is); (case l6 => k_is)))
      (case i5 => (refine' E5.IIn.of ?l1 ?l2 ?l3 ?l4 ?l5 ?l6; (case l1 => k_is); (case l2 => k_is); (case l3 => k_is); (case l4 => k_is); (case l5 => k_is); (case l6 => k_is)))
      (case i6 => (refine' E5.IIn.of ?l1 ?l2 ?l3 ?l4 ?l5 ?l6; (case l1 => k_is); (case l2 => k_is); (case l3 => k_is); (case l4 => k_is); (case l5 => k_is); (case l6 => k_is)))
      (case i7 => (refine' E5.IIn.of ?l1 ?l2 ?l3 ?l4 ?l5 ?l6; (case l1 => k_is); (case l2 => k_is); (case l3 => k_is); (case l4 => k_is); (case l5 => k_is); (case l6 => k_is)))
      (case i8 => (refine' E5.IIn.of ?l1 ?l2 ?l3 ?l4 ?l5 ?l6; (case l1 => k_is); (case l2 => k_is); (case l3 => k_is); (case l4 => k_is); (case l5 => k_is); (case l6 => k_is)))
      (case p9 => k_exc)
      (case i10 => (refine' E5.IIn.of ?l1 ?l2 ?l3 ?l4 ?l5 ?l6; (case l1 => k_is); (case l2 => k_is); (case l3 => k_is); (case l4 => k_is); (case l5 => k_is); (case l6 => k_is)))
      (case i11 => (refine' E5.IIn.of ?l1 ?l2 ?l3 ?l4 ?l5 ?l6; (case l1 => k_is); (case l2 => k_is); (case l3 => k_is); (case l4 => k_is); (case l5 => k_is); (case l6 => k_is)))
      (case i12 => (refine' E5.IIn.of ?l1 ?l2 ?l3 ?l4 ?l5 ?l6; (case l1 => k_is); (case l2 => k_is); (case l3 => k_is); (case l4 => k_is); (case l5 => k_is); (case l6 => k_is)))
      (case i13 => (refine' E5.IIn.of ?l1 ?l2 ?l3 ?l4 ?l5 ?l6; (case l1 => k_is); (case l2 => k_is); (case l3 => k_is); (case l4 => k_is); (case l5 => k_is); (case l6 => k_is)))
      (case i14 => (refine' E5.IIn.of ?l1 ?l2 ?l3 ?l4 ?l5 ?l6; (case l1 => k_is); (case l2 => k_is); (case l3 => k_is); (case l4 => k_is); (case l5 => k_is); (case l6 => k_is)))
      (case i15 => (refine' E5.IIn.of ?l1 ?l2 ?l3 ?l4 ?l5 ?l6; (case l1 => k_is); (case l2 => k_is); (case l3 => k_is); (case l4 => k_is); (case l5 => k_is); (case l6 => k_is)))
      (case i16 => (refine' E5.IIn.of ?l1 ?l2 ?l3 ?l4 ?l5 ?l6; (case l1 => k_is); (case l2 => k_is); (case l3 => k_is); (case l4 => k_is); (case l5 => k_is); (case l6 => k_is)))
      (case p17 => k_exc)
      (case i18 => (refine' E5.IIn.of ?l1 ?l2 ?l3 ?l4 ?l5 ?l6; (case l1 => k_is); (case l2 => k_is); (case l3 => k_is); (case l4 => k_is); (case l5 => k_is); (case l6 => k_is)))
      (case i19 => (refine' E5.IIn.of ?l1 ?l2 ?l3 ?l4 ?l5 ?l6; (case l1 => k_is); (case l2 => k_is); (case l3 => k_is); (case l4 => k_is); (case l5 => k_is); (case l6 => k_is)))
      (case p20 => k_exc)
      (case i21 => (refine' E5.IIn.of ?l1 ?l2 ?l3 ?l4 ?l5 ?l6; (case l1 => k_is); (case l2 => k_is); (case l3 => k_is); (case l4 => k_is); (case l5 => k_is); (case l6 => k_is)))
      (case i22 => (refine' E5.IIn.of ?l1 ?l2 ?l3 ?l4 ?l5 ?l6; (case l1 => k_is); (case l2 => k_is); (case l3 => k_is); (case l4 => k_is); (case l5 => k_is); (case l6 => k_is)))
      (case i23 => (refine' E5.IIn.of ?l1 ?l2 ?l3 ?l4 ?l5 ?l6; (case l1 => k_is); (case l2 => k_is); (case l3 => k_is); (case l4 => k_is); (case l5 => k_is); (case l6 => k_is)))
      (case i24 => (refine' E5.IIn.of ?l1 ?l2 ?l3 ?l4 ?l5 ?l6; (case l1 => k_is); (case l2 => k_is); (case l3 => k_is); (case l4 => k_is); (case l5 => k_is); (case l6 => k_is)))
      (case i25 => (refine' E5.IIn.of ?l1 ?l2 ?l3 ?l4 ?l5 ?l6; (case l1 => k_is); (case l2 => k_is); (case l3 => k_is); (case l4 => k_is); (case l5 => k_is); (case l6 => k_is)))
      (case i26 => (refine' E5.IIn.of ?l1 ?l2 ?l3 ?l4 ?l5 ?l6; (case l1 => k_is); (case l2 => k_is); (case l3 => k_is); (case l4 => k_is); (case l5 => k_is); (case l6 => k_is)))
      (case i27 => (refine' E5.IIn.of ?l1 ?l2 ?l3 ?l4 ?l5 ?l6; (case l1 => k_is); (case l2 => k_is); (case l3 => k_is); (case l4 => k_is); (case l5 => k_is); (case l6 => k_is)))
      (case i28 => (refine' E5.IIn.of ?l1 ?l2 ?l3 ?l4 ?l5 ?l6; (case l1 => k_is); (case l2 => k_is); (case l3 => k_is); (case l4 => k_is); (case l5 => k_is); (case l6 => k_is)))
      (case i29 => (refine' E5.IIn.of ?l1 ?l2 ?l3 ?l4 ?l5 ?l6; (case l1 => k_is); (case l2 => k_is); (case l3 => k_is); (case l4 => k_is); (case l5 => k_is); (case l6 => k_is)))
      (case i30 => (refine' E5.IIn.of ?l1 ?l2 ?l3 ?l4 ?l5 ?l6; (case l1 => k_is); (case l2 => k_is); (case l3 => k_is); (case l4 => k_is); (case l5 => k_is); (case l6 => k_is)))
      (case p31 => k_exc)
      (case i32 => (refine' E5.IIn.of ?l1 ?l2 ?l3 ?l4 ?l5 ?l6; (case l1 => k_is); (case l2 => k_is); (case l3 => k_is); (case l4 => k_is); (case l5 => k_is); (case l6 => k_is)))
      (case i33 => (refine' E5.IIn.of ?l1 ?l2 ?l3 ?l4 ?l5 ?l6; (case l1 => k_is); (case l2 => k_is); (case l3 => k_is); (case l4 => k_is); (case l5 => k_is); (case l6 => k_is)))
      (case p34 => k_exc)
      (case i35 => (refine' E5.IIn.of ?l1 ?l2 ?l3 ?l4 ?l5 ?l6; (case l1 => k_is); (case l2 => k_is); (case l3 => k_is); (case l4 => k_is); (case l5 => k_is); (case l6 => k_is)))
      (case i36 => (refine' E5.IIn.of ?l1 ?l2 ?l3 ?l4 ?l5 ?l6; (case l1 => k_is); (case l2 => k_is); (case l3 => k_is); (case l4 => k_is); (case l5 => k_is); (case l6 => k_is)))
      (case i37 => (refine' E5.IIn.of ?l1 ?l2 ?l3 ?l4 ?l5 ?l6; (case l1 => k_is); (case l2 => k_is); (case l3 => k_is); (case l4 => k_is); (case l5 => k_is); (case l6 => k_is)))
      (case i38 => (refine' E5.IIn.of ?l1 ?l2 ?l3 ?l4 ?l5 ?l6; (case l1 => k_is); (case l2 => k_is); (case l3 => k_is); (case l4 => k_is); (case l5 => k_is); (case l6 => k_is)))
      (case i39 => (refine' E5.IIn.of ?l1 ?l2 ?l3 ?l4 ?l5 ?l6; (case l1 => k_is); (case l2 => k_is); (case l3 => k_is); (case l4 => k_is); (case l5 => k_is); (case l6 => k_is)))
      (case hn => k_is)
      (case ht => k_is)
      (case nd => decide +kernel)


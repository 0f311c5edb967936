import PyProof.Rows.All
import Wide.All
import OpenK.AllK
import Wide.FinOn
import HandS.ForMost
import HandS.IsInst
import HandS.Walk
import HandS.Conv
import HandS.TupAny
import HandS.Codes
import HandS.More
import HandS.TupSets
import HandS.Strs
import PyProof.DictUpdate
import HandS.TupMul
import HandS.Style
import PySem.Challenge.RW_letterhall_k13_plans_at_their_bounds
import HandS.Wide
import PyProof.StrBlock2
import HandS.TupLe
set_option Elab.async false
set_option linter.all false
set_option autoImplicit false
set_option maxRecDepth 100000
set_option maxHeartbeats 8000000
/-! A layer of data over the hand layer: an expression that only makes new objects is worth a datum. -/
namespace LH
open PySem PySem.Spec L2 PyProof.Rows
abbrev Dt := PyData
abbrev Env0' := List (Option Dt)
section
variable {K : PySem.W.Frag} {H H' : Hp}
theorem sameT {a : Addr} {xs : List V} (e : Same H H') (h : SqT K H a xs) : SqT K H' a xs := by
  (rcases h with (h | ⟨o, h⟩) | h)
  · exact .inl (.inl (e _ _ h))
  · (exact .inl (.inr ⟨o, e _ _ h⟩))
  · exact .inr h
/-! data, dicts with whole numbers and texts as keys too -/
def keyD : Key → Dt
  | .inl i => .int i
  | .inr x => .str x
mutual
inductive Dq (K : PySem.W.Frag) (H : Hp) : V → PyData → Prop
  | non : Dq K H .non .none
  | bl (b : Bool) : Dq K H (.bl b) (.bool b)
  | int (i : Int) : Dq K H (.int i) (.int i)
  | str (x : Str) : Dq K H (.str x) (.str x)
  | lst {a : Addr} {xs : List V} {ds : List PyData} : SqL K H a xs → DqAll K H xs ds → Dq K H (.ref a) (.list ds)
  | tup {a : Addr} {xs : List V} {ds : List PyData} : SqT K H a xs → DqAll K H xs ds → Dq K H (.ref a) (.tuple ds)
  | dct {a : Addr} {kvs : List (Key × V)} {ds : List (PyData × PyData)} : H a = some (.dK kvs) → DqKv K H kvs ds → Dq K H (.ref a) (.dict ds)
inductive DqAll (K : PySem.W.Frag) (H : Hp) : List V → List PyData → Prop
  | nil : DqAll K H [] []
  | cons {v : V} {vs : List V} {d : PyData} {ds : List PyData} : Dq K H v d → DqAll K H vs ds → DqAll K H (v :: vs) (d :: ds)
inductive DqKv (K : PySem.W.Frag) (H : Hp) : List (Key × V) → List (PyData × PyData) → Prop
  | nil : DqKv K H [] []
  | cons {k : Key} {v : V} {vs : List (Key × V)} {d : PyData} {ds : List (PyData × PyData)} : Dq K H v d → DqKv K H vs ds → DqKv K H ((k, v) :: vs) ((keyD k, d) :: ds)
end
mutual
theorem dqDp : ∀ {v : V} {d : Dt}, PyData.canLay0 d = true → Dq K H v d → Dp K H v d
  | _, _, _, .non => .non
  | _, _, _, .bl b => .bl b
  | _, _, _, .int i => .int i
  | _, _, _, .str x => .str x
  | _, _, h, .lst s a => .lst s (dqDps h a)
  | _, _, h, .tup s a => .tup s (dqDps h a)
  | _, _, h, .dct _ _ => absurd h Bool.false_ne_true
theorem dqDps : ∀ {vs : List V} {ds : List Dt}, PyData.canLayAll0 ds = true → DqAll K H vs ds → DpAll K H vs ds
  | _, _, _, .nil => .nil
  | _, _, h, .cons a t => .cons (dqDp (Bool.and_eq_true_iff.mp h).1 a) (dqDps (Bool.and_eq_true_iff.mp h).2 t)
end
mutual
theorem dpM (e : Same H H') : ∀ {v : V} {d : Dt}, Dq K H v d → Dq K H' v d
  | _, _, .non => .non
  | _, _, .bl b => .bl b
  | _, _, .int i => .int i
  | _, _, .str x => .str x
  | _, _, .lst h a => .lst (e.seq h) (dpsM e a)
  | _, _, .tup h a => .tup (sameT e h) (dpsM e a)
  | _, _, .dct h a => .dct (e _ _ h) (dpkM e a)
theorem dpsM (e : Same H H') : ∀ {vs : List V} {ds : List Dt}, DqAll K H vs ds → DqAll K H' vs ds
  | _, _, .nil => .nil
  | _, _, .cons h t => .cons (dpM e h) (dpsM e t)
theorem dpkM (e : Same H H') : ∀ {vs : List (Key × V)} {ds : List (Dt × Dt)}, DqKv K H vs ds → DqKv K H' vs ds
  | _, _, .nil => .nil
  | _, _, .cons h t => .cons (dpM e h) (dpkM e t)
end
theorem sameU {p : Addr} {o : HO} (h : H p = none) : Same H (upd H p o) := fun b x e => by
  rw [upd_ne (ne_of_none e h)]
  exact e
theorem dpsLen : ∀ {vs : List V} {ds : List Dt}, DqAll K H vs ds → vs.length = ds.length
  | _, _, .nil => rfl
  | _, _, .cons _ t => congrArg (· + 1) (dpsLen t)
theorem dpsGet : ∀ {vs : List V} {ds : List Dt} {i : Nat} {d : Dt}, DqAll K H vs ds → ds[i]? = some d → ∃ v, vs[i]? = some v ∧ Dq K H v d
  | _, _, _, _, .nil, h => by simp at h
  | _, _, 0, _, .cons (v := v) a _, h => ⟨v, rfl, by cases h; exact a⟩
  | _, _, i + 1, _, .cons _ t, h => dpsGet (i := i) t h
theorem dpsGet' : ∀ {vs : List V} {ds : List Dt} {i : Nat} {v : V}, DqAll K H vs ds → vs[i]? = some v → ∃ d, ds[i]? = some d ∧ Dq K H v d
  | _, _, _, _, .nil, h => by simp at h
  | _, _, 0, _, .cons (d := d) a _, h => ⟨d, rfl, by cases h; exact a⟩
  | _, _, i + 1, _, .cons _ t, h => dpsGet' (i := i) t h
theorem dpsApp : ∀ {vs us : List V} {ds es : List Dt}, DqAll K H vs ds → DqAll K H us es → DqAll K H (vs ++ us) (ds ++ es)
  | _, _, _, _, .nil, h => h
  | _, _, _, _, .cons a t, h => .cons a (dpsApp t h)
theorem dpsDrop : ∀ {vs : List V} {ds : List Dt} (n : Nat), DqAll K H vs ds → DqAll K H (vs.drop n) (ds.drop n)
  | _, _, 0, h => h
  | _, _, _ + 1, .nil => .nil
  | _, _, n + 1, .cons _ t => dpsDrop n t
theorem dpsTake : ∀ {vs : List V} {ds : List Dt} (n : Nat), DqAll K H vs ds → DqAll K H (vs.take n) (ds.take n)
  | _, _, 0, h => .nil
  | _, _, _ + 1, .nil => .nil
  | _, _, n + 1, .cons a t => .cons a (dpsTake n t)
/-- the slots, as far as data is told of them -/
structure Sd (K : PySem.W.Frag) (H : Hp) (σ : L2.St) (env : Env0') : Prop where
  len : σ.length = env.length
  at' : ∀ (i : Nat) (d : Dt), env[i]? = some (some d) → ∃ v, σ[i]? = some (some v) ∧ Dq K H v d
variable {σ : L2.St} {env : Env0'}
theorem Sd.mono (h : Sd K H σ env) (e : Same H H') : Sd K H' σ env := ⟨h.len, fun i d z => by
  obtain ⟨v, a, b⟩ := h.at' i d z
  exact ⟨v, a, dpM e b⟩⟩
theorem Sd.set {v : V} {d : Dt} (h : Sd K H σ env) (i : Nat) (hv : Dq K H v d) : Sd K H (σ.set i (some v)) (env.set i (some d)) := ⟨by rw [List.length_set, List.length_set, h.len], fun j e z => by
  rw [List.getElem?_set] at z ⊢
  by_cases hij : i = j
  · rw [if_pos hij] at z ⊢
    rw [← h.len] at z
    by_cases hl : i < σ.length
    · rw [if_pos hl] at z ⊢
      cases z
      exact ⟨v, rfl, hv⟩
    · rw [if_neg hl] at z
      cases z
  · rw [if_neg hij] at z ⊢
    exact h.at' j e z⟩
theorem Sd.drop (h : Sd K H σ env) (i : Nat) : Sd K H (σ.set i none) (env.set i none) := ⟨by rw [List.length_set, List.length_set, h.len], fun j e z => by
  rw [List.getElem?_set] at z ⊢
  by_cases hij : i = j
  · rw [if_pos hij] at z
    split at z <;> cases z
  · rw [if_neg hij] at z ⊢
    exact h.at' j e z⟩
def startD (n : Nat) (ds : List Dt) : Env0' := ds.map some ++ List.replicate (n - ds.length) none
theorem sdStart {N : List Str} {vs : List V} {ds : List Dt} (h : DqAll K H vs ds) : Sd K H (L2.start N vs) (startD N.length ds) := by
  have hl := dpsLen h
  refine ⟨?_, fun i d z => ?_⟩
  · unfold L2.start startD
    rw [List.length_append, List.length_append, List.length_map, List.length_map, List.length_replicate, List.length_replicate, hl]
  · unfold L2.start startD at *
    rw [List.getElem?_append, List.length_map] at z ⊢
    rw [hl]
    by_cases hi : i < ds.length
    · rw [if_pos hi] at z ⊢
      rw [List.getElem?_map] at z ⊢
      cases q : ds[i]? with
      | none => rw [q] at z; cases z
      | some e =>
        rw [q] at z
        cases z
        obtain ⟨v, a, b⟩ := dpsGet h q
        exact ⟨v, by rw [a]; rfl, b⟩
    · rw [if_neg hi] at z
      rw [List.getElem?_replicate] at z
      split at z <;> cases z
end
/-! ### the data's heap G within the whole heap H; both grow, what wasn't data stays none -/
structure Gw (G H G' H' : Hp) : Prop where
  gg : Same G G'
  hh : Same H H'
  gh : Same G' H'
  nw : ∀ a, H a ≠ none → G a = none → G' a = none
section
variable {G H G' H' G2 H2 : Hp}
theorem Gw.refl (h : Same G H) : Gw G H G H := ⟨Same.refl G, Same.refl H, h, fun _ _ e => e⟩
theorem Gw.trans (a : Gw G H G' H') (b : Gw G' H' G2 H2) : Gw G H G2 H2 := ⟨a.gg.trans b.gg, a.hh.trans b.hh, b.gh, fun c h e => by
  refine b.nw c ?_ (a.nw c h e)
  cases q : H c with
  | none => exact absurd q h
  | some o =>
    rw [a.hh c o q]
    exact fun z => nomatch z⟩
theorem Gw.new {p : Addr} {o : HO} (h : Same G H) (np : H p = none) : Gw G H (upd G p o) (upd H p o) := by
  have ng : G p = none := h.free np
  refine ⟨sameU ng, sameU np, fun b x e => ?_, fun a ha e => ?_⟩
  · by_cases hb : b = p
    · subst hb
      rw [upd_same] at e ⊢
      exact e
    · rw [upd_ne hb] at e ⊢
      exact h b x e
  · have hb : a ≠ p := fun z => ha (by rw [z]; exact np)
    rw [upd_ne hb]
    exact e
/-- a new object that is no datum -/
theorem Gw.out {p : Addr} {o : HO} (h : Same G H) (np : H p = none) : Gw G H G (upd H p o) := ⟨Same.refl G, sameU np, fun b x e => by
  have hb : b ≠ p := fun z => by
    rw [z] at e
    exact nomatch (h.free np).symm.trans e
  rw [upd_ne hb]
  exact h b x e, fun _ _ e => e⟩
/-- a new object becomes a datum -/
theorem Gw.put {p : Addr} {o : HO} (a : Gw G H G' H') (np : H p = none) (hp : H' p = some o) (ng : G' p = none) : Gw G H (upd G' p o) H' := ⟨a.gg.trans (sameU ng), a.hh, fun b x e => by
  by_cases hb : b = p
  · subst hb
    rw [upd_same] at e
    rw [hp]
    exact e
  · rw [upd_ne hb] at e
    exact a.gh b x e, fun c hc e => by
  have hb : c ≠ p := fun z => hc (by rw [z]; exact np)
  rw [upd_ne hb]
  exact a.nw c hc e⟩
end
/-! ### what an expression is worth -/
def EvE (K : PySem.W.Frag) (te : TE) (env : Env0') (d : Dt) : Prop := ∀ σ G H, Same G H → Sd K G σ env → ∀ Q : VK, (∀ v G' H', Gw G H G' H' → Dq K G' v d → Q v H') → te σ H Q
/-- a new list, no datum yet -/
def EvN (K : PySem.W.Frag) (te : TE) (env : Env0') (ds : List Dt) : Prop := ∀ σ G H, Same G H → Sd K G σ env → ∀ Q : VK, (∀ p xs G' H', Gw G H G' H' → H p = none → G' p = none → H' p = some (.lst xs) → DqAll K G' xs ds → Q (.ref p) H') → te σ H Q
def EvB (K : PySem.W.Frag) (tt : TT) (env : Env0') (b : Bool) : Prop := ∀ σ G H, Same G H → Sd K G σ env → ∀ Q : Bool → Hp → Prop, (∀ G' H', Gw G H G' H' → Q b H') → tt σ H Q
def EvAs (K : PySem.W.Frag) (ta : TA) (env : Env0') (ds : List Dt) : Prop := ∀ σ G H, Same G H → Sd K G σ env → ∀ Q : List V → Hp → Prop, (∀ vs G' H', Gw G H G' H' → DqAll K G' vs ds → Q vs H') → ta σ H Q
def EvO (K : PySem.W.Frag) (to : TO) (env : Env0') (o : Option Int) : Prop := ∀ σ G H, Same G H → Sd K G σ env → ∀ Q : Option Int → Hp → Prop, (∀ G' H', Gw G H G' H' → Q o H') → to σ H Q
/-- an operation on two data, on some data -/
def RD (K : PySem.W.Frag) (r : R2) (x y z : Dt) : Prop := ∀ a b G H, Same G H → Dq K G a x → Dq K G b y → ∀ Q : VK, (∀ v G' H', Gw G H G' H' → Dq K G' v z → Q v H') → r a b H Q
def RCd (K : PySem.W.Frag) (r : List V → Hp → VK → Prop) (ds : List Dt) (z : Dt) : Prop := ∀ vs G H, Same G H → DqAll K G vs ds → ∀ Q : VK, (∀ v G' H', Gw G H G' H' → Dq K G' v z → Q v H') → r vs H Q
def RCn (K : PySem.W.Frag) (r : List V → Hp → VK → Prop) (ds : List Dt) (zs : List Dt) : Prop := ∀ vs G H, Same G H → DqAll K G vs ds → ∀ Q : VK, (∀ p xs G' H', Gw G H G' H' → H p = none → G' p = none → H' p = some (.lst xs) → DqAll K G' xs zs → Q (.ref p) H') → r vs H Q
/-- a def's promise over data -/
def spF (K : PySem.W.Frag) (f : List Dt → Option Dt) : Sp := fun vs H Q _ => ∃ G ds d, Same G H ∧ DqAll K G vs ds ∧ f ds = some d ∧ ∀ v G' H', Gw G H G' H' → Dq K G' v d → Q v H'
section
variable {K : PySem.W.Frag} {env : Env0'} {ta tb tc te : TE} {t u : TT} {x y z d : Dt} {r r' : R2}
theorem ee_is {d' : Dt} (h : EvE K te env d) (e : d = d') : EvE K te env d' := e ▸ h
theorem eb_is {b b' : Bool} (h : EvB K t env b) (e : b = b') : EvB K t env b' := e ▸ h
theorem en_is {b b' : List Dt} (h : EvN K te env b) (e : b = b') : EvN K te env b' := e ▸ h
theorem ee_of {ds : List Dt} (h : EvN K te env ds) : EvE K te env (.list ds) := fun σ G H gh s Q q => h σ G H gh s Q fun p xs G' H' w np ng hp dx =>
  q _ _ H' (w.put np hp ng) (.lst (.inl (.inl upd_same)) (dpsM (sameU ng) dx))
theorem ee_var {i : Nat} (h : env[i]? = some (some d)) : EvE K (tVar i) env d := fun σ G H gh s Q q => by
  obtain ⟨v, a, b⟩ := s.at' i d h
  exact ⟨v, a, q v G H (Gw.refl gh) b⟩
theorem ee_c {v : V} (h : ∀ H, Dq K H v d) : EvE K (tC v) env d := fun _ G H gh _ _ q => q v G H (Gw.refl gh) (h G)
theorem ee_int {i : Int} : EvE K (tC (.int i)) env (.int i) := ee_c fun _ => .int i
theorem ee_str {i : Str} : EvE K (tC (.str i)) env (.str i) := ee_c fun _ => .str i
theorem ee_bl {i : Bool} : EvE K (tC (.bl i)) env (.bool i) := ee_c fun _ => .bl i
theorem ee_non : EvE K (tC .non) env .none := ee_c fun _ => .non
theorem ee_and {a b : Bool} (h1 : EvE K ta env (.bool a)) (h2 : a = true → EvE K tb env (.bool b)) : EvE K (tAndV ta tb) env (.bool (a && b)) := fun σ G H gh s Q q => h1 σ G H gh s _ fun v G2 H2 e dv => by
  cases dv
  refine ⟨a, rfl, ?_⟩
  cases a with
  | true => exact h2 rfl σ G2 H2 e.gh (s.mono e.gg) Q fun v G3 H3 e3 dv => q v G3 H3 (e.trans e3) dv
  | false => exact q _ G2 H2 e (.bl false)
theorem ee_or {a b : Bool} (h1 : EvE K ta env (.bool a)) (h2 : a = false → EvE K tb env (.bool b)) : EvE K (tOrV ta tb) env (.bool (a || b)) := fun σ G H gh s Q q => h1 σ G H gh s _ fun v G2 H2 e dv => by
  cases dv
  refine ⟨a, rfl, ?_⟩
  cases a with
  | true => exact q _ G2 H2 e (.bl true)
  | false => exact h2 rfl σ G2 H2 e.gh (s.mono e.gg) Q fun v G3 H3 e3 dv => q v G3 H3 (e.trans e3) dv
theorem ee_not {a : Bool} (h1 : EvE K ta env (.bool a)) : EvE K (tNotV ta) env (.bool (!a)) := fun σ G H gh s Q q => h1 σ G H gh s _ fun v G2 H2 e dv => by
  cases dv
  exact ⟨a, rfl, q _ G2 H2 e (.bl _)⟩
theorem eb_test {b : Bool} (h : EvE K te env (.bool b)) : EvB K (tTest te) env b := fun σ G H gh s Q q => h σ G H gh s _ fun v G2 H2 e dv => by
  cases dv
  exact ⟨b, rfl, q G2 H2 e⟩
theorem eb_B {b : Bool} (h : EvE K te env (.bool b)) : EvB K (tB te) env b := fun σ G H gh s Q q => h σ G H gh s _ fun v G2 H2 e dv => by
  cases dv
  exact ⟨b, rfl, q G2 H2 e⟩
theorem eb_and {a b : Bool} (h1 : EvB K t env a) (h2 : a = true → EvB K u env b) : EvB K (tAnd t u) env (a && b) := fun σ G H gh s Q q => h1 σ G H gh s _ fun G2 H2 e => by
  cases a with
  | true => exact h2 rfl σ G2 H2 e.gh (s.mono e.gg) Q fun G3 H3 e3 => q G3 H3 (e.trans e3)
  | false => exact q G2 H2 e
theorem eb_or {a b : Bool} (h1 : EvB K t env a) (h2 : a = false → EvB K u env b) : EvB K (tOr t u) env (a || b) := fun σ G H gh s Q q => h1 σ G H gh s _ fun G2 H2 e => by
  cases a with
  | true => exact q G2 H2 e
  | false => exact h2 rfl σ G2 H2 e.gh (s.mono e.gg) Q fun G3 H3 e3 => q G3 H3 (e.trans e3)
theorem eb_not {a : Bool} (h1 : EvB K t env a) : EvB K (tNot t) env (!a) := fun σ G H gh s Q q => h1 σ G H gh s _ fun G2 H2 e => q G2 H2 e
theorem eb_yes : EvB K tYes env true := fun _ G H gh _ _ q => q G H (Gw.refl gh)
theorem ee_if {b : Bool} (h : EvB K t env b) (h1 : b = true → EvE K ta env d) (h2 : b = false → EvE K tb env d) : EvE K (tIf t ta tb) env d := fun σ G H gh s Q q => h σ G H gh s _ fun G2 H2 e => by
  cases b with
  | true => exact h1 rfl σ G2 H2 e.gh (s.mono e.gg) Q fun v G3 H3 e3 => q v G3 H3 (e.trans e3)
  | false => exact h2 rfl σ G2 H2 e.gh (s.mono e.gg) Q fun v G3 H3 e3 => q v G3 H3 (e.trans e3)
theorem ee_op (ha : EvE K ta env x) (hb : EvE K tb env y) (hr : RD K r x y z) : EvE K (tOp r ta tb) env z := fun σ G H gh s Q q =>
  ha σ G H gh s _ fun v G2 H2 e dv => hb σ G2 H2 e.gh (s.mono e.gg) _ fun u G3 H3 e3 du => hr v u G3 H3 e3.gh (dpM e3.gg dv) du Q fun w G4 H4 e4 dw => q w G4 H4 ((e.trans e3).trans e4) dw
theorem ee_chain {a b : Bool} {c : Dt} (ha : EvE K ta env x) (hb : EvE K tb env y) (hr : RD K r x y (.bool a)) (hc : a = true → EvE K tc env c) (hr' : a = true → RD K r' y c (.bool b)) : EvE K (tChain r r' ta tb tc) env (.bool (a && b)) := fun σ G H gh s Q q =>
  ha σ G H gh s _ fun v G2 H2 e dv => hb σ G2 H2 e.gh (s.mono e.gg) _ fun u G3 H3 e3 du => hr v u G3 H3 e3.gh (dpM e3.gg dv) du _ fun w G4 H4 e4 dw => by
    cases dw
    refine ⟨a, rfl, ?_⟩
    cases a with
    | true => exact hc rfl σ G4 H4 e4.gh (s.mono ((e.trans e3).trans e4).gg) _ fun k G5 H5 e5 dk => hr' rfl u k G5 H5 e5.gh (dpM (e4.trans e5).gg du) dk Q fun w G6 H6 e6 dw => q w G6 H6 ((((e.trans e3).trans e4).trans e5).trans e6) dw
    | false => exact q _ G4 H4 ((e.trans e3).trans e4) (.bl false)
theorem ea_nil : EvAs K tNil env [] := fun _ G H gh _ _ q => q [] G H (Gw.refl gh) .nil
theorem ea_cons {tr : TA} {ds : List Dt} (h : EvE K ta env d) (hr : EvAs K tr env ds) : EvAs K (tCons ta tr) env (d :: ds) := fun σ G H gh s Q q =>
  h σ G H gh s _ fun v G2 H2 e dv => hr σ G2 H2 e.gh (s.mono e.gg) _ fun vs G3 H3 e3 dvs => q _ G3 H3 (e.trans e3) (.cons (dpM e3.gg dv) dvs)
theorem ee_tup {tr : TA} {ds : List Dt} (h : EvAs K tr env ds) (hl : ds.length ≤ 100000) : EvE K (tTup tr) env (.tuple ds) := fun σ G H gh s Q q =>
  h σ G H gh s _ fun vs G2 H2 e dvs => ⟨by rw [dpsLen dvs]; exact Nat.le_trans hl (by decide), fun p np => q _ _ _ (e.trans (Gw.new e.gh np)) (.tup (.inl (.inl upd_same)) (dpsM (sameU (e.gh.free np)) dvs))⟩
theorem en_lst {tr : TA} {ds : List Dt} (h : EvAs K tr env ds) (hl : ds.length ≤ 100000) : EvN K (tLst tr) env ds := fun σ G H gh s Q q =>
  h σ G H gh s _ fun vs G2 H2 e dvs => ⟨by rw [dpsLen dvs]; exact Nat.le_trans hl (by decide), fun p np => q p vs G2 _ (e.trans (Gw.out e.gh np)) (e.hh.free np) (e.gh.free np) upd_same dvs⟩
theorem ee_lst {tr : TA} {ds : List Dt} (h : EvAs K tr env ds) (hl : ds.length ≤ 100000) : EvE K (tLst tr) env (.list ds) := ee_of (en_lst h hl)
theorem ee_cb {r : List V → Hp → VK → Prop} {ta : TA} {ds : List Dt} (h : EvAs K ta env ds) (hr : RCd K r ds z) : EvE K (tCB r ta) env z := fun σ G H gh s Q q =>
  h σ G H gh s _ fun vs G2 H2 e dvs => hr vs G2 H2 e.gh dvs Q fun v G3 H3 e3 dv => q v G3 H3 (e.trans e3) dv
theorem en_cb {r : List V → Hp → VK → Prop} {ta : TA} {ds zs : List Dt} (h : EvAs K ta env ds) (hr : RCn K r ds zs) : EvN K (tCB r ta) env zs := fun σ G H gh s Q q =>
  h σ G H gh s _ fun vs G2 H2 e dvs => hr vs G2 H2 e.gh dvs Q fun p xs G3 H3 e3 np ng hp dx => q p xs G3 H3 (e.trans e3) (e.hh.free np) ng hp dx
theorem ee_call {f : List Dt → Option Dt} {E : XK} {ta : TA} {ds : List Dt} (h : EvAs K ta env ds) (hf : f ds = some z) : EvE K (tCall (spF K f) [] E ta) env z := fun σ G H gh s Q q =>
  h σ G H gh s _ fun vs G2 H2 e dvs => ⟨G2, ds, z, e.gh, by rw [List.append_nil]; exact dvs, hf, fun v G3 H3 e3 dv => q v G3 H3 (e.trans e3) dv⟩
theorem eo_none : EvO K tNoPart env none := fun _ G H gh _ _ q => q G H (Gw.refl gh)
theorem eo_some {i : Int} (h : EvE K te env (.int i)) : EvO K (tPart te) env (some i) := fun σ G H gh s _ q => h σ G H gh s _ fun v G2 H2 e dv => by
  cases dv
  exact ⟨i, rfl, q G2 H2 e⟩
end
/-! ### operations -/
section
variable {K : PySem.W.Frag}
theorem rd_eqD {x y : Dt} (hx : SeqAt.shaped x = true) (hy : SeqAt.shaped y = true) : RD K (rEqD K) x y (.bool (PyData.eqv x y)) := fun a b G H gh da db Q q => ⟨x, y, dqDp (SeqAt.canLay_of_shaped hx) (dpM gh da), dqDp (SeqAt.canLay_of_shaped hy) (dpM gh db), hx, hy, q _ G H (Gw.refl gh) (.bl _)⟩
theorem rd_neD {x y : Dt} (hx : SeqAt.shaped x = true) (hy : SeqAt.shaped y = true) : RD K (rNeD K) x y (.bool (!PyData.eqv x y)) := fun a b G H gh da db Q q => ⟨x, y, dqDp (SeqAt.canLay_of_shaped hx) (dpM gh da), dqDp (SeqAt.canLay_of_shaped hy) (dpM gh db), hx, hy, q _ G H (Gw.refl gh) (.bl _)⟩
theorem rd_I0b {g : Int → Int → Bool} {i j : Int} : RD K (rI0 fun i j => .bl (g i j)) (.int i) (.int j) (.bool (g i j)) := fun a b G H gh da db Q q => by
  cases da
  cases db
  exact ⟨i, j, rfl, rfl, q _ G H (Gw.refl gh) (.bl _)⟩
theorem rd_I0i {g : Int → Int → Int} {i j : Int} : RD K (rI0 fun i j => .int (g i j)) (.int i) (.int j) (.int (g i j)) := fun a b G H gh da db Q q => by
  cases da
  cases db
  exact ⟨i, j, rfl, rfl, q _ G H (Gw.refl gh) (.int _)⟩
theorem dpsAt {H : Hp} {xs : List V} {ds : List Dt} {i : Int} {d : Dt} (hd : DqAll K H xs ds) (h : atI ds i = some d) : ∃ v, atI xs i = some v ∧ Dq K H v d := by
  unfold atI at *
  rw [dpsLen hd]
  cases e : ixN ds.length i with
  | none => (rw [e] at h; cases h)
  | some j =>
    rw [e] at h
    exact dpsGet hd h
theorem rd_ixT {ds : List Dt} {i : Int} {d : Dt} (h : atI ds i = some d) : RD K (rIxT K) (.tuple ds) (.int i) d := fun a b G H gh da db Q q => by
  cases db
  cases da with
  | @tup p xs _ hs hd =>
    obtain ⟨v, hv, dv⟩ := dpsAt hd h
    exact ⟨p, xs, i, v, rfl, rfl, sameT gh hs, hv, q v G H (Gw.refl gh) dv⟩
theorem rd_ixL {ds : List Dt} {i : Int} {d : Dt} (h : atI ds i = some d) : RD K (rIxL K) (.list ds) (.int i) d := fun a b G H gh da db Q q => by
  cases db
  cases da with
  | @lst p xs _ hs hd =>
    obtain ⟨v, hv, dv⟩ := dpsAt hd h
    exact ⟨p, xs, i, v, rfl, rfl, gh.seq hs, hv, q v G H (Gw.refl gh) dv⟩
/-! the type of a datum -/
def tyN : Dt → String
  | .none => "NoneType"
  | .bool _ => "bool"
  | .int _ => "int"
  | .str _ => "str"
  | .list _ => "list"
  | .tuple _ => "tuple"
  | .dict _ => "dict"
theorem tyXL {H : Hp} {a : Addr} {xs : List V} (h : SqL K H a xs) : TyX K H (.ref a) (.type "list") := by
  rcases h with (h | ⟨o, h⟩) | ⟨o, its, n, h, hc, _⟩
  · exact .base (.lst h)
  · exact .base (.frz h)
  · exact .kList h hc
theorem tyXT {H : Hp} {a : Addr} {xs : List V} (h : SqT K H a xs) : TyX K H (.ref a) (.type "tuple") := by
  rcases h with (h | ⟨o, h⟩) | ⟨o, its, n, h, hc, _⟩
  · exact .base (.tup h)
  · exact .fTuple h
  · exact .kTuple h hc
theorem tyX {H : Hp} {v : V} {d : Dt} (h : Dq K H v d) : TyX K H v (.type (tyN d)) := by
  cases h with
  | non => exact .base .non
  | bl b => exact .base (.bl b)
  | int i => exact .base (.int i)
  | str x => exact .base (.str x)
  | lst h _ => exact tyXL h
  | tup h _ => exact tyXT h
  | dct h _ => exact .base (.dK h)
/-- isinstance(x, T), T a built-in class -/
theorem ee_isi {env : Env0'} {ta : TE} {d : Dt} {T : String} {b : Bool} (h : EvE K ta env d) (hb : kitB (tyN d) T = some b) : EvE K (tCB (rIsi K) (tCons ta (tCons (tC (.ty T)) tNil))) env (.bool b) := fun σ G H gh s Q q =>
  h σ G H gh s _ fun v G2 H2 e dv => ⟨v, .ty T, .type (tyN d), .type T, b, rfl, .ty T, tyX (dpM e.gh dv), kit_ty hb, q _ G2 H2 e (.bl b)⟩
/-- len -/
theorem rc_lenT {ds : List Dt} : RCd K (fun xs H Q => ∃ p ys, xs = [.ref p] ∧ (SqL K H p ys ∨ SqT K H p ys) ∧ Q (.int ys.length) H) [.tuple ds] (.int (ds.length : Int)) := fun vs G H gh dvs Q q => by
  cases dvs with
  | cons h t =>
    cases t
    cases h with
    | @tup p xs _ hs hd =>
      refine ⟨p, xs, rfl, .inr (sameT gh hs), ?_⟩
      rw [dpsLen hd]
      exact q _ G H (Gw.refl gh) (.int _)
theorem rc_lenL {ds : List Dt} : RCd K (fun xs H Q => ∃ p ys, xs = [.ref p] ∧ (SqL K H p ys ∨ SqT K H p ys) ∧ Q (.int ys.length) H) [.list ds] (.int (ds.length : Int)) := fun vs G H gh dvs Q q => by
  cases dvs with
  | cons h t =>
    cases t
    cases h with
    | @lst p xs _ hs hd =>
      refine ⟨p, xs, rfl, .inl (gh.seq hs), ?_⟩
      rw [dpsLen hd]
      exact q _ G H (Gw.refl gh) (.int _)
theorem rc_lenS {z : Str} (hz : z.length ≤ sizeLine) : RCd K (fun xs H Q => ∃ z, xs = [.str z] ∧ z.length ≤ sizeLine ∧ Q (.int z.length) H) [.str z] (.int (z.length : Int)) := fun vs G H gh dvs Q q => by
  cases dvs with
  | cons h t =>
    cases t
    cases h
    exact ⟨z, rfl, hz, q _ G H (Gw.refl gh) (.int _)⟩
theorem dpsBls : ∀ {H : Hp} {xs : List V} {bs : List Bool}, DqAll K H xs (bs.map PyData.bool) → xs = bs.map V.bl
  | _, _, [], .nil => rfl
  | _, _, _ :: bs, .cons h t => by
    cases h
    rw [dpsBls t]
    rfl
theorem dpsStrs : ∀ {H : Hp} {xs : List V} {bs : List Str}, DqAll K H xs (bs.map PyData.str) → xs = bs.map V.str
  | _, _, [], .nil => rfl
  | _, _, _ :: bs, .cons h t => by
    cases h
    rw [dpsStrs t]
    rfl
theorem dpsOfStrs {H : Hp} : ∀ (bs : List Str), DqAll K H (bs.map V.str) (bs.map PyData.str)
  | [] => .nil
  | b :: bs => .cons (.str b) (dpsOfStrs bs)
/-- all(a list of truths) -/
theorem rc_all {bs : List Bool} : RCd K (rAll K) [.list (bs.map PyData.bool)] (.bool (bs.all id)) := fun vs G H gh dvs Q q => by
  cases dvs with
  | cons h t =>
    cases t
    cases h with
    | @lst p xs _ hs hd =>
      have e := dpsBls hd
      subst e
      exact ⟨p, bs, rfl, gh.seq hs, q _ G H (Gw.refl gh) (.bl _)⟩
/-- list(x) of a list or a tuple -/
theorem rc_listT {ds : List Dt} : RCn K (fun xs H Q => ∃ p ys, xs = [.ref p] ∧ (SqL K H p ys ∨ SqT K H p ys) ∧ ∀ l, H l = none → Q (.ref l) (upd H l (.lst ys))) [.tuple ds] ds := fun vs G H gh dvs Q q => by
  cases dvs with
  | cons h t =>
    cases t
    cases h with
    | @tup p xs _ hs hd => exact ⟨p, xs, rfl, .inr (sameT gh hs), fun l nl => q l xs G _ (Gw.out gh nl) nl (gh.free nl) upd_same hd⟩
theorem rc_listL {ds : List Dt} : RCn K (fun xs H Q => ∃ p ys, xs = [.ref p] ∧ (SqL K H p ys ∨ SqT K H p ys) ∧ ∀ l, H l = none → Q (.ref l) (upd H l (.lst ys))) [.list ds] ds := fun vs G H gh dvs Q q => by
  cases dvs with
  | cons h t =>
    cases t
    cases h with
    | @lst p xs _ hs hd => exact ⟨p, xs, rfl, .inl (gh.seq hs), fun l nl => q l xs G _ (Gw.out gh nl) nl (gh.free nl) upd_same hd⟩
/-- tuple(x) of a list -/
theorem ee_tupleL {env : Env0'} {ta : TE} {ds : List Dt} (h : EvE K ta env (.list ds)) : EvE K (tThen ta (kTup K)) env (.tuple ds) := fun σ G H gh s Q q =>
  h σ G H gh s _ fun v G2 H2 e dv => by
    cases dv with
    | @lst p xs _ hs hd => exact .inl ⟨p, xs, rfl, e.gh.seq hs, fun l nl => q _ _ _ (e.trans (Gw.new e.gh nl)) (.tup (.inl (.inl upd_same)) (dpsM (sameU (e.gh.free nl)) hd))⟩
/-- x in a list or tuple of flat data -/
def flatD : Dt → Bool
  | .none => true
  | .bool _ => true
  | .int _ => true
  | .str _ => true
  | _ => false
theorem flat_of {H : Hp} {v : V} {d : Dt} (h : Dq K H v d) (f : flatD d = true) : flatV v = true := by
  cases h <;> first | rfl | exact nomatch f
theorem eqV_of {H : Hp} {v u : V} {d e : Dt} (h : Dq K H v d) (g : Dq K H u e) (f : flatD d = true) : eqV v u = PyData.eqv d e := by
  cases h <;> first | exact absurd f Bool.false_ne_true | (cases g <;> first | rfl | simp [eqV, PyData.eqv])
theorem inV_of {H : Hp} {v : V} {d : Dt} : ∀ {xs : List V} {ds : List Dt}, DqAll K H xs ds → Dq K H v d → ds.all flatD = true → xs.all flatV = true ∧ inV v xs = ds.any fun z => PyData.eqv z d
  | _, _, .nil, _, _ => ⟨rfl, rfl⟩
  | _, _, .cons (v := x) (d := y) h t, hv, f => by
    (rw [List.all_cons, Bool.and_eq_true] at f)
    obtain ⟨a, b⟩ := inV_of t hv f.2
    unfold inV at *
    exact ⟨by rw [List.all_cons, flat_of h f.1, a]; rfl, by rw [List.any_cons, List.any_cons, eqV_of h hv f.1, b]⟩
theorem rd_inT {neg : Bool} {d : Dt} {ds : List Dt} (hd : flatD d = true) (f : ds.all flatD = true) : RD K (rIn K neg) d (.tuple ds) (.bool (if neg then !(ds.any fun z => PyData.eqv z d) else ds.any fun z => PyData.eqv z d)) := fun a b G H gh da db Q q => by
  cases db with
  | @tup p xs _ hs hx =>
    obtain ⟨e1, e2⟩ := inV_of hx da f
    refine ⟨p, xs, rfl, .inr (sameT gh hs), flat_of da hd, e1, ?_⟩
    rw [e2]
    exact q _ G H (Gw.refl gh) (.bl _)
theorem rd_inL {neg : Bool} {d : Dt} {ds : List Dt} (hd : flatD d = true) (f : ds.all flatD = true) : RD K (rIn K neg) d (.list ds) (.bool (if neg then !(ds.any fun z => PyData.eqv z d) else ds.any fun z => PyData.eqv z d)) := fun a b G H gh da db Q q => by
  cases db with
  | @lst p xs _ hs hx =>
    obtain ⟨e1, e2⟩ := inV_of hx da f
    refine ⟨p, xs, rfl, .inl (gh.seq hs), flat_of da hd, e1, ?_⟩
    rw [e2]
    exact q _ G H (Gw.refl gh) (.bl _)
end
end LH

namespace LH
open PySem PySem.Spec L2 PyProof.Rows
/-! ### what is walked -/
def WkD (K : PySem.W.Frag) (J : It) (G : Hp) (ds : List Dt) : Prop := Walk J ds.length (fun H => Same G H) (fun i H x H' => H' = H ∧ ∃ d, ds[i]? = some d ∧ Dq K G x d)
def EvI (K : PySem.W.Frag) (wi : TI) (env : Env0') (ds : List Dt) : Prop := ∀ σ G H, Same G H → Sd K G σ env → ∀ R : It → Hp → Prop, (∀ J G' H', Gw G H G' H' → WkD K J G' ds → R J H') → wi σ H R
section
variable {K : PySem.W.Frag} {env : Env0'} {ta tb tc te tl : TE} {t u : TT} {x y z d : Dt} {r r' : R2} {ds : List Dt}
theorem wk_list {G : Hp} {a : Addr} {xs : List V} (hs : SqL K G a xs) (hd : DqAll K G xs ds) : WkD K (Itl K a) G ds := by
  unfold WkD
  rw [← dpsLen hd]
  refine walk_list.mono (fun H h => h.seq hs) fun i H v H' hi _ y => ?_
  obtain ⟨e, g⟩ := y
  obtain ⟨d, a, b⟩ := dpsGet' hd g
  exact ⟨e, d, a, b⟩
theorem wk_tup {G : Hp} {a : Addr} {xs : List V} (hs : SqT K G a xs) (hd : DqAll K G xs ds) : WkD K (Itt K a) G ds := by
  unfold WkD
  rw [← dpsLen hd]
  refine walk_tup.mono (fun H h => sameT h hs) fun i H v H' hi _ y => ?_
  obtain ⟨e, g⟩ := y
  obtain ⟨d, a, b⟩ := dpsGet' hd g
  exact ⟨e, d, a, b⟩
theorem ei_list (h : EvE K tl env (.list ds)) : EvI K (iList K tl) env ds := fun σ G H gh s R q => h σ G H gh s _ fun v G2 H2 e dv => by
  cases dv with
  | @lst p xs _ hs hd => exact ⟨p, rfl, ⟨xs, e.gh.seq hs⟩, q _ G2 H2 e (wk_list hs hd)⟩
theorem ei_tup (h : EvE K tl env (.tuple ds)) : EvI K (iTup K tl) env ds := fun σ G H gh s R q => h σ G H gh s _ fun v G2 H2 e dv => by
  cases dv with
  | @tup p xs _ hs hd => exact ⟨p, rfl, ⟨xs, sameT e.gh hs⟩, q _ G2 H2 e (wk_tup hs hd)⟩
/-- the signs of a text, each a text -/
def signsD (z : Str) : List Dt := z.cps.toList.map fun c => .str ⟨#[c]⟩
theorem ei_str {z : Str} (h : EvE K te env (.str z)) : EvI K (iStr te) env (signsD z) := fun σ G H gh s R q => h σ G H gh s _ fun v G2 H2 e dv => by
  cases dv
  refine ⟨z, rfl, q _ G2 H2 e ?_⟩
  unfold WkD signsD
  (rw [List.length_map, Array.length_toList])
  refine walk_str.mono (fun _ _ => trivial) fun i H v H' hi _ y => ?_
  obtain ⟨e, c, hc, rfl⟩ := y
  exact ⟨e, .str ⟨#[c]⟩, by rw [List.getElem?_map, Array.getElem?_toList, hc]; rfl, .str _⟩
theorem ei_range1 {ta : TA} {n : Nat} (h : EvAs K ta env [.int (n : Int)]) (hn : n ≤ 100000) : EvI K (iRng1 ta) env ((List.range n).map fun (i : Nat) => PyData.int (i : Int)) := fun σ G H gh s R q => h σ G H gh s _ fun vs G2 H2 e dv => by
  cases dv with
  | cons a b =>
    cases b
    cases a
    refine ⟨(n : Int), rfl, ?_, ?_, q _ G2 H2 e ?_⟩
    · have : (0 : Int) ≤ (n : Int) := Int.natCast_nonneg n
      exact Int.le_trans (by decide) this
    · exact Int.lt_of_le_of_lt (Int.ofNat_le.mpr hn) (by decide)
    · unfold WkD
      rw [List.length_map, List.length_range, Int.toNat_natCast]
      refine walk_range.mono (fun _ _ => trivial) fun i H v H' hi _ y => ?_
      obtain ⟨e, rfl⟩ := y
      exact ⟨e, .int (i : Int), by rw [List.getElem?_map, List.getElem?_range hi]; rfl, by
        show Dq K G2 (V.int (0 + (i : Int))) _
        rw [Int.zero_add]
        exact .int _⟩
/-! ### comprehensions -/
theorem Gw.mut {G H G' H' : Hp} {p : Addr} {o : HO} (a : Gw G H G' H') (np : H p = none) (ng : G' p = none) : Gw G H G' (upd H' p o) := ⟨a.gg, fun b x e => by
  rw [upd_ne (ne_of_none e np)]
  exact a.hh b x e, fun b x e => by
  rw [upd_ne (ne_of_none e ng)]
  exact a.gh b x e, a.nw⟩
theorem Gw.keeps {G H G' H' : Hp} {p : Addr} {o : HO} (a : Gw G H G' H') (hp : H p = some o) (ng : G p = none) : G' p = none := a.nw p (by rw [hp]; exact fun z => nomatch z) ng
theorem take_next' {α : Type} {l : List α} {i : Nat} {x : α} (h : l[i]? = some x) : l.take (i + 1) = l.take i ++ [x] := by
  (rw [List.take_succ, h] <;> rfl)
theorem en_lc {wi : TI} {j : Nat} (f : Dt → Bool) (g : Dt → Dt) (h : EvI K wi env ds) (hl : ds.length ≤ 100000) (ht : ∀ d ∈ ds, EvB K t (env.set j (some d)) (f d)) (he : ∀ d ∈ ds, f d = true → EvE K te (env.set j (some d)) (g d)) :
    EvN K (tLc wi (gName j) t te [j]) env ((ds.filter f).map g) := fun σ G H gh s Q q => h σ G H gh s _ fun J G1 H1 e1 wk D nD => by
  have ng1 : G1 D = none := e1.gh.free nD
  refine lc_it (n := ds.length) wk (fun i H' => ∃ G2 xs, Gw G1 H1 G2 H' ∧ G2 D = none ∧ H' D = some (.lst xs) ∧ DqAll K G2 xs (((ds.take i).filter f).map g)) ⟨G1, [], (Gw.refl e1.gh).mut nD ng1, ng1, upd_same, .nil⟩ (fun i H' _ ⟨G2, _, w2, _⟩ => w2.gg.trans w2.gh) ?_ ?_
  · rintro i x H2 H2' hi ⟨G2, xs, w2, ng2, hD, dx⟩ ⟨rfl, d, hd, dd⟩
    have hm : d ∈ ds := List.mem_of_getElem? hd
    have hset : ∀ (y : V), (wipe σ [j]).set j (some y) = σ.set j (some y) := fun y => by
      show (σ.set j none).set j (some y) = _
      rw [List.set_set]
    have s2 : Sd K G2 ((wipe σ [j]).set j (some x)) (env.set j (some d)) := by
      rw [hset]
      exact (s.mono (e1.gg.trans w2.gg)).set j (dpM w2.gg dd)
    refine ⟨by rw [hset]; show (σ.set j (some x)).set j none = σ.set j none; rw [List.set_set], ?_⟩
    refine ht d hm _ G2 H2' w2.gh s2 _ fun G3 H3 w3 => ?_
    cases hf : f d with
    | true =>
      refine iteT ?_
      refine he d hm hf _ G3 H3 w3.gh (s2.mono w3.gg) _ fun y G4 H4 w4 dy => ?_
      have ng3 := w3.keeps hD ng2
      have hD3 := w3.hh _ _ hD
      have ng4 := w4.keeps hD3 ng3
      have hD4 := w4.hh _ _ hD3
      refine ⟨xs, hD4, ?_, G4, xs ++ [y], ((w2.trans w3).trans w4).mut nD ng4, ng4, upd_same, ?_⟩
      · rw [dpsLen dx, List.length_map]
        refine Nat.lt_of_le_of_lt (List.length_filter_le _ _) ?_
        rw [List.length_take]
        exact Nat.lt_of_le_of_lt (Nat.le_trans (Nat.min_le_right _ _) hl) (by decide)
      · rw [take_next' hd, List.filter_append, List.map_append]
        refine dpsApp (dpsM (w3.gg.trans w4.gg) dx) ?_
        rw [show [d].filter f = [d] by simp [hf]]
        exact .cons dy .nil
    | false =>
      refine iteF ?_
      refine ⟨G3, xs, w2.trans w3, w3.keeps hD ng2, w3.hh _ _ hD, ?_⟩
      rw [take_next' hd, List.filter_append, List.map_append, show [d].filter f = [] by simp [hf]]
      rw [List.map_nil, List.append_nil]
      exact dpsM w3.gg dx
  · rintro H2 ⟨G2, xs, w2, ng2, hD, dx⟩
    rw [List.take_length] at dx
    exact q D xs G2 H2 (e1.trans w2) (e1.hh.free nD) ng2 hD dx
/-- without an if -/
theorem en_map {wi : TI} {j : Nat} (g : Dt → Dt) (h : EvI K wi env ds) (hl : ds.length ≤ 100000) (he : ∀ d ∈ ds, EvE K te (env.set j (some d)) (g d)) :
    EvN K (tLc wi (gName j) tYes te [j]) env (ds.map g) := by
  have q := en_lc (j := j) (fun _ => true) g h hl (fun _ _ => eb_yes) fun d hd _ => he d hd
  rw [List.filter_eq_self.mpr fun _ _ => rfl] at q
  exact q
/-! ### slices -/
def cutD {α : Type} (xs : List α) (lo hi : Option Int) : List α := (xs.drop (HT.sIx xs.length 0 lo)).take (HT.sIx xs.length xs.length hi - HT.sIx xs.length 0 lo)
theorem dpsCut {H : Hp} {xs : List V} (h : DqAll K H xs ds) (lo hi : Option Int) : DqAll K H (cutV xs lo hi) (cutD ds lo hi) := by
  unfold cutV cutD
  rw [dpsLen h]
  exact dpsTake _ (dpsDrop _ h)
theorem en_slL {tl' th : TO} {lo hi : Option Int} (h : EvE K te env (.list ds)) (h1 : EvO K tl' env lo) (h2 : EvO K th env hi) : EvN K (tSl (rSlL K) te tl' th) env (cutD ds lo hi) := fun σ G H gh s Q q =>
  h σ G H gh s _ fun v G2 H2 e dv => h1 σ G2 H2 e.gh (s.mono e.gg) _ fun G3 H3 e3 => h2 σ G3 H3 e3.gh (s.mono (e.trans e3).gg) _ fun G4 H4 e4 => by
    cases dv with
    | @lst p xs _ hs hd =>
      have w := (e.trans e3).trans e4
      have m := (e3.trans e4).gg
      exact ⟨p, xs, rfl, (m.trans w.gh).seq hs, fun l nl => q l _ G4 _ (w.trans (Gw.out w.gh nl)) (w.hh.free nl) (w.gh.free nl) upd_same (dpsM m (dpsCut hd lo hi))⟩
theorem cutD_whole {xs : List V} {lo hi : Option Int} (h : HT.sIx xs.length 0 lo = 0 ∧ HT.sIx xs.length xs.length hi = xs.length) : cutV xs lo hi = xs := by
  unfold cutV
  rw [h.1, h.2]
  simp
theorem ee_slT {tl' th : TO} {lo hi : Option Int} (h : EvE K te env (.tuple ds)) (h1 : EvO K tl' env lo) (h2 : EvO K th env hi) : EvE K (tSl (rSlA K) te tl' th) env (.tuple (cutD ds lo hi)) := fun σ G H gh s Q q =>
  h σ G H gh s _ fun v G2 H2 e dv => h1 σ G2 H2 e.gh (s.mono e.gg) _ fun G3 H3 e3 => h2 σ G3 H3 e3.gh (s.mono (e.trans e3).gg) _ fun G4 H4 e4 => by
    cases dv with
    | @tup p xs _ hs hd =>
      have w := (e.trans e3).trans e4
      have m := (e3.trans e4).gg
      refine ⟨p, xs, rfl, sameT (m.trans w.gh) hs, fun hw => ?_, fun _ l nl => ?_⟩
      · refine q _ G4 H4 w (.tup (sameT m hs) ?_)
        have c := dpsM m (dpsCut hd lo hi)
        rw [cutD_whole hw] at c
        exact c
      · exact q _ _ _ (w.trans (Gw.new w.gh nl)) (.tup (.inl (.inl upd_same)) (dpsM (sameU (w.gh.free nl)) (dpsM m (dpsCut hd lo hi))))
/-! ### tuples put together, lists put together -/
theorem rd_catT {ds es : List Dt} (hl : ds.length + es.length ≤ 100000) : RD K (rCatA K) (.tuple ds) (.tuple es) (.tuple (ds ++ es)) := fun a b G H gh da db Q q => by
  cases da with
  | @tup p xs _ hs hd =>
    cases db with
    | @tup p' ys _ hs' hd' =>
      refine ⟨p, p', xs, ys, rfl, rfl, sameT gh hs, sameT gh hs', by rw [dpsLen hd, dpsLen hd']; exact Nat.le_trans hl (by decide), fun e => ?_, fun _ e => ?_, fun _ _ l nl => ?_⟩
      · subst e
        cases hd
        exact q _ G H (Gw.refl gh) (.tup hs' hd')
      · subst e
        cases hd'
        rw [List.append_nil] at q
        exact q _ G H (Gw.refl gh) (.tup hs hd)
      · exact q _ _ _ (Gw.new gh nl) (.tup (.inl (.inl upd_same)) (dpsM (sameU (gh.free nl)) (dpsApp hd hd')))
end
section
variable {X : Cx}
/-- list + list, whatever they are -/
def rCatL (K : PySem.W.Frag) : R2 := fun x y H Q => ∃ l b xs zs, x = .ref l ∧ y = .ref b ∧ SqL K H l xs ∧ SqL K H b zs ∧ xs.length + zs.length ≤ sizeLine ∧ ∀ p, H p = none → Q (.ref p) (upd H p (.lst (xs ++ zs)))
theorem op_catL : OpR X (binaryOp .Add) (rCatL X.K) := by
  (intro pins s σ H x y v u Q I rx ry h)
  obtain ⟨l, b, xs, zs, rfl, rfl, hl, hb, hz, q⟩ := h
  cases rx
  cases ry
  obtain ⟨its, r1, p1, z1⟩ := I.list hl
  obtain ⟨jts, r2, p2, z2⟩ := I.list hb
  have k1 := r1.length
  have k2 := r2.length
  obtain ⟨⟨c1, d1, a1, l1⟩, n1, o1, e1, e2, e3⟩ := p1
  obtain ⟨⟨c2, d2, a2, l2⟩, n2, o2, f1, f2, f3⟩ := p2
  simp only at e1 e2 e3 f1 f2 f3
  subst e1 e2 e3 f1 f2 f3
  have ht : (its ++ jts).length ≤ sizeLine := by
    rw [List.length_append, ← k1, ← k2]
    exact hz
  refine concat_meets ⟨_, o1, rfl⟩ ⟨_, o2, rfl⟩ noFill_list_add seq_list_add PySem.F.slot_list_add PySem.F.entry_list_add (PySem.F.args_list_add_2 _ _)
    (list_addW l b its.toArray jts.toArray n1 n2 none none l1 l2 (by rw [List.length_append] at ht; simpa using ht)) ⟨o1, o2, ?_⟩
  rw [show its.toArray ++ jts.toArray = (its ++ jts).toArray by simp]
  exact ⟨.ref _, _, I.lnew (t' := s.toks) (r1.append r2) (by rw [List.length_append]; exact hz), rfl, q _ I.fresh⟩
theorem en_cat {K : PySem.W.Frag} {env : Env0'} {ta tb : TE} {ds es : List Dt} (ha : EvE K ta env (.list ds)) (hb : EvE K tb env (.list es)) (hl : ds.length + es.length ≤ 100000) : EvN K (tOp (rCatL K) ta tb) env (ds ++ es) := fun σ G H gh s Q q =>
  ha σ G H gh s _ fun v G2 H2 e dv => hb σ G2 H2 e.gh (s.mono e.gg) _ fun u G3 H3 e3 du => by
    cases dv with
    | @lst p xs _ hs hd =>
      cases du with
      | @lst p' ys _ hs' hd' =>
        have w := e.trans e3
        exact ⟨p, p', xs, ys, rfl, rfl, (e3.gg.trans w.gh).seq hs, w.gh.seq hs', by rw [dpsLen hd, dpsLen hd']; exact Nat.le_trans hl (by decide), fun l nl => q l _ G3 _ (w.trans (Gw.out w.gh nl)) (w.hh.free nl) (w.gh.free nl) upd_same (dpsApp (dpsM e3.gg hd) hd')⟩
end
end LH

namespace LH
open PySem PySem.Spec L2 PyProof.Rows
/-! ### statements: data by slots (env), lists of one's own by slots (M: they may still grow) -/
abbrev MuL := List (Nat × List Dt)
/-- the lists of one's own: new since H0, no data, no two one -/
inductive Mu (K : PySem.W.Frag) (H0 G H : Hp) (σ : L2.St) : MuL → List Addr → Prop
  | nil : Mu K H0 G H σ [] []
  | cons {i : Nat} {p : Addr} {xs : List V} {ds : List Dt} {M : MuL} {ps : List Addr} : σ[i]? = some (some (.ref p)) → H0 p = none → G p = none → H p = some (.lst xs) → DqAll K G xs ds → p ∉ ps → Mu K H0 G H σ M ps → Mu K H0 G H σ ((i, ds) :: M) (p :: ps)
section
variable {K : PySem.W.Frag} {H0 G H G' H' : Hp} {σ : L2.St}
theorem Mu.grow (w : Gw G H G' H') : ∀ {M : MuL} {ps : List Addr}, Mu K H0 G H σ M ps → Mu K H0 G' H' σ M ps
  | _, _, .nil => .nil
  | _, _, .cons a b c d e f g => .cons a b (w.keeps d c) (w.hh _ _ d) (dpsM w.gg e) f (g.grow w)
theorem Mu.set {j : Nat} {o : Option V} : ∀ {M : MuL} {ps : List Addr}, Mu K H0 G H σ M ps → (∀ m ∈ M, m.1 ≠ j) → Mu K H0 G H (σ.set j o) M ps
  | _, _, .nil, _ => .nil
  | _, _, .cons a b c d e f g, h => .cons (by rw [List.getElem?_set_ne (fun z => h _ List.mem_cons_self z.symm)]; exact a) b c d e f (g.set fun m hm => h m (List.mem_cons_of_mem _ hm))
/-- an address that is none of them may change -/
theorem Mu.other {p : Addr} {o : HO} : ∀ {M : MuL} {ps : List Addr}, Mu K H0 G H σ M ps → p ∉ ps → Mu K H0 G (upd H p o) σ M ps
  | _, _, .nil, _ => .nil
  | _, _, .cons a b c d e f g, h => .cons a b c (by rw [upd_ne (fun z => h (by rw [z]; exact List.mem_cons_self))]; exact d) e f (g.other fun z => h (List.mem_cons_of_mem _ z))
theorem Mu.more {p : Addr} {o : HO} (ng : G p = none) : ∀ {M : MuL} {ps : List Addr}, Mu K H0 G H σ M ps → p ∉ ps → Mu K H0 (upd G p o) H σ M ps
  | _, _, .nil, _ => .nil
  | _, _, .cons a b c d e f g, h => .cons a b (by rw [upd_ne (fun z => h (by rw [z]; exact List.mem_cons_self))]; exact c) d (dpsM (sameU ng) e) f (g.more ng fun z => h (List.mem_cons_of_mem _ z))
theorem Mu.notin {p : Addr} : ∀ {M : MuL} {ps : List Addr}, Mu K H0 G H σ M ps → H p = none → p ∉ ps
  | _, _, .nil, _ => fun z => nomatch z
  | _, _, .cons (p := q) a b c d e f g, h => fun z => by
    (rcases List.mem_cons.mp z with z | z)
    · rw [z, d] at h
      cases h
    · exact g.notin h z
end
structure Fra (K : PySem.W.Frag) (H0 : Hp) (env : Env0') (M : MuL) (σ : L2.St) (G H : Hp) : Prop where
  gh : Same G H
  sd : Sd K G σ env
  mu : ∃ ps, Mu K H0 G H σ M ps
/-- a block that goes on; one that hands back -/
def GoE (K : PySem.W.Frag) (ts : TS) (env : Env0') (M : MuL) (env' : Env0') (M' : MuL) : Prop := ∀ H0 G0 σ G H (D : Ends), Gw G0 H0 G H → Fra K H0 env M σ G H → (∀ σ' G' H', Same G G' → Gw G0 H0 G' H' → Fra K H0 env' M' σ' G' H' → D.nx σ' H') → ts D σ H
def RtE (K : PySem.W.Frag) (ts : TS) (env : Env0') (M : MuL) (d : Dt) : Prop := ∀ H0 G0 σ G H (D : Ends), Gw G0 H0 G H → Fra K H0 env M σ G H → (∀ v G' H', Gw G0 H0 G' H' → Dq K G' v d → D.rt v H') → ts D σ H
section
variable {K : PySem.W.Frag} {env env1 env2 : Env0'} {M M1 M2 : MuL} {ta tb tc te : TE} {t u : TT} {a b c : TS} {d : Dt} {ds : List Dt} {i j : Nat}
theorem go_seq (h1 : GoE K a env M env1 M1) (h2 : GoE K b env1 M1 env2 M2) : GoE K (tSeq a b) env M env2 M2 := fun H0 G0 σ G H D w f q => h1 H0 G0 σ G H _ w f fun σ' G' H' g' w' f' => h2 H0 G0 σ' G' H' D w' f' fun σ2 G2 H2 g2 => q σ2 G2 H2 (g'.trans g2)
theorem rt_seq (h1 : GoE K a env M env1 M1) (h2 : RtE K b env1 M1 d) : RtE K (tSeq a b) env M d := fun H0 G0 σ G H D w f q => h1 H0 G0 σ G H _ w f fun σ' G' H' _ w' f' => h2 H0 G0 σ' G' H' D w' f' q
theorem rt_first (h1 : RtE K a env M d) : RtE K (tSeq a b) env M d := fun H0 G0 σ G H D w f q => h1 H0 G0 σ G H _ w f q
theorem rt_ret (h : EvE K te env d) : RtE K (tRet te) env M d := fun H0 G0 σ G H D w f q => h σ G H f.gh f.sd _ fun v G' H' w' dv => q v G' H' (w.trans w') dv
theorem go_next : GoE K tNext env M env M := fun H0 G0 σ G H D w f q => q σ G H (Same.refl G) w f
theorem go_if {bb : Bool} (h : EvB K t env bb) (h1 : bb = true → GoE K a env M env1 M1) (h2 : bb = false → GoE K b env M env1 M1) : GoE K (tIfS t a b) env M env1 M1 := fun H0 G0 σ G H D w f q => h σ G H f.gh f.sd _ fun G' H' w' => by
  obtain ⟨ps, m⟩ := f.mu
  have f' : Fra K H0 env M σ G' H' := ⟨w'.gh, f.sd.mono w'.gg, ps, m.grow w'⟩
  cases bb with
  | true => exact h1 rfl H0 G0 σ G' H' D (w.trans w') f' fun σ2 G2 H2 g2 => q σ2 G2 H2 (w'.gg.trans g2)
  | false => exact h2 rfl H0 G0 σ G' H' D (w.trans w') f' fun σ2 G2 H2 g2 => q σ2 G2 H2 (w'.gg.trans g2)
theorem rt_if {bb : Bool} (h : EvB K t env bb) (h1 : bb = true → RtE K a env M d) (h2 : bb = false → RtE K b env M d) : RtE K (tIfS t a b) env M d := fun H0 G0 σ G H D w f q => h σ G H f.gh f.sd _ fun G' H' w' => by
  obtain ⟨ps, m⟩ := f.mu
  have f' : Fra K H0 env M σ G' H' := ⟨w'.gh, f.sd.mono w'.gg, ps, m.grow w'⟩
  cases bb with
  | true => exact h1 rfl H0 G0 σ G' H' D (w.trans w') f' q
  | false => exact h2 rfl H0 G0 σ G' H' D (w.trans w') f' q
/-- if .. : return x, then the rest -/
theorem rt_ifs {bb : Bool} (h : EvB K t env bb) (h1 : bb = true → RtE K a env M d) (h2 : bb = false → RtE K b env M d) : RtE K (tSeq (tIfS t a tNext) b) env M d := fun H0 G0 σ G H D w f q => h σ G H f.gh f.sd _ fun G' H' w' => by
  obtain ⟨ps, m⟩ := f.mu
  have f' : Fra K H0 env M σ G' H' := ⟨w'.gh, f.sd.mono w'.gg, ps, m.grow w'⟩
  cases bb with
  | true => exact h1 rfl H0 G0 σ G' H' _ (w.trans w') f' q
  | false => exact h2 rfl H0 G0 σ G' H' D (w.trans w') f' q
theorem go_asg (h : EvE K te env d) (hi : ∀ m ∈ M, m.1 ≠ i) : GoE K (tAsg te (gName i)) env M (env.set i (some d)) M := fun H0 G0 σ G H D w f q => h σ G H f.gh f.sd _ fun v G' H' w' dv => by
  obtain ⟨ps, m⟩ := f.mu
  exact q _ G' H' w'.gg (w.trans w') ⟨w'.gh, (f.sd.mono w'.gg).set i dv, ps, (m.grow w').set hi⟩
theorem go_asgN (h : EvN K te env ds) (hi : ∀ m ∈ M, m.1 ≠ i) (hl : i < env.length) : GoE K (tAsg te (gName i)) env M (env.set i none) ((i, ds) :: M) := fun H0 G0 σ G H D w f q => h σ G H f.gh f.sd _ fun p xs G' H' w' np ng hp dx => by
  obtain ⟨ps, m⟩ := f.mu
  refine q _ G' H' w'.gg (w.trans w') ⟨w'.gh, ?_, p :: ps, .cons ?_ (w.hh.free np) ng hp dx (m.notin np) ((m.grow w').set hi)⟩
  · refine ⟨by rw [List.length_set, List.length_set, f.sd.len], fun k e z => ?_⟩
    rw [List.getElem?_set] at z ⊢
    by_cases hk : i = k
    · rw [if_pos hk] at z
      split at z <;> cases z
    · rw [if_neg hk] at z ⊢
      exact (f.sd.mono w'.gg).at' k e z
  · rw [List.getElem?_set, if_pos rfl, if_pos (by rw [f.sd.len]; exact hl)]
/-- from now on it's a datum -/
theorem Fra.freeze {H0 G0 : Hp} {σ : L2.St} {G H : Hp} (w : Gw G0 H0 G H) (f : Fra K H0 env ((i, ds) :: M) σ G H) : ∃ G', Same G G' ∧ Gw G0 H0 G' H ∧ Fra K H0 (env.set i (some (.list ds))) M σ G' H := by
  obtain ⟨ps, m⟩ := f.mu
  cases m with
  | @cons _ p xs _ _ ps a b c e g n m =>
    have w' := w.put b e c
    refine ⟨upd G p (.lst xs), sameU c, w', w'.gh, ?_, ps, m.more c n⟩
    have s := (f.sd.mono (sameU (o := HO.lst xs) c)).set (v := .ref p) (d := .list ds) i (.lst (.inl (.inl upd_same)) (dpsM (sameU c) g))
    have e2 : σ.set i (some (V.ref p)) = σ := by
      apply List.ext_getElem?
      intro k
      rw [List.getElem?_set]
      by_cases hk : i = k
      · rw [if_pos hk, ← hk, a, if_pos (List.getElem?_eq_some_iff.mp a).1]
      · rw [if_neg hk]
    rw [e2] at s
    exact s
theorem go_freeze (h : GoE K a (env.set i (some (.list ds))) M env1 M1) : GoE K a env ((i, ds) :: M) env1 M1 := fun H0 G0 σ G H D w f q => by
  obtain ⟨G', g', w', f'⟩ := f.freeze w
  exact h H0 G0 σ G' H D w' f' fun σ2 G2 H2 g2 => q σ2 G2 H2 (g'.trans g2)
theorem rt_freeze (h : RtE K a (env.set i (some (.list ds))) M d) : RtE K a env ((i, ds) :: M) d := fun H0 G0 σ G H D w f q => by
  obtain ⟨G', g', w', f'⟩ := f.freeze w
  exact h H0 G0 σ G' H D w' f' q
theorem mu_swap {H0 G H : Hp} {σ : L2.St} {x y : Nat × List Dt} {ps : List Addr} (h : Mu K H0 G H σ (x :: y :: M) ps) : ∃ qs, Mu K H0 G H σ (y :: x :: M) qs := by
  cases h with
  | @cons _ p _ _ _ _ a b c d e f h =>
    cases h with
    | @cons _ q _ _ _ ps a' b' c' d' e' f' g =>
      refine ⟨q :: p :: ps, .cons a' b' c' d' e' (fun z => ?_) (.cons a b c d e (fun z => f (List.mem_cons_of_mem _ z)) g)⟩
      (rcases List.mem_cons.mp z with z | z)
      · exact f (by rw [z]; exact List.mem_cons_self)
      · exact f' z
theorem Fra.swap {H0 : Hp} {σ : L2.St} {G H : Hp} {x y : Nat × List Dt} (f : Fra K H0 env (x :: y :: M) σ G H) : Fra K H0 env (y :: x :: M) σ G H := by
  obtain ⟨ps, m⟩ := f.mu
  exact ⟨f.gh, f.sd, mu_swap m⟩
theorem go_swap {x y : Nat × List Dt} (h : GoE K a env (y :: x :: M) env1 M1) : GoE K a env (x :: y :: M) env1 M1 := fun H0 G0 σ G H D w f q => h H0 G0 σ G H D w f.swap q
theorem go_swap' {x y : Nat × List Dt} (h : GoE K a env M env1 (y :: x :: M1)) : GoE K a env M env1 (x :: y :: M1) := fun H0 G0 σ G H D w f q => h H0 G0 σ G H D w f fun σ' G' H' g' w' f' => q σ' G' H' g' w' f'.swap
/-- a name forgotten -/
theorem Fra.weak {H0 : Hp} {σ : L2.St} {G H : Hp} (f : Fra K H0 env M σ G H) (hl : env1.length = env.length) (h : ∀ (k : Nat) (e : Dt), env1[k]? = some (some e) → env[k]? = some (some e)) : Fra K H0 env1 M σ G H := ⟨f.gh, ⟨f.sd.len.trans hl.symm, fun k e z => f.sd.at' k e (h k e z)⟩, f.mu⟩
theorem go_weak (h : GoE K a env M env1 M1) (hl : env2.length = env1.length) (hk : ∀ (k : Nat) (e : Dt), env2[k]? = some (some e) → env1[k]? = some (some e)) : GoE K a env M env2 M1 := fun H0 G0 σ G H D w f q => h H0 G0 σ G H D w f fun σ' G' H' g' w' f' => q σ' G' H' g' w' (f'.weak hl hk)
/-- x.append(e), x a list of one's own -/
theorem go_app (h : EvE K te env d) (hl : ds.length < 100000) : GoE K (tDrop (tBM K "list" rAppend (tVar i) (tCons te tNil))) env ((i, ds) :: M) env ((i, ds ++ [d]) :: M) := fun H0 G0 σ G H D w f q => by
  obtain ⟨ps, m⟩ := f.mu
  cases m with
  | @cons _ p xs _ _ ps a b c e g n m =>
    refine ⟨.ref p, a, .inl ⟨rfl, xs, .inl (.inl e)⟩, ?_⟩
    refine h σ G H f.gh f.sd _ fun v G' H' w' dv => ?_
    have hp := w'.hh _ _ e
    have ng := w'.keeps e c
    have w2 := (w.trans w').mut (o := HO.lst (xs ++ [v])) b ng
    exact ⟨p, xs, v, rfl, rfl, hp, by rw [dpsLen g]; exact Nat.lt_of_lt_of_le hl (by decide), q σ G' _ w'.gg w2 ⟨w2.gh, f.sd.mono w'.gg, p :: ps, .cons a b ng upd_same (dpsApp (dpsM w'.gg g) (.cons dv .nil)) n ((m.grow w').other n)⟩⟩
/-- for x in ..: the env and the lists by turns -/
theorem go_for {wi : TI} (h : EvI K wi env ds) (ev : Nat → Env0') (mv : Nat → MuL) (h0 : ev 0 = env) (m0 : mv 0 = M) (hb : ∀ (k : Nat) (d : Dt), ds[k]? = some d → GoE K a ((ev k).set j (some d)) (mv k) (ev (k + 1)) (mv (k + 1))) (hj : ∀ k, ∀ m ∈ mv k, m.1 ≠ j) :
    GoE K (tFor wi (gName j) a) env M (ev ds.length) (mv ds.length) := fun H0 G0 σ G H D w f q => by
  refine h σ G H f.gh f.sd _ fun J G1 H1 w1 wk => ?_
  obtain ⟨ps, m⟩ := f.mu
  refine for_it (n := ds.length) wk (fun k σ' H' => ∃ G2, Gw G0 H0 G2 H' ∧ Same G1 G2 ∧ Fra K H0 (ev k) (mv k) σ' G2 H') ⟨G1, w.trans w1, Same.refl _, by rw [h0, m0]; exact ⟨w1.gh, f.sd.mono w1.gg, ps, m.grow w1⟩⟩ (fun k σ' H' _ ⟨G2, w2, g2, f2⟩ => g2.trans f2.gh) ?_ ?_
  · rintro k x σ' H' H'' hk ⟨G2, w2, g2, f2⟩ ⟨rfl, d, hd, dd⟩
    obtain ⟨qs, m2⟩ := f2.mu
    exact hb k d hd H0 G0 _ G2 H'' _ w2 ⟨f2.gh, f2.sd.set j (dpM g2 dd), qs, m2.set (hj k)⟩ fun σ3 G3 H3 g3 w3 f3 => ⟨G3, w3, g2.trans g3, f3⟩
  · rintro σ' H' ⟨G2, w2, g2, f2⟩
    exact q σ' G2 H' (w1.gg.trans g2) w2 f2
end
end LH

namespace LH
open PySem PySem.Spec L2 PyProof.Rows
/-! ### more operations; a def by its mirror -/
theorem pe_tyN {X : Cx} {x : Str} {pos : Pos} (T : String) (hg : Gl X x) (hm : X.mg x = none) (hv : bootBuiltins x = some (.type T)) (hn : x ≠ "__name__" := by decide) (hdb : (x == ("__debug__" : Str)) = false := by decide) : PE X (.Name x pos) (tC (.ty T)) := pe_bltn hg hm hv (r := rfl) (hn := hn) (hd := hdb)
section
variable {K : PySem.W.Frag} {env : Env0'}
/-- len -/
def lenD : Dt → Option Nat
  | .str z => if z.length ≤ 100000 then some z.length else none
  | .list ds => some ds.length
  | .tuple ds => some ds.length
  | _ => none
theorem call_lenA {X : Cx} : CallR X (.builtin "len") (rLen X.K) := call_len
theorem ee_len {ta : TE} {d : Dt} {n : Nat} (h : EvE K ta env d) (hn : lenD d = some n) : EvE K (tCB (rLen K) (tCons ta tNil)) env (.int (n : Int)) := fun σ G H gh s Q q => h σ G H gh s _ fun v G2 H2 e dv => by
  refine ⟨v, n, rfl, ?_, q _ G2 H2 e (.int _)⟩
  cases dv with
  | str z =>
    have hn' : (if z.length ≤ 100000 then some z.length else none) = some n := hn
    by_cases hz : z.length ≤ 100000
    · rw [if_pos hz] at hn'
      exact ⟨Nat.le_trans hz (by decide), (Option.some.inj hn').symm⟩
    · rw [if_neg hz] at hn'
      cases hn'
  | lst hs hd =>
    cases hn
    exact .inl ⟨_, e.gh.seq hs, (dpsLen hd).symm⟩
  | tup hs hd =>
    cases hn
    exact .inr ⟨_, sameT e.gh hs, (dpsLen hd).symm⟩
  | non => cases hn
  | dct => cases hn
  | bl => cases hn
  | int => cases hn
/-- x[i] -/
def ixD : Dt → Int → Option Dt
  | .list ds, i => atI ds i
  | .tuple ds, i => atI ds i
  | .str z, i => if z.length ≤ 100000 then (atI z.cps.toList i).map fun c => .str ⟨#[c]⟩ else none
  | _, _ => none
theorem rd_ix {x d : Dt} {i : Int} (h : ixD x i = some d) : RD K (rIx K) x (.int i) d := fun a b G H gh da db Q q => by
  cases x with
  | list ds => exact .inl (rd_ixL h a b G H gh da db Q q)
  | tuple ds => exact .inr (.inl (rd_ixT h a b G H gh da db Q q))
  | str z =>
    refine .inr (.inr ?_)
    cases da
    cases db
    have h' : (if z.length ≤ 100000 then (atI z.cps.toList i).map (fun c => PyData.str ⟨#[c]⟩) else none) = some d := h
    by_cases hz : z.length ≤ 100000
    · rw [if_pos hz] at h'
      cases e : atI z.cps.toList i with
      | none => (rw [e] at h'; cases h')
      | some c =>
        rw [e] at h'
        cases h'
        exact ⟨z, i, c, rfl, rfl, Nat.le_trans hz (by decide), e, q _ G H (Gw.refl gh) (.str _)⟩
    · rw [if_neg hz] at h'
      cases h'
  | _ => cases h
/-- a sign in a text -/
theorem rd_sign {c : Nat} {z : Str} : RD K (fun x y H Q => ∃ (c : Nat) (z : Str), x = .str ⟨#[c]⟩ ∧ y = .str z ∧ Q (.bl (decide (c ∈ z.cps.toList))) H) (.str ⟨#[c]⟩) (.str z) (.bool (decide (c ∈ z.cps.toList))) := fun a b G H gh da db Q q => by
  cases da
  cases db
  exact ⟨c, z, rfl, rfl, q _ G H (Gw.refl gh) (.bl _)⟩
theorem rd_le {i j : Int} : RD K (rI0 fun i j => .bl (decide (i ≤ j))) (.int i) (.int j) (.bool (decide (i ≤ j))) := rd_I0b (g := fun i j => decide (i ≤ j))
theorem rd_lt {i j : Int} : RD K (rI0 fun i j => .bl (decide (i < j))) (.int i) (.int j) (.bool (decide (i < j))) := rd_I0b (g := fun i j => decide (i < j))
theorem rd_ge {i j : Int} : RD K (rI0 fun i j => .bl (decide (j ≤ i))) (.int i) (.int j) (.bool (decide (j ≤ i))) := rd_I0b (g := fun i j => decide (j ≤ i))
theorem rd_gt {i j : Int} : RD K (rI0 fun i j => .bl (decide (j < i))) (.int i) (.int j) (.bool (decide (j < i))) := rd_I0b (g := fun i j => decide (j < i))
theorem rd_add {i j : Int} : RD K (rI0 fun i j => .int (i + j)) (.int i) (.int j) (.int (i + j)) := rd_I0i (g := fun i j => i + j)
theorem rd_sub {i j : Int} : RD K (rI0 fun i j => .int (i - j)) (.int i) (.int j) (.int (i - j)) := rd_I0i (g := fun i j => i - j)
/-- all([.. for ..]) -/
theorem ee_all {ta : TE} {bs : List Bool} (h : EvE K ta env (.list (bs.map PyData.bool))) : EvE K (tCB (rAll K) (tCons ta tNil)) env (.bool (bs.all id)) := ee_cb (ea_cons h ea_nil) rc_all
theorem ee_allc {ta : TE} {ds : List Dt} {g : Dt → Bool} (h : EvN K ta env (ds.map fun d => .bool (g d))) : EvE K (tCB (rAll K) (tCons ta tNil)) env (.bool (ds.all g)) := by
  have e : (ds.map fun d => PyData.bool (g d)) = (ds.map g).map PyData.bool := by rw [List.map_map]; rfl
  rw [e] at h
  have r := ee_all (ee_of h)
  rw [List.all_map] at r
  exact r
/-! isinstance -/
def isIntD : Dt → Bool
  | .int _ => true
  | .bool _ => true
  | _ => false
def isBoolD : Dt → Bool
  | .bool _ => true
  | _ => false
def isStrD : Dt → Bool
  | .str _ => true
  | _ => false
def isTupleD : Dt → Bool
  | .tuple _ => true
  | _ => false
def isListD : Dt → Bool
  | .list _ => true
  | _ => false
theorem ee_isT {ta : TE} {d : Dt} {T : String} (f : Dt → Bool) (hf : ∀ d, kitB (tyN d) T = some (f d)) (h : EvE K ta env d) : EvE K (tCB (rIsi K) (tCons ta (tCons (tC (.ty T)) tNil))) env (.bool (f d)) := fun σ G H gh s Q q =>
  h σ G H gh s _ fun v G2 H2 e dv => ⟨v, .ty T, .type (tyN d), .type T, f d, rfl, .ty T, tyX (dpM e.gh dv), kit_ty (hf d), q _ G2 H2 e (.bl _)⟩
theorem ee_isInt {ta : TE} {d : Dt} (h : EvE K ta env d) : EvE K (tCB (rIsi K) (tCons ta (tCons (tC (.ty "int")) tNil))) env (.bool (isIntD d)) := ee_isT isIntD (fun d => match d with
  | .none => (by decide +kernel : kitB "NoneType" "int" = some false)
  | .bool _ => (by decide +kernel : kitB "bool" "int" = some true)
  | .int _ => (by decide +kernel : kitB "int" "int" = some true)
  | .str _ => (by decide +kernel : kitB "str" "int" = some false)
  | .list _ => (by decide +kernel : kitB "list" "int" = some false)
  | .tuple _ => (by decide +kernel : kitB "tuple" "int" = some false)
  | .dict _ => (by decide +kernel : kitB "dict" "int" = some false)) h
theorem ee_isBool {ta : TE} {d : Dt} (h : EvE K ta env d) : EvE K (tCB (rIsi K) (tCons ta (tCons (tC (.ty "bool")) tNil))) env (.bool (isBoolD d)) := ee_isT isBoolD (fun d => match d with
  | .none => (by decide +kernel : kitB "NoneType" "bool" = some false)
  | .bool _ => (by decide +kernel : kitB "bool" "bool" = some true)
  | .int _ => (by decide +kernel : kitB "int" "bool" = some false)
  | .str _ => (by decide +kernel : kitB "str" "bool" = some false)
  | .list _ => (by decide +kernel : kitB "list" "bool" = some false)
  | .tuple _ => (by decide +kernel : kitB "tuple" "bool" = some false)
  | .dict _ => (by decide +kernel : kitB "dict" "bool" = some false)) h
theorem ee_isStr {ta : TE} {d : Dt} (h : EvE K ta env d) : EvE K (tCB (rIsi K) (tCons ta (tCons (tC (.ty "str")) tNil))) env (.bool (isStrD d)) := ee_isT isStrD (fun d => match d with
  | .none => (by decide +kernel : kitB "NoneType" "str" = some false)
  | .bool _ => (by decide +kernel : kitB "bool" "str" = some false)
  | .int _ => (by decide +kernel : kitB "int" "str" = some false)
  | .str _ => (by decide +kernel : kitB "str" "str" = some true)
  | .list _ => (by decide +kernel : kitB "list" "str" = some false)
  | .tuple _ => (by decide +kernel : kitB "tuple" "str" = some false)
  | .dict _ => (by decide +kernel : kitB "dict" "str" = some false)) h
theorem ee_isTuple {ta : TE} {d : Dt} (h : EvE K ta env d) : EvE K (tCB (rIsi K) (tCons ta (tCons (tC (.ty "tuple")) tNil))) env (.bool (isTupleD d)) := ee_isT isTupleD (fun d => match d with
  | .none => (by decide +kernel : kitB "NoneType" "tuple" = some false)
  | .bool _ => (by decide +kernel : kitB "bool" "tuple" = some false)
  | .int _ => (by decide +kernel : kitB "int" "tuple" = some false)
  | .str _ => (by decide +kernel : kitB "str" "tuple" = some false)
  | .list _ => (by decide +kernel : kitB "list" "tuple" = some false)
  | .tuple _ => (by decide +kernel : kitB "tuple" "tuple" = some true)
  | .dict _ => (by decide +kernel : kitB "dict" "tuple" = some false)) h
theorem ee_isList {ta : TE} {d : Dt} (h : EvE K ta env d) : EvE K (tCB (rIsi K) (tCons ta (tCons (tC (.ty "list")) tNil))) env (.bool (isListD d)) := ee_isT isListD (fun d => match d with
  | .none => (by decide +kernel : kitB "NoneType" "list" = some false)
  | .bool _ => (by decide +kernel : kitB "bool" "list" = some false)
  | .int _ => (by decide +kernel : kitB "int" "list" = some false)
  | .str _ => (by decide +kernel : kitB "str" "list" = some false)
  | .list _ => (by decide +kernel : kitB "list" "list" = some true)
  | .tuple _ => (by decide +kernel : kitB "tuple" "list" = some false)
  | .dict _ => (by decide +kernel : kitB "dict" "list" = some false)) h
/-- a, b, .. = a tuple -/
def setsD (env : Env0') : List Nat → List Dt → Env0'
  | i :: is, d :: ds => setsD (env.set i (some d)) is ds
  | _, _ => env
def gNames : List Nat → TGs
  | [] => gNil
  | i :: is => gCons (gName i) (gNames is)
theorem gs_names {G H : Hp} : ∀ {is : List Nat} {σ : L2.St} {env : Env0'} {xs : List V} {ds : List Dt} {Q : L2.St → Hp → Prop}, is.length = ds.length → DqAll K G xs ds → Sd K G σ env → (∀ σ', Sd K G σ' (setsD env is ds) → (∀ j, j ∉ is → σ'[j]? = σ[j]?) → Q σ' H) → gNames is xs σ H Q
  | [], _, _, _, _, _, hl, .nil, s, q => ⟨rfl, q _ s fun _ _ => rfl⟩
  | [], _, _, _, _, _, hl, .cons _ _, _, _ => nomatch hl
  | i :: is, _, _, _, _, _, hl, .nil, _, _ => nomatch hl
  | i :: is, _, _, _, _, _, hl, .cons (v := v) h t, s, q => ⟨v, _, rfl, gs_names (is := is) (Nat.succ.inj hl) t (s.set i h) fun σ' s' k => q σ' s' fun j hj => by
      rw [k j fun z => hj (List.mem_cons_of_mem _ z), List.getElem?_set_ne fun z => hj (by rw [z]; exact List.mem_cons_self)]⟩
theorem Mu.keepσ {H0 G H : Hp} {σ σ' : L2.St} {is : List Nat} (k : ∀ j, j ∉ is → σ'[j]? = σ[j]?) : ∀ {M : MuL} {ps : List Addr}, Mu K H0 G H σ M ps → (∀ m ∈ M, m.1 ∉ is) → Mu K H0 G H σ' M ps
  | _, _, .nil, _ => .nil
  | _, _, .cons a b c d e f g, h => .cons ((k _ (h _ List.mem_cons_self)).trans a) b c d e f (g.keepσ k fun m hm => h m (List.mem_cons_of_mem _ hm))
theorem go_unpack {te : TE} {is : List Nat} {ds : List Dt} {M : MuL} {n : Nat} (h : EvE K te env (.tuple ds)) (hl : is.length = ds.length) (hn : ds.length = n) (hi : ∀ m ∈ M, m.1 ∉ is) : GoE K (tAsg te (gTup K n (gNames is))) env M (setsD env is ds) M := fun H0 G0 σ G H D w f q => h σ G H f.gh f.sd _ fun v G' H' w' dv => by
  obtain ⟨ps, m⟩ := f.mu
  cases dv with
  | @tup p xs _ hs hd =>
    exact ⟨p, xs, rfl, sameT w'.gh hs, (dpsLen hd).trans hn, gs_names hl hd (f.sd.mono w'.gg) fun σ' s' k => q σ' G' H' w'.gg (w.trans w') ⟨w'.gh, s', ps, (m.grow w').keepσ k hi⟩⟩
end
section
variable {w : World} {P : Program} {K : PySem.W.Frag} {mg : Str → Option Value} {base : Heap}
/-- a def that stands by its name -/
structure Dfn (K : PySem.W.Frag) (mg : Str → Option Value) (x : Str) (st : Stmt) (ps : List Str) : Prop where
  ex : ∃ (f : Addr) (fd : FuncData), Fun K x x st f fd ∧ mg x = some (.ref f) ∧ Binds K fd ps []
/-- THE RULE: a def keeps its mirror -/
theorem calF {x : Str} {st : Stmt} {N ps : List Str} {k : Nat} (m : List Dt → Option Dt) (F : Dfn K mg x st ps) (S : FnScope N ps (defScope st)) (hlen : ∀ ds d, m ds = some d → ds.length = ps.length)
    (hbody : ∀ (f : Addr) (cdv : Value) (A : Around) (outer : List Env) (s : Shared) (H : Hp) (E : XK), Room k (A.deeper (envOfC x (defScope st) s.heap.objs.size f cdv)) → ∀ ds d, m ds = some d →
      ∃ t, PSs (cxOf CX0 P w K mg base N x (defScope st) f cdv A outer s H E).nox (defBody st) t ∧ RtE K t (startD N.length ds) [] d) : C8.Cal P w K mg base (k + 1) x (spF K m) [] := by
  obtain ⟨f, fd, F, hm, b⟩ := F.ex
  refine ⟨f, fd, ps, [], F.ok S (fun vs H Q E h => ?_) (fun cdv A outer s H vs Q E hr h => ?_), hm, F.kp, b, .nil⟩
  · obtain ⟨G, ds, d, gh, hd, hf, _⟩ := h
    rw [dpsLen hd]
    exact hlen ds d hf
  · obtain ⟨G, ds, d, gh, hd, hf, q⟩ := h
    obtain ⟨t, ht, hv⟩ := hbody f cdv A outer s H E hr ds d hf
    exact ⟨t, ht, hv H G _ G H _ (Gw.refl gh) ⟨gh, sdStart hd, [], .nil⟩ q⟩
end
end LH

namespace LH
open PySem PySem.Spec L2 PyProof.Rows
/-! ### sorted(a tuple of texts) -/
section
variable {w : World} {prog : Program} {A : Around} {E : Value → Shared → Prop} {s : Shared}
theorem gather_tup {a : Addr} {us : List Value} {R : List Value → Shared → Prop} (it : s.heap.IsTuple a us.toArray) (few : us.length ≤ sizeLine)
    (k : R us { s with heap := (s.heap.push (seqObj "list" #[] 0)).update s.heap.objs.size (Obj.mapSeq (· ++ us.toArray)) }) : wpAny (model prog w) A (collect (.ref a)) R E s := by
  obtain ⟨ob, at0, cl, ep, dt⟩ := id it
  unfold collect
  refine wpAny_bind <| wpAny_runValue <| codeAny_builtin entry_proto_collect' ?_
  show wpAny _ _ (do
    again (.builtin "list.__iadd__" ⟨[← newList [], .ref a], []⟩)) _ _ s
  refine wpAny_bind <| wpAny_newList <| wpAny_pure ⟨Code.quiet_builtin _ (by decide +kernel), codeAny_builtin entry_list_iadd' ?_⟩
  show wpAny _ _ (Builtin.List.listExtendWith (.ref s.heap.objs.size) (.ref a)
    (.ref s.heap.objs.size)) _ _ { s with heap := s.heap.push (seqObj "list" #[] 0) }
  (unfold Builtin.List.listExtendWith)
  have at1 : (s.heap.push (seqObj "list" #[] 0)).get? a = some ob := Heap.get?_push_of_some _ at0
  refine wpAny_bind <| wpAny_typeOf (T := "tuple") ⟨ob, at1, cl⟩ ?_
  have tt : (Value.type "tuple" == Value.type "tuple") = true := by decide
  rw [if_pos (by rw [tt, Bool.or_true])]
  refine wpAny_bind <| listItems_at at1 dt ?_
  refine wpAny_bind <| listItems_at (xs := #[]) (n := 0) (Heap.get?_push_size _ rfl) rfl ?_
  rw [if_neg (show ¬ _ by simp)]
  refine wpAny_bind <| listUpdate_at (xs := #[]) (n := 0) (Heap.get?_push_size _ rfl) rfl ?_ (Nat.zero_le _) (by
    show (#[] ++ us.toArray).size ≤ sizeLine + 1
    simp only [Array.size_append, List.size_toArray, List.length_nil]
    omega)
  refine wpAny_pure ?_
  refine wpAny_bind (m := load s.heap.objs.size) <| wpAny_load (get?_update_seq (Heap.get?_push_size _ rfl) _) ?_
  show wpAny _ _ (pure ((#[] : Array Value) ++ us.toArray).toList) R E _
  have eu : ((#[] : Array Value) ++ us.toArray).toList = us := by simp
  rw [eu]
  exact wpAny_pure k
theorem sorted_tupS {a : Addr} {us : List Value} {ts : List Str} {Q : Value → Shared → Prop} (it : s.heap.IsTuple a us.toArray) (ht : StrsAre us ts) (few : us.length < 64)
    (k : ∀ (out : Array Value) (ts' : List Str), StrsAre out.toList ts' → ts'.Perm ts → sortedS ts' = true → Q (.ref (s.heap.objs.size + 1)) { s with heap := sortedAll s.heap us out }) :
    wpAny (model prog w) A (call (.builtin "sorted") [.ref a]) Q E s := by
  refine Calls.call_function_entry kind_sorted plain_sorted entry_sorted (args_sorted1 _) <| ?_
  unfold Builtin.«sorted»
  refine wpAny_bind (m := checkCount "sorted" 1 1 _) <| wpAny_pure ?_
  refine wpAny_bind <| gather_tup it (by rw [sizeLine_eq]; omega) ?_
  refine wpAny_bind <| wpAny_newList ?_
  generalize hb : (s.heap.push (seqObj "list" #[] 0)).update s.heap.objs.size (Obj.mapSeq (· ++ us.toArray)) = hp
  have hz : hp.objs.size = s.heap.objs.size + 1 := by
    rw [← hb, Heap.size_update]
    exact size_push' ..
  have hL : (hp.push (seqObj "list" us.toArray 0)).get? (s.heap.objs.size + 1) = some (seqObj "list" us.toArray 0) := by
    rw [← hz]
    (exact Heap.get?_push_size _ rfl)
  show wpAny _ _ _ _ _ { s with heap := hp.push (seqObj "list" us.toArray 0) }
  rw [hz]
  refine wpAny_bind <| wpAny_holding <| wpAny_call_entry slot_list_sort ⟨_, hL, rfl⟩ entry_list_sort (list_sort_treeK strKind_oneLt hL ht.keysOf (fun v₁ v₂ rest e => keyKind_strs (by rw [← e]; exact ht)) few fun st' a1 a2 => ⟨_, rfl, ?_⟩) (args_list_sort _)
  obtain ⟨ts', h1, h2, h3⟩ := sorted_out_str ht a1 a2
  (refine wpAny_pure ⟨_, rfl, ?_⟩)
  have z := k _ ts' h1 h2 h3
  unfold sortedAll at z
  rw [hb] at z
  exact z
end
def rSortTS (K : PySem.W.Frag) : List V → Hp → VK → Prop := fun vs H Q => ∃ (a : Addr) (xs : List Str), vs = [V.ref a] ∧ SqT K H a (xs.map V.str) ∧ xs.length < 64 ∧
  ∀ (zs : List Str) (c : Addr), zs.Perm xs → sortedS zs = true → H c = none → Q (.ref c) (upd H c (.lst (zs.map V.str)))
theorem cr_sortedTS {X : Cx} : CallR X (.builtin "sorted") (rSortTS X.K) := by
  (intro pins s σ H vs us Q I r h)
  obtain ⟨a, xs, rfl, hs, few, q⟩ := h
  obtain ⟨its, rv, ip, _⟩ := I.tuple hs
  rw [Vals.ref1 r]
  have hn := rv.length
  rw [List.length_map] at hn
  refine sorted_tupS ip rv.strs (by rw [← hn]; exact few) fun out ys h1 h2 h3 => ?_
  obtain ⟨ep, he⟩ := PyProof.Rows.sortedAll_at s.heap its out
  have hm : (ys.map V.str).length ≤ sizeLine := by
    rw [List.length_map, h2.length_eq]
    exact small64 few
  exact ⟨.ref _, upd H (s.heap.objs.size + 1) (.lst (ys.map V.str)), I.laid (t' := s.toks) (fun _ _ => PyProof.Rows.sortedAll_old) (Nat.le_succ _) ⟨hm, out.toList, ep, vals_of_strs h1, he⟩, rfl,
    q ys _ h2 h3 (I.hok.fresh (Nat.le_succ _))⟩
end LH

namespace LH
open PySem PySem.Spec L2 PyProof.Rows
/-! ### sets of tuples of texts -/
/-- the tuple at b has the texts k -/
abbrev TxAt (P : Program) (w : World) (h : Heap) (k : List Str) (b : Addr) : Prop := PySem.IsTupleKey (PySem.strKind P w) h k b
abbrev txH (P : Program) (w : World) (k : List Str) : Int := PySem.tupleKeyHash (PySem.strKind P w) k
section
variable {w : World} {P : Program} {A : Around} {E : Value → Shared → Prop} {s : Shared}
theorem all_text {k : List Str} {us : List Value} (h : PySem.ItemsAre (PySem.strKind P w) k us) : ∀ u ∈ us, ∃ z c, u = Value.str z c := by
  induction h with
  | nil => exact fun _ m => nomatch m
  | @cons z u _ _ h1 _ ih =>
    intro x m
    cases m with
    | head => exact ⟨z, Value.isStrOf_shape h1⟩
    | tail _ m => exact ih x m
/-- going through texts where each is passed by -/
theorem each_text {M : Model} {β : Type} {f : Value → β → Sem (ForInStep β)} {b : β} {R : β → Shared → Prop} (pass : ∀ z c (R' : ForInStep β → Shared → Prop), R' (.yield b) s → wpAny M A (f (.str z c) b) R' E s) (q : R b s) :
    ∀ us : List Value, (∀ u ∈ us, ∃ z c, u = Value.str z c) → wpAny M A (forIn us b f) R E s
  | [], _ => by rw [List.forIn_nil]; exact wpAny_pure q
  | u :: us, m => by
    obtain ⟨z, c, e⟩ := m u List.mem_cons_self
    rw [e, List.forIn_cons]
    exact wpAny_bind <| pass z c _ <| each_text pass q us fun x hx => m x (List.mem_cons_of_mem _ hx)
theorem cls_text (n : Nat) (z : Str) (c : Tok) : ofAClassStatement n (.str z c) = pure false := by
  rcases n with _ | n
  · rfl
  · rfl
theorem val_text (n : Nat) (z : Str) (c : Tok) : hashByValue n (.str z c) = pure false := by
  rcases n with _ | n
  · rfl
  · rfl
theorem cls_tup {k : List Str} {b : Addr} {R : Bool → Shared → Prop} (x : TxAt P w s.heap k b) (q : R false s) : wpAny (model P w) A (ofAClassStatement 8 (.ref b)) R E s := by
  have ty := x.typeIs
  obtain ⟨ob, us, n, at0, _, dt, it⟩ := x
  unfold ofAClassStatement
  refine wpAny_bind <| wpAny_typeOf ty ?_
  have tt : (("tuple" : String) == "tuple") = true := by decide
  simp only [tt, if_true, Bool.not_true, Bool.false_eq_true, if_false]
  try (refine wpAny_bind <| wpAny_pure ?_)
  refine wpAny_bind <| wpAny_seqItems at0 dt ?_
  refine wpAny_bind ?_
  show wpAny _ _ (forIn us _ _) _ _ s
  rw [← Array.forIn_toList]
  refine each_text (fun z c R' r => ?_) ?_ us.toList (all_text it)
  · rw [cls_text]
    refine wpAny_bind <| wpAny_pure ?_
    exact wpAny_pure r
  · exact wpAny_pure q
theorem val_tup {k : List Str} {b : Addr} {R : Bool → Shared → Prop} (x : TxAt P w s.heap k b) (q : ∀ r, R r s) : wpAny (model P w) A (hashByValue 8 (.ref b)) R E s := by
  have ty := x.typeIs
  obtain ⟨ob, us, n, at0, _, dt, it⟩ := x
  unfold hashByValue
  refine wpAny_bind <| wpAny_specialOf ty F.slot_tuple_hash.lookup ?_
  refine wpAny_bind <| wpAny_seqItems at0 dt ?_
  refine wpAny_bind ?_
  show wpAny _ _ (forIn us _ _) _ _ s
  rw [← Array.forIn_toList]
  have m := all_text it
  generalize us.toList = xs at m
  cases xs with
  | nil =>
    rw [List.forIn_nil]
    exact wpAny_pure <| wpAny_pure <| q true
  | cons u xs =>
    obtain ⟨z, c, rfl⟩ := m u List.mem_cons_self
    rw [List.forIn_cons]
    refine wpAny_bind ?_
    rw [val_text]
    refine wpAny_bind <| wpAny_pure ?_
    exact wpAny_pure <| wpAny_pure <| wpAny_pure <| q false
/-- nobody sees the search among such tuples -/
theorem unseen {k : List Str} {b : Addr} {R : Bool → Shared → Prop} (x : TxAt P w s.heap k b) (q : R false s) : ∀ us : List Value, (∀ u ∈ us, ∃ k' c, u = Value.ref c ∧ TxAt P w s.heap k' c) → wpAny (model P w) A (searchCouldBeSeen (.ref b) us) R E s := fun us m => by
  unfold searchCouldBeSeen
  refine wpAny_bind ?_
  refine wpAny_forIn_list _ (fun rest r s' => r.1 = none ∧ s' = s ∧ ∀ u ∈ rest, ∃ k' c, u = Value.ref c ∧ TxAt P w s.heap k' c) _ (fun u rest r s' h => ?_) (fun r s' h => ?_) us _ ⟨rfl, rfl, m⟩
  · obtain ⟨_, rfl, m'⟩ := h
    obtain ⟨k', c, rfl, y⟩ := m' u List.mem_cons_self
    have go : ∀ u ∈ rest, ∃ k' c, u = Value.ref c ∧ TxAt P w s'.heap k' c := fun u hu => m' u (List.mem_cons_of_mem _ hu)
    by_cases e : (b == c || (carriedByValue (.ref b) && carriedByValue (.ref c))) = true
    · exact wp_if_pos e <| wpAny_pure ⟨rfl, rfl, go⟩
    · refine wp_if_neg e <| wpAny_bind <| wpAny_eqIsQuiet_tuple x ?_
      (simp only [Bool.not_true, Bool.false_eq_true, if_false])
      refine wpAny_bind <| wpAny_eqIsQuiet_tuple y ?_
      (simp only [Bool.not_true, Bool.false_eq_true, if_false])
      refine wpAny_bind <| cls_tup x ?_
      (simp only [Bool.false_eq_true, if_false])
      refine wpAny_bind <| cls_tup y ?_
      (simp only [Bool.false_eq_true, if_false])
      exact wpAny_pure ⟨rfl, rfl, go⟩
  · obtain ⟨r1, r2⟩ := r
    obtain ⟨e, rfl, _⟩ := h
    cases (show r1 = none from e)
    exact wpAny_pure q
end
end LH

namespace LH
open PySem PySem.Spec L2 PyProof.Rows
def txRows (P : Program) (w : World) (L : List (Addr × List Str)) : List (Int × Value) := L.map fun p => (txH P w p.2, Value.ref p.1)
abbrev txHs (P : Program) (w : World) (L : List (Addr × List Str)) : List Int := L.map fun p => txH P w p.2
/-- at a stands a set of the tuples L -/
structure TbR (P : Program) (w : World) (h : Heap) (a : Addr) (L : List (Addr × List Str)) (es : Array (Int × Value)) (ep : Nat) (t : SetTable) : Prop where
  obj : ∃ ob, h.get? a = some ob ∧ ob.ExactSet ∧ ob.data = .set es ep t
  row : es.toList = txRows P w L
  tab : TabOk t (txHs P w L)
  one : (L.map (·.2)).Nodup
  txt : ∀ p ∈ L, TxAt P w h p.2 p.1
  big : L.length * 5 < t.mask * 3
  lit : L.length < 64
theorem row_len {P : Program} {w : World} {L : List (Addr × List Str)} {es : Array (Int × Value)} (h : es.toList = txRows P w L) : es.size = L.length := by
  rw [← Array.length_toList, h]
  exact List.length_map ..
theorem row_at {P : Program} {w : World} {L : List (Addr × List Str)} {es : Array (Int × Value)} (h : es.toList = txRows P w L) {i : Nat} {p : Addr × List Str} (e : L[i]? = some p) : es[i]? = some (txH P w p.2, Value.ref p.1) := by
  rw [← Array.getElem?_toList, h, txRows, List.getElem?_map, e]
  rfl
theorem fit_of {t : SetTable} {n : Nat} (h1 : t.place.size = n) (h2 : t.dummies = #[]) (h3 : n ≤ t.mask) : t.fits n = true := by
  (unfold SetTable.fits SetTable.fill)
  rw [h2, h1]
  simp
  exact h3
theorem nth_clean (m : Nat) : ∀ (n : Nat) (p : SetTable.Probe), p.dummy = none → (nth m p n).dummy = none
  | 0, _, h => h
  | n + 1, p, h => nth_clean m n (adv m p) (by unfold adv; split <;> exact h)
section
variable {P : Program} {w : World} {A : Around} {E : Value → Shared → Prop} {s : Shared} {a : Addr} {L : List (Addr × List Str)} {es : Array (Int × Value)} {ep : Nat} {t : SetTable}
theorem TbR.cnt {h : Heap} (R : TbR P w h a L es ep t) : t.place.size = L.length := by
  rw [R.tab.sz]
  exact List.length_map ..
theorem TbR.fit {h : Heap} (R : TbR P w h a L es ep t) : t.fits es.size = true := by
  have b := R.big
  have e := row_len R.row
  exact fit_of (R.cnt.trans e.symm) R.tab.dm (by omega)
/-- the step c of the way of a hash -/
abbrev stepAt (m : Nat) (v : Int) (c : Nat) : SetTable.Probe := nth m (runAt m (SetTable.bits v % (m + 1)) (SetTable.bits v)) c
theorem seek (R : TbR P w s.heap a L es ep t) {x : Addr} {k : List Str} (hx : TxAt P w s.heap k x) (hu : A.units < cLine) {v : Int} (hv : v = txH P w k) {K : Nat} (far : K < 10 * SetTable.turns t.mask) (free : way t.mask v K ∉ t.place.toList)
    (full : ∀ c, c < K → way t.mask v c ∈ t.place.toList) {Q : SetFound → Shared → Prop} (inn : k ∈ L.map (·.2) → Q (.there none) s) (out : k ∉ L.map (·.2) → Q (.free (way t.mask v K) false) s) :
    ∀ (f c : Nat) (stand : Option SetTable.Probe), stand.getD (t.probeStart v) = stepAt t.mask v c → c ≤ K → K - c < f → (∀ (i : Nat) p, L[i]? = some p → p.2 = k → ∃ d, c ≤ d ∧ d < K ∧ t.place.toList[i]? = some (way t.mask v d)) →
      wpAny (model P w) A (setSearchFrom a (.ref x) v true f stand) Q E s
  | 0, _, _, _, _, z, _ => absurd z (Nat.not_lt_zero _)
  | f + 1, c, stand, here, le, fuel, left => by
    obtain ⟨ob, at0, ex, dt⟩ := R.obj
    have shift : ∀ q, nth t.mask (stepAt t.mask v c) q = stepAt t.mask v (c + q) := fun q => (nth_add t.mask c _ q).symm
    have hAt : ∀ (i : Nat) p, L[i]? = some p → (es[i]?.map (·.1)).getD 0 = txH P w p.2 := fun i p e => by rw [row_at R.row e]; rfl
    have gw : ¬ t.gaveWay = true := by
      unfold SetTable.gaveWay
      rw [mask_odd R.tab.mok]
      decide
    rw [setSearchFrom_succ]
    refine wpAny_bind <| wpAny_setState_of at0 dt R.fit <| wp_if_neg gw ?_
    try (refine wpAny_bind <| wpAny_pure ?_)
    have two := go_spec t R.tab.ris R.tab.dm (fun i => (es[i]?.map (·.1)).getD 0) v (10 * SetTable.turns t.mask) (K - c) (stepAt t.mask v c) (nth_clean _ _ _ rfl) (by omega)
      (fun q hq => by rw [shift]; exact full (c + q) (by omega)) (by rw [shift, Nat.add_sub_cancel' le]; exact free)
    -- what has these texts stands further on
    have past : ∀ (q : Nat), (∀ (k' i' : Nat), k' < q → t.place.toList[i']? = some (nth t.mask (stepAt t.mask v c) k').j → (es[i']?.map (·.1)).getD 0 ≠ v) → ∀ (i : Nat) p (d : Nat), L[i]? = some p → p.2 = k → c ≤ d → d < c + q → t.place.toList[i]? = some (way t.mask v d) → False := fun q no i p d e ek cd dq pl => by
      refine no (d - c) i (by omega) (by rw [shift, Nat.add_sub_cancel' cd]; exact pl) ?_
      rw [hAt i p e, ek, hv]
    rcases two with ⟨q, i, hq, pl, _, no, met⟩ | ⟨no, met⟩
    · rw [shift] at pl
      have probe : t.probe (fun i => (es[i]?.map (·.1)).getD 0) v (stand.getD (t.probeStart v)) = some (.candidate (way t.mask v (c + q)) i (stepAt t.mask v (c + (q + 1)))) := by
        rw [here, ← shift (q + 1)]
        show _ = some (SetTable.Met.candidate (stepAt t.mask v (c + q)).j i _)
        rw [← shift q]
        exact met
      rw [probe]
      have il : i < L.length := by
        have z := (List.getElem?_eq_some_iff.mp pl).1
        rw [Array.length_toList, R.cnt] at z
        exact z
      obtain ⟨p, ep0⟩ : ∃ p, L[i]? = some p := ⟨_, List.getElem?_eq_getElem il⟩
      have pm : p ∈ L := List.mem_of_getElem? ep0
      have entry := row_at R.row ep0
      have live : t.slot (way t.mask v (c + q)) = .live i := slot_live R.tab.ris pl
      have rest : wpAny (model P w) A (searchRest a (.ref x) v true f es t (way t.mask v (c + q)) i (stepAt t.mask v (c + (q + 1)))) Q E s := by
        unfold searchRest
        rw [entry]
        refine wpAny_bind <| wpAny_holding <| wpAny_eqBool_tuple hu (R.txt p pm) hx ?_
        refine wpAny_bind <| wpAny_setState_of at0 dt R.fit ?_
        by_cases same : p.2 = k
        · refine wp_if_pos (by rw [decide_eq_true same]; rfl) <| wpAny_pure <| inn ?_
          exact List.mem_map.mpr ⟨p, pm, same⟩
        · refine wp_if_neg (by rw [decide_eq_false same]; decide) ?_
          try (refine wpAny_bind <| wpAny_pure ?_)
          rw [sameMem]
          simp only [if_true, live, entry]
          refine wpAny_bind <| wpAny_isSame_ref_self <| wpAny_bind <| wpAny_pure ?_
          simp only [if_true]
          refine wp_if_neg (by rw [decide_eq_false same]; decide) ?_
          refine seek R hx hu hv far free full inn out f (c + (q + 1)) _ rfl (by omega) (by omega) fun i0 p0 e0 k0 => ?_
          obtain ⟨d, d1, d2, d3⟩ := left i0 p0 e0 k0
          refine ⟨d, ?_, d2, d3⟩
          rcases Nat.lt_trichotomy d (c + q) with z | z | z
          · exact (past q no i0 p0 d e0 k0 d1 z d3).elim
          · rw [z] at d3
            have l2 := slot_live R.tab.ris d3
            rw [live] at l2
            cases l2
            rw [ep0] at e0
            cases e0
            exact absurd k0 same
          · omega
      by_cases led : t.led = true
      · refine wp_if_neg (by rw [led]; decide) ?_
        try (refine wpAny_bind <| wpAny_pure ?_)
        exact rest
      · refine wp_if_pos (by rw [Bool.not_eq_true] at led; rw [led]; rfl) <| wpAny_bind <| unseen hx ?_ _ fun u hu' => ?_
        · refine wp_if_neg Bool.false_ne_true ?_
          try (refine wpAny_bind <| wpAny_pure ?_)
          exact rest
        · obtain ⟨e, he, rfl⟩ := List.mem_map.mp hu'
          have he2 : e ∈ es.toList := by
            have z : e ∈ es ∧ e.1 = v := by simpa using he
            exact Array.mem_toList_iff.mpr z.1
          rw [R.row] at he2
          obtain ⟨p2, h2, rfl⟩ := List.mem_map.mp he2
          exact ⟨p2.2, p2.1, rfl, R.txt p2 h2⟩
    · have probe : t.probe (fun i => (es[i]?.map (·.1)).getD 0) v (stand.getD (t.probeStart v)) = some (.empty (way t.mask v K) none) := by
        have z := shift (K - c)
        rw [Nat.add_sub_cancel' le] at z
        rw [here]
        show _ = some (SetTable.Met.empty (stepAt t.mask v K).j none)
        rw [← z]
        exact met
      rw [probe]
      refine wpAny_pure <| out fun m => ?_
      obtain ⟨p0, m0, k0⟩ := List.mem_map.mp m
      obtain ⟨i0, e0⟩ := List.mem_iff_getElem?.mp m0
      obtain ⟨d, d1, d2, d3⟩ := left i0 p0 e0 k0
      exact past (K - c) no i0 p0 d e0 k0 d1 (by omega) d3
theorem seek_all (R : TbR P w s.heap a L es ep t) {x : Addr} {k : List Str} (hx : TxAt P w s.heap k x) (hu : A.units < cLine) {Q : SetFound → Shared → Prop} (inn : k ∈ L.map (·.2) → Q (.there none) s)
    (out : ∀ K, k ∉ L.map (·.2) → way t.mask (txH P w k) K ∉ t.place.toList → (∀ c, c < K → way t.mask (txH P w k) c ∈ t.place.toList) → Q (.free (way t.mask (txH P w k) K) false) s) :
    wpAny (model P w) A (setSearch a (.ref x) (txH P w k) true) Q E s := by
  have b := R.big
  obtain ⟨K, far, free, full⟩ := R.tab.first (show (txHs P w L).length ≤ t.mask by rw [List.length_map]; omega) (txH P w k)
  have near : 10 * SetTable.turns t.mask ≤ 2000 := by
    unfold SetTable.turns
    have m := R.tab.mok
    unfold MaskOk at m
    omega
  unfold setSearch
  refine seek R hx hu rfl far free full inn (fun m => out K m free full) 100000 0 none rfl (Nat.zero_le K) (by omega) fun i p e ek => ?_
  have il : i < t.place.toList.length := by
    rw [Array.length_toList, R.cnt]
    (exact (List.getElem?_eq_some_iff.mp e).1)
  obtain ⟨d, d1, d2⟩ := R.tab.before (i := i) (j := t.place.toList[i]) free (by rw [List.getElem?_map, e, ← ek]; rfl) (List.getElem?_eq_getElem il)
  exact ⟨d, Nat.zero_le d, d1, by rw [List.getElem?_eq_getElem il, d2]⟩
end
end LH

namespace LH
open PySem PySem.Spec L2 PyProof.Rows
theorem all_at {α : Type} : ∀ L : List α, (List.range L.length).filterMap (fun i => L[i]?) = L
  | [] => rfl
  | x :: L => by
    rw [List.length_cons, List.range_succ_eq_map, List.filterMap_cons_some (f := fun i => (x :: L)[i]?) (a := 0) (b := x) rfl, List.filterMap_map]
    exact congrArg (x :: ·) (all_at L)
section
variable {P : Program} {w : World} {A : Around} {E : Value → Shared → Prop} {s : Shared} {a : Addr} {L : List (Addr × List Str)} {es : Array (Int × Value)} {ep : Nat} {t : SetTable}
theorem reorder (r : es.toList = txRows P w L) {ord : Array Nat} (pm : ord.toList.Perm (List.range L.length)) :
    ∃ L', (ord.filterMap (es[·]?)).toList = txRows P w L' ∧ L'.Perm L ∧ txHs P w L' = ord.toList.map fun i => (es.map (·.1)).getD i 0 := by
  have ent : ∀ i : Nat, es[i]? = (L[i]?).map fun p => (txH P w p.2, Value.ref p.1) := fun i => by
    rw [← Array.getElem?_toList, r, txRows, List.getElem?_map]
  refine ⟨ord.toList.filterMap fun i => L[i]?, ?_, ?_, ?_⟩
  · rw [Array.toList_filterMap, txRows, List.map_filterMap]
    exact congrArg (fun g => List.filterMap g ord.toList) (funext ent)
  · have z := pm.filterMap fun i => L[i]?
    rw [all_at] at z
    exact z
  · have inn : ∀ i ∈ ord.toList, i < L.length := fun i m => List.mem_range.mp (pm.mem_iff.mp m)
    generalize ord.toList = l at inn
    induction l with
    | nil => rfl
    | cons i l ih =>
      have il := inn i List.mem_cons_self
      have ee := ent i
      rw [List.getElem?_eq_getElem il] at ee
      show ((i :: l).filterMap fun i => L[i]?).map (fun p => txH P w p.2) = _
      rw [List.filterMap_cons_some (List.getElem?_eq_getElem il), List.map_cons, List.map_cons]
      have hd : (es.map (·.1)).getD i 0 = txH P w (L[i]).2 := by
        rw [Array.getD_eq_getD_getElem?, Array.getElem?_map, ee]
        rfl
      rw [hd]
      exact congrArg _ (ih fun j m => inn j (List.mem_cons_of_mem _ m))
/-- what isn't the set stays -/
theorem tx_same {h h' : Heap} {k : List Str} {b : Addr} {ob : Obj} (x : TxAt P w h k b) (at0 : h.get? a = some ob) (dt : ob.data = .set es ep t) (sb : Heap.SameBut a h h') : TxAt P w h' k b := by
  obtain ⟨o2, us, n, at1, c, d, it⟩ := x
  refine ⟨o2, us, n, (sb.2 b fun z => ?_).trans at1, c, d, it⟩
  rw [z, at0] at at1
  cases at1
  rw [dt] at d
  cases d
theorem tx_kept {h h' : Heap} {k : List Str} {b : Addr} (x : TxAt P w h k b) (kp : ∀ c o, h.get? c = some o → h'.get? c = some o) : TxAt P w h' k b := by
  obtain ⟨o2, us, n, at1, c⟩ := x
  exact ⟨o2, us, n, kp b o2 at1, c⟩
/-- all laid anew in a larger table -/
theorem relay {ob : Obj} (at0 : s.heap.get? a = some ob) (ex : ob.ExactSet) (dt : ob.data = .set es ep t) (row : es.toList = txRows P w L) (cnt : t.place.size = es.size) (dm : t.dummies = #[]) (fl : es.size ≤ t.mask) (one : (L.map (·.2)).Nodup)
    (txt : ∀ p ∈ L, TxAt P w s.heap p.2 p.1) (lit : L.length < 64) {wanted M : Nat} (hw : SetTable.sizeAbove wanted = M + 1) (hM : MaskOk M) (big : L.length * 5 < M * 3) {Q : Unit → Shared → Prop}
    (q : ∀ h' L' es' ep' t', Heap.SameBut a s.heap h' → TbR P w h' a L' es' ep' t' → L'.Perm L → Q () { s with heap := h' }) : wpAny (model P w) A (setRelay a wanted) Q E s := by
  have n1 := row_len row
  obtain ⟨t', ord, e, pm, T, em, _, _, _⟩ := relaid_ok t (hs := es.map (·.1)) (wanted := wanted) (M := M) (by rw [hw]; rfl) hM (by rw [Array.size_map, n1]; omega)
  rw [Array.size_map, n1] at pm
  obtain ⟨L', r1, r2, r3⟩ := reorder row pm
  have n2 : (ord.filterMap (es[·]?)).size = es.size := by rw [row_len r1, r2.length_eq, n1]
  rw [← r3] at T
  have lim : M ≤ 127 := by unfold MaskOk at hM; omega
  rw [setRelay_eq]
  refine wpAny_bind <| wpAny_setState_of at0 dt (fit_of cnt dm fl) <| wp_if_neg (by rw [hw, sizeLine_eq]; omega) ?_
  try (refine wpAny_bind <| wpAny_pure ?_)
  rw [e]
  refine wpAny_bind <| wp_if_neg (by rw [n2]; simp) ?_
  try (refine wpAny_bind <| wpAny_pure ?_)
  refine wpAny_pure <| wpAny_storeSet_of at0 dt ?_ (by rw [n2, n1, sizeLine_eq]; omega)
  have sb : Heap.SameBut a s.heap (s.heap.update a (Obj.putSet (ord.filterMap (es[·]?)) t')) := Heap.SameBut.update ..
  exact q _ L' _ (ep + 1) t' sb ⟨⟨_, store_at at0 dt, ⟨ex.1, ex.2.1, ex.2.2⟩, rfl⟩, r1, T, (r2.map _).nodup_iff.mpr one, fun p m => tx_same (txt p (r2.mem_iff.mp m)) at0 dt sb, by rw [r2.length_eq, em]; exact big, by rw [r2.length_eq]; exact lit⟩ r2
theorem grow5 : SetTable.sizeAbove (SetTable.grown 5) = 31 + 1 := by decide +kernel
theorem grow19 : SetTable.sizeAbove (SetTable.grown 19) = 127 + 1 := by decide +kernel
/-- one more -/
theorem tab_add (R : TbR P w s.heap a L es ep t) {x : Addr} {k : List Str} (hx : TxAt P w s.heap k x) (hu : A.units < cLine) (lit : L.length + 1 < 64) {Q : Bool → Shared → Prop}
    (q : ∀ b h' L' es' ep' t', Heap.SameBut a s.heap h' → TbR P w h' a L' es' ep' t' → (k ∈ L.map (·.2) → L' = L) → (k ∉ L.map (·.2) → L'.Perm ((x, k) :: L)) → Q b { s with heap := h' }) :
    wpAny (model P w) A (setAddHashed a (.ref x) (txH P w k)) Q E s := by
  obtain ⟨ob, at0, ex, dt⟩ := R.obj
  have n1 := row_len R.row
  have b := R.big
  unfold setAddHashed
  refine wpAny_holding ?_
  show wpAny _ _ (setAddHashedIn a (.ref x) (txH P w k) (99999 + 1)) _ _ s
  rw [setAddHashedIn_succ]
  refine wpAny_bind <| wpAny_setState_of at0 dt R.fit <| wp_if_neg (by simp [byScan, Value.scannable]) ?_
  try (refine wpAny_bind <| wpAny_pure ?_)
  refine wpAny_bind <| seek_all R hx hu (fun m => ?_) fun K m free full => ?_
  · exact wpAny_pure <| q false s.heap L es ep t (Heap.SameBut.refl a s.heap) R (fun _ => rfl) fun z => absurd m z
  · refine wpAny_bind <| wpAny_setState_of at0 dt R.fit ?_
    obtain ⟨p1, p2, T, pm, _, _, _, _, pf⟩ := R.tab.put free full
    dsimp only
    generalize t.put (way t.mask (txH P w k) K) = pt at p1 T pm pf ⊢
    obtain ⟨t1, i⟩ := pt
    generalize SetTable.below t.place (way t.mask (txH P w k) K) = j at p1 p2 T
    dsimp only at p1 T pm pf ⊢
    subst p1
    have perm : (L.take i ++ (x, k) :: L.drop i).Perm ((x, k) :: L) := by
      have z : (L.take i ++ (x, k) :: L.drop i).Perm ((x, k) :: (L.take i ++ L.drop i)) := List.perm_middle
      rw [List.take_append_drop] at z
      exact z
    have T1 : TabOk t1 (txHs P w (L.take i ++ (x, k) :: L.drop i)) := by
      have z : txHs P w (L.take i ++ (x, k) :: L.drop i) = (txHs P w L).take i ++ txH P w k :: (txHs P w L).drop i := by
        show List.map _ _ = _
        (rw [List.map_append, List.map_cons, List.map_take, List.map_drop])
      rw [z]
      exact T
    have row1 : (SetTable.insertAt es i (txH P w k, Value.ref x)).toList = txRows P w (L.take i ++ (x, k) :: L.drop i) := by
      rw [SetTable.toList_insertAt, R.row]
      show _ = List.map _ _
      (rw [List.map_append, List.map_cons, List.map_take, List.map_drop])
      rfl
    have fill1 : t1.fill = L.length + 1 := by rw [pf, List.length_map]
    have n2 : (SetTable.insertAt es i (txH P w k, Value.ref x)).size = L.length + 1 := by rw [row_len row1, perm.length_eq]; rfl
    have one1 : ((L.take i ++ (x, k) :: L.drop i).map (·.2)).Nodup := (perm.map (·.2)).nodup_iff.mpr (List.nodup_cons.mpr ⟨m, R.one⟩)
    generalize SetTable.insertAt es i (txH P w k, Value.ref x) = es1 at row1 n2 ⊢
    generalize L.take i ++ (x, k) :: L.drop i = L1 at perm T1 row1 one1
    have n3 : L1.length = L.length + 1 := perm.length_eq
    -- whichever word of plain it gets
    have fin : ∀ t2 : SetTable, TabOk t2 (txHs P w L1) → t2.mask = t.mask → t2.fill = L.length + 1 →
        wpAny (model P w) A (do
          storeSet a es1 t2
          if !false && t2.tooFull then setRelay a (SetTable.grown (es.size + 1))
          return true) Q E s := fun t2 T2 m2 f2 => by
      refine wpAny_bind <| wpAny_storeSet_of at0 dt ?_ (by rw [n2, sizeLine_eq]; omega)
      have sb : Heap.SameBut a s.heap (s.heap.update a (Obj.putSet es1 t2)) := Heap.SameBut.update ..
      have at1 := store_at (es' := es1) (t' := t2) at0 dt
      generalize s.heap.update a (Obj.putSet es1 t2) = h1 at sb at1
      have txt1 : ∀ p ∈ L1, TxAt P w h1 p.2 p.1 := fun p hp => by
        cases perm.mem_iff.mp hp with
        | head => exact tx_same hx at0 dt sb
        | tail _ hp => exact tx_same (R.txt p hp) at0 dt sb
      have cnt2 : t2.place.size = es1.size := by rw [T2.sz, List.length_map, n3, n2]
      by_cases tf : t2.tooFull = true
      · have full2 : t.mask * 3 ≤ (L.length + 1) * 5 := by
          have z := tf
          unfold SetTable.tooFull at z
          rw [decide_eq_true_eq, f2, m2] at z
          exact z
        have go : ∀ M, SetTable.sizeAbove (SetTable.grown (es.size + 1)) = M + 1 → MaskOk M → (L.length + 1) * 5 < M * 3 → L.length + 1 ≤ t.mask →
            wpAny (model P w) A (setRelay a (SetTable.grown (es.size + 1))) (fun _ s' => wpAny (model P w) A (pure true) Q E s') E { s with heap := h1 } := fun M hw hM hb hl =>
          relay (s := { s with heap := h1 }) at1 ⟨ex.1, ex.2.1, ex.2.2⟩ rfl row1 cnt2 T2.dm (by rw [n2, m2]; exact hl) one1 txt1 (by rw [n3]; exact lit) hw hM (by rw [n3]; exact hb) fun h2 L2 es2 ep2 t3 sb2 R2 pm2 =>
            wpAny_pure <| q true h2 L2 es2 ep2 t3 (sb.trans sb2) R2 (fun z => absurd z m) fun _ => pm2.trans perm
        have run : wpAny (model P w) A (setRelay a (SetTable.grown (es.size + 1))) (fun _ s' => wpAny (model P w) A (pure true) Q E s') E { s with heap := h1 } := by
          rcases R.tab.mok with m7 | m31 | m127
          · have l4 : L.length = 4 := by omega
            exact go 31 (by rw [n1, l4]; exact grow5) (.inr (.inl rfl)) (by omega) (by omega)
          · have l18 : L.length = 18 := by omega
            exact go 127 (by rw [n1, l18]; exact grow19) (.inr (.inr rfl)) (by omega) (by omega)
          · omega
        first
          | exact wpAny_bind <| wp_if_pos (by rw [tf]; rfl) run
          | exact wp_if_pos (by rw [tf]; rfl) <| wpAny_bind run
      · have low : (L.length + 1) * 5 < t2.mask * 3 := by
          have z := tf
          unfold SetTable.tooFull at z
          rw [decide_eq_true_eq, f2] at z
          omega
        have R1 : TbR P w h1 a L1 es1 (ep + 1) t2 := ⟨⟨_, at1, ⟨ex.1, ex.2.1, ex.2.2⟩, rfl⟩, row1, T2, one1, txt1, by rw [n3]; exact low, by rw [n3]; exact lit⟩
        have run : wpAny (model P w) A (pure true) Q E { s with heap := h1 } := wpAny_pure <| q true h1 L1 es1 (ep + 1) t2 sb R1 (fun z => absurd z m) fun _ => perm
        first
          | exact wp_if_neg (by rw [Bool.not_eq_true] at tf; rw [tf]; decide) run
          | exact wpAny_bind <| wp_if_neg (by rw [Bool.not_eq_true] at tf; rw [tf]; decide) <| wpAny_pure run
    have fin2 : ∀ bv : Bool, wpAny (model P w) A (do
        storeSet a es1 (if bv = true then t1 else { t1 with plain := false })
        if !false && (if bv = true then t1 else { t1 with plain := false }).tooFull then setRelay a (SetTable.grown (es.size + 1))
        return true) Q E s := fun bv => by
      cases bv with
      | true => exact fin t1 T1 pm fill1
      | false => exact fin { t1 with plain := false } ⟨T1.ris, T1.dm, T1.sz, T1.mok, T1.bd, T1.reach⟩ pm fill1
    by_cases pl : t1.plain = true
    · first
        | exact wpAny_bind <| wp_if_pos pl <| val_tup hx fun bv => fin2 bv
        | exact wp_if_pos pl <| wpAny_bind <| val_tup hx fun bv => fin2 bv
    · first
        | exact wpAny_bind <| wp_if_neg pl <| wpAny_pure <| fin2 true
        | exact wp_if_neg pl <| wpAny_bind <| wpAny_pure <| fin2 true
        | exact wp_if_neg pl <| fin2 true
end
end LH

namespace LH
open PySem PySem.Spec L2 PyProof.Rows
/-! ### filling a set, whatever its kind -/
/-- what a set's list has to do with the first i of ks -/
structure Bag {κ : Type} (ks : List κ) (i : Nat) (L : List κ) : Prop where
  mem : ∀ k, k ∈ L ↔ k ∈ ks.take i
  le : L.length ≤ i
  all : L.length = i ↔ (ks.take i).Nodup
theorem Bag.none {κ : Type} (ks : List κ) : Bag ks 0 [] := ⟨fun k => by rw [List.take_zero], Nat.le_refl 0, by rw [List.take_zero]; exact ⟨fun _ => List.nodup_nil, fun _ => rfl⟩⟩
theorem nodup_end {κ : Type} {l : List κ} {x : κ} : (l ++ [x]).Nodup ↔ l.Nodup ∧ x ∉ l := by
  rw [List.nodup_append]
  constructor
  · rintro ⟨h1, _, h3⟩
    exact ⟨h1, fun m => h3 x m x (List.mem_singleton.mpr rfl) rfl⟩
  · rintro ⟨h1, h2⟩
    refine ⟨h1, List.nodup_cons.mpr ⟨List.not_mem_nil, List.nodup_nil⟩, fun y m z hz e => h2 ?_⟩
    rw [List.mem_singleton] at hz
    rw [← hz, ← e]
    exact m
theorem Bag.next {κ : Type} {ks L L' : List κ} {i : Nat} {k : κ} (b : Bag ks i L) (e : ks[i]? = some k) (c1 : k ∈ L → L' = L) (c2 : k ∉ L → L'.Perm (k :: L)) : Bag ks (i + 1) L' := by
  have et : ks.take (i + 1) = ks.take i ++ [k] := by
    rw [List.take_succ, e]
    rfl
  have bl := b.le
  by_cases m : k ∈ L
  · rw [c1 m]
    refine ⟨fun x => ?_, by omega, ⟨fun z => by omega, fun z => ?_⟩⟩
    · rw [et, List.mem_append, List.mem_singleton, b.mem x]
      exact ⟨Or.inl, fun z => z.elim id fun z => z ▸ (b.mem k).mp m⟩
    · rw [et, nodup_end] at z
      exact absurd ((b.mem k).mp m) z.2
  · have pm := c2 m
    have pl : L'.length = L.length + 1 := pm.length_eq
    refine ⟨fun x => ?_, by omega, ?_⟩
    · rw [et, List.mem_append, List.mem_singleton, pm.mem_iff, List.mem_cons, b.mem x]
      exact Or.comm
    · rw [et, nodup_end, ← b.all, pl, ← b.mem k]
      exact ⟨fun z => ⟨by omega, m⟩, fun z => by omega⟩
/-- a set at S may be added to -/
structure Adds (P : Program) (w : World) (A : Around) (h0 : Heap) (S : Addr) {κ : Type} (isV : κ → Value → Prop) (Is : Heap → List κ → Prop) : Prop where
  keep : ∀ h h' L, Is h L → (∀ o, h.get? S = some o → h'.get? S = some o) → (∀ b o, h0.get? b = some o → h'.get? b = some o) → Is h' L
  add : ∀ (E : Value → Shared → Prop) (s : Shared) (L : List κ) (k : κ) (v : Value) (Q : Bool → Shared → Prop), Is s.heap L → isV k v → (∀ b o, h0.get? b = some o → s.heap.get? b = some o) → L.length + 1 < 64 →
    (∀ r h' L' tk, s.toks ≤ tk → Heap.SameBut S s.heap h' → Is h' L' → (k ∈ L → L' = L) → (k ∉ L → L'.Perm (k :: L)) → Q r { s with heap := h', toks := tk }) → wpAny (model P w) A (setAdd S v) Q E s
section
variable {w : World} {P : Program} {A : Around} {E : Value → Shared → Prop} {s : Shared}
theorem bag_loop {κ : Type} {I S : Addr} {fp wr : List Addr} {G : Array GenState → Array GenState → Prop} {n : Nat} {Pv : Nat → Value → Prop} {St : Nat → Shared → Prop} {R : Result → Shared → Prop} {h0 : Heap} {isV : κ → Value → Prop} {Is : Heap → List κ → Prop}
    (W : WalksS P w A.in1 I fp wr G n Pv St) (B : Adds P w A.in1 h0 S isV Is) (nS : S ∉ fp) (ks : List κ) (hn : n = ks.length) (few : ks.length < 64) (val : ∀ i v, Pv i v → ∃ k, ks[i]? = some k ∧ isV k v) (nS0 : h0.get? S = none) (nw : ∀ b ∈ wr, h0.get? b = none) :
    ∀ (j i : Nat) (s : Shared), n - i = j → i ≤ n → St i s → (∀ b o, h0.get? b = some o → s.heap.get? b = some o) → (∃ L, Is s.heap L ∧ Bag ks i L) →
      (∀ s' L, Moved (S :: wr) G s s' → Is s'.heap L → Bag ks n L → (∀ b o, h0.get? b = some o → s'.heap.get? b = some o) → R (.ok (.ret .none)) s') → codeAny (model P w) A (.builtin "set.update.loop" ⟨[.ref S, .ref I], []⟩) R s := by
  have nSw : S ∉ wr := fun z => nS (W.sub _ z)
  have up : ∀ b ∈ wr, b ∈ S :: wr := fun b m => List.mem_cons_of_mem _ m
  have moved : ∀ {s s' : Shared}, Moved wr G s s' → (∀ b o, h0.get? b = some o → s.heap.get? b = some o) → ∀ b o, h0.get? b = some o → s'.heap.get? b = some o := fun mv kp b o e => mv.heap b o (fun m => by rw [nw b m] at e; cases e) (kp b o e)
  intro j
  induction j with
  | zero =>
    rintro i s hj hi st kp ⟨L, is, bg⟩ q
    cases (show i = n by omega)
    apply codeAny_builtin PyProof.Rows.F.entry_set_update_loop
    rw [Around.under_plainId PyProof.Rows.F.plain_set_update_loop]
    refine wpAny_bind <| W.done s _ _ st fun s' mv => ?_
    have kp' := moved mv kp
    exact wpAny_pure <| q s' L (mv.mono up) (B.keep _ _ L is (fun o e => mv.heap S o nSw e) kp') bg kp'
  | succ j ih =>
    rintro i s hj hi st kp ⟨L, is, bg⟩ q
    apply codeAny_builtin PyProof.Rows.F.entry_set_update_loop
    rw [Around.under_plainId PyProof.Rows.F.plain_set_update_loop]
    refine wpAny_bind <| W.item i s _ _ (by omega) st fun v s' pv st' mv => ?_
    obtain ⟨k, ek, iv⟩ := val i v pv
    have kp' := moved mv kp
    have bl := bg.le
    refine wpAny_bind <| wpAny_holding <| B.add _ s' L k v _ (B.keep _ _ L is (fun o e => mv.heap S o nSw e) kp') iv kp' (by omega) fun r h' L' tk ht sb is' c1 c2 => ?_
    have kp2 : ∀ b o, h0.get? b = some o → h'.get? b = some o := fun b o e => (sb.2 b fun z => by rw [z, nS0] at e; cases e).trans (kp' b o e)
    refine wpAny_pure ⟨plainId_quiet PyProof.Rows.F.plain_set_update_loop _, ih (i + 1) _ (by omega) (by omega) (W.frame _ s' _ _ st' ht fun b hb o e => ?_) kp2 ⟨L', is', bg.next ek c1 c2⟩ fun s2 L2 mv2 is2 bg2 k2 => ?_⟩
    · exact (sb.2 b fun z : b = S => nS (z ▸ hb)).trans e
    · refine q s2 L2 (Moved.trans W.gtrans ((mv.mono up).then_heap ht fun b o hb e => ?_) mv2) is2 bg2 k2
      exact (sb.2 b fun z : b = S => hb (z ▸ List.mem_cons_self)).trans e
end
end LH

namespace LH
open PySem PySem.Spec L2 PyProof.Rows
abbrev newS (w : World) : Obj := { cls := .type "set", dict := none, data := .set #[] 0 (.fresh 0 0 (!w.params.followText "set-order")) }
section
variable {w : World} {P : Program} {A : Around} {E : Value → Shared → Prop} {s : Shared}
theorem bag_call {κ : Type} {l : Addr} {isV : κ → Value → Prop} {Is : Heap → List κ → Prop} {items : Array Value} (it : s.heap.IsList l items ∨ s.heap.IsTuple l items) (hh : A.handled = none) (B : Adds P w A.in1.in1.in1 s.heap s.heap.objs.size isV Is) (ks : List κ) (len : items.size = ks.length) (few : ks.length < 64)
    (val : ∀ (i : Nat) (v : Value), items[i]? = some v → ∃ k, ks[i]? = some k ∧ isV k v) (new : ∀ h : Heap, h.get? s.heap.objs.size = some (newS w) → Is h []) {Q : Value → Shared → Prop}
    (q : ∀ (h' : Heap) (tk : Nat) (L : List κ), Is h' L → Bag ks ks.length L → (∀ b o, s.heap.get? b = some o → h'.get? b = some o) → Q (.ref s.heap.objs.size) { s with heap := h', toks := tk }) :
    (wpAny (model P w) A (call (.type "set") [.ref l]) Q E s) := by
  obtain ⟨_, _, c1⟩ := F.called_set.mro
  have c2 := F.called_set.made
  have c3 := F.called_set.sub
  apply wpAny_call (codeAny_of_tree _)
  refine wpAny_pure (a := _) ⟨Code.quiet_builtin _ (by decide +kernel), codeAny_builtin F.entry_type_call ?_⟩
  rewrite [Around.under_plain (weight_type_call_type "set" [.ref l] []) rfl]
  have c4 := F.called_set.notType
  have c5 := F.called_set.canCreate
  have c6 := F.typeCall_set_1 (.ref l)
  repeat any_goals first | assumption | wp_step
  refine codeAny_mono (code_set_led1 (.ref l) (E := E) (Q₁ := fun o s1 => o = .ref s.heap.objs.size ∧ s1 = { s with heap := s.heap.push (newS w) }) ⟨rfl, rfl⟩) fun r s1 hr => ?_
  match r, hr with
  | .error e, hr => exact hr
  | .ok (.ret o), hr =>
    obtain ⟨rfl, rfl⟩ := hr
    have at9 : (s.heap.push (newS w)).get? s.heap.objs.size = some (newS w) := Heap.get?_push_size _ rfl
    have ty : Shared.TypeIs { s with heap := s.heap.push (newS w) } (.ref s.heap.objs.size) "set" := ⟨_, at9, rfl⟩
    have c7 := F.called_set.init.lookup
    have c8 := F.called_set.init.bind (.ref s.heap.objs.size)
    repeat any_goals first | assumption | wp_step
    refine codeAny_mono (codeAny_call_builtin (R := wants (fun r s2 => r = .none ∧ ∃ h' tk L, s2 = { s with heap := h', toks := tk } ∧ Is h' L ∧ Bag ks ks.length L ∧ ∀ b o, s.heap.get? b = some o → h'.get? b = some o) E)
      F.called_set.init.plain F.entry_set_init (check_set_init_1 ty ?_)) fun r2 s2 hr2 => ?_
    · rcases it with hl | hl
      · have gone : ∀ b, s.heap.objs.size ≤ b → s.heap.get? b = none := fun b le => by
          cases g : s.heap.get? b with
          | none => rfl
          | some o => exact absurd (Heap.lt_size g) (Nat.not_lt.mpr le)
        obtain ⟨⟨oc, od, odt, osl⟩, at0, e1, n, e2⟩ := hl
        cases (show oc = .type "list" from e1)
        cases (show odt = .seq items n from e2)
        have at1 : (s.heap.push (newS w)).get? l = some ⟨.type "list", od, .seq items n, osl⟩ := Heap.get?_push_of_some _ at0
        have i1 := F.sub_list_set
        have i2 := F.sub_list_frozenset
        have i3 : (Value.type "list" == Value.type "dict") = false := by decide
        have hl1 : (s.heap.push (newS w)).IsList l items := ⟨_, at1, rfl, n, rfl⟩
        unfold Builtin.«set.__init__» Builtin.Frozenset.updateFrom noKeywords
        generalize ePI : pyIter = pIt
        wp_walk
        subst ePI
        refine wpAny_pyIter_list hl1 <| wpAny_bind <| wpAny_runValue ?_
        have below : l < s.heap.objs.size := Heap.lt_size at0
        have sz : (s.heap.push (newS w)).objs.size = s.heap.objs.size + 1 := Heap.size_push ..
        have ne : l ≠ (s.heap.push (newS w)).objs.size := Nat.ne_of_lt (by rw [sz]; exact Nat.lt_succ_of_lt below)
        have nf : s.heap.objs.size ∉ [(s.heap.push (newS w)).objs.size, l] := fun z => by
          (rcases List.mem_cons.mp z with z | z)
          · rw [sz] at z
            exact absurd z (Nat.ne_of_lt (Nat.lt_succ_self _))
          · exact absurd (List.mem_singleton.mp z) (Nat.ne_of_gt below)
        have quiet : A.in1.in1.in1.handled = none := by simp [hh]
        refine bag_loop (Walks.list quiet _ l ne items).toS B nf ks len few val (gone _ (Nat.le_refl _)) (fun b m => gone b ?_) (items.size - 0) 0 _ rfl (Nat.zero_le _) ⟨⟨_, Heap.get?_push_size _ rfl, rfl, rfl⟩, hl1.push _⟩
          (fun b o e => Heap.get?_push_of_some _ (Heap.get?_push_of_some _ e)) ⟨[], new _ ?_, Bag.none ks⟩ fun s' L mv is bg kp => ?_
        · rw [List.mem_singleton.mp m, sz]
          exact Nat.le_succ _
        · (exact Heap.get?_push_of_some _ (Heap.get?_push_size _ rfl))
        · obtain ⟨h', g', d', tk, os'⟩ := s'
          cases (show g' = s.gens from mv.gens)
          cases (show d' = s.drawn from mv.drawn)
          cases (show os' = s.os from mv.os)
          rw [len] at bg
          refine wpAny_pure ?_
          exact wpAny_pure ⟨rfl, h', tk, L, rfl, is, bg, kp⟩
      · have gone : ∀ b, s.heap.objs.size ≤ b → s.heap.get? b = none := fun b le => by
          cases g : s.heap.get? b with
          | none => rfl
          | some o => exact absurd (Heap.lt_size g) (Nat.not_lt.mpr le)
        obtain ⟨⟨oc, od, odt, osl⟩, at0, e1, n, e2⟩ := hl
        cases (show oc = .type "tuple" from e1)
        cases (show odt = .seq items n from e2)
        have at1 : (s.heap.push (newS w)).get? l = some ⟨.type "tuple", od, .seq items n, osl⟩ := Heap.get?_push_of_some _ at0
        have i1 := F.sub_tuple_set
        have i2 := F.sub_tuple_frozenset
        have i3 : (Value.type "tuple" == Value.type "dict") = false := by decide
        have hl1 : (s.heap.push (newS w)).IsTuple l items := ⟨_, at1, rfl, n, rfl⟩
        unfold Builtin.«set.__init__» Builtin.Frozenset.updateFrom noKeywords
        generalize ePI : pyIter = pIt
        wp_walk
        subst ePI
        refine wpAny_pyIter_tuple hl1 <| wpAny_bind <| wpAny_runValue ?_
        have below : l < s.heap.objs.size := Heap.lt_size at0
        have sz : (s.heap.push (newS w)).objs.size = s.heap.objs.size + 1 := Heap.size_push ..
        have ne : l ≠ (s.heap.push (newS w)).objs.size := Nat.ne_of_lt (by rw [sz]; exact Nat.lt_succ_of_lt below)
        have nf : s.heap.objs.size ∉ [(s.heap.push (newS w)).objs.size, l] := fun z => by
          (rcases List.mem_cons.mp z with z | z)
          · rw [sz] at z
            exact absurd z (Nat.ne_of_lt (Nat.lt_succ_self _))
          · exact absurd (List.mem_singleton.mp z) (Nat.ne_of_gt below)
        have quiet : A.in1.in1.in1.handled = none := by simp [hh]
        refine bag_loop (Walks.tuple quiet _ l ne items).toS B nf ks len few val (gone _ (Nat.le_refl _)) (fun b m => gone b ?_) (items.size - 0) 0 _ rfl (Nat.zero_le _) ⟨⟨_, Heap.get?_push_size _ rfl, rfl, rfl⟩, hl1.push _⟩
          (fun b o e => Heap.get?_push_of_some _ (Heap.get?_push_of_some _ e)) ⟨[], new _ ?_, Bag.none ks⟩ fun s' L mv is bg kp => ?_
        · rw [List.mem_singleton.mp m, sz]
          exact Nat.le_succ _
        · (exact Heap.get?_push_of_some _ (Heap.get?_push_size _ rfl))
        · obtain ⟨h', g', d', tk, os'⟩ := s'
          cases (show g' = s.gens from mv.gens)
          cases (show d' = s.drawn from mv.drawn)
          cases (show os' = s.os from mv.os)
          rw [len] at bg
          refine wpAny_pure ?_
          exact wpAny_pure ⟨rfl, h', tk, L, rfl, is, bg, kp⟩
    · match r2, hr2 with
      | .error e, hr2 => exact hr2
      | .ok (.ret r), hr2 =>
        obtain ⟨rfl, h', tk, L, rfl, is, bg, kp⟩ := hr2
        repeat any_goals first | assumption | wp_step
        exact q _ _ _ is bg kp
end
end LH

namespace LH
open PySem PySem.Spec L2 PyProof.Rows
/-! ### the two kinds, and len(set(..)) -/
section
variable {P : Program} {w : World} {A : Around} {s : Shared} {h0 : Heap} {S : Addr}
/-- a set of texts -/
def SetS (P : Program) (w : World) (S : Addr) (h : Heap) (L : List Str) : Prop := h.SetOf (PySem.strKind P w) S (fun z => decide (z ∈ L)) L.length ∧ L.length < 64
theorem adds_text : Adds P w A h0 S (fun (z : Str) v => ∃ c, v = Value.str z c) (SetS P w S) where
  keep := fun h h' L is k _ => by
    obtain ⟨⟨o, es, ep, t, at0, r⟩, l⟩ := is
    exact ⟨⟨o, es, ep, t, k o at0, r⟩, l⟩
  add := fun E s L z v Q is iv kp few q => by
    obtain ⟨c, rfl⟩ := iv
    unfold setAdd
    refine wpAny_holding <| wpAny_bind <| (PySem.strKind P w).pyHash (k := z) (strKind_is _ _ _ _) ?_
    refine wpAny_setAddHashed_of (knd := PySem.strKind P w) (s := { s with toks := s.toks + 1 }) (strKind_is _ _ _ _) rfl is.1 (by unfold scanBound; omega) fun h' sb so => ?_
    by_cases m : z ∈ L
    · refine q _ h' L _ (Nat.le_succ _) sb ⟨SetOf_congr so (fun y => ?_) ?_, by omega⟩ (fun _ => rfl) fun z => absurd m z
      · by_cases e : y = z
        · rw [e, decide_eq_true m]; rfl
        · rw [decide_eq_false e, Bool.or_false]
      · rw [if_pos (decide_eq_true m)]
    · refine q _ h' (z :: L) _ (Nat.le_succ _) sb ⟨SetOf_congr so (fun y => ?_) ?_, few⟩ (fun z => absurd z m) fun _ => List.Perm.refl _
      · by_cases e : y = z
        · rw [e, decide_eq_true (show z ∈ z :: L from List.mem_cons_self), decide_eq_true (show z = z from rfl), Bool.or_true]
        · have ee : decide (y ∈ z :: L) = decide (y ∈ L) := by
            rw [decide_eq_decide, List.mem_cons]
            exact ⟨fun h => h.elim (fun h => absurd h e) id, Or.inr⟩
          rw [ee, decide_eq_false e, Bool.or_false]
      · rw [if_neg (by rw [decide_eq_false m]; exact Bool.false_ne_true)]
        rfl
/-- a set of tuples of texts -/
def SetT (P : Program) (w : World) (h0 : Heap) (S : Addr) (h : Heap) (L : List (List Str)) : Prop := ∃ Lp es ep t, TbR P w h S Lp es ep t ∧ Lp.map (·.2) = L ∧ ∀ p ∈ Lp, TxAt P w h0 p.2 p.1
theorem adds_tup (hu : A.units < cLine) : Adds P w A h0 S (fun (k : List Str) v => ∃ b, v = Value.ref b ∧ TxAt P w h0 k b) (SetT P w h0 S) where
  keep := fun h h' L is k kp => by
    obtain ⟨Lp, es, ep, t, R, e, tx⟩ := is
    obtain ⟨o, at0, r⟩ := R.obj
    exact ⟨Lp, es, ep, t, ⟨⟨o, k o at0, r⟩, R.row, R.tab, R.one, fun p m => tx_kept (tx p m) kp, R.big, R.lit⟩, e, tx⟩
  add := fun E s L k v Q is iv kp few q => by
    obtain ⟨b, rfl, x0⟩ := iv
    obtain ⟨Lp, es, ep, t, R, rfl, tx⟩ := is
    have x := tx_kept x0 kp
    unfold setAdd
    refine wpAny_holding <| wpAny_bind <| wpAny_pyHash_tuple hu x ?_
    rw [List.length_map] at few
    refine tab_add (s := { s with toks := s.toks + (k.length + 1) }) R x hu few fun r h' L' es' ep' t' sb R' c1 c2 => ?_
    refine q r h' (L'.map (·.2)) _ (Nat.le_add_right _ _) sb ⟨L', es', ep', t', R', rfl, fun p m => ?_⟩ (fun m => by rw [c1 m]) fun m => (c2 m).map (·.2)
    by_cases m2 : k ∈ Lp.map (·.2)
    · rw [c1 m2] at m
      exact tx p m
    · cases (c2 m2).mem_iff.mp m with
      | head => exact x0
      | tail _ m => exact tx p m
theorem new_text (h : Heap) (e : h.get? S = some (newS w)) : SetS P w S h [] :=
  ⟨SetOf_congr ((setObjOf_fresh (knd := PySem.strKind P w) _).setOf e (by unfold scanBound; omega)) (fun _ => rfl) rfl, by decide⟩
theorem new_tup (h : Heap) (e : h.get? S = some (newS w)) : SetT P w h0 S h [] :=
  ⟨[], #[], 0, _, ⟨⟨_, e, ⟨rfl, rfl, rfl⟩, rfl⟩, rfl, ⟨List.Pairwise.nil, rfl, rfl, .inl rfl, fun x m => absurd m List.not_mem_nil, fun i h j m => absurd m (by rw [show txHs P w [] = [] from rfl, List.getElem?_nil]; exact fun z => nomatch z)⟩, List.nodup_nil, fun p m => absurd m List.not_mem_nil, by show 0 * 5 < 7 * 3; decide, by decide⟩, rfl, fun p m => absurd m List.not_mem_nil⟩
end
end LH

namespace LH
open PySem PySem.Spec L2 PyProof.Rows
/-! ### sorted(a tuple of texts); len(set(..)) of texts, of tuples of texts -/
def tLenSetD (K : PySem.W.Frag) (ta : TE) : TE := fun σ H Q => ta σ H fun x H1 => ∃ (l : Addr) (us : List V), x = .ref l ∧ (SqL K H1 l us ∨ SqT K H1 l us) ∧ us.length < 64 ∧
  ((∃ xs : List Str, us = xs.map V.str ∧ ∀ n : Nat, n ≤ xs.length → (n = xs.length ↔ xs.Nodup) → Q (.int (n : Int)) H1) ∨
    ∃ ks : List (Addr × List Str), us = ks.map (fun p => V.ref p.1) ∧ (∀ p ∈ ks, SqT K H1 p.1 (p.2.map V.str)) ∧ ∀ n : Nat, n ≤ ks.length → (n = ks.length ↔ (ks.map (·.2)).Nodup) → Q (.int (n : Int)) H1)
section
variable {X : Cx}
theorem items_of {P : Program} {w : World} : ∀ {us : List Value} {xs : List Str}, StrsAre us xs → PySem.ItemsAre (PySem.strKind P w) xs us
  | _, _, .nil => .nil
  | _, _, .cons z c r => .cons (strKind_is _ _ z c) (items_of r)
theorem tx_of {pins : List (Addr × Obj)} {σ : L2.St} {H : Hp} {s : Shared} (I : Inv X pins σ H s) {b : Addr} {k : List Str} (h : SqT X.K H b (k.map V.str)) : TxAt X.prog X.w s.heap k b := by
  obtain ⟨its, r, ⟨o, e, c, n, d⟩, _⟩ := I.tuple h
  exact ⟨o, its.toArray, n, e, c, d, items_of r.strs⟩
theorem refs_at : ∀ {ks : List (Addr × List Str)} {us : List Value}, Vals (ks.map fun p => V.ref p.1) us → us = ks.map fun p => Value.ref p.1
  | [], _, .nil => rfl
  | p :: ks, _ :: us, .cons r t => by
    cases (show _ = Value.ref p.1 from r)
    rw [refs_at t]
    rfl
/-- len of a set that is filled -/
theorem len_bag {κ : Type} {ks L : List κ} (b : Bag ks ks.length L) : L.length ≤ ks.length ∧ (L.length = ks.length ↔ ks.Nodup) := ⟨b.le, by have z := b.all; rw [List.take_length] at z; exact z⟩
theorem pe_lenSetD {a : Expr} {ta : TE} {p p2 q pos : Pos} (hc : X.calm = true) (hu : X.A.units + 64 < cLine) (hg : Gl X "len") (hm : X.mg "len" = none) (hg2 : Gl X "set") (hm2 : X.mg "set" = none) (ha : PE X a ta)
    (na : starEach [a] X.env = (false, eval a X.env) :: starEach [] X.env := by rfl) : PE X (.Call (.Name "len" p) [.Call (.Name "set" p2) [a] [] q] [] pos) (tLenSetD X.K ta) := by
  (refine ⟨fun pins s σ H Q I h => ?_⟩)
  refine Call_ <| ld_blt I hg hm PySem.boot_len <| PyProof.Rows.callWith_builtin1 (PyProof.Rows.args_cons ?_ rfl) rfl rfl
  refine Call_ <| ld_blt I hg2 hm2 PyProof.Rows.boot_set ?_
  refine PyProof.Rows.callWith_type1 (PyProof.Rows.args_cons (thn (ha.run pins s σ H _ I h) fun _ s1 ⟨x, H1, I1, r1, q1⟩ => PyProof.Rows.args_nil ?_) na) na rfl
  obtain ⟨l, us, rfl, hq, few, q1⟩ := q1
  cases r1
  obtain ⟨its, r, it⟩ : ∃ its : List Value, Vals us its ∧ (s1.heap.IsList l its.toArray ∨ s1.heap.IsTuple l its.toArray) := by
    rcases hq with hq | hq
    · obtain ⟨its, r, pl, _⟩ := I1.list hq
      exact ⟨its, r, .inl pl.isList⟩
    · obtain ⟨its, r, ⟨o, e, c, n, d⟩, _⟩ := I1.tuple hq
      exact ⟨its, r, .inr ⟨o, e, c, n, d⟩⟩
  have len : its.toArray.size = us.length := by rw [List.size_toArray, ← r.length]
  have units : X.A.in1.in1.in1.units < cLine := by
    show X.A.units + 3 < cLine
    omega
  rcases q1 with ⟨xs, rfl, q1⟩ | ⟨ks, rfl, tx, q1⟩
  · rw [List.length_map] at len few
    refine bag_call it (I1.ok.hd hc) adds_text xs len few (fun i v e => ?_) new_text fun h' tk L is bg kp => PyProof.Rows.args_nil ?_
    · obtain ⟨z, c, ev, ez⟩ := r.strs.item i v (by rw [← Array.getElem?_toList] at e; exact e)
      exact ⟨z, ez, c, ev⟩
    · obtain ⟨⟨o, es, ep, t, ho, hex, hd, _, _, _, hf, hn⟩, lt⟩ := is
      obtain ⟨b1, b2⟩ := len_bag bg
      have J2 : Inv X pins σ H1 { s1 with heap := h', toks := tk } := I1.kept kp
      refine call_len_set ho hex hd hf (by rw [hn]; omega) ⟨.int (L.length : Int), H1, J2.tok _, ⟨_, by rw [hn]⟩, q1 L.length b1 b2⟩
  · rw [List.length_map] at len few
    have er := refs_at r
    refine bag_call it (I1.ok.hd hc) (adds_tup units) (ks.map (·.2)) (by rw [List.length_map]; exact len) (by rw [List.length_map]; exact few) (fun i v e => ?_) new_tup fun h' tk L is bg kp => PyProof.Rows.args_nil ?_
    · rw [← Array.getElem?_toList, er] at e
      have e' : (ks.map fun p => Value.ref p.1)[i]? = some v := e
      rw [List.getElem?_map] at e'
      cases ei : ks[i]? with
      | none => rw [ei] at e'; cases e'
      | some p =>
        rw [ei] at e'
        cases e'
        exact ⟨p.2, by rw [List.getElem?_map, ei]; rfl, p.1, rfl, tx_of I1 (tx p (List.mem_of_getElem? ei))⟩
    · obtain ⟨Lp, es, ep, t, R, rfl, _⟩ := is
      obtain ⟨o, ho, hex, hd⟩ := R.obj
      have hn := row_len R.row
      obtain ⟨b1, b2⟩ := len_bag bg
      rw [List.length_map, List.length_map] at b1 b2
      have lt := R.lit
      have J2 : Inv X pins σ H1 { s1 with heap := h', toks := tk } := I1.kept kp
      refine call_len_set ho hex hd R.fit (by rw [hn]; omega) ⟨.int (Lp.length : Int), H1, J2.tok _, ⟨_, by rw [hn]⟩, q1 Lp.length b1 b2⟩
end
/-! over data -/
section
variable {K : PySem.W.Frag} {env : Env0'} {ta : TE}
theorem ee_lenSetS {xs : List Str} {d : Dt} (hd : d = .list (xs.map PyData.str) ∨ d = .tuple (xs.map PyData.str)) (h : EvE K ta env d) (hl : xs.length < 64) {b : Bool} (hb : b = decide xs.Nodup) {te2 : TE} (h2 : EvE K te2 env (.int (xs.length : Int))) :
    EvE K (tOp (rEqD K) (tLenSetD K ta) te2) env (.bool b) := fun σ G H gh s Q q => h σ G H gh s _ fun v G2 H2 e dv => by
  have fin : ∀ (us : List V), DqAll K G2 us (xs.map PyData.str) → ∀ n : Nat, n ≤ xs.length → (n = xs.length ↔ xs.Nodup) → te2 σ H2 fun y H3 => rEqD K (.int (n : Int)) y H3 Q := fun us hu n h1 h3 => by
    refine h2 σ G2 H2 e.gh (s.mono e.gg) _ fun y G3 H3 e3 dy => ?_
    cases dy
    refine ⟨.int n, .int xs.length, .int _, .int _, rfl, rfl, ?_⟩
    have eb : PyData.eqv (.int (n : Int)) (.int (xs.length : Int)) = b := by
      rw [hb]
      show ((n : Int) == (xs.length : Int)) = _
      by_cases hn : n = xs.length
      · rw [decide_eq_true (h3.mp hn), hn, beq_self_eq_true]
      · rw [decide_eq_false (fun z => hn (h3.mpr z))]
        exact beq_eq_false_iff_ne.mpr fun z => hn (Int.ofNat.inj z)
    rw [eb]
    exact q _ G3 H3 (e.trans e3) (.bl b)
  rcases hd with rfl | rfl
  · cases dv with
    | @lst p us _ hs hx =>
      have eu := dpsStrs hx
      subst eu
      exact ⟨p, _, rfl, .inl (e.gh.seq hs), by rw [List.length_map]; exact hl, .inl ⟨xs, rfl, fin _ hx⟩⟩
  · cases dv with
    | @tup p us _ hs hx =>
      have eu := dpsStrs hx
      subst eu
      exact ⟨p, _, rfl, .inr (sameT e.gh hs), by rw [List.length_map]; exact hl, .inl ⟨xs, rfl, fin _ hx⟩⟩
/-- tuples of texts -/
def tupD (ks : List Str) : Dt := .tuple (ks.map PyData.str)
theorem dpsTups : ∀ {G : Hp} {us : List V} {kss : List (List Str)}, DqAll K G us (kss.map tupD) → ∃ ks : List (Addr × List Str), us = ks.map (fun p => V.ref p.1) ∧ ks.map (·.2) = kss ∧ ∀ p ∈ ks, SqT K G p.1 (p.2.map V.str)
  | _, _, [], .nil => ⟨[], rfl, rfl, fun _ h => nomatch h⟩
  | _, _, k :: kss, .cons h t => by
    obtain ⟨ks, e1, e2, e3⟩ := dpsTups t
    cases h with
    | @tup p xs _ hs hd =>
      have eu := dpsStrs hd
      subst eu
      refine ⟨(p, k) :: ks, by rw [e1]; rfl, by rw [List.map_cons, e2], fun q hq => ?_⟩
      rcases List.mem_cons.mp hq with z | z
      · rw [z]
        exact hs
      · exact e3 q z
theorem ee_lenSetT {kss : List (List Str)} {d : Dt} (hd : d = .list (kss.map tupD) ∨ d = .tuple (kss.map tupD)) (h : EvE K ta env d) (hl : kss.length < 64) {b : Bool} (hb : b = decide kss.Nodup) {te2 : TE} (h2 : EvE K te2 env (.int (kss.length : Int))) :
    EvE K (tOp (rEqD K) (tLenSetD K ta) te2) env (.bool b) := fun σ G H gh s Q q => h σ G H gh s _ fun v G2 H2 e dv => by
  have fin : ∀ n : Nat, n ≤ kss.length → (n = kss.length ↔ kss.Nodup) → te2 σ H2 fun y H3 => rEqD K (.int (n : Int)) y H3 Q := fun n h1 h3 => by
    refine h2 σ G2 H2 e.gh (s.mono e.gg) _ fun y G3 H3 e3 dy => ?_
    cases dy
    refine ⟨.int n, .int kss.length, .int _, .int _, rfl, rfl, ?_⟩
    have eb : PyData.eqv (.int (n : Int)) (.int (kss.length : Int)) = b := by
      rw [hb]
      show ((n : Int) == (kss.length : Int)) = _
      by_cases hn : n = kss.length
      · rw [decide_eq_true (h3.mp hn), hn, beq_self_eq_true]
      · rw [decide_eq_false (fun z => hn (h3.mpr z))]
        exact beq_eq_false_iff_ne.mpr fun z => hn (Int.ofNat.inj z)
    rw [eb]
    exact q _ G3 H3 (e.trans e3) (.bl b)
  have go : ∀ (us : List V) (l : Addr), DqAll K G2 us (kss.map tupD) → (SqL K H2 l us ∨ SqT K H2 l us) → ∃ (l' : Addr) (us : List V), V.ref l = .ref l' ∧ (SqL K H2 l' us ∨ SqT K H2 l' us) ∧ us.length < 64 ∧
      ((∃ xs : List Str, us = xs.map V.str ∧ ∀ n : Nat, n ≤ xs.length → (n = xs.length ↔ xs.Nodup) → te2 σ H2 fun y H3 => rEqD K (.int (n : Int)) y H3 Q) ∨
        ∃ ks : List (Addr × List Str), us = ks.map (fun p => V.ref p.1) ∧ (∀ p ∈ ks, SqT K H2 p.1 (p.2.map V.str)) ∧ ∀ n : Nat, n ≤ ks.length → (n = ks.length ↔ (ks.map (·.2)).Nodup) → te2 σ H2 fun y H3 => rEqD K (.int (n : Int)) y H3 Q) := fun us l hx hs => by
    have hlen := dpsLen hx
    obtain ⟨ks, e1, e2, e3⟩ := dpsTups hx
    refine ⟨l, us, rfl, hs, by rw [hlen, List.length_map]; exact hl, .inr ⟨ks, e1, fun p hp => sameT e.gh (e3 p hp), fun n h1 h3 => fin n ?_ ?_⟩⟩
    · rw [← e2, List.length_map]
      exact h1
    · rw [← e2, List.length_map]
      exact h3
  rcases hd with rfl | rfl
  · cases dv with
    | @lst p us _ hs hx => exact go us p hx (.inl (e.gh.seq hs))
  · cases dv with
    | @tup p us _ hs hx => exact go us p hx (.inr (sameT e.gh hs))
/-- sorted of two texts in a tuple -/
def sort2 (a b : Str) : List Str := if sortedS [a, b] = true then [a, b] else [b, a]
theorem lt_tri : ∀ (x y : List Nat), ltCps x y = false → ltCps y x = false → x = y
  | [], [], _, _ => rfl
  | [], b :: y, h, _ => by simp [ltCps] at h
  | a :: x, [], _, h => by simp [ltCps] at h
  | a :: x, b :: y, h1, h2 => by
    simp only [ltCps] at h1 h2
    by_cases hab : a < b
    · simp [hab] at h1
    · by_cases hba : b < a
      · simp [hba] at h2
      · have e : a = b := by omega
        subst e
        simp at h1 h2
        rw [lt_tri x y h1 h2]
theorem lt_asym : ∀ (x y : List Nat), ltCps x y = true → ltCps y x = true → False
  | [], [], h, _ => by simp [ltCps] at h
  | [], b :: y, _, h => by simp [ltCps] at h
  | a :: x, [], h, _ => by simp [ltCps] at h
  | a :: x, b :: y, h1, h2 => by
    simp only [ltCps] at h1 h2
    by_cases hab : a < b
    · have hba : ¬ b < a := by omega
      have hne : ¬ b = a := by omega
      simp [hba, hne] at h2
    · by_cases hba : b < a
      · have hne : ¬ a = b := by omega
        simp [hab, hne] at h1
      · have e : a = b := by omega
        subst e
        simp at h1 h2
        exact lt_asym x y h1 h2
theorem sorted2 (a b : Str) : sortedS [a, b] = !ltCps b.cps.toList a.cps.toList := by
  show (!ltCps b.cps.toList a.cps.toList && true) = _
  rw [Bool.and_true]
theorem ee_sort2 {a b : Str} (h : EvE K ta env (tupD [a, b])) : EvE K (tCB (rSortTS K) (tCons ta tNil)) env (.list ((sort2 a b).map PyData.str)) := fun σ G H gh s Q q => h σ G H gh s _ fun v G2 H2 e dv => by
  cases dv with
  | @tup p us _ hs hx =>
    have eu := dpsStrs hx
    subst eu
    refine ⟨p, [a, b], rfl, sameT e.gh hs, (by show 2 < 64; decide), fun ys l pm so nl => ?_⟩
    have ey : ys = sort2 a b := by
      have two : ys = [a, b] ∨ ys = [b, a] := by
        have hl : ys.length = 2 := pm.length_eq
        match ys, hl with
        | [c, d], _ =>
          have hc : c ∈ [a, b] := pm.mem_iff.mp List.mem_cons_self
          rcases List.mem_cons.mp hc with e | e
          · rw [e] at pm
            have z := (List.perm_cons a).mp pm
            rw [List.perm_singleton.mp z, e]
            exact .inl rfl
          · have e := List.mem_singleton.mp e
            rw [e] at pm
            have z := (List.perm_cons b).mp (pm.trans (List.Perm.swap b a []))
            rw [List.perm_singleton.mp z, e]
            exact .inr rfl
      unfold sort2
      rcases two with rfl | rfl
      · rw [if_pos so]
      · by_cases c : sortedS [a, b] = true
        · rw [if_pos c]
          rw [sorted2] at so c
          have h1 : ltCps a.cps.toList b.cps.toList = false := by simpa using so
          have h2 : ltCps b.cps.toList a.cps.toList = false := by simpa using c
          have e : a = b := TL.ext_tl (lt_tri _ _ h1 h2)
          rw [e]
        · rw [if_neg c]
    subst ey
    exact q _ _ _ (e.trans (Gw.new e.gh nl)) (.lst (.inl (.inl upd_same)) (dpsM (sameU (e.gh.free nl)) (dpsOfStrs _)))
end
end LH

namespace LH
open PySem PySem.Spec L2 PyProof.Rows
/-! ### ways that are known -/
section
variable {K : PySem.W.Frag} {env : Env0'} {ta tb te : TE} {t u : TT} {M : MuL} {d : Dt} {a b : TS}
theorem ee_andF (h : EvE K ta env (.bool false)) : EvE K (tAndV ta tb) env (.bool false) := ee_and (b := false) h fun z => absurd z Bool.false_ne_true
theorem ee_andT {c : Bool} (h : EvE K ta env (.bool true)) (h2 : EvE K tb env (.bool c)) : EvE K (tAndV ta tb) env (.bool c) := ee_and (a := true) h fun _ => h2
theorem eb_orT (h : EvB K t env true) : EvB K (tOr t u) env true := eb_or (b := true) h fun z => absurd z.symm Bool.false_ne_true
theorem eb_orF {c : Bool} (h : EvB K t env false) (h2 : EvB K u env c) : EvB K (tOr t u) env c := eb_or (a := false) h fun _ => h2
theorem rt_yes (h : EvB K t env true) (h1 : RtE K a env M d) : RtE K (tSeq (tIfS t a tNext) b) env M d := rt_ifs h (fun _ => h1) fun z => absurd z.symm Bool.false_ne_true
theorem rt_no (h : EvB K t env false) (h1 : RtE K b env M d) : RtE K (tSeq (tIfS t a tNext) b) env M d := rt_ifs h (fun z => absurd z Bool.false_ne_true) fun _ => h1
end
/-! ### data that is small enough, texts that may be -/
mutual
def smD : Dt → Bool
  | .str z => decide (z.length ≤ 100000) && PyData.canLay0 (.str z)
  | .list ds => decide (ds.length ≤ 100000) && smAll ds
  | .tuple ds => decide (ds.length ≤ 100000) && smAll ds
  | .dict _ => false
  | _ => true
def smAll : List Dt → Bool
  | [] => true
  | d :: ds => smD d && smAll ds
end
theorem smAll_all : ∀ ds : List Dt, smAll ds = true → ∀ d ∈ ds, smD d = true
  | [], _, _, h => nomatch h
  | d :: ds, h, e, he => by
    unfold smAll at h
    rw [Bool.and_eq_true] at h
    rcases List.mem_cons.mp he with z | z
    · rw [z]
      exact h.1
    · exact smAll_all ds h.2 e z
theorem smD_tup {ds : List Dt} (h : smD (.tuple ds) = true) : ds.length ≤ 100000 ∧ ∀ d ∈ ds, smD d = true := by
  unfold smD at h
  (rw [Bool.and_eq_true, decide_eq_true_eq] at h)
  exact ⟨h.1, smAll_all ds h.2⟩
theorem smD_str {z : Str} (h : smD (.str z) = true) : z.length ≤ 100000 ∧ PyData.canLay0 (.str z) = true := by
  unfold smD at h
  (rw [Bool.and_eq_true, decide_eq_true_eq] at h)
  exact h
theorem lenD_str {z : Str} (h : smD (.str z) = true) : lenD (.str z) = some z.length := if_pos (smD_str h).1
theorem shaped_str {z : Str} (h : smD (.str z) = true) : SeqAt.shaped (.str z) = true := by
  unfold SeqAt.shaped
  rw [(smD_str h).2]
  rfl
/-! ### the mirrors -/
def isNumD : Dt → Bool
  | .int _ => true
  | _ => false
def isWithinD (d : Dt) (a b : Int) : Bool := match d with
  | .int i => decide (a ≤ i) && decide (i ≤ b)
  | _ => false
def signIn (w : Str) : Dt → Bool
  | .str s => match s.cps.toList with
    | [c] => decide (c ∈ w.cps.toList)
    | _ => false
  | _ => false
def lowers : Str := "abcdefghijklmnopqrstuvwxyz"
def isNameD : Dt → Bool
  | .str z => (decide ((1 : Int) ≤ (z.length : Int)) && decide ((z.length : Int) ≤ 8)) && (signsD z).all (signIn lowers)
  | _ => false
def isTupD (d : Dt) (a b : Int) : Bool := match d with
  | .tuple ds => decide (a ≤ (ds.length : Int)) && decide ((ds.length : Int) ≤ b)
  | _ => false
def isAddrD : Dt → Bool
  | .tuple [x, y] => isNameD x && isNameD y
  | _ => false
def isPeopleD (d : Dt) : Bool := match d with
  | .tuple ds => isTupD d 1 4 && ds.all isNameD
  | _ => false
def strOf : Dt → Str
  | .str s => s
  | _ => ""
def addrOf : Dt → List Str
  | .tuple ds => ds.map strOf
  | _ => []
def isLohD : Dt → Bool
  | .tuple [n, .tuple as] => isNameD n && (isTupD (.tuple as) 1 4 && (as.all isAddrD && decide ((as.map addrOf).Nodup)))
  | _ => false
def isListsD (d : Dt) : Bool := match d with
  | .tuple ds => isTupD d 0 3 && ds.all isLohD
  | _ => false
def waysD : List Dt := [.str "plain", .str "marked", .str "packed"]
def isWaysD (d : Dt) : Bool := match d with
  | .tuple ds => isTupD d 1 3 && PyData.eqv d (.tuple (waysD.filter fun w => ds.any fun z => PyData.eqv z w))
  | _ => false
def fstOf : Dt → Dt
  | .tuple (x :: _) => x
  | _ => .none
def elems : Dt → List Dt
  | .tuple ds => ds
  | .list ds => ds
  | _ => []
def namesD (people lists : Dt) : List Dt := elems people ++ (elems lists).map fstOf
def isHouseD : Dt → Bool
  | .tuple [name, people, lists, ways, most] => (isNameD name && (isPeopleD people && isListsD lists)) &&
      ((!((namesD people lists).any fun z => PyData.eqv z (.str "post")) && decide (((namesD people lists).map strOf).Nodup)) && (isWaysD ways && isWithinD most 400 9000))
  | _ => false
def isHousesD (d : Dt) : Bool := match d with
  | .tuple ds => (isTupD d 1 5 && ds.all isHouseD) && decide ((ds.map fun h => strOf (fstOf h)).Nodup)
  | _ => false
def isLinkD (d : Dt) (names : List Dt) : Bool := match d with
  | .tuple [x, y, n] => ((names.any fun z => PyData.eqv z x) && (names.any fun z => PyData.eqv z y)) && (!PyData.eqv x y && isWithinD n 1 4)
  | _ => false
def pairOf : Dt → List Str
  | .tuple (x :: y :: _) => sort2 (strOf x) (strOf y)
  | _ => []
def isLinksD (d : Dt) (names : List Dt) : Bool := match d with
  | .tuple ds => (isTupD d 0 8 && ds.all fun l => isLinkD l names) && decide ((ds.map pairOf).Nodup)
  | _ => false
def isPlanD : Dt → Bool
  | .tuple [hs, ls] => isHousesD hs && isLinksD ls ((elems hs).map fstOf)
  | _ => false
/-! where they are promised -/
def okWays : Dt → Bool
  | .tuple ds => ds.all flatD
  | _ => true
def okHouse (d : Dt) : Bool := smD d && match d with
  | .tuple [_, _, _, w, _] => okWays w
  | _ => true
def okLink (d : Dt) : Bool := smD d && match d with
  | .tuple [x, y, _] => flatD x && flatD y
  | _ => true
def mIsNumber : List Dt → Option Dt
  | [d] => some (.bool (isNumD d))
  | _ => none
def mIsWithin : List Dt → Option Dt
  | [d, .int a, .int b] => some (.bool (isWithinD d a b))
  | _ => none
def mIsName : List Dt → Option Dt
  | [d] => if smD d = true then some (.bool (isNameD d)) else none
  | _ => none
def mIsTuple : List Dt → Option Dt
  | [d, .int a, .int b] => some (.bool (isTupD d a b))
  | _ => none
def mIsAddr : List Dt → Option Dt
  | [d] => if smD d = true then some (.bool (isAddrD d)) else none
  | _ => none
def mIsPeople : List Dt → Option Dt
  | [d] => if smD d = true then some (.bool (isPeopleD d)) else none
  | _ => none
def mIsLoh : List Dt → Option Dt
  | [d] => if smD d = true then some (.bool (isLohD d)) else none
  | _ => none
def mIsLists : List Dt → Option Dt
  | [d] => if smD d = true then some (.bool (isListsD d)) else none
  | _ => none
def mIsWays : List Dt → Option Dt
  | [d] => if smD d = true ∧ okWays d = true then some (.bool (isWaysD d)) else none
  | _ => none
def mIsHouse : List Dt → Option Dt
  | [d] => if okHouse d = true then some (.bool (isHouseD d)) else none
  | _ => none
def mIsHouses : List Dt → Option Dt
  | [d] => if smD d = true ∧ (elems d).all okHouse = true then some (.bool (isHousesD d)) else none
  | _ => none
def mIsLink : List Dt → Option Dt
  | [d, .list ns] => if okLink d = true ∧ ns.all isNameD = true then some (.bool (isLinkD d ns)) else none
  | _ => none
def mIsLinks : List Dt → Option Dt
  | [d, .list ns] => if smD d = true ∧ (elems d).all okLink = true ∧ ns.all isNameD = true ∧ ns.length ≤ 100 then some (.bool (isLinksD d ns)) else none
  | _ => none
def okPlan (d : Dt) : Bool := smD d && match d with
  | .tuple [hs, ls] => (elems hs).all okHouse && (elems ls).all okLink
  | _ => true
def mIsPlan : List Dt → Option Dt
  | [d] => if okPlan d = true then some (.bool (isPlanD d)) else none
  | _ => none
/-- all_unlike of texts, of tuples of texts -/
def isStrTup : Dt → Bool
  | .tuple es => es.all isStrD
  | _ => false
def unlD (ds : List Dt) : Option Dt := if ds.length < 64 then (if ds.all isStrD = true then some (.bool (decide (ds.map strOf).Nodup)) else if ds.all isStrTup = true then some (.bool (decide (ds.map addrOf).Nodup)) else none) else none
def mUnl : List Dt → Option Dt
  | [.list ds] => unlD ds
  | [.tuple ds] => unlD ds
  | _ => none
theorem strs_back : ∀ {ds : List Dt}, ds.all isStrD = true → ds = (ds.map strOf).map PyData.str
  | [], _ => rfl
  | d :: ds, h => by
    (rw [List.all_cons, Bool.and_eq_true] at h)
    rw [List.map_cons, List.map_cons, ← strs_back h.2]
    cases d <;> first | rfl | exact absurd h.1 Bool.false_ne_true
theorem tups_back : ∀ {ds : List Dt}, ds.all isStrTup = true → ds = (ds.map addrOf).map tupD
  | [], _ => rfl
  | d :: ds, h => by
    (rw [List.all_cons, Bool.and_eq_true] at h)
    rw [List.map_cons, List.map_cons, ← tups_back h.2]
    cases d with
    | tuple es =>
      show _ = PyData.tuple ((es.map strOf).map PyData.str) :: _
      rw [← strs_back h.1]
    | _ => exact absurd h.1 Bool.false_ne_true
theorem name_str {d : Dt} (h : isNameD d = true) : ∃ z, d = .str z := by
  cases d with
  | str z => exact ⟨z, rfl⟩
  | _ => exact absurd h Bool.false_ne_true
theorem name_isStr {d : Dt} (h : isNameD d = true) : isStrD d = true := by
  obtain ⟨z, rfl⟩ := name_str h
  rfl
theorem addr_tup {d : Dt} (h : isAddrD d = true) : isStrTup d = true := by
  unfold isAddrD at h
  split at h
  · rw [Bool.and_eq_true] at h
    show (isStrD _ && (isStrD _ && true)) = true
    rw [name_isStr h.1, name_isStr h.2]
    rfl
  · exact absurd h Bool.false_ne_true
theorem all_imp {α : Type} {p q : α → Bool} {l : List α} (h : l.all p = true) (k : ∀ x, p x = true → q x = true) : l.all q = true := List.all_eq_true.mpr fun x hx => k x (List.all_eq_true.mp h x hx)
theorem isTup_at {d : Dt} {a b : Int} (h : isTupD d a b = true) : ∃ ds, d = .tuple ds ∧ a ≤ (ds.length : Int) ∧ (ds.length : Int) ≤ b := by
  cases d with
  | tuple ds =>
    have h' : (decide (a ≤ (ds.length : Int)) && decide ((ds.length : Int) ≤ b)) = true := h
    rw [Bool.and_eq_true, decide_eq_true_eq, decide_eq_true_eq] at h'
    exact ⟨ds, rfl, h'.1, h'.2⟩
  | _ => exact absurd h Bool.false_ne_true
theorem if_some {p : Prop} [Decidable p] {a d : Dt} (h : (if p then some a else none) = some d) : p ∧ a = d := by
  by_cases hp : p
  · rw [if_pos hp] at h
    exact ⟨hp, Option.some.inj h⟩
  · rw [if_neg hp] at h
    cases h
theorem strs_all (xs : List Str) : (xs.map PyData.str).all isStrD = true := by
  rw [List.all_map]
  (exact List.all_eq_true.mpr fun _ _ => rfl)
theorem tups_all (kss : List (List Str)) : (kss.map tupD).all isStrTup = true := by
  rw [List.all_map]
  exact List.all_eq_true.mpr fun x _ => strs_all x
theorem strs_of (xs : List Str) : (xs.map PyData.str).map LH.strOf = xs := by
  rw [List.map_map]
  exact List.map_id'' (fun _ => rfl) xs
theorem tups_of (kss : List (List Str)) : (kss.map tupD).map addrOf = kss := by
  rw [List.map_map]
  exact List.map_id'' (fun x => strs_of x) kss
theorem unl_strs {xs : List Str} (h : xs.length < 64) : unlD (xs.map PyData.str) = some (.bool (decide xs.Nodup)) := by
  unfold unlD
  rw [if_pos (by rw [List.length_map]; exact h), if_pos (strs_all xs), strs_of]
theorem unl_tups {kss : List (List Str)} (h : kss.length < 64) : unlD (kss.map tupD) = some (.bool (decide kss.Nodup)) := by
  cases kss with
  | nil => rfl
  | cons k r =>
    unfold unlD
    rw [if_pos (by rw [List.length_map]; exact h), if_neg (fun z => by rw [List.map_cons, List.all_cons, Bool.and_eq_true] at z; exact absurd z.1 Bool.false_ne_true), if_pos (tups_all _), tups_of]
theorem shaped_flat {d : Dt} (hf : flatD d = true) (hs : smD d = true) : SeqAt.shaped d = true := by
  cases d with
  | str z => exact shaped_str hs
  | none => rfl
  | bool b => rfl
  | int i => rfl
  | _ => exact absurd hf Bool.false_ne_true
theorem flat_all : ∀ {ds : List Dt}, ds.all flatD = true → (∀ d ∈ ds, smD d = true) → PyData.canLayAll0 ds = true ∧ PyData.depthAll ds = 0
  | [], _, _ => ⟨rfl, rfl⟩
  | d :: ds, h, k => by
    (rw [List.all_cons, Bool.and_eq_true] at h)
    obtain ⟨a, b⟩ := flat_all h.2 fun e he => k e (List.mem_cons_of_mem _ he)
    have hd := k d List.mem_cons_self
    have hc : PyData.canLay0 d = true ∧ PyData.depth d = 0 := by
      cases d with
      | str z => exact ⟨(smD_str hd).2, rfl⟩
      | none => exact ⟨rfl, rfl⟩
      | bool b => exact ⟨rfl, rfl⟩
      | int i => exact ⟨rfl, rfl⟩
      | _ => exact absurd h.1 Bool.false_ne_true
    refine ⟨?_, ?_⟩
    · show (PyData.canLay0 d && PyData.canLayAll0 ds) = true
      rw [hc.1, a]
      rfl
    · show max (PyData.depth d) (PyData.depthAll ds) = 0
      rw [hc.2, b]
      rfl
theorem shaped_row {ds : List Dt} (h : ds.all flatD = true) (k : ∀ d ∈ ds, smD d = true) : SeqAt.shaped (.tuple ds) = true ∧ SeqAt.shaped (.list ds) = true := by
  obtain ⟨a, b⟩ := flat_all h k
  refine ⟨?_, ?_⟩
  all_goals
    unfold SeqAt.shaped
    rw [Bool.and_eq_true, decide_eq_true_eq]
    refine ⟨a, ?_⟩
    show PyData.depthAll ds + 1 ≤ 64
    rw [b]
    decide
theorem loh_fst {d : Dt} (h : isLohD d = true) : ∃ z r, d = .tuple [.str z, r] := by
  unfold isLohD at h
  split at h
  · rw [Bool.and_eq_true] at h
    obtain ⟨z, rfl⟩ := name_str h.1
    exact ⟨z, _, rfl⟩
  · exact absurd h Bool.false_ne_true
theorem house_fst {d : Dt} (h : isHouseD d = true) : ∃ z b c e f, d = .tuple [.str z, b, c, e, f] ∧ isNameD (.str z) = true := by
  unfold isHouseD at h
  split at h
  · rw [Bool.and_eq_true, Bool.and_eq_true] at h
    obtain ⟨z, rfl⟩ := name_str h.1.1
    exact ⟨z, _, _, _, _, rfl, h.1.1⟩
  · exact absurd h Bool.false_ne_true
theorem in_names {ns : List Dt} {x : Dt} (hn : ns.all isNameD = true) (h : (ns.any fun z => PyData.eqv z x) = true) : ∃ a, x = .str a := by
  obtain ⟨z, hz, e⟩ := List.any_eq_true.mp h
  obtain ⟨s, rfl⟩ := name_str (List.all_eq_true.mp hn z hz)
  cases x with
  | str a => exact ⟨a, rfl⟩
  | _ => exact (absurd e Bool.false_ne_true)
theorem names_flat {ns : List Dt} (hn : ns.all isNameD = true) : ns.all flatD = true := all_imp hn fun x hx => by
  obtain ⟨z, rfl⟩ := name_str hx
  rfl
theorem names_strs {ns : List Dt} (hn : ns.all isNameD = true) : ns.all isStrD = true := all_imp hn fun x hx => name_isStr hx
/-- a tuple of two, or none -/
theorem pair_or (d : Dt) : (∃ x y, d = .tuple [x, y]) ∨ isTupD d 2 2 = false := by
  cases d with
  | tuple ds =>
    match ds with
    | [] => exact .inr rfl
    | [_] => exact .inr rfl
    | [x, y] => exact .inl ⟨x, y, rfl⟩
    | _ :: _ :: _ :: r =>
      refine .inr ?_
      show (decide _ && decide _) = false
      rw [decide_eq_false (p := ((((_ :: _ :: _ :: r : List Dt).length : Nat) : Int) ≤ 2)) (by rw [List.length_cons, List.length_cons, List.length_cons]; omega), Bool.and_false]
  | _ => exact .inr rfl
theorem three_or (d : Dt) : (∃ x y z, d = .tuple [x, y, z]) ∨ isTupD d 3 3 = false := by
  cases h : isTupD d 3 3 with
  | false => exact .inr rfl
  | true =>
    obtain ⟨ds, rfl, h1, h2⟩ := isTup_at h
    match ds, h1, h2 with
    | [x, y, z], _, _ => exact .inl ⟨x, y, z, rfl⟩
    | [], h1, _ => exact absurd h1 (by decide)
    | [_], h1, _ => exact absurd h1 (by show ¬ ((3 : Int) ≤ 1); decide)
    | [_, _], h1, _ => exact absurd h1 (by show ¬ ((3 : Int) ≤ 2); decide)
    | _ :: _ :: _ :: _ :: r, _, h2 => exact absurd h2 (by simp only [List.length_cons]; omega)
theorem five_or (d : Dt) : (∃ a b c e f, d = .tuple [a, b, c, e, f]) ∨ isTupD d 5 5 = false := by
  cases h : isTupD d 5 5 with
  | false => exact .inr rfl
  | true =>
    obtain ⟨ds, rfl, h1, h2⟩ := isTup_at h
    match ds, h1, h2 with
    | [a, b, c, e, f], _, _ => exact .inl ⟨a, b, c, e, f, rfl⟩
    | [], h1, _ => exact absurd h1 (by decide)
    | [_], h1, _ => exact absurd h1 (by show ¬ ((5 : Int) ≤ 1); decide)
    | [_, _], h1, _ => exact absurd h1 (by show ¬ ((5 : Int) ≤ 2); decide)
    | [_, _, _], h1, _ => exact absurd h1 (by show ¬ ((5 : Int) ≤ 3); decide)
    | [_, _, _, _], h1, _ => exact absurd h1 (by show ¬ ((5 : Int) ≤ 4); decide)
    | _ :: _ :: _ :: _ :: _ :: _ :: r, _, h2 => exact absurd h2 (by simp only [List.length_cons]; omega)
end LH

namespace LH
open PySem PySem.Spec L2 PyProof.Rows
/-! ### d.update(e), both with whole numbers and texts as keys -/
def tDUpd (td te : TE) : TE := fun σ H Q => td σ H fun x H1 => ∃ a, x = .ref a ∧ IsD H1 a ∧ te σ H1 fun y H2 => ∃ (b : Addr) (kvs ls : List (Key × V)), y = .ref b ∧ H2 a = some (.dK kvs) ∧ H2 b = some (.dK ls) ∧ a ≠ b ∧ kvs.length + ls.length ≤ 1000 ∧ Q .non (upd H2 a (.dK (mergeK kvs ls)))
theorem mergeK_len : ∀ (ls kvs : List (Key × V)), (mergeK kvs ls).length ≤ kvs.length + ls.length
  | [], kvs => Nat.le_refl _
  | l :: ls, kvs => by
    have h := mergeK_len ls (putK kvs l.1 l.2)
    have p := length_putK kvs l.1 l.2
    show (mergeK (putK kvs l.1 l.2) ls).length ≤ _
    rw [List.length_cons]
    omega
section
variable {X : Cx} {o e : Expr} {td te : TE} {apos cpos : Pos}
theorem pe_dupd (ho : PE X o td) (he : PE X e te) (m : M1 X o "update" apos e cpos) : PE X (.Call (.Attribute o "update" apos) [e] [] cpos) (tDUpd td te) := by
  (refine ⟨fun pins s σ H Q I h => ?_⟩)
  refine wpAny_Call_method m.base m.few m.line PySem.F.plainAttrs_dict PySem.F.slot_dict_update PySem.F.type_dict_update (thn (ho.run pins s σ H _ I h) fun u s1 ⟨x, H1, I1, rx, a, ex, d, q1⟩ => ?_)
  subst ex
  (obtain rfl : u = Value.ref a := rx)
  (obtain ⟨t1, t2, _⟩ := isD_at I1 d)
  refine ⟨t1, t2, ?_⟩
  rw [m.trees]
  refine Calls.callWith_builtin rfl (Calls.evalArgs_plain (Calls.spliced_cons (thn (he.run pins s1 σ H1 _ I1 q1) fun iv s2 ⟨y, H2, I2, ry, b, kvs, ls, ey, ha, hb, hne, hz, q2⟩ => Calls.spliced_nil ?_)))
  subst ey
  obtain rfl : iv = Value.ref b := ry
  obtain ⟨z1, hd1, vs, r1, d1⟩ := dk_of I2.hok ha
  obtain ⟨z2, hd2, ws, r2, d2⟩ := dk_of I2.hok hb
  have l1 := r1.length
  have l2 := r2.length
  refine call_meetsIn PySem.F.slot_dict_update d1.typeIs PySem.F.entry_dict_update (PySem.F.args_dict_update_2 _ _) (meets_dict_update (mixKind X.prog X.w) a b hne hd2) ⟨vs, ws, d1, d2, ?_, fun h' dd _ hs => ?_⟩
  · rw [← l1, ← l2]
    exact Nat.le_trans hz (by decide)
  · have he : ∃ q, h'.get? a = some q := let ⟨q, _, _, hq, _⟩ := dd; ⟨q, hq⟩
    have hl : (mergeK kvs ls).length ≤ sizeLine := Nat.le_trans (mergeK_len ls kvs) (Nat.le_trans hz (by decide))
    exact ⟨.non, _, d_write (t' := s2.toks) I2 (by rw [ha]; exact True.intro) hs he (dk_new hl hd1 (r2.merge r1) dd), rfl, q2⟩
end
end LH

namespace LH
open PySem PySem.Spec L2 PyProof.Rows
/-! ### dicts as data -/
/-- a new dict, no datum yet -/
def EvM (K : PySem.W.Frag) (te : TE) (env : Env0') (ds : List (Str × Dt)) : Prop := ∀ σ G H, Same G H → Sd K G σ env → ∀ Q : VK, (∀ p kvs G' H', Gw G H G' H' → H p = none → G' p = none → H' p = some (.dK kvs) → DqKv K G' kvs (ds.map fun p => (.str p.1, p.2)) → kvs.map (·.1) = ds.map (fun p => (Sum.inr p.1 : Key)) → Q (.ref p) H') → te σ H Q
def EvPs (K : PySem.W.Frag) : List (TE × TE) → Env0' → List (Str × Dt) → Prop
  | [], _, [] => True
  | (tk, tv) :: r, env, (k, d) :: s => EvE K tk env (.str k) ∧ EvE K tv env d ∧ EvPs K r env s
  | _, _, _ => False
section
variable {K : PySem.W.Frag} {env : Env0'}
theorem ps_run : ∀ {trs : List (TE × TE)} {ds : List (Str × Dt)}, EvPs K trs env ds → ∀ σ G H, Same G H → Sd K G σ env → ∀ Q : List (V × V) → Hp → Prop,
    (∀ kvs G' H', Gw G H G' H' → DqKv K G' kvs (ds.map fun p => (.str p.1, p.2)) → kvs.map (·.1) = ds.map (fun p => (Sum.inr p.1 : Key)) → Q (kvs.map fun kv => (kV kv.1, kv.2)) H') → tPairs trs σ H Q
  | [], [], _, σ, G, H, gh, s, Q, q => q [] G H (Gw.refl gh) .nil rfl
  | (tk, tv) :: r, (k, d) :: ds, h, σ, G, H, gh, s, Q, q => h.1 σ G H gh s _ fun x G1 H1 e1 dx => by
    cases dx
    exact h.2.1 σ G1 H1 e1.gh (s.mono e1.gg) _ fun y G2 H2 e2 dy => ps_run h.2.2 σ G2 H2 e2.gh (s.mono (e1.trans e2).gg) _ fun kvs G3 H3 e3 dk hk =>
      q ((Sum.inr k, y) :: kvs) G3 H3 ((e1.trans e2).trans e3) (.cons (k := Sum.inr k) (dpM e3.gg dy) dk) (by rw [List.map_cons, List.map_cons, hk])
  | [], _ :: _, h, _, _, _, _, _, _, _ => h.elim
  | _ :: _, [], h, _, _, _, _, _, _, _ => h.elim
theorem putK_new' {kvs : List (Key × V)} {k : Key} {v : V} (h : k ∉ kvs.map (·.1)) : putK kvs k v = kvs ++ [(k, v)] := by
  unfold putK
  rw [if_neg]
  intro z
  obtain ⟨x, hx, e⟩ := List.any_eq_true.mp z
  exact h (List.mem_map.mpr ⟨x, hx, of_decide_eq_true e⟩)
theorem mergeK_new : ∀ (ls kvs : List (Key × V)), ((kvs ++ ls).map (·.1)).Nodup → mergeK kvs ls = kvs ++ ls
  | [], kvs, _ => (List.append_nil kvs).symm
  | l :: ls, kvs, h => by
    have hn : l.1 ∉ kvs.map (·.1) := by
      rw [List.map_append, List.map_cons] at h
      intro z
      exact (List.nodup_append.mp h).2.2 l.1 z l.1 List.mem_cons_self rfl
    show mergeK (putK kvs l.1 l.2) ls = _
    rw [putK_new' hn]
    have e : (kvs ++ [(l.1, l.2)]) ++ ls = kvs ++ l :: ls := by rw [List.append_assoc]; rfl
    rw [mergeK_new ls _ (by rw [e]; exact h), e]
theorem em_disp {trs : List (TE × TE)} {ds : List (Str × Dt)} (h : EvPs K trs env ds) (hn : (ds.map (·.1)).Nodup) (hl : ds.length ≤ 15) : EvM K (tDisp trs) env ds := fun σ G H gh s Q q p np => by
  have w0 := Gw.out (o := HO.dK []) gh np
  refine ps_run h σ G _ w0.gh s _ fun kvs G' H' w dk hk => ?_
  have ng : G' p = none := w.keeps upd_same (gh.free np)
  have hnd : (kvs.map (·.1)).Nodup := by
    rw [hk]
    have e : ds.map (fun p => (Sum.inr p.1 : Key)) = (ds.map (·.1)).map Sum.inr := by rw [List.map_map]; rfl
    rw [e]
    exact List.Pairwise.map _ (fun a b hab z => hab (Sum.inr.inj z)) hn
  have hlen : kvs.length = ds.length := by
    have z := congrArg List.length hk
    rw [List.length_map, List.length_map] at z
    exact z
  refine ⟨w.hh _ _ upd_same, kvs, rfl, by rw [hlen]; exact hl, ?_⟩
  rw [mergeK_new kvs [] (by rw [List.nil_append]; exact hnd), List.nil_append]
  exact q p kvs G' _ ((w0.trans w).mut np ng) np ng upd_same dk hk
theorem ee_dict {te : TE} {ds : List (Str × Dt)} (h : EvM K te env ds) : EvE K te env (.dict (ds.map fun p => (.str p.1, p.2))) := fun σ G H gh s Q q => h σ G H gh s Q fun p kvs G' H' w np ng hp dk _ =>
  q _ _ H' (w.put np hp ng) (.dct upd_same (dpkM (sameU ng) dk))
/-- what stands at a text's key -/
def lookD (es : List (Dt × Dt)) (k : Str) : Option Dt := match es with
  | [] => none
  | (x, d) :: r => match x with
    | .str s => if s = k then some d else lookD r k
    | _ => lookD r k
theorem look_val : ∀ {G : Hp} {kvs : List (Key × V)} {es : List (Dt × Dt)} (k : Str), DqKv K G kvs es → (∃ d v, lookD es k = some d ∧ valV kvs (Sum.inr k) = some v ∧ Dq K G v d) ∨ (lookD es k = none ∧ valV kvs (Sum.inr k) = none)
  | _, _, _, k, .nil => .inr ⟨rfl, rfl⟩
  | _, _, _, k, .cons (k := x) (v := v) (d := d) (ds := es) h t => by
    cases x with
    | inl i =>
      have hne : ¬ (Sum.inl i : Key) = Sum.inr k := fun z => by cases z
      rcases look_val k t with ⟨d', v', a, b, c⟩ | ⟨a, b⟩
      · exact .inl ⟨d', v', a, (valV_neg (p := (Sum.inl i, v)) hne).trans b, c⟩
      · exact .inr ⟨a, (valV_neg (p := (Sum.inl i, v)) hne).trans b⟩
    | inr s =>
      by_cases e : s = k
      · subst e
        exact .inl ⟨d, v, if_pos rfl, valV_pos rfl, h⟩
      · have e1 : lookD ((keyD (Sum.inr s), d) :: es) k = lookD es k := if_neg e
        rcases look_val k t with ⟨d', v', a, b, c⟩ | ⟨a, b⟩
        · exact .inl ⟨d', v', e1.trans a, (valV_neg (fun z => e (Sum.inr.inj z))).trans b, c⟩
        · exact .inr ⟨e1.trans a, (valV_neg (fun z => e (Sum.inr.inj z))).trans b⟩
theorem valV_merge : ∀ (ls kvs : List (Key × V)) (k : Key), (ls.map (·.1)).Nodup → valV (mergeK kvs ls) k = match valV ls k with
    | some v => some v
    | none => valV kvs k
  | [], kvs, k, _ => rfl
  | l :: ls, kvs, k, h => by
    (rw [List.map_cons, List.nodup_cons] at h)
    show valV (mergeK (putK kvs l.1 l.2) ls) k = _
    rw [valV_merge ls _ k h.2, valV_put]
    by_cases e : k = l.1
    · rw [if_pos e, valV_pos (p := l) e.symm]
      have hn : valV ls k = none := by
        cases q : valV ls k with
        | none => rfl
        | some v => exact absurd (by rw [← e]; exact List.mem_map.mpr (by
            unfold valV at q
            obtain ⟨x, hx, _⟩ := Option.map_eq_some_iff.mp q
            have y := List.find?_some (p := fun (kv : Key × V) => decide (kv.1 = k)) hx
            exact ⟨x, List.mem_of_find?_eq_some hx, of_decide_eq_true y⟩)) h.1
      rw [hn]
    · rw [if_neg e, valV_neg (p := l) (fun z => e z.symm)]
theorem kv_keys : ∀ {G : Hp} {ls : List (Key × V)} {ch : List (Dt × Dt)}, DqKv K G ls ch → ch.map (·.1) = ls.map fun l => keyD l.1
  | _, _, _, .nil => rfl
  | _, _, _, .cons _ t => by rw [List.map_cons, List.map_cons, kv_keys t]
theorem kv_nodup {G : Hp} {ls : List (Key × V)} {ch : List (Dt × Dt)} (h : DqKv K G ls ch) (h2 : (ch.map fun p => LH.strOf p.1).Nodup) : (ls.map (·.1)).Nodup := by
  have e : (ch.map fun p => LH.strOf p.1) = (ls.map (·.1)).map fun k => LH.strOf (keyD k) := by
    have z := congrArg (List.map LH.strOf) (kv_keys h)
    rw [List.map_map, List.map_map] at z
    rw [List.map_map]
    exact z
  rw [e] at h2
  exact List.Pairwise.of_map (fun k => LH.strOf (keyD k)) (fun _ _ hne z => hne (congrArg (fun k => LH.strOf (keyD k)) z)) h2
theorem kv_len {G : Hp} {ls : List (Key × V)} {ch : List (Dt × Dt)} (h : DqKv K G ls ch) : ls.length = ch.length := by
  have z := congrArg List.length (kv_keys h)
  rw [List.length_map, List.length_map] at z
  exact z.symm
theorem seq_asg {te : TE} {i : Nat} {u : TS} {D : Ends} {σ : L2.St} {H : Hp} (h : te σ H fun x H1 => u D (σ.set i (some x)) H1) : tSeq (tAsg te (gName i)) u D σ H := h
theorem seq_drop {te : TE} {u : TS} {D : Ends} {σ : L2.St} {H : Hp} (h : te σ H fun _ H1 => u D σ H1) : tSeq (tDrop te) u D σ H := h
end
end LH

namespace LH
open PySem PySem.Spec L2 PyProof.Rows
section
variable {K : PySem.W.Frag} {env : Env0'} {te : TE}
theorem rd_addS {a b : Str} (h : a.length + b.length ≤ 100000) : RD K (fun x y H Q => ∃ i j, x = .str i ∧ y = .str j ∧ i.length + j.length ≤ sizeLine ∧ Q (.str (i ++ j)) H) (.str a) (.str b) (.str (a ++ b)) := fun x y G H gh da db Q q => by
  cases da
  cases db
  exact ⟨a, b, rfl, rfl, Nat.le_trans h (by decide), q _ G H (Gw.refl gh) (.str _)⟩
theorem ee_slS {tl' th : TO} {lo hi : Option Int} {z : Str} (h : EvE K te env (.str z)) (h1 : EvO K tl' env lo) (h2 : EvO K th env hi) (hz : z.length ≤ 100000) : EvE K (tSl rSlS te tl' th) env (.str (cutS z lo hi)) := fun σ G H gh s Q q =>
  h σ G H gh s _ fun v G2 H2 e dv => h1 σ G2 H2 e.gh (s.mono e.gg) _ fun G3 H3 e3 => h2 σ G3 H3 e3.gh (s.mono (e.trans e3).gg) _ fun G4 H4 e4 => by
    cases dv
    exact ⟨z, rfl, Nat.le_trans hz (by decide), q _ G4 H4 ((e.trans e3).trans e4) (.str _)⟩
theorem rd_I {C : Int → Int → Prop} {g : Int → Int → Int} {i j : Int} (hc : C i j) : RD K (rI C fun i j => .int (g i j)) (.int i) (.int j) (.int (g i j)) := fun a b G H gh da db Q q => by
  cases da
  cases db
  exact ⟨i, j, rfl, rfl, hc, q _ G H (Gw.refl gh) (.int _)⟩
theorem rd_mod {i j : Int} (h : 0 < j) : RD K (rI (fun _ j => 0 < j) fun i j => .int (i % j)) (.int i) (.int j) (.int (i % j)) := rd_I (C := fun _ j => 0 < j) (g := fun i j => i % j) h
theorem rd_mul {i j : Int} (h : CMul i j) : RD K (rI CMul fun i j => .int (i * j)) (.int i) (.int j) (.int (i * j)) := rd_I (g := fun i j => i * j) h
/-- slots told one by one -/
inductive SdL (K : PySem.W.Frag) (G : Hp) : L2.St → Env0' → Prop
  | nil : SdL K G [] []
  | any {o : Option V} {σ : L2.St} {env : Env0'} : SdL K G σ env → SdL K G (o :: σ) (none :: env)
  | val {v : V} {d : Dt} {σ : L2.St} {env : Env0'} : Dq K G v d → SdL K G σ env → SdL K G (some v :: σ) (some d :: env)
theorem SdL.len {G : Hp} : ∀ {σ : L2.St} {env : Env0'}, SdL K G σ env → σ.length = env.length
  | _, _, .nil => rfl
  | _, _, .any h => congrArg (· + 1) h.len
  | _, _, .val _ h => congrArg (· + 1) h.len
theorem SdL.get {G : Hp} : ∀ {σ : L2.St} {env : Env0'}, SdL K G σ env → ∀ (i : Nat) (d : Dt), env[i]? = some (some d) → ∃ v, σ[i]? = some (some v) ∧ Dq K G v d
  | _, _, .nil, i, d, h => by simp at h
  | _, _, .any t, 0, d, h => by cases h
  | _, _, .any t, i + 1, d, h => t.get i d h
  | _, _, .val (v := v) a t, 0, d, h => ⟨v, rfl, by cases h; exact a⟩
  | _, _, .val a t, i + 1, d, h => t.get i d h
theorem SdL.sd {G : Hp} {σ : L2.St} {env : Env0'} (h : SdL K G σ env) : Sd K G σ env := ⟨h.len, h.get⟩
end
theorem g_name {i : Nat} {v : V} {σ : L2.St} {H : Hp} {Q : L2.St → Hp → Prop} (h : Q (σ.set i (some v)) H) : gName i v σ H Q := h
/-- one object alone -/
def oneH (p : Addr) (o : HO) : Hp := fun a => if a = p then some o else none
theorem oneH_at (p : Addr) (o : HO) : oneH p o p = some o := if_pos rfl
theorem oneH_ne {p q : Addr} {o : HO} (h : q ≠ p) : oneH p o q = none := if_neg h
theorem oneH_same {p : Addr} {o : HO} {H : Hp} (h : H p = some o) : Same (oneH p o) H := fun a x e => by
  by_cases ea : a = p
  · rw [ea, oneH_at] at e
    rw [ea, h]
    exact e
  · rw [oneH_ne ea] at e
    cases e
/-! texts of one sign each, put together -/
theorem join_one {L : List Nat} : ∀ (ys : List Str), (∀ y ∈ ys, ∃ c, c ∈ L ∧ y = (⟨#[c]⟩ : Str)) → (Str.join "" ys).cps.toList.length = ys.length ∧ ∀ c ∈ (Str.join "" ys).cps.toList, c ∈ L
  | [], _ => ⟨rfl, fun c h => nomatch h⟩
  | [y], h => by
    obtain ⟨c, hc, rfl⟩ := h y List.mem_cons_self
    refine ⟨rfl, fun d hd => ?_⟩
    have hd' : d ∈ [c] := hd
    rw [List.mem_singleton.mp hd']
    exact hc
  | x :: y :: r, h => by
    obtain ⟨c, hc, rfl⟩ := h x List.mem_cons_self
    obtain ⟨a, b⟩ := join_one (y :: r) fun z hz => h z (List.mem_cons_of_mem _ hz)
    have e : (Str.join "" ((⟨#[c]⟩ : Str) :: y :: r)).cps.toList = c :: (Str.join "" (y :: r)).cps.toList := by
      show TL.tl ((⟨#[c]⟩ : Str) ++ ("" : Str) ++ Str.join "" (y :: r)) = _
      rw [TL.tl_append, TL.tl_append]
      rfl
    rw [e]
    refine ⟨by rw [List.length_cons, a]; rfl, fun d hd => ?_⟩
    rcases List.mem_cons.mp hd with z | z
    · rw [z]
      exact hc
    · exact b d z
end LH

namespace LH
open PySem PySem.Spec L2 PyProof.Rows
section
variable {K : PySem.W.Frag} {env : Env0'} {te ta tb : TE}
/-- an element for each item -/
inductive AllEv (K : PySem.W.Frag) (te : TE) (env : Env0') (j : Nat) : List Dt → List Dt → Prop
  | nil : AllEv K te env j [] []
  | cons {d r : Dt} {ds rs : List Dt} : EvE K te (env.set j (some d)) r → AllEv K te env j ds rs → AllEv K te env j (d :: ds) (r :: rs)
theorem AllEv.len {j : Nat} : ∀ {ds rs : List Dt}, AllEv K te env j ds rs → ds.length = rs.length
  | _, _, .nil => rfl
  | _, _, .cons _ t => congrArg (· + 1) t.len
theorem AllEv.get {j : Nat} : ∀ {ds rs : List Dt} {i : Nat} {d : Dt}, AllEv K te env j ds rs → ds[i]? = some d → ∃ r, rs[i]? = some r ∧ EvE K te (env.set j (some d)) r
  | _, _, _, _, .nil, h => by simp at h
  | _, _, 0, _, .cons (r := r) a _, h => ⟨r, rfl, by cases h; exact a⟩
  | _, _, i + 1, _, .cons _ t, h => t.get (i := i) h
theorem en_maps {wi : TI} {j : Nat} {ds rs : List Dt} (h : EvI K wi env ds) (hl : Nat.ble ds.length 100000 = true) (he : AllEv K te env j ds rs) : EvN K (tLc wi (gName j) tYes te [j]) env rs := fun σ G H gh s Q q => h σ G H gh s _ fun J G1 H1 e1 wk D nD => by
  have ng1 : G1 D = none := e1.gh.free nD
  refine lc_it (n := ds.length) wk (fun i H' => ∃ G2 xs, Gw G1 H1 G2 H' ∧ G2 D = none ∧ H' D = some (.lst xs) ∧ DqAll K G2 xs (rs.take i)) ⟨G1, [], (Gw.refl e1.gh).mut nD ng1, ng1, upd_same, .nil⟩ (fun i H' _ ⟨G2, _, w2, _⟩ => w2.gg.trans w2.gh) ?_ ?_
  · rintro i x H2 H2' hi ⟨G2, xs, w2, ng2, hD, dx⟩ ⟨rfl, d, hd, dd⟩
    obtain ⟨r, hr, hev⟩ := he.get hd
    have hset : (wipe σ [j]).set j (some x) = σ.set j (some x) := by
      show (σ.set j none).set j (some x) = _
      rw [List.set_set]
    have s2 : Sd K G2 ((wipe σ [j]).set j (some x)) (env.set j (some d)) := by
      rw [hset]
      exact (s.mono (e1.gg.trans w2.gg)).set j (dpM w2.gg dd)
    refine ⟨by rw [hset]; show (σ.set j (some x)).set j none = σ.set j none; rw [List.set_set], ?_⟩
    dsimp only [tYes]
    rw [if_pos rfl]
    refine hev _ G2 H2' w2.gh s2 _ fun y G4 H4 w4 dy => ?_
    have ng4 := w4.keeps hD ng2
    have hD4 := w4.hh _ _ hD
    refine ⟨xs, hD4, ?_, G4, xs ++ [y], (w2.trans w4).mut nD ng4, ng4, upd_same, ?_⟩
    · rw [dpsLen dx, List.length_take]
      have := Nat.le_of_ble_eq_true hl
      exact Nat.lt_of_le_of_lt (Nat.le_trans (Nat.min_le_left _ _) (Nat.le_of_lt hi)) (Nat.lt_of_le_of_lt this (by decide))
    · rw [take_next' hr]
      exact dpsApp (dpsM w4.gg dx) (.cons dy .nil)
  · rintro H2 ⟨G2, xs, w2, ng2, hD, dx⟩
    rw [he.len, List.take_length] at dx
    exact q D xs G2 H2 (e1.trans w2) (e1.hh.free nD) ng2 hD dx
/-- a new list times a number -/
theorem dpsRep {G : Hp} {xs : List V} {ds : List Dt} (h : DqAll K G xs ds) : ∀ n : Nat, DqAll K G (List.replicate n xs).flatten (List.replicate n ds).flatten
  | 0 => .nil
  | n + 1 => by
    (rw [List.replicate_succ, List.replicate_succ, List.flatten_cons, List.flatten_cons])
    exact dpsApp h (dpsRep h n)
theorem en_rep {ds : List Dt} {k : Nat} (h : EvN K ta env ds) (hk : Nat.ble k 1000 = true) (hl : Nat.ble ds.length 1000 = true) : EvN K (tOp rRep ta (tC (.int (k : Int)))) env (List.replicate k ds).flatten := fun σ G H gh s Q q => h σ G H gh s _ fun p xs G' H' w np ng hp dx => by
  have h1 := Nat.le_of_ble_eq_true hk
  have h2 := Nat.le_of_ble_eq_true hl
  refine ⟨p, (k : Int), xs, rfl, rfl, hp, by omega, by omega, ?_, fun l nl => ?_⟩
  · rw [dpsLen dx, Int.toNat_natCast]
    exact Nat.le_trans (Nat.mul_le_mul h2 h1) (by decide)
  · rw [Int.toNat_natCast]
    exact q l _ G' _ (w.trans (Gw.out w.gh nl)) (w.hh.free nl) (w.gh.free nl) upd_same (dpsRep dx k)
theorem rd_repT {ds : List Dt} {k : Nat} (hk : Nat.ble 2 k = true) (hk2 : Nat.ble k 1000 = true) (h0 : Nat.ble 1 ds.length = true) (hl : Nat.ble ds.length 1000 = true) : RD K (rRepT K) (.tuple ds) (.int (k : Int)) (.tuple (List.replicate k ds).flatten) := fun a b G H gh da db Q q => by
  have h1 := Nat.le_of_ble_eq_true hk
  have h2 := Nat.le_of_ble_eq_true hk2
  have h3 := Nat.le_of_ble_eq_true h0
  have h4 := Nat.le_of_ble_eq_true hl
  cases db
  cases da with
  | @tup p xs _ hs hd =>
    have hx := dpsLen hd
    refine ⟨p, (k : Int), xs, rfl, rfl, sameT gh hs, fun z => by rw [z] at hx; simp at hx; omega, by omega, by omega, by omega, fun l nl => ?_⟩
    rw [Int.toNat_natCast]
    exact q _ _ _ (Gw.new gh nl) (.tup (.inl (.inl upd_same)) (dpsM (sameU (gh.free nl)) (dpsRep hd k)))
/-- a, b = [], [] -/
theorem go_ll {i j : Nat} (hij : i ≠ j) (hi : i < env.length) (hj : j < env.length) : GoE K (tAsg (tTup (tCons (tLst tNil) (tCons (tLst tNil) tNil))) (gTup K 2 (gNames [i, j]))) env [] ((env.set i none).set j none) [(j, []), (i, [])] := fun H0 G0 σ G H D w f q => by
  refine ⟨Nat.zero_le _, fun p n1 => ⟨Nat.zero_le _, fun r n2 => ⟨(by show 2 ≤ sizeLine; decide), fun t nt => ?_⟩⟩⟩
  have hpr : p ≠ r := fun z => by rw [z, ← z, upd_same] at n2; cases n2
  have nr : H r = none := by rw [upd_ne hpr.symm] at n2; exact n2
  have htr : t ≠ r := fun z => by rw [z, upd_same] at nt; cases nt
  have htp : t ≠ p := fun z => by rw [z, upd_ne hpr, upd_same] at nt; cases nt
  have ntH : H t = none := by rw [upd_ne htr, upd_ne htp] at nt; exact nt
  have gp := f.gh.free n1
  have gr := f.gh.free nr
  have gt := f.gh.free ntH
  refine ⟨t, [.ref p, .ref r], rfl, .inl (.inl upd_same), rfl, .ref p, _, rfl, .ref r, _, rfl, rfl, ?_⟩
  have w2 := ((w.mut (o := HO.lst []) (w.hh.free n1) gp).mut (p := r) (o := HO.lst []) (w.hh.free nr) gr).mut (p := t) (o := HO.tup [.ref p, .ref r]) (w.hh.free ntH) gt
  have sl := f.sd.len
  refine q _ G _ (Same.refl G) w2 ⟨w2.gh, ?_, [r, p], .cons ?_ (w.hh.free nr) gr (xs := []) ?_ .nil ?_ (.cons ?_ (w.hh.free n1) gp (xs := []) ?_ .nil (fun z => nomatch z) .nil)⟩
  · refine ⟨by rw [List.length_set, List.length_set, List.length_set, List.length_set, sl], fun k e z => ?_⟩
    rw [List.getElem?_set] at z
    by_cases h1 : j = k
    · rw [if_pos h1] at z
      split at z <;> cases z
    · rw [if_neg h1, List.getElem?_set] at z
      by_cases h2 : i = k
      · rw [if_pos h2] at z
        split at z <;> cases z
      · rw [if_neg h2] at z
        rw [List.getElem?_set_ne h1, List.getElem?_set_ne h2]
        exact f.sd.at' k e z
  · rw [List.getElem?_set, if_pos rfl, if_pos (by rw [List.length_set, sl]; exact hj)]
  · rw [upd_ne htr.symm, upd_same]
  · exact fun z => hpr (List.mem_singleton.mp z).symm
  · rw [List.getElem?_set_ne hij.symm, List.getElem?_set, if_pos rfl, if_pos (by rw [sl]; exact hi)]
  · rw [upd_ne htp.symm, upd_ne hpr, upd_same]
/-- a, b, c = [], [], e -/
theorem go_lld {i j l : Nat} {tc : TE} {d : Dt} (hij : i ≠ j) (hil : i ≠ l) (hjl : j ≠ l) (hi : i < env.length) (hj : j < env.length) (hl : l < env.length) (he : EvE K tc env d) : GoE K (tAsg (tTup (tCons (tLst tNil) (tCons (tLst tNil) (tCons tc tNil)))) (gTup K 3 (gNames [i, j, l]))) env [] (((env.set i none).set j none).set l (some d)) [(j, []), (i, [])] := fun H0 G0 σ G H D w f q => by
  refine ⟨Nat.zero_le _, fun p n1 => ⟨Nat.zero_le _, fun r n2 => ?_⟩⟩
  have hpr : p ≠ r := fun z => by rw [z, ← z, upd_same] at n2; cases n2
  have nr : H r = none := by rw [upd_ne hpr.symm] at n2; exact n2
  have gp := f.gh.free n1
  have gr := f.gh.free nr
  have w1 := (w.mut (o := HO.lst []) (w.hh.free n1) gp).mut (p := r) (o := HO.lst []) (w.hh.free nr) gr
  have hp1 : (upd (upd H p (.lst [])) r (.lst [])) p = some (.lst []) := by rw [upd_ne hpr, upd_same]
  have hr1 : (upd (upd H p (.lst [])) r (.lst [])) r = some (.lst []) := upd_same
  generalize upd (upd H p (.lst [])) r (.lst []) = H1 at w1 hp1 hr1
  refine he σ G H1 w1.gh f.sd _ fun v G3 H3 w3 dv => ⟨(by show 3 ≤ sizeLine; decide), fun t nt => ?_⟩
  have hp3 := w3.hh _ _ hp1
  have hr3 := w3.hh _ _ hr1
  have gp3 := w3.keeps hp1 gp
  have gr3 := w3.keeps hr1 gr
  have htr : t ≠ r := fun z => by rw [z, hr3] at nt; cases nt
  have htp : t ≠ p := fun z => by rw [z, hp3] at nt; cases nt
  refine ⟨t, [.ref p, .ref r, v], rfl, .inl (.inl upd_same), rfl, .ref p, _, rfl, .ref r, _, rfl, v, _, rfl, rfl, ?_⟩
  have w4 := (w1.trans w3).mut (p := t) (o := HO.tup [.ref p, .ref r, v]) ((w1.trans w3).hh.free nt) (w3.gh.free nt)
  have sl := f.sd.len
  have sd0 : Sd K G3 (((σ.set i (some (V.ref p))).set j (some (V.ref r)))) ((env.set i none).set j none) := by
    refine ⟨by rw [List.length_set, List.length_set, List.length_set, List.length_set, sl], fun k e z => ?_⟩
    rw [List.getElem?_set] at z
    by_cases h1 : j = k
    · rw [if_pos h1] at z
      split at z <;> cases z
    · rw [if_neg h1, List.getElem?_set] at z
      by_cases h2 : i = k
      · rw [if_pos h2] at z
        split at z <;> cases z
      · rw [if_neg h2] at z
        rw [List.getElem?_set_ne h1, List.getElem?_set_ne h2]
        exact (f.sd.mono w3.gg).at' k e z
  refine q _ G3 _ w3.gg w4 ⟨w4.gh, sd0.set l dv, [r, p], .cons ?_ (w.hh.free nr) gr3 (xs := []) ?_ .nil ?_ (.cons ?_ (w.hh.free n1) gp3 (xs := []) ?_ .nil (fun z => nomatch z) .nil)⟩
  · rw [List.getElem?_set_ne hjl.symm, List.getElem?_set, if_pos rfl, if_pos (by rw [List.length_set, sl]; exact hj)]
  · rw [upd_ne htr.symm]
    exact hr3
  · exact fun z => hpr (List.mem_singleton.mp z).symm
  · rw [List.getElem?_set_ne hil.symm, List.getElem?_set_ne hij.symm, List.getElem?_set, if_pos rfl, if_pos (by rw [sl]; exact hi)]
  · rw [upd_ne htp.symm]
    exact hp3
/-- a, b, c = [], [], e -/
theorem go_par3 {i j l : Nat} {tc : TE} {d : Dt} (hij : i ≠ j) (hil : i ≠ l) (hjl : j ≠ l) (hi : i < env.length) (hj : j < env.length) (hl : l < env.length) (he : EvE K tc env d) : GoE K (tPar3 i j l (tCons (tLst tNil) (tCons (tLst tNil) (tCons tc tNil)))) env [] (((env.set i none).set j none).set l (some d)) [(j, []), (i, [])] := fun H0 G0 σ G H D w f q => by
  refine ⟨Nat.zero_le _, fun p n1 => ⟨Nat.zero_le _, fun r n2 => ?_⟩⟩
  have hpr : p ≠ r := fun z => by rw [z, ← z, upd_same] at n2; cases n2
  have nr : H r = none := by rw [upd_ne hpr.symm] at n2; exact n2
  have gp := f.gh.free n1
  have gr := f.gh.free nr
  have w1 := (w.mut (o := HO.lst []) (w.hh.free n1) gp).mut (p := r) (o := HO.lst []) (w.hh.free nr) gr
  have hp1 : (upd (upd H p (.lst [])) r (.lst [])) p = some (.lst []) := by rw [upd_ne hpr, upd_same]
  have hr1 : (upd (upd H p (.lst [])) r (.lst [])) r = some (.lst []) := upd_same
  generalize upd (upd H p (.lst [])) r (.lst []) = H1 at w1 hp1 hr1
  refine he σ G H1 w1.gh f.sd _ fun v G3 H3 w3 dv => ⟨.ref p, .ref r, v, rfl, ?_⟩
  have hp3 := w3.hh _ _ hp1
  have hr3 := w3.hh _ _ hr1
  have gp3 := w3.keeps hp1 gp
  have gr3 := w3.keeps hr1 gr
  have w4 := w1.trans w3
  have sl := f.sd.len
  have sd0 : Sd K G3 (((σ.set i (some (V.ref p))).set j (some (V.ref r)))) ((env.set i none).set j none) := by
    refine ⟨by rw [List.length_set, List.length_set, List.length_set, List.length_set, sl], fun k e z => ?_⟩
    rw [List.getElem?_set] at z
    by_cases h1 : j = k
    · rw [if_pos h1] at z
      split at z <;> cases z
    · rw [if_neg h1, List.getElem?_set] at z
      by_cases h2 : i = k
      · rw [if_pos h2] at z
        split at z <;> cases z
      · rw [if_neg h2] at z
        rw [List.getElem?_set_ne h1, List.getElem?_set_ne h2]
        exact (f.sd.mono w3.gg).at' k e z
  refine q _ G3 _ w3.gg w4 ⟨w4.gh, sd0.set l dv, [r, p], .cons ?_ (w.hh.free nr) gr3 (xs := []) ?_ .nil ?_ (.cons ?_ (w.hh.free n1) gp3 (xs := []) ?_ .nil (fun z => nomatch z) .nil)⟩
  · rw [List.getElem?_set_ne hjl.symm, List.getElem?_set, if_pos rfl, if_pos (by rw [List.length_set, sl]; exact hj)]
  · exact hr3
  · exact fun z => hpr (List.mem_singleton.mp z).symm
  · rw [List.getElem?_set_ne hil.symm, List.getElem?_set_ne hij.symm, List.getElem?_set, if_pos rfl, if_pos (by rw [sl]; exact hi)]
  · exact hp3
/-- a, b = x, y -/
theorem go_par {i j : Nat} {ta : TA} {d e : Dt} {M : MuL} (h : EvAs K ta env [d, e]) (hi : ∀ m ∈ M, m.1 ≠ i) (hj : ∀ m ∈ M, m.1 ≠ j) : GoE K (tPar i j ta) env M ((env.set i (some d)).set j (some e)) M := fun H0 G0 σ G H D w f q => h σ G H f.gh f.sd _ fun vs G' H' w' dv => by
  obtain ⟨ps, m⟩ := f.mu
  cases dv with
  | @cons v _ _ _ a t =>
    cases t with
    | @cons u _ _ _ b t =>
      cases t
      exact ⟨v, u, rfl, q _ G' H' w'.gg (w.trans w') ⟨w'.gh, ((f.sd.mono w'.gg).set i a).set j b, ps, ((m.grow w').set hi).set hj⟩⟩
/-- a, b = [], [] -/
theorem go_parLL {i j : Nat} (hij : i ≠ j) (hi : i < env.length) (hj : j < env.length) : GoE K (tPar i j (tCons (tLst tNil) (tCons (tLst tNil) tNil))) env [] ((env.set i none).set j none) [(j, []), (i, [])] := fun H0 G0 σ G H D w f q => by
  refine ⟨Nat.zero_le _, fun p n1 => ⟨Nat.zero_le _, fun r n2 => ⟨.ref p, .ref r, rfl, ?_⟩⟩⟩
  have hpr : p ≠ r := fun z => by rw [z, ← z, upd_same] at n2; cases n2
  have nr : H r = none := by rw [upd_ne hpr.symm] at n2; exact n2
  have gp := f.gh.free n1
  have gr := f.gh.free nr
  have w2 := (w.mut (o := HO.lst []) (w.hh.free n1) gp).mut (p := r) (o := HO.lst []) (w.hh.free nr) gr
  have sl := f.sd.len
  refine q _ G _ (Same.refl G) w2 ⟨w2.gh, ?_, [r, p], .cons ?_ (w.hh.free nr) gr (xs := []) ?_ .nil ?_ (.cons ?_ (w.hh.free n1) gp (xs := []) ?_ .nil (fun z => nomatch z) .nil)⟩
  · refine ⟨by rw [List.length_set, List.length_set, List.length_set, List.length_set, sl], fun k e z => ?_⟩
    rw [List.getElem?_set] at z
    by_cases h1 : j = k
    · rw [if_pos h1] at z
      split at z <;> cases z
    · rw [if_neg h1, List.getElem?_set] at z
      by_cases h2 : i = k
      · rw [if_pos h2] at z
        split at z <;> cases z
      · rw [if_neg h2] at z
        rw [List.getElem?_set_ne h1, List.getElem?_set_ne h2]
        exact f.sd.at' k e z
  · rw [List.getElem?_set, if_pos rfl, if_pos (by rw [List.length_set, sl]; exact hj)]
  · exact upd_same
  · exact fun z => hpr (List.mem_singleton.mp z).symm
  · rw [List.getElem?_set_ne hij.symm, List.getElem?_set, if_pos rfl, if_pos (by rw [sl]; exact hi)]
  · rw [upd_ne hpr, upd_same]
end
end LH

namespace K13
open PySem PySem.Spec PyProof.Rows L2 LH C8
def topS (i : Nat) : Stmt := PySem.Challenge.pw_letterhall_k13_plans_at_their_bounds.main.body.getD i (.Pass ⟨0, 0, 0, 0⟩)
abbrev s_is_number : Stmt := topS 3
abbrev n_is_number : List Str := ["thing"]
theorem sc_is_number : FnScope n_is_number ["thing"] (defScope s_is_number) := ⟨rfl, rfl, rfl, by decide +kernel, rfl, by decide +kernel, by decide +kernel⟩
abbrev s_is_within : Stmt := topS 4
abbrev n_is_within : List Str := ["thing", "least", "most"]
theorem sc_is_within : FnScope n_is_within ["thing", "least", "most"] (defScope s_is_within) := ⟨rfl, rfl, rfl, by decide +kernel, rfl, by decide +kernel, by decide +kernel⟩
abbrev s_is_name : Stmt := topS 5
abbrev n_is_name : List Str := ["thing", "letter"]
theorem sc_is_name : FnScope n_is_name ["thing"] (defScope s_is_name) := ⟨rfl, rfl, rfl, by decide +kernel, rfl, by decide +kernel, by decide +kernel⟩
abbrev s_is_tuple : Stmt := topS 6
abbrev n_is_tuple : List Str := ["thing", "least", "most"]
theorem sc_is_tuple : FnScope n_is_tuple ["thing", "least", "most"] (defScope s_is_tuple) := ⟨rfl, rfl, rfl, by decide +kernel, rfl, by decide +kernel, by decide +kernel⟩
abbrev s_all_unlike : Stmt := topS 7
abbrev n_all_unlike : List Str := ["things"]
theorem sc_all_unlike : FnScope n_all_unlike ["things"] (defScope s_all_unlike) := ⟨rfl, rfl, rfl, by decide +kernel, rfl, by decide +kernel, by decide +kernel⟩
abbrev s_is_address : Stmt := topS 19
abbrev n_is_address : List Str := ["thing"]
theorem sc_is_address : FnScope n_is_address ["thing"] (defScope s_is_address) := ⟨rfl, rfl, rfl, by decide +kernel, rfl, by decide +kernel, by decide +kernel⟩
abbrev s_is_people : Stmt := topS 20
abbrev n_is_people : List Str := ["thing", "name"]
theorem sc_is_people : FnScope n_is_people ["thing"] (defScope s_is_people) := ⟨rfl, rfl, rfl, by decide +kernel, rfl, by decide +kernel, by decide +kernel⟩
abbrev s_is_list_of_house : Stmt := topS 21
abbrev n_is_list_of_house : List Str := ["thing", "addresses", "address"]
theorem sc_is_list_of_house : FnScope n_is_list_of_house ["thing"] (defScope s_is_list_of_house) := ⟨rfl, rfl, rfl, by decide +kernel, rfl, by decide +kernel, by decide +kernel⟩
abbrev s_is_lists : Stmt := topS 22
abbrev n_is_lists : List Str := ["thing", "row"]
theorem sc_is_lists : FnScope n_is_lists ["thing"] (defScope s_is_lists) := ⟨rfl, rfl, rfl, by decide +kernel, rfl, by decide +kernel, by decide +kernel⟩
abbrev s_is_ways : Stmt := topS 23
abbrev n_is_ways : List Str := ["thing", "way"]
theorem sc_is_ways : FnScope n_is_ways ["thing"] (defScope s_is_ways) := ⟨rfl, rfl, rfl, by decide +kernel, rfl, by decide +kernel, by decide +kernel⟩
abbrev s_is_house : Stmt := topS 24
abbrev n_is_house : List Str := ["thing", "name", "people", "lists", "ways", "most", "names", "row"]
theorem sc_is_house : FnScope n_is_house ["thing"] (defScope s_is_house) := ⟨rfl, rfl, rfl, by decide +kernel, rfl, by decide +kernel, by decide +kernel⟩
abbrev s_is_houses : Stmt := topS 25
abbrev n_is_houses : List Str := ["thing", "house"]
theorem sc_is_houses : FnScope n_is_houses ["thing"] (defScope s_is_houses) := ⟨rfl, rfl, rfl, by decide +kernel, rfl, by decide +kernel, by decide +kernel⟩
abbrev s_is_link : Stmt := topS 26
abbrev n_is_link : List Str := ["thing", "names"]
theorem sc_is_link : FnScope n_is_link ["thing", "names"] (defScope s_is_link) := ⟨rfl, rfl, rfl, by decide +kernel, rfl, by decide +kernel, by decide +kernel⟩
abbrev s_is_links : Stmt := topS 27
abbrev n_is_links : List Str := ["thing", "names", "link"]
theorem sc_is_links : FnScope n_is_links ["thing", "names"] (defScope s_is_links) := ⟨rfl, rfl, rfl, by decide +kernel, rfl, by decide +kernel, by decide +kernel⟩
abbrev s_is_plan : Stmt := topS 28
abbrev n_is_plan : List Str := ["thing", "house"]
theorem sc_is_plan : FnScope n_is_plan ["thing"] (defScope s_is_plan) := ⟨rfl, rfl, rfl, by decide +kernel, rfl, by decide +kernel, by decide +kernel⟩
/-! ### what the top has written -/
structure Tx (K : PySem.W.Frag) (mg : Str → Option Value) (aW : Addr) : Prop where
  m_isinstance : mg "isinstance" = none
  m_int : mg "int" = none
  m_bool : mg "bool" = none
  m_str : mg "str" = none
  m_tuple : mg "tuple" = none
  m_list : mg "list" = none
  m_len : mg "len" = none
  m_all : mg "all" = none
  m_set : mg "set" = none
  m_sorted : mg "sorted" = none
  g_MOST_NAME : ∃ u, mg "MOST_NAME" = some u ∧ RelV (.int 8) u
  g_SMALL_LETTERS : ∃ u, mg "SMALL_LETTERS" = some u ∧ RelV (.str "abcdefghijklmnopqrstuvwxyz") u
  g_MOST_PEOPLE : ∃ u, mg "MOST_PEOPLE" = some u ∧ RelV (.int 4) u
  g_MOST_ADDRESSES : ∃ u, mg "MOST_ADDRESSES" = some u ∧ RelV (.int 4) u
  g_MOST_LISTS : ∃ u, mg "MOST_LISTS" = some u ∧ RelV (.int 3) u
  g_MOST_HOUSES : ∃ u, mg "MOST_HOUSES" = some u ∧ RelV (.int 5) u
  g_MOST_LINKS : ∃ u, mg "MOST_LINKS" = some u ∧ RelV (.int 8) u
  g_MOST_DELAY : ∃ u, mg "MOST_DELAY" = some u ∧ RelV (.int 4) u
  g_LEAST_MOST : ∃ u, mg "LEAST_MOST" = some u ∧ RelV (.int 400) u
  g_GREATEST_MOST : ∃ u, mg "GREATEST_MOST" = some u ∧ RelV (.int 9000) u
  g_NOBODYS_NAME : ∃ u, mg "NOBODYS_NAME" = some u ∧ RelV (.str "post") u
  g_WAYS : ∃ u, mg "WAYS" = some u ∧ RelV (.ref aW) u
  ways : ∀ H, Dq K H (.ref aW) (.tuple waysD)
section
variable {P : Program} {w : World} {K : PySem.W.Frag} {mg : Str → Option Value} {base : Heap} {aW : Addr}
theorem c_is_number (T : Tx K mg aW) (F : Dfn K mg "is_number" s_is_number ["thing"]) : Cal P w K mg base 1 "is_number" (spF K mIsNumber) [] := by
  refine calF mIsNumber F sc_is_number (fun ds d h => ?_) fun f cdv A outer s H E hr ds d h => ?_
  · match ds, h with
    | [_], _ => rfl
  · match ds, h with
    | [x], h =>
      cases h
      refine ⟨_, (pss_one (ps_ret (pe_and (pe_callB call_isi (by rfl) T.m_isinstance (by decide +kernel) (pa_cons (pv 0) (pa_cons (pe_tyN "int" (by rfl) T.m_int (by decide +kernel)) pa_nil))) (pe_one (pe_not (pe_callB call_isi (by rfl) T.m_isinstance (by decide +kernel) (pa_cons (pv 0) (pa_cons (pe_tyN "bool" (by rfl) T.m_bool (by decide +kernel)) pa_nil)))))))), ?_⟩
      refine rt_ret ?_
      exact ee_is (ee_and (ee_isInt (ee_var rfl)) fun _ => ee_not (ee_isBool (ee_var rfl))) (by cases x <;> rfl)
theorem c_is_within (T : Tx K mg aW) (F : Dfn K mg "is_within" s_is_within ["thing", "least", "most"]) (C_is_number : Cal P w K mg base 1 "is_number" (spF K mIsNumber) []) : Cal P w K mg base 2 "is_within" (spF K mIsWithin) [] := by
  refine calF mIsWithin F sc_is_within (fun ds d h => ?_) fun f cdv A outer s H E hr ds d h => ?_
  · unfold mIsWithin at h
    split at h
    · rfl
    · cases h
  · match ds, h with
    | [x, .int a, .int b], h =>
      cases h
      refine ⟨_, (pss_one (ps_ret (pe_and (pe_c C_is_number hr (by decide) (by rfl) (pa_cons (pv 0) pa_nil)) (pe_one (pe_chain op_le op_le (pv 1) (pv 0) (pv 2)))))), ?_⟩
      refine rt_ret ?_
      cases x with
      | int i => exact ee_is (ee_and (ee_call (ea_cons (ee_var rfl) ea_nil) rfl) fun _ => ee_chain (ee_var rfl) (ee_var rfl) rd_le (fun _ => ee_var rfl) (fun _ => rd_le)) rfl
      | _ => exact ee_andF (ee_call (ea_cons (ee_var rfl) ea_nil) rfl)
theorem c_is_tuple (T : Tx K mg aW) (F : Dfn K mg "is_tuple" s_is_tuple ["thing", "least", "most"]) : Cal P w K mg base 1 "is_tuple" (spF K mIsTuple) [] := by
  refine calF mIsTuple F sc_is_tuple (fun ds d h => ?_) fun f cdv A outer s H E hr ds d h => ?_
  · unfold mIsTuple at h
    split at h
    · rfl
    · cases h
  · match ds, h with
    | [x, .int a, .int b], h =>
      cases h
      refine ⟨_, (pss_one (ps_ret (pe_and (pe_callB call_isi (by rfl) T.m_isinstance (by decide +kernel) (pa_cons (pv 0) (pa_cons (pe_tyN "tuple" (by rfl) T.m_tuple (by decide +kernel)) pa_nil))) (pe_one (pe_chain op_le op_le (pv 1) (pe_callB call_lenA (by rfl) T.m_len (by decide +kernel) (pa_cons (pv 0) pa_nil)) (pv 2)))))), ?_⟩
      refine rt_ret ?_
      cases x with
      | tuple i => exact ee_is (ee_and (ee_isTuple (ee_var rfl)) fun _ => ee_chain (ee_var rfl) (ee_len (ee_var rfl) rfl) rd_le (fun _ => ee_var rfl) (fun _ => rd_le)) rfl
      | _ => exact ee_andF (ee_is (ee_isTuple (ee_var rfl)) rfl)
theorem c_is_name (T : Tx K mg aW) (F : Dfn K mg "is_name" s_is_name ["thing"]) : Cal P w K mg base 1 "is_name" (spF K mIsName) [] := by
  refine calF mIsName F sc_is_name (fun ds d h => ?_) fun f cdv A outer s H E hr ds d h => ?_
  · match ds, h with
    | [_], _ => rfl
  · match ds, h with
    | [x], h =>
      obtain ⟨hs, rfl⟩ := if_some (p := smD x = true) h
      refine ⟨_, (pss_cons (ps_if (pt_not (pt_val (pe_callB call_isi (by rfl) T.m_isinstance (by decide +kernel) (pa_cons (pv 0) (pa_cons (pe_tyN "str" (by rfl) T.m_str (by decide +kernel)) pa_nil))))) (pss_one (ps_ret (pe_bl))) (pss_nil)) (pss_one (ps_ret (pe_and (pe_chain op_le op_le (pe_int) (pe_callB call_lenA (by rfl) T.m_len (by decide +kernel) (pa_cons (pv 0) pa_nil)) (pe_gc (by rfl) T.g_MOST_NAME)) (pe_one (pe_callB (cr_all rfl) (by rfl) T.m_all (by decide +kernel) (pa_cons (pe_lc (own := [("letter", 1)]) (g := gName 1) (by rfl) sc_is_name.nd (pi_str (pv 0)) (blkOk_by (own := [("letter", 1)]) (N := n_is_name) (sc := defScope s_is_name) (by decide +kernel)) (fun _ _ _ _ _ => pg_name (i := 1) sc_is_name.nd rfl (Or.inl rfl)) (fun _ _ _ _ _ => pts_nil) (fun _ _ _ _ _ => pe_cmpR op_in_sign (pv 1) (pe_gc (by rfl) T.g_SMALL_LETTERS) rfl)) pa_nil))))))), ?_⟩
      cases x with
      | str z =>
        refine rt_no (eb_is (eb_not (eb_B (ee_isStr (ee_var rfl)))) rfl) (rt_ret ?_)
        refine ee_is (ee_and (ee_chain ee_int (ee_len (ee_var rfl) (lenD_str hs)) rd_le (fun _ => ee_int) (fun _ => rd_le)) fun _ => ee_allc (g := signIn lowers) (en_map _ (ei_str (ee_var rfl)) ?_ ?_)) rfl
        · unfold signsD
          (rw [List.length_map, Array.length_toList])
          exact (smD_str hs).1
        · intro d hd
          obtain ⟨c, _, rfl⟩ := List.mem_map.mp hd
          exact ee_op (ee_var rfl) ee_str rd_sign
      | _ => exact rt_yes (eb_is (eb_not (eb_B (ee_isStr (ee_var rfl)))) rfl) (rt_ret ee_bl)
theorem c_all_unlike (T : Tx K mg aW) (F : Dfn K mg "all_unlike" s_all_unlike ["things"]) : Cal P w K mg base 1 "all_unlike" (spF K mUnl) [] := by
  refine calF mUnl F sc_all_unlike (fun ds d h => ?_) fun f cdv A outer s H E hr ds d h => ?_
  · unfold mUnl at h
    split at h
    · rfl
    · rfl
    · cases h
  · have go : ∀ (x : Dt) (es : List Dt), (x = .list es ∨ x = .tuple es) → unlD es = some d → ds = [x] → ∃ t, PSs (cxOf L2.CX0 P w K mg base n_all_unlike "all_unlike" (defScope s_all_unlike) f cdv A outer s H E).nox (defBody s_all_unlike) t ∧ RtE K t (startD n_all_unlike.length ds) [] d := by
      intro x es hx hu hd
      subst hd
      refine ⟨_, (pss_one (ps_ret (pe_cmpR (op_eqD hr.units) (pe_lenSetD (by rfl) hr.units (by rfl) T.m_len (by rfl) T.m_set (pv 0)) (pe_callB call_lenA (by rfl) T.m_len (by decide +kernel) (pa_cons (pv 0) pa_nil)) (nomark _)))), ?_⟩
      obtain ⟨hl, hu⟩ : es.length < 64 ∧ (if es.all isStrD = true then some (PyData.bool (decide (es.map LH.strOf).Nodup)) else if es.all isStrTup = true then some (.bool (decide (es.map addrOf).Nodup)) else none) = some d := by
        unfold unlD at hu
        by_cases hl : es.length < 64
        · rw [if_pos hl] at hu
          exact ⟨hl, hu⟩
        · rw [if_neg hl] at hu
          cases hu
      have hlen : lenD x = some es.length := by rcases hx with rfl | rfl <;> rfl
      refine rt_ret ?_
      by_cases h1 : es.all isStrD = true
      · rw [if_pos h1] at hu
        cases hu
        have eb := strs_back h1
        refine ee_lenSetS (xs := es.map LH.strOf) (by rw [← eb]; exact hx) (ee_var rfl) (by rw [List.length_map]; exact hl) rfl ?_
        rw [List.length_map]
        exact ee_len (ee_var rfl) hlen
      · rw [if_neg h1] at hu
        obtain ⟨h2, rfl⟩ := if_some hu
        have eb := tups_back h2
        refine ee_lenSetT (kss := es.map addrOf) (by rw [← eb]; exact hx) (ee_var rfl) (by rw [List.length_map]; exact hl) rfl ?_
        rw [List.length_map]
        exact ee_len (ee_var rfl) hlen
    unfold mUnl at h
    split at h
    · exact go _ _ (.inl rfl) h rfl
    · exact go _ _ (.inr rfl) h rfl
    · cases h
end
end K13

namespace K13
open PySem PySem.Spec PyProof.Rows L2 LH C8
section
variable {P : Program} {w : World} {K : PySem.W.Frag} {mg : Str → Option Value} {base : Heap} {aW : Addr}
theorem c_is_address (T : Tx K mg aW) (F : Dfn K mg "is_address" s_is_address ["thing"]) (C_is_tuple : Cal P w K mg base 1 "is_tuple" (spF K mIsTuple) []) (C_is_name : Cal P w K mg base 1 "is_name" (spF K mIsName) []) : Cal P w K mg base 2 "is_address" (spF K mIsAddr) [] := by
  refine calF mIsAddr F sc_is_address (fun ds d h => ?_) fun f cdv A outer s H E hr ds d h => ?_
  · match ds, h with
    | [_], _ => rfl
  · match ds, h with
    | [x], h =>
      obtain ⟨hs, rfl⟩ := if_some (p := smD x = true) h
      refine ⟨_, (pss_one (ps_ret (pe_and (pe_c C_is_tuple hr (by decide) (by rfl) (pa_cons (pv 0) (pa_cons (pe_int) (pa_cons (pe_int) pa_nil)))) (pe_and (pe_c C_is_name hr (by decide) (by rfl) (pa_cons (pe_ix ix_seq (pv 0) (pe_int) (fun _ _ => rfl)) pa_nil)) (pe_one (pe_c C_is_name hr (by decide) (by rfl) (pa_cons (pe_ix ix_seq (pv 0) (pe_int) (fun _ _ => rfl)) pa_nil))))))), ?_⟩
      refine rt_ret ?_
      rcases pair_or x with ⟨a, b, rfl⟩ | hn
      · have sa := (smD_tup hs).2 a (by simp)
        have sb := (smD_tup hs).2 b (by simp)
        refine ee_andT (ee_call (ea_cons (ee_var rfl) (ea_cons ee_int (ea_cons ee_int ea_nil))) rfl) ?_
        exact ee_and (ee_call (ea_cons (ee_op (ee_var rfl) ee_int (rd_ix rfl)) ea_nil) (if_pos sa)) fun _ => ee_call (ea_cons (ee_op (ee_var rfl) ee_int (rd_ix rfl)) ea_nil) (if_pos sb)
      · have e : isAddrD x = false := by
          unfold isAddrD
          split
          · exact Bool.noConfusion (show true = false from hn)
          · rfl
        rw [e]
        exact ee_andF (ee_call (ea_cons (ee_var rfl) (ea_cons ee_int (ea_cons ee_int ea_nil))) (by show some (PyData.bool _) = _; rw [hn]))
theorem c_is_people (T : Tx K mg aW) (F : Dfn K mg "is_people" s_is_people ["thing"]) (C_is_tuple : Cal P w K mg base 1 "is_tuple" (spF K mIsTuple) []) (C_is_name : Cal P w K mg base 1 "is_name" (spF K mIsName) []) : Cal P w K mg base 2 "is_people" (spF K mIsPeople) [] := by
  refine calF mIsPeople F sc_is_people (fun ds d h => ?_) fun f cdv A outer s H E hr ds d h => ?_
  · match ds, h with
    | [_], _ => rfl
  · match ds, h with
    | [x], h =>
      obtain ⟨hs, rfl⟩ := if_some (p := smD x = true) h
      refine ⟨_, (pss_one (ps_ret (pe_and (pe_c C_is_tuple hr (by decide) (by rfl) (pa_cons (pv 0) (pa_cons (pe_int) (pa_cons (pe_gc (by rfl) T.g_MOST_PEOPLE) pa_nil)))) (pe_one (pe_callB (cr_all rfl) (by rfl) T.m_all (by decide +kernel) (pa_cons (pe_lc (own := [("name", 1)]) (g := gName 1) (by rfl) sc_is_people.nd (pi_tup (pv 0)) (blkOk_by (own := [("name", 1)]) (N := n_is_people) (sc := defScope s_is_people) (by decide +kernel)) (fun _ _ _ _ _ => pg_name (i := 1) sc_is_people.nd rfl (Or.inl rfl)) (fun _ _ _ _ _ => pts_nil) (fun _ _ _ _ _ => pe_c C_is_name hr (by decide) (by rfl) (pa_cons (pv 1) pa_nil))) pa_nil)))))), ?_⟩
      refine rt_ret ?_
      cases x with
      | tuple es =>
        refine ee_and (ee_call (ea_cons (ee_var rfl) (ea_cons ee_int (ea_cons ee_int ea_nil))) rfl) fun _ => ?_
        exact ee_allc (g := isNameD) (en_map _ (ei_tup (ee_var rfl)) (smD_tup hs).1 fun d hd => ee_call (ea_cons (ee_var rfl) ea_nil) (if_pos ((smD_tup hs).2 d hd)))
      | _ => exact ee_andF (ee_call (ea_cons (ee_var rfl) (ea_cons ee_int (ea_cons ee_int ea_nil))) rfl)
theorem c_is_list_of_house (T : Tx K mg aW) (F : Dfn K mg "is_list_of_house" s_is_list_of_house ["thing"]) (C_is_tuple : Cal P w K mg base 1 "is_tuple" (spF K mIsTuple) []) (C_is_name : Cal P w K mg base 1 "is_name" (spF K mIsName) [])
    (C_is_address : Cal P w K mg base 2 "is_address" (spF K mIsAddr) []) (C_all_unlike : Cal P w K mg base 1 "all_unlike" (spF K mUnl) []) : Cal P w K mg base 3 "is_list_of_house" (spF K mIsLoh) [] := by
  refine calF mIsLoh F sc_is_list_of_house (fun ds d h => ?_) fun f cdv A outer s H E hr ds d h => ?_
  · match ds, h with
    | [_], _ => rfl
  · match ds, h with
    | [x], h =>
      obtain ⟨hs, rfl⟩ := if_some (p := smD x = true) h
      refine ⟨_, (pss_cons (ps_if (PW.pt (pw_or (pt_not (pt_val (pe_c C_is_tuple hr (by decide) (by rfl) (pa_cons (pv 0) (pa_cons (pe_int) (pa_cons (pe_int) pa_nil)))))) (pw_or1 (pt_not (pt_val (pe_c C_is_name hr (by decide) (by rfl) (pa_cons (pe_ix ix_seq (pv 0) (pe_int) (fun _ _ => rfl)) pa_nil))))))) (pss_one (ps_ret (pe_bl))) (pss_nil)) (pss_cons (ps_set (i := 1) sc_is_list_of_house.nd rfl (Or.inl rfl) (pe_ix ix_seq (pv 0) (pe_int) (fun _ _ => rfl))) (pss_cons (ps_if (pt_not (pt_val (pe_c C_is_tuple hr (by decide) (by rfl) (pa_cons (pv 1) (pa_cons (pe_int) (pa_cons (pe_gc (by rfl) T.g_MOST_ADDRESSES) pa_nil)))))) (pss_one (ps_ret (pe_bl))) (pss_nil)) (pss_one (ps_ret (pe_and (pe_callB (cr_all rfl) (by rfl) T.m_all (by decide +kernel) (pa_cons (pe_lc (own := [("address", 2)]) (g := gName 2) (by rfl) sc_is_list_of_house.nd (pi_tup (pv 1)) (blkOk_by (own := [("address", 2)]) (N := n_is_list_of_house) (sc := defScope s_is_list_of_house) (by decide +kernel)) (fun _ _ _ _ _ => pg_name (i := 2) sc_is_list_of_house.nd rfl (Or.inl rfl)) (fun _ _ _ _ _ => pts_nil) (fun _ _ _ _ _ => pe_c C_is_address hr (by decide) (by rfl) (pa_cons (pv 2) pa_nil))) pa_nil)) (pe_one (pe_c C_all_unlike hr (by decide) (by rfl) (pa_cons (pv 1) pa_nil))))))))), ?_⟩
      rcases pair_or x with ⟨a, b, rfl⟩ | hn
      · have sa := (smD_tup hs).2 a (by simp)
        have sb := (smD_tup hs).2 b (by simp)
        cases hna : isNameD a with
        | false =>
          have e : isLohD (.tuple [a, b]) = false := by
            unfold isLohD
            split
            · rename_i q
              cases q
              rw [hna]
              rfl
            · rfl
          rw [e]
          refine rt_yes (eb_orF (eb_is (eb_not (eb_B (ee_call (ea_cons (ee_var rfl) (ea_cons ee_int (ea_cons ee_int ea_nil))) rfl))) rfl) (eb_is (eb_not (eb_B (ee_call (ea_cons (ee_op (ee_var rfl) ee_int (rd_ix rfl)) ea_nil) (if_pos sa)))) (by rw [hna]; rfl))) (rt_ret ee_bl)
        | true =>
          refine rt_no (eb_orF (eb_is (eb_not (eb_B (ee_call (ea_cons (ee_var rfl) (ea_cons ee_int (ea_cons ee_int ea_nil))) rfl))) rfl) (eb_is (eb_not (eb_B (ee_call (ea_cons (ee_op (ee_var rfl) ee_int (rd_ix rfl)) ea_nil) (if_pos sa)))) (by rw [hna]; rfl))) ?_
          refine rt_seq (go_asg (ee_op (ee_var rfl) ee_int (rd_ix rfl)) (fun m hm => nomatch hm)) ?_
          cases htb : isTupD b 1 4 with
          | false =>
            have e : isLohD (.tuple [a, b]) = false := by
              unfold isLohD
              split
              · rename_i q
                cases q
                rw [htb, Bool.false_and, Bool.and_false]
              · rfl
            rw [e]
            exact rt_yes (eb_is (eb_not (eb_B (ee_call (ea_cons (ee_var rfl) (ea_cons ee_int (ea_cons ee_int ea_nil))) rfl))) (by rw [htb]; rfl)) (rt_ret ee_bl)
          | true =>
            refine rt_no (eb_is (eb_not (eb_B (ee_call (ea_cons (ee_var rfl) (ea_cons ee_int (ea_cons ee_int ea_nil))) rfl))) (by rw [htb]; rfl)) ?_
            obtain ⟨as, rfl, h1, h4⟩ := isTup_at htb
            have e : isLohD (.tuple [a, .tuple as]) = (as.all isAddrD && decide ((as.map addrOf).Nodup)) := by
              show (isNameD a && (isTupD (.tuple as) 1 4 && _)) = _
              rw [hna, htb, Bool.true_and, Bool.true_and]
            rw [e]
            refine rt_ret (ee_and (ee_allc (g := isAddrD) (en_map _ (ei_tup (ee_var rfl)) (smD_tup sb).1 fun d hd => ee_call (ea_cons (ee_var rfl) ea_nil) (if_pos ((smD_tup sb).2 d hd)))) fun hall => ?_)
            refine ee_call (ea_cons (ee_var rfl) ea_nil) ?_
            show unlD as = _
            unfold unlD
            have ht := all_imp hall fun x hx => addr_tup hx
            rw [if_pos (show as.length < 64 by omega)]
            by_cases hq : as.all isStrD = true
            · -- no address is a text
              exfalso
              cases as with
              | nil => exact absurd h1 (by decide)
              | cons x r =>
                rw [List.all_cons, Bool.and_eq_true] at hall hq
                cases x <;> first | exact absurd hall.1 Bool.false_ne_true | exact absurd hq.1 Bool.false_ne_true
            · rw [if_neg hq, if_pos ht]
      · have e : isLohD x = false := by
          unfold isLohD
          split
          · exact Bool.noConfusion (show true = false from hn)
          · rfl
        rw [e]
        exact rt_yes (eb_orT (eb_is (eb_not (eb_B (ee_call (ea_cons (ee_var rfl) (ea_cons ee_int (ea_cons ee_int ea_nil))) rfl))) (by rw [hn]; rfl))) (rt_ret ee_bl)
theorem c_is_lists (T : Tx K mg aW) (F : Dfn K mg "is_lists" s_is_lists ["thing"]) (C_is_tuple : Cal P w K mg base 1 "is_tuple" (spF K mIsTuple) []) (C_is_list_of_house : Cal P w K mg base 3 "is_list_of_house" (spF K mIsLoh) []) : Cal P w K mg base 4 "is_lists" (spF K mIsLists) [] := by
  refine calF mIsLists F sc_is_lists (fun ds d h => ?_) fun f cdv A outer s H E hr ds d h => ?_
  · match ds, h with
    | [_], _ => rfl
  · match ds, h with
    | [x], h =>
      obtain ⟨hs, rfl⟩ := if_some (p := smD x = true) h
      refine ⟨_, (pss_one (ps_ret (pe_and (pe_c C_is_tuple hr (by decide) (by rfl) (pa_cons (pv 0) (pa_cons (pe_int) (pa_cons (pe_gc (by rfl) T.g_MOST_LISTS) pa_nil)))) (pe_one (pe_callB (cr_all rfl) (by rfl) T.m_all (by decide +kernel) (pa_cons (pe_lc (own := [("row", 1)]) (g := gName 1) (by rfl) sc_is_lists.nd (pi_tup (pv 0)) (blkOk_by (own := [("row", 1)]) (N := n_is_lists) (sc := defScope s_is_lists) (by decide +kernel)) (fun _ _ _ _ _ => pg_name (i := 1) sc_is_lists.nd rfl (Or.inl rfl)) (fun _ _ _ _ _ => pts_nil) (fun _ _ _ _ _ => pe_c C_is_list_of_house hr (by decide) (by rfl) (pa_cons (pv 1) pa_nil))) pa_nil)))))), ?_⟩
      refine rt_ret ?_
      cases x with
      | tuple es =>
        refine ee_and (ee_call (ea_cons (ee_var rfl) (ea_cons ee_int (ea_cons ee_int ea_nil))) rfl) fun _ => ?_
        exact ee_allc (g := isLohD) (en_map _ (ei_tup (ee_var rfl)) (smD_tup hs).1 fun d hd => ee_call (ea_cons (ee_var rfl) ea_nil) (if_pos ((smD_tup hs).2 d hd)))
      | _ => exact ee_andF (ee_call (ea_cons (ee_var rfl) (ea_cons ee_int (ea_cons ee_int ea_nil))) rfl)
end
end K13

namespace K13
open PySem PySem.Spec PyProof.Rows L2 LH C8
section
variable {P : Program} {w : World} {K : PySem.W.Frag} {mg : Str → Option Value} {base : Heap} {aW : Addr}
theorem c_is_ways (T : Tx K mg aW) (F : Dfn K mg "is_ways" s_is_ways ["thing"]) (C_is_tuple : Cal P w K mg base 1 "is_tuple" (spF K mIsTuple) []) : Cal P w K mg base 2 "is_ways" (spF K mIsWays) [] := by
  refine calF mIsWays F sc_is_ways (fun ds d h => ?_) fun f cdv A outer s H E hr ds d h => ?_
  · match ds, h with
    | [_], _ => rfl
  · match ds, h with
    | [x], h =>
      obtain ⟨⟨hs, ho⟩, rfl⟩ := if_some (p := smD x = true ∧ okWays x = true) h
      refine ⟨_, (pss_one (ps_ret (pe_and (pe_c C_is_tuple hr (by decide) (by rfl) (pa_cons (pv 0) (pa_cons (pe_int) (pa_cons (pe_callB call_lenA (by rfl) T.m_len (by decide +kernel) (pa_cons (pe_gc (by rfl) T.g_WAYS) pa_nil)) pa_nil)))) (pe_one (pe_cmpR (op_eqD hr.units) (pv 0) (pe_tupleOf (by rfl) T.m_tuple (pe_lc (own := [("way", 1)]) (g := gName 1) (by rfl) sc_is_ways.nd (pi_tup (pe_gc (by rfl) T.g_WAYS)) (blkOk_by (own := [("way", 1)]) (N := n_is_ways) (sc := defScope s_is_ways) (by decide +kernel)) (fun _ _ _ _ _ => pg_name (i := 1) sc_is_ways.nd rfl (Or.inl rfl)) (fun _ _ _ _ _ => pts_one (pt_cmpR (@id (OpR _ _ (rIn K false)) op_in_seq) (pv 1) (pv 0) rfl)) (fun _ _ _ _ _ => pv 1))) (nomark _)))))), ?_⟩
      refine rt_ret ?_
      have ew : ∀ env, EvE K (tC (.ref aW)) env (.tuple waysD) := fun env => ee_c T.ways
      cases x with
      | tuple es =>
        refine ee_and (ee_call (ea_cons (ee_var rfl) (ea_cons ee_int (ea_cons (ee_len (ew _) rfl) ea_nil))) rfl) fun _ => ?_
        have hw : ∀ d ∈ waysD, flatD d = true ∧ smD d = true := by
          intro d hd
          have q : (waysD.all fun d => flatD d && smD d) = true := by decide +kernel
          have r := List.all_eq_true.mp q d hd
          rw [Bool.and_eq_true] at r
          exact r
        have e1 : EvN K _ _ _ := en_lc (K := K) (t := tTest (tOp (rIn K false) (tVar 1) (tVar 0))) (te := tVar 1) (j := 1) (fun w => es.any fun z => PyData.eqv z w) (fun d => d) (ei_tup (ew (startD n_is_ways.length [PyData.tuple es]))) (by decide)
          (fun d hd => eb_test (ee_op (ee_var rfl) (ee_var rfl) (rd_inT (neg := false) (hw d hd).1 ho))) (fun d _ _ => ee_var rfl)
        rw [List.map_id'] at e1
        refine ee_op (ee_var rfl) (ee_tupleL (ee_of e1)) (rd_eqD (shaped_row ho (smD_tup hs).2).1 ?_)
        refine (shaped_row ?_ fun d hd => (hw d (List.mem_filter.mp hd).1).2).1
        exact List.all_eq_true.mpr fun d hd => (hw d (List.mem_filter.mp hd).1).1
      | _ => exact ee_andF (ee_call (ea_cons (ee_var rfl) (ea_cons ee_int (ea_cons (ee_len (ew _) rfl) ea_nil))) rfl)
theorem c_is_link (T : Tx K mg aW) (F : Dfn K mg "is_link" s_is_link ["thing", "names"]) (C_is_tuple : Cal P w K mg base 1 "is_tuple" (spF K mIsTuple) []) (C_is_within : Cal P w K mg base 2 "is_within" (spF K mIsWithin) []) : Cal P w K mg base 3 "is_link" (spF K mIsLink) [] := by
  refine calF mIsLink F sc_is_link (fun ds d h => ?_) fun f cdv A outer s H E hr ds d h => ?_
  · unfold mIsLink at h
    split at h
    · rfl
    · cases h
  · match ds, h with
    | [x, .list ns], h =>
      obtain ⟨⟨ho, hn⟩, rfl⟩ := if_some (p := okLink x = true ∧ ns.all isNameD = true) h
      refine ⟨_, (pss_cons (ps_if (PW.pt (pw_or (pt_not (pt_val (pe_c C_is_tuple hr (by decide) (by rfl) (pa_cons (pv 0) (pa_cons (pe_int) (pa_cons (pe_int) pa_nil)))))) (pw_or (pt_cmpR op_notIn_seq (pe_ix ix_seq (pv 0) (pe_int) (fun _ _ => rfl)) (pv 1) rfl) (pw_or1 (pt_cmpR op_notIn_seq (pe_ix ix_seq (pv 0) (pe_int) (fun _ _ => rfl)) (pv 1) rfl))))) (pss_one (ps_ret (pe_bl))) (pss_nil)) (pss_one (ps_ret (pe_and (pe_cmpR (op_neD hr.units) (pe_ix ix_seq (pv 0) (pe_int) (fun _ _ => rfl)) (pe_ix ix_seq (pv 0) (pe_int) (fun _ _ => rfl)) (nomark _)) (pe_one (pe_c C_is_within hr (by decide) (by rfl) (pa_cons (pe_ix ix_seq (pv 0) (pe_int) (fun _ _ => rfl)) (pa_cons (pe_int) (pa_cons (pe_gc (by rfl) T.g_MOST_DELAY) pa_nil))))))))), ?_⟩
      unfold okLink at ho
      rw [Bool.and_eq_true] at ho
      have nf := names_flat hn
      rcases three_or x with ⟨a, b, c, rfl⟩ | h3
      · obtain ⟨hs, ho⟩ := ho
        rw [Bool.and_eq_true] at ho
        have sa := (smD_tup hs).2 a (by simp)
        have sb := (smD_tup hs).2 b (by simp)
        have t1 : EvB K _ _ _ := eb_test (ee_op (ee_op (ee_var (K := K) (env := startD n_is_link.length [PyData.tuple [a, b, c], PyData.list ns]) (i := 0) rfl) (ee_int (i := 0)) (rd_ix rfl)) (ee_var (i := 1) rfl) (rd_inL (neg := true) ho.1 nf))
        have t2 : EvB K _ _ _ := eb_test (ee_op (ee_op (ee_var (K := K) (env := startD n_is_link.length [PyData.tuple [a, b, c], PyData.list ns]) (i := 0) rfl) (ee_int (i := 1)) (rd_ix rfl)) (ee_var (i := 1) rfl) (rd_inL (neg := true) ho.2 nf))
        cases ha : ns.any fun z => PyData.eqv z a with
        | false =>
          have e : isLinkD (.tuple [a, b, c]) ns = false := by
            show ((_ && _) && _) = false
            rw [ha]
            rfl
          rw [e]
          exact rt_yes (eb_orF (eb_is (eb_not (eb_B (ee_call (ea_cons (ee_var rfl) (ea_cons ee_int (ea_cons ee_int ea_nil))) rfl))) rfl) (eb_orT (eb_is t1 (by rw [ha]; rfl)))) (rt_ret ee_bl)
        | true =>
          cases hb : ns.any fun z => PyData.eqv z b with
          | false =>
            have e : isLinkD (.tuple [a, b, c]) ns = false := by
              show ((_ && _) && _) = false
              rw [ha, hb]
              rfl
            rw [e]
            exact rt_yes (eb_orF (eb_is (eb_not (eb_B (ee_call (ea_cons (ee_var rfl) (ea_cons ee_int (ea_cons ee_int ea_nil))) rfl))) rfl) (eb_orF (eb_is t1 (by rw [ha]; rfl)) (eb_is t2 (by rw [hb]; rfl)))) (rt_ret ee_bl)
          | true =>
            have e : isLinkD (.tuple [a, b, c]) ns = (!PyData.eqv a b && isWithinD c 1 4) := by
              show ((_ && _) && _) = _
              rw [ha, hb]
              rfl
            rw [e]
            refine rt_no (eb_orF (eb_is (eb_not (eb_B (ee_call (ea_cons (ee_var rfl) (ea_cons ee_int (ea_cons ee_int ea_nil))) rfl))) rfl) (eb_orF (eb_is t1 (by rw [ha]; rfl)) (eb_is t2 (by rw [hb]; rfl)))) (rt_ret ?_)
            exact ee_and (ee_op (ee_op (ee_var rfl) ee_int (rd_ix rfl)) (ee_op (ee_var rfl) ee_int (rd_ix rfl)) (rd_neD (shaped_flat ho.1 sa) (shaped_flat ho.2 sb))) fun _ => ee_call (ea_cons (ee_op (ee_var rfl) ee_int (rd_ix rfl)) (ea_cons ee_int (ea_cons ee_int ea_nil))) rfl
      · have e : isLinkD x ns = false := by
          unfold isLinkD
          split
          · exact Bool.noConfusion (show true = false from h3)
          · rfl
        rw [e]
        exact rt_yes (eb_orT (eb_is (eb_not (eb_B (ee_call (ea_cons (ee_var rfl) (ea_cons ee_int (ea_cons ee_int ea_nil))) rfl))) (by rw [h3]; rfl))) (rt_ret ee_bl)
end
end K13

namespace K13
open PySem PySem.Spec PyProof.Rows L2 LH C8
section
variable {P : Program} {w : World} {K : PySem.W.Frag} {mg : Str → Option Value} {base : Heap} {aW : Addr}
theorem c_is_houses (T : Tx K mg aW) (F : Dfn K mg "is_houses" s_is_houses ["thing"]) (C_is_tuple : Cal P w K mg base 1 "is_tuple" (spF K mIsTuple) []) (C_is_house : Cal P w K mg base 5 "is_house" (spF K mIsHouse) [])
    (C_all_unlike : Cal P w K mg base 1 "all_unlike" (spF K mUnl) []) : Cal P w K mg base 6 "is_houses" (spF K mIsHouses) [] := by
  refine calF mIsHouses F sc_is_houses (fun ds d h => ?_) fun f cdv A outer s H E hr ds d h => ?_
  · match ds, h with
    | [_], _ => rfl
  · match ds, h with
    | [x], h =>
      obtain ⟨⟨hs, ho⟩, rfl⟩ := if_some (p := smD x = true ∧ (elems x).all okHouse = true) h
      refine ⟨_, (pss_cons (ps_if (PW.pt (pw_or (pt_not (pt_val (pe_c C_is_tuple hr (by decide) (by rfl) (pa_cons (pv 0) (pa_cons (pe_int) (pa_cons (pe_gc (by rfl) T.g_MOST_HOUSES) pa_nil)))))) (pw_or1 (pt_not (pt_val (pe_callB (cr_all rfl) (by rfl) T.m_all (by decide +kernel) (pa_cons (pe_lc (own := [("house", 1)]) (g := gName 1) (by rfl) sc_is_houses.nd (pi_tup (pv 0)) (blkOk_by (own := [("house", 1)]) (N := n_is_houses) (sc := defScope s_is_houses) (by decide +kernel)) (fun _ _ _ _ _ => pg_name (i := 1) sc_is_houses.nd rfl (Or.inl rfl)) (fun _ _ _ _ _ => pts_nil) (fun _ _ _ _ _ => pe_c C_is_house hr (by decide) (by rfl) (pa_cons (pv 1) pa_nil))) pa_nil))))))) (pss_one (ps_ret (pe_bl))) (pss_nil)) (pss_one (ps_ret (pe_c C_all_unlike hr (by decide) (by rfl) (pa_cons (pe_lc (own := [("house", 1)]) (g := gName 1) (by rfl) sc_is_houses.nd (pi_tup (pv 0)) (blkOk_by (own := [("house", 1)]) (N := n_is_houses) (sc := defScope s_is_houses) (by decide +kernel)) (fun _ _ _ _ _ => pg_name (i := 1) sc_is_houses.nd rfl (Or.inl rfl)) (fun _ _ _ _ _ => pts_nil) (fun _ _ _ _ _ => pe_ix (@id (IxR _ (rIx K)) ix_seq) (pv 1) (pe_int) (fun _ _ => rfl))) pa_nil))))), ?_⟩
      cases ht : isTupD x 1 5 with
      | false =>
        have e : isHousesD x = false := by
          unfold isHousesD
          split
          · rw [ht]
            rfl
          · rfl
        rw [e]
        exact rt_yes (eb_orT (eb_is (eb_not (eb_B (ee_call (ea_cons (ee_var rfl) (ea_cons ee_int (ea_cons ee_int ea_nil))) rfl))) (by rw [ht]; rfl))) (rt_ret ee_bl)
      | true =>
        obtain ⟨es, rfl, h1, h5⟩ := isTup_at ht
        have tall : EvB K _ _ _ := eb_not (eb_B (ee_allc (K := K) (g := isHouseD) (en_map (j := 1) _ (ei_tup (ee_var (i := 0) (env := startD n_is_houses.length [PyData.tuple es]) rfl)) (smD_tup hs).1 fun d hd => ee_call (E := C8.E0) (f := mIsHouse) (ea_cons (ee_var (i := 1) rfl) ea_nil) (if_pos (List.all_eq_true.mp ho d hd)))))
        cases hall : es.all isHouseD with
        | false =>
          have e : isHousesD (.tuple es) = false := by
            show ((_ && es.all isHouseD) && _) = false
            rw [hall, Bool.and_false]
            rfl
          rw [e]
          exact rt_yes (eb_orF (eb_is (eb_not (eb_B (ee_call (ea_cons (ee_var rfl) (ea_cons ee_int (ea_cons ee_int ea_nil))) rfl))) (by rw [ht]; rfl)) (eb_is tall (by rw [hall]; rfl))) (rt_ret ee_bl)
        | true =>
          have e : isHousesD (.tuple es) = decide ((es.map fun h => LH.strOf (fstOf h)).Nodup) := by
            show ((isTupD (.tuple es) 1 5 && es.all isHouseD) && _) = _
            rw [hall, ht]
            rfl
          rw [e]
          refine rt_no (eb_orF (eb_is (eb_not (eb_B (ee_call (ea_cons (ee_var rfl) (ea_cons ee_int (ea_cons ee_int ea_nil))) rfl))) (by rw [ht]; rfl)) (eb_is tall (by rw [hall]; rfl))) (rt_ret ?_)
          refine ee_call (ea_cons (ee_of (en_map (fun h => .str (LH.strOf (fstOf h))) (ei_tup (ee_var rfl)) (smD_tup hs).1 fun d hd => ?_)) ea_nil) ?_
          · obtain ⟨z, b, c, e, f, rfl, _⟩ := house_fst (List.all_eq_true.mp hall d hd)
            exact ee_op (ee_var rfl) ee_int (rd_ix rfl)
          · have em : (es.map fun h => PyData.str (LH.strOf (fstOf h))) = (es.map fun h => LH.strOf (fstOf h)).map PyData.str := by rw [List.map_map]; rfl
            show unlD _ = _
            rw [em]
            exact unl_strs (by rw [List.length_map]; omega)
theorem c_is_links (T : Tx K mg aW) (F : Dfn K mg "is_links" s_is_links ["thing", "names"]) (C_is_tuple : Cal P w K mg base 1 "is_tuple" (spF K mIsTuple) []) (C_is_link : Cal P w K mg base 3 "is_link" (spF K mIsLink) [])
    (C_all_unlike : Cal P w K mg base 1 "all_unlike" (spF K mUnl) []) : Cal P w K mg base 4 "is_links" (spF K mIsLinks) [] := by
  refine calF mIsLinks F sc_is_links (fun ds d h => ?_) fun f cdv A outer s H E hr ds d h => ?_
  · unfold mIsLinks at h
    split at h
    · rfl
    · cases h
  · match ds, h with
    | [x, .list ns], h =>
      obtain ⟨⟨hs, ho, hn, hnl⟩, rfl⟩ := if_some (p := smD x = true ∧ (elems x).all okLink = true ∧ ns.all isNameD = true ∧ ns.length ≤ 100) h
      refine ⟨_, (pss_cons (ps_if (PW.pt (pw_or (pt_not (pt_val (pe_c C_is_tuple hr (by decide) (by rfl) (pa_cons (pv 0) (pa_cons (pe_int) (pa_cons (pe_gc (by rfl) T.g_MOST_LINKS) pa_nil)))))) (pw_or1 (pt_not (pt_val (pe_callB (cr_all rfl) (by rfl) T.m_all (by decide +kernel) (pa_cons (pe_lc (own := [("link", 2)]) (g := gName 2) (by rfl) sc_is_links.nd (pi_tup (pv 0)) (blkOk_by (own := [("link", 2)]) (N := n_is_links) (sc := defScope s_is_links) (by decide +kernel)) (fun _ _ _ _ _ => pg_name (i := 2) sc_is_links.nd rfl (Or.inl rfl)) (fun _ _ _ _ _ => pts_nil) (fun _ _ _ _ _ => pe_c C_is_link hr (by decide) (by rfl) (pa_cons (pv 2) (pa_cons (pv 1) pa_nil)))) pa_nil))))))) (pss_one (ps_ret (pe_bl))) (pss_nil)) (pss_one (ps_ret (pe_c C_all_unlike hr (by decide) (by rfl) (pa_cons (pe_lc (own := [("link", 2)]) (g := gName 2) (by rfl) sc_is_links.nd (pi_tup (pv 0)) (blkOk_by (own := [("link", 2)]) (N := n_is_links) (sc := defScope s_is_links) (by decide +kernel)) (fun _ _ _ _ _ => pg_name (i := 2) sc_is_links.nd rfl (Or.inl rfl)) (fun _ _ _ _ _ => pts_nil) (fun _ _ _ _ _ => @id (PE _ _ (tThen _ (kTup K))) (pe_tupleOf (by rfl) T.m_tuple (pe_callB (@id (CallR _ _ (rSortTS K)) cr_sortedTS) (by rfl) T.m_sorted (by decide +kernel) (pa_cons (pe_slice (@id (SlR _ (rSlA K)) sl_tupA) (pv 2) po_none (po_some (pe_int))) pa_nil))))) pa_nil))))), ?_⟩
      cases ht : isTupD x 0 8 with
      | false =>
        have e : isLinksD x ns = false := by
          unfold isLinksD
          split
          · rw [ht]
            rfl
          · rfl
        rw [e]
        exact rt_yes (eb_orT (eb_is (eb_not (eb_B (ee_call (ea_cons (ee_var rfl) (ea_cons ee_int (ea_cons ee_int ea_nil))) rfl))) (by rw [ht]; rfl))) (rt_ret ee_bl)
      | true =>
        obtain ⟨es, rfl, h1, h5⟩ := isTup_at ht
        have tall : EvB K _ _ _ := eb_not (eb_B (ee_allc (K := K) (g := fun l => isLinkD l ns) (en_map (j := 2) _ (ei_tup (ee_var (i := 0) (env := startD n_is_links.length [PyData.tuple es, PyData.list ns]) rfl)) (smD_tup hs).1 fun d hd => ee_call (E := C8.E0) (f := mIsLink) (ea_cons (ee_var (i := 2) rfl) (ea_cons (ee_var (i := 1) rfl) ea_nil)) (if_pos ⟨List.all_eq_true.mp ho d hd, hn⟩))))
        cases hall : es.all fun l => isLinkD l ns with
        | false =>
          have e : isLinksD (.tuple es) ns = false := by
            show ((_ && es.all fun l => isLinkD l ns) && _) = false
            rw [hall, Bool.and_false]
            rfl
          rw [e]
          exact rt_yes (eb_orF (eb_is (eb_not (eb_B (ee_call (ea_cons (ee_var rfl) (ea_cons ee_int (ea_cons ee_int ea_nil))) rfl))) (by rw [ht]; rfl)) (eb_is tall (by rw [hall]; rfl))) (rt_ret ee_bl)
        | true =>
          have e : isLinksD (.tuple es) ns = decide ((es.map pairOf).Nodup) := by
            show ((isTupD (.tuple es) 0 8 && es.all fun l => isLinkD l ns) && _) = _
            rw [hall, ht]
            rfl
          rw [e]
          refine rt_no (eb_orF (eb_is (eb_not (eb_B (ee_call (ea_cons (ee_var rfl) (ea_cons ee_int (ea_cons ee_int ea_nil))) rfl))) (by rw [ht]; rfl)) (eb_is tall (by rw [hall]; rfl))) (rt_ret ?_)
          refine ee_call (ea_cons (ee_of (en_map (fun h => tupD (pairOf h)) (ei_tup (ee_var rfl)) (smD_tup hs).1 fun d hd => ?_)) ea_nil) ?_
          · have hl := List.all_eq_true.mp hall d hd
            unfold isLinkD at hl
            split at hl
            · rw [Bool.and_eq_true, Bool.and_eq_true] at hl
              obtain ⟨a, rfl⟩ := in_names hn hl.1.1
              obtain ⟨b, rfl⟩ := in_names hn hl.1.2
              exact ee_tupleL (ee_sort2 (a := a) (b := b) (ee_is (ee_slT (ee_var rfl) eo_none (eo_some ee_int)) rfl))
            · exact absurd hl Bool.false_ne_true
          · have em : (es.map fun h => tupD (pairOf h)) = (es.map pairOf).map tupD := by rw [List.map_map]; rfl
            show unlD _ = _
            rw [em]
            exact unl_tups (by rw [List.length_map]; omega)
theorem c_is_plan (T : Tx K mg aW) (F : Dfn K mg "is_plan" s_is_plan ["thing"]) (C_is_tuple : Cal P w K mg base 1 "is_tuple" (spF K mIsTuple) []) (C_is_houses : Cal P w K mg base 6 "is_houses" (spF K mIsHouses) [])
    (C_is_links : Cal P w K mg base 4 "is_links" (spF K mIsLinks) []) : Cal P w K mg base 7 "is_plan" (spF K mIsPlan) [] := by
  refine calF mIsPlan F sc_is_plan (fun ds d h => ?_) fun f cdv A outer s H E hr ds d h => ?_
  · match ds, h with
    | [_], _ => rfl
  · match ds, h with
    | [x], h =>
      obtain ⟨ho, rfl⟩ := if_some (p := okPlan x = true) h
      refine ⟨_, (pss_cons (ps_if (PW.pt (pw_or (pt_not (pt_val (pe_c C_is_tuple hr (by decide) (by rfl) (pa_cons (pv 0) (pa_cons (pe_int) (pa_cons (pe_int) pa_nil)))))) (pw_or1 (pt_not (pt_val (pe_c C_is_houses hr (by decide) (by rfl) (pa_cons (pe_ix ix_seq (pv 0) (pe_int) (fun _ _ => rfl)) pa_nil))))))) (pss_one (ps_ret (pe_bl))) (pss_nil)) (pss_one (ps_ret (pe_c C_is_links hr (by decide) (by rfl) (pa_cons (pe_ix ix_seq (pv 0) (pe_int) (fun _ _ => rfl)) (pa_cons (pe_lc (own := [("house", 1)]) (g := gName 1) (by rfl) sc_is_plan.nd (pi_tup (pe_ix ix_seq (pv 0) (pe_int) (fun _ _ => rfl))) (blkOk_by (own := [("house", 1)]) (N := n_is_plan) (sc := defScope s_is_plan) (by decide +kernel)) (fun _ _ _ _ _ => pg_name (i := 1) sc_is_plan.nd rfl (Or.inl rfl)) (fun _ _ _ _ _ => pts_nil) (fun _ _ _ _ _ => pe_ix (@id (IxR _ (rIx K)) ix_seq) (pv 1) (pe_int) (fun _ _ => rfl))) pa_nil)))))), ?_⟩
      unfold okPlan at ho
      rw [Bool.and_eq_true] at ho
      rcases pair_or x with ⟨a, b, rfl⟩ | h2
      · obtain ⟨hs, ho⟩ := ho
        rw [Bool.and_eq_true] at ho
        have sa := (smD_tup hs).2 a (by simp)
        have sb := (smD_tup hs).2 b (by simp)
        cases hh : isHousesD a with
        | false =>
          have e : isPlanD (.tuple [a, b]) = false := by
            show (_ && _) = false
            rw [hh]
            rfl
          rw [e]
          exact rt_yes (eb_orF (eb_is (eb_not (eb_B (ee_call (ea_cons (ee_var rfl) (ea_cons ee_int (ea_cons ee_int ea_nil))) rfl))) rfl) (eb_is (eb_not (eb_B (ee_call (ea_cons (ee_op (ee_var rfl) ee_int (rd_ix rfl)) ea_nil) (if_pos ⟨sa, ho.1⟩)))) (by rw [hh]; rfl))) (rt_ret ee_bl)
        | true =>
          have e : isPlanD (.tuple [a, b]) = isLinksD b ((elems a).map fstOf) := by
            show (_ && _) = _
            rw [hh]
            rfl
          rw [e]
          refine rt_no (eb_orF (eb_is (eb_not (eb_B (ee_call (ea_cons (ee_var rfl) (ea_cons ee_int (ea_cons ee_int ea_nil))) rfl))) rfl) (eb_is (eb_not (eb_B (ee_call (ea_cons (ee_op (ee_var rfl) ee_int (rd_ix rfl)) ea_nil) (if_pos ⟨sa, ho.1⟩)))) (by rw [hh]; rfl))) (rt_ret ?_)
          cases a with
          | tuple es =>
            have hh' : ((isTupD (.tuple es) 1 5 && es.all isHouseD) && decide ((es.map fun h => LH.strOf (fstOf h)).Nodup)) = true := hh
            rw [Bool.and_eq_true, Bool.and_eq_true] at hh'
            obtain ⟨es', q, h1, h5⟩ := isTup_at hh'.1.1
            cases q
            refine ee_call (ea_cons (ee_op (ee_var rfl) ee_int (rd_ix rfl)) (ea_cons (ee_of (en_map fstOf (ei_tup (ee_op (ee_var rfl) ee_int (rd_ix rfl))) (smD_tup sa).1 fun d hd => ?_)) ea_nil)) (if_pos ⟨sb, ho.2, ?_, ?_⟩)
            · obtain ⟨z, b, c, e, f, rfl, _⟩ := house_fst (List.all_eq_true.mp hh'.1.2 d hd)
              exact ee_op (ee_var rfl) ee_int (rd_ix rfl)
            · refine List.all_eq_true.mpr fun d hd => ?_
              obtain ⟨x, hx, rfl⟩ := List.mem_map.mp hd
              obtain ⟨z, b, c, e, f, rfl, hz⟩ := house_fst (List.all_eq_true.mp hh'.1.2 x hx)
              exact hz
            · rw [List.length_map]
              show es.length ≤ 100
              omega
          | _ => exact absurd hh Bool.false_ne_true
      · have e : isPlanD x = false := by
          unfold isPlanD
          split
          · exact Bool.noConfusion (show true = false from h2)
          · rfl
        rw [e]
        exact rt_yes (eb_orT (eb_is (eb_not (eb_B (ee_call (ea_cons (ee_var rfl) (ea_cons ee_int (ea_cons ee_int ea_nil))) rfl))) (by rw [h2]; rfl))) (rt_ret ee_bl)
end
end K13

namespace K13
open PySem PySem.Spec PyProof.Rows L2 LH C8
section
variable {P : Program} {w : World} {K : PySem.W.Frag} {mg : Str → Option Value} {base : Heap} {aW : Addr}
theorem c_is_house (T : Tx K mg aW) (F : Dfn K mg "is_house" s_is_house ["thing"]) (C_is_tuple : Cal P w K mg base 1 "is_tuple" (spF K mIsTuple) []) (C_is_name : Cal P w K mg base 1 "is_name" (spF K mIsName) [])
    (C_is_people : Cal P w K mg base 2 "is_people" (spF K mIsPeople) []) (C_is_lists : Cal P w K mg base 4 "is_lists" (spF K mIsLists) []) (C_all_unlike : Cal P w K mg base 1 "all_unlike" (spF K mUnl) [])
    (C_is_ways : Cal P w K mg base 2 "is_ways" (spF K mIsWays) []) (C_is_within : Cal P w K mg base 2 "is_within" (spF K mIsWithin) []) : Cal P w K mg base 5 "is_house" (spF K mIsHouse) [] := by
  refine calF mIsHouse F sc_is_house (fun ds d h => ?_) fun f cdv A outer s H E hr ds d h => ?_
  · match ds, h with
    | [_], _ => rfl
  · match ds, h with
    | [x], h =>
      obtain ⟨ho, rfl⟩ := if_some (p := okHouse x = true) h
      refine ⟨_, (pss_cons (ps_if (pt_not (pt_val (pe_c C_is_tuple hr (by decide) (by rfl) (pa_cons (pv 0) (pa_cons (pe_int) (pa_cons (pe_int) pa_nil)))))) (pss_one (ps_ret (pe_bl))) (pss_nil)) (pss_cons (ps_asg (pv 0) (pg_tup (by rfl) (pgs_cons (pg_name (i := 1) sc_is_house.nd rfl (Or.inl rfl)) (pgs_cons (pg_name (i := 2) sc_is_house.nd rfl (Or.inl rfl)) (pgs_cons (pg_name (i := 3) sc_is_house.nd rfl (Or.inl rfl)) (pgs_cons (pg_name (i := 4) sc_is_house.nd rfl (Or.inl rfl)) (pgs_cons (pg_name (i := 5) sc_is_house.nd rfl (Or.inl rfl)) (pgs_nil)))))))) (pss_cons (ps_if (PW.pt (pw_or (pt_not (pt_val (pe_c C_is_name hr (by decide) (by rfl) (pa_cons (pv 1) pa_nil)))) (pw_or (pt_not (pt_val (pe_c C_is_people hr (by decide) (by rfl) (pa_cons (pv 2) pa_nil)))) (pw_or1 (pt_not (pt_val (pe_c C_is_lists hr (by decide) (by rfl) (pa_cons (pv 3) pa_nil)))))))) (pss_one (ps_ret (pe_bl))) (pss_nil)) (pss_cons (ps_set (i := 6) sc_is_house.nd rfl (Or.inl rfl) (pe_op op_catL (pe_callTy call_list_of (by rfl) T.m_list (by decide +kernel) (pa_cons (pv 2) pa_nil)) (pe_lc (own := [("row", 7)]) (g := gName 7) (by rfl) sc_is_house.nd (pi_tup (pv 3)) (blkOk_by (own := [("row", 7)]) (N := n_is_house) (sc := defScope s_is_house) (by decide +kernel)) (fun _ _ _ _ _ => pg_name (i := 7) sc_is_house.nd rfl (Or.inl rfl)) (fun _ _ _ _ _ => pts_nil) (fun _ _ _ _ _ => pe_ix (@id (IxR _ (rIx K)) ix_seq) (pv 7) (pe_int) (fun _ _ => rfl))))) (pss_cons (ps_if (PW.pt (pw_or (pt_cmpR op_in_seq (pe_gc (by rfl) T.g_NOBODYS_NAME) (pv 6) rfl) (pw_or1 (pt_not (pt_val (pe_c C_all_unlike hr (by decide) (by rfl) (pa_cons (pv 6) pa_nil))))))) (pss_one (ps_ret (pe_bl))) (pss_nil)) (pss_one (ps_ret (pe_and (pe_c C_is_ways hr (by decide) (by rfl) (pa_cons (pv 4) pa_nil)) (pe_one (pe_c C_is_within hr (by decide) (by rfl) (pa_cons (pv 5) (pa_cons (pe_gc (by rfl) T.g_LEAST_MOST) (pa_cons (pe_gc (by rfl) T.g_GREATEST_MOST) pa_nil))))))))))))), ?_⟩
      unfold okHouse at ho
      rw [Bool.and_eq_true] at ho
      obtain ⟨hs, ho⟩ := ho
      rcases five_or x with ⟨a, b, c, e, f, rfl⟩ | h5
      · have sa := (smD_tup hs).2 a (by simp)
        have sb := (smD_tup hs).2 b (by simp)
        have sc := (smD_tup hs).2 c (by simp)
        have se := (smD_tup hs).2 e (by simp)
        refine rt_no (eb_is (eb_not (eb_B (ee_call (ea_cons (ee_var rfl) (ea_cons ee_int (ea_cons ee_int ea_nil))) rfl))) rfl) ?_
        refine rt_seq (go_unpack (is := [1, 2, 3, 4, 5]) (ee_var rfl) rfl rfl (fun m hm => nomatch hm)) ?_
        cases ha : isNameD a with
        | false =>
          have q : isHouseD (.tuple [a, b, c, e, f]) = false := by
            show ((isNameD a && _) && _) = false
            rw [ha]
            rfl
          rw [q]
          exact rt_yes (eb_orT (eb_is (eb_not (eb_B (ee_call (ea_cons (ee_var rfl) ea_nil) (if_pos sa)))) (by rw [ha]; rfl))) (rt_ret ee_bl)
        | true =>
          cases hb : isPeopleD b with
          | false =>
            have q : isHouseD (.tuple [a, b, c, e, f]) = false := by
              show ((isNameD a && (isPeopleD b && _)) && _) = false
              rw [ha, hb]
              rfl
            rw [q]
            exact rt_yes (eb_orF (eb_is (eb_not (eb_B (ee_call (ea_cons (ee_var rfl) ea_nil) (if_pos sa)))) (by rw [ha]; rfl)) (eb_orT (eb_is (eb_not (eb_B (ee_call (ea_cons (ee_var rfl) ea_nil) (if_pos sb)))) (by rw [hb]; rfl)))) (rt_ret ee_bl)
          | true =>
            cases hc : isListsD c with
            | false =>
              have q : isHouseD (.tuple [a, b, c, e, f]) = false := by
                show ((isNameD a && (isPeopleD b && isListsD c)) && _) = false
                rw [ha, hb, hc]
                rfl
              rw [q]
              exact rt_yes (eb_orF (eb_is (eb_not (eb_B (ee_call (ea_cons (ee_var rfl) ea_nil) (if_pos sa)))) (by rw [ha]; rfl)) (eb_orF (eb_is (eb_not (eb_B (ee_call (ea_cons (ee_var rfl) ea_nil) (if_pos sb)))) (by rw [hb]; rfl)) (eb_is (eb_not (eb_B (ee_call (ea_cons (ee_var rfl) ea_nil) (if_pos sc)))) (by rw [hc]; rfl)))) (rt_ret ee_bl)
            | true =>
              have q : isHouseD (.tuple [a, b, c, e, f]) = ((!((namesD b c).any fun z => PyData.eqv z (.str "post")) && decide (((namesD b c).map LH.strOf).Nodup)) && (isWaysD e && isWithinD f 400 9000)) := by
                show ((isNameD a && (isPeopleD b && isListsD c)) && _) = _
                rw [ha, hb, hc]
                rfl
              rw [q]
              refine rt_no (eb_orF (eb_is (eb_not (eb_B (ee_call (ea_cons (ee_var rfl) ea_nil) (if_pos sa)))) (by rw [ha]; rfl)) (eb_orF (eb_is (eb_not (eb_B (ee_call (ea_cons (ee_var rfl) ea_nil) (if_pos sb)))) (by rw [hb]; rfl)) (eb_is (eb_not (eb_B (ee_call (ea_cons (ee_var rfl) ea_nil) (if_pos sc)))) (by rw [hc]; rfl)))) ?_
              obtain ⟨ps, rfl, hpl, hpn⟩ : ∃ ps, b = .tuple ps ∧ ps.length ≤ 4 ∧ ps.all isNameD = true := by
                cases b with
                | tuple ps =>
                  have hb' : (isTupD (.tuple ps) 1 4 && ps.all isNameD) = true := hb
                  rw [Bool.and_eq_true] at hb'
                  obtain ⟨_, z, _, h4⟩ := isTup_at hb'.1
                  cases z
                  exact ⟨ps, rfl, by omega, hb'.2⟩
                | _ => exact absurd hb Bool.false_ne_true
              obtain ⟨ls, rfl, hll, hln⟩ : ∃ ls, c = .tuple ls ∧ ls.length ≤ 3 ∧ ls.all isLohD = true := by
                cases c with
                | tuple ls =>
                  have hc' : (isTupD (.tuple ls) 0 3 && ls.all isLohD) = true := hc
                  rw [Bool.and_eq_true] at hc'
                  obtain ⟨_, z, _, h4⟩ := isTup_at hc'.1
                  cases z
                  exact ⟨ls, rfl, by omega, hc'.2⟩
                | _ => exact absurd hc Bool.false_ne_true
              have hns : (namesD (.tuple ps) (.tuple ls)).all isStrD = true := by
                show (ps ++ ls.map fstOf).all isStrD = true
                rw [List.all_append, names_strs hpn, Bool.true_and]
                refine List.all_eq_true.mpr fun d hd => ?_
                obtain ⟨x, hx, rfl⟩ := List.mem_map.mp hd
                obtain ⟨z, r, rfl⟩ := loh_fst (List.all_eq_true.mp hln x hx)
                rfl
              have hnl : (namesD (.tuple ps) (.tuple ls)).length < 64 := by
                show (ps ++ ls.map fstOf).length < 64
                rw [List.length_append, List.length_map]
                omega
              have hnf : (namesD (.tuple ps) (.tuple ls)).all flatD = true := all_imp hns fun x hx => by cases x <;> first | rfl | exact absurd hx Bool.false_ne_true
              refine rt_seq (go_asg (d := .list (namesD (.tuple ps) (.tuple ls))) (ee_of (en_cat (ee_of (en_cb (ea_cons (ee_var rfl) ea_nil) rc_listT)) (ee_of (en_map fstOf (ds := ls) (ei_tup (ee_var rfl)) (by omega) fun d hd => ?_)) ?_)) (fun m hm => nomatch hm)) ?_
              · obtain ⟨z, r, rfl⟩ := loh_fst (List.all_eq_true.mp hln d hd)
                exact ee_op (ee_var rfl) ee_int (rd_ix rfl)
              · rw [List.length_map]
                show ps.length + ls.length ≤ 100000
                omega
              generalize namesD (.tuple ps) (.tuple ls) = nms at hns hnl hnf
              have hu : mUnl [.list nms] = some (.bool (decide (nms.map LH.strOf).Nodup)) := by
                show unlD nms = _
                unfold unlD
                rw [if_pos hnl, if_pos hns]
              cases hp : nms.any fun z => PyData.eqv z (.str "post") with
              | true => exact rt_yes (eb_orT (eb_is (eb_test (ee_op ee_str (ee_var rfl) (rd_inL (neg := false) rfl hnf))) hp)) (rt_ret ee_bl)
              | false =>
                cases hq : decide (nms.map LH.strOf).Nodup with
                | false => exact rt_yes (eb_orF (eb_is (eb_test (ee_op ee_str (ee_var rfl) (rd_inL (neg := false) rfl hnf))) hp) (eb_is (eb_not (eb_B (ee_call (ea_cons (ee_var rfl) ea_nil) hu))) (by rw [hq]; rfl))) (rt_ret ee_bl)
                | true =>
                  refine rt_no (eb_orF (eb_is (eb_test (ee_op ee_str (ee_var rfl) (rd_inL (neg := false) rfl hnf))) hp) (eb_is (eb_not (eb_B (ee_call (ea_cons (ee_var rfl) ea_nil) hu))) (by rw [hq]; rfl))) (rt_ret ?_)
                  refine ee_is (d := .bool (isWaysD e && isWithinD f 400 9000)) ?_ rfl
                  exact ee_and (ee_call (ea_cons (ee_var rfl) ea_nil) (if_pos ⟨se, ho⟩)) fun _ => ee_call (ea_cons (ee_var rfl) (ea_cons ee_int (ea_cons ee_int ea_nil))) rfl
      · have q : isHouseD x = false := by
          unfold isHouseD
          split
          · exact Bool.noConfusion (show true = false from h5)
          · rfl
        rw [q]
        exact rt_yes (eb_is (eb_not (eb_B (ee_call (ea_cons (ee_var rfl) (ea_cons ee_int (ea_cons ee_int ea_nil))) rfl))) (by rw [h5]; rfl)) (rt_ret ee_bl)
end
end K13

namespace K13
open PySem PySem.Spec PyProof.Rows L2 LH C8
abbrev s_l_house : Stmt := topS 34
abbrev n_l_house : List Str := ["_law_name"]
theorem sc_l_house : FnScope n_l_house ["_law_name"] (defScope s_l_house) := ⟨rfl, rfl, rfl, by decide +kernel, rfl, by decide +kernel, by decide +kernel⟩
abbrev s_l_with : Stmt := topS 33
abbrev n_l_with : List Str := ["_law_n", "_law_changes", "_law_w", "_law_home"]
theorem sc_l_with : FnScope n_l_with ["_law_n", "_law_changes"] (defScope s_l_with) := ⟨rfl, rfl, rfl, by decide +kernel, rfl, by decide +kernel, by decide +kernel⟩
def houseD (d : Dt) : Dt := .tuple [d, .tuple [.str "a"], .tuple [], .tuple [.str "packed"], .int 9000]
def mHouse : List Dt → Option Dt
  | [d] => some (houseD d)
  | _ => none
/-- the plan of _law_with -/
def planW (n : List Dt) (ch : List (Dt × Dt)) (ms : List Dt) : Dt :=
  .tuple [.tuple ([.tuple [(lookD ch "name").getD (n.getD 0 .none), (lookD ch "folk").getD (.tuple [n.getD 1 .none]), (lookD ch "lists").getD (.tuple []), (lookD ch "ways").getD (.tuple [.str "plain"]), (lookD ch "most").getD (.int 400)]] ++ ms), (lookD ch "links").getD (.tuple [])]
def baseW (n : List Dt) : List (Str × Dt) := [("name", n.getD 0 .none), ("folk", .tuple [n.getD 1 .none]), ("lists", .tuple []), ("ways", .tuple [.str "plain"]), ("most", .int 400), ("more", .tuple []), ("links", .tuple [])]
def moreD (ch : List (Dt × Dt)) : Dt := (lookD ch "more").getD (.tuple [])
def okWith (n : List Dt) (ch : List (Dt × Dt)) : Bool := (decide (2 ≤ n.length) && (decide ((ch.map fun p => LH.strOf p.1).Nodup) && decide (ch.length ≤ 15))) && ((isTupleD (moreD ch) && decide ((elems (moreD ch)).length ≤ 1000)) && okPlan (planW n ch (elems (moreD ch))))
def mWith : List Dt → Option Dt
  | [.list n, .dict ch] => if okWith n ch = true then some (.bool (isPlanD (planW n ch (elems (moreD ch))))) else none
  | _ => none
section
variable {P : Program} {w : World} {K : PySem.W.Frag} {mg : Str → Option Value} {base : Heap} {aW : Addr}
theorem c_l_house (T : Tx K mg aW) (F : Dfn K mg "_law_house" s_l_house ["_law_name"]) : Cal P w K mg base 1 "_law_house" (spF K mHouse) [] := by
  refine calF mHouse F sc_l_house (fun ds d h => ?_) fun f cdv A outer s H E hr ds d h => ?_
  · match ds, h with
    | [_], _ => rfl
  · match ds, h with
    | [x], h =>
      cases h
      refine ⟨_, (pss_one (ps_ret (pe_tup (pa_cons (pv 0) (pa_cons (pe_tup (pa_cons (pe_str) pa_nil)) (pa_cons (pe_tup (pa_nil)) (pa_cons (pe_tup (pa_cons (pe_str) pa_nil)) (pa_cons (pe_int) pa_nil)))))))), ?_⟩
      refine rt_ret (ee_tup (ea_cons (ee_var rfl) (ea_cons (ee_tup (ea_cons ee_str ea_nil) (by decide)) (ea_cons (ee_tup ea_nil (by decide)) (ea_cons (ee_tup (ea_cons ee_str ea_nil) (by decide)) (ea_cons ee_int ea_nil))))) ?_)
      show 5 ≤ 100000
      decide
theorem c_l_with (T : Tx K mg aW) (F : Dfn K mg "_law_with" s_l_with ["_law_n", "_law_changes"]) (C_is_plan : Cal P w K mg base 7 "is_plan" (spF K mIsPlan) []) : Cal P w K mg base 8 "_law_with" (spF K mWith) [] := by
  refine calF mWith F sc_l_with (fun ds d h => ?_) fun f cdv A outer s H E hr ds d h => ?_
  · unfold mWith at h
    split at h
    · rfl
    · cases h
  · match ds, h with
    | [.list n, .dict ch], h =>
      obtain ⟨ho, rfl⟩ := if_some (p := okWith n ch = true) h
      refine ⟨_, (pss_cons (ps_set (i := 2) sc_l_with.nd rfl (Or.inl rfl) (pe_disp (pps_cons (pe_str) (pe_ix ix_seq (pv 0) (pe_int) (fun _ _ => rfl)) (pps_cons (pe_str) (pe_tup (pa_cons (pe_ix ix_seq (pv 0) (pe_int) (fun _ _ => rfl)) pa_nil)) (pps_cons (pe_str) (pe_tup (pa_nil)) (pps_cons (pe_str) (pe_tup (pa_cons (pe_str) pa_nil)) (pps_cons (pe_str) (pe_int) (pps_cons (pe_str) (pe_tup (pa_nil)) (pps_cons (pe_str) (pe_tup (pa_nil)) (pps_nil)))))))) (by rfl) (by rfl) (fun z => by cases z) (by decide))) (pss_cons (ps_expr (pe_dupd (pv 2) (pv 1) ⟨rfl, rfl, rfl, rfl⟩)) (pss_cons (ps_set (i := 3) sc_l_with.nd rfl (Or.inl rfl) (pe_tup (pa_cons (pe_dget (hu_of hr) (pv 2) (pe_str) (fun _ _ => rfl)) (pa_cons (pe_dget (hu_of hr) (pv 2) (pe_str) (fun _ _ => rfl)) (pa_cons (pe_dget (hu_of hr) (pv 2) (pe_str) (fun _ _ => rfl)) (pa_cons (pe_dget (hu_of hr) (pv 2) (pe_str) (fun _ _ => rfl)) (pa_cons (pe_dget (hu_of hr) (pv 2) (pe_str) (fun _ _ => rfl)) pa_nil))))))) (pss_one (ps_ret (pe_c C_is_plan hr (by decide) (by rfl) (pa_cons (pe_tup (pa_cons (pe_op op_catA (pe_tup (pa_cons (pv 3) pa_nil)) (pe_dget (hu_of hr) (pv 2) (pe_str) (fun _ _ => rfl))) (pa_cons (pe_dget (hu_of hr) (pv 2) (pe_str) (fun _ _ => rfl)) pa_nil))) pa_nil))))))), ?_⟩
      unfold okWith at ho
      rw [Bool.and_eq_true, Bool.and_eq_true, Bool.and_eq_true, Bool.and_eq_true, Bool.and_eq_true, decide_eq_true_eq, decide_eq_true_eq, decide_eq_true_eq, decide_eq_true_eq] at ho
      obtain ⟨⟨hn, hnd, hcl⟩, ⟨hmt, hml⟩, hok⟩ := ho
      intro H0 G0 σ G H D w f q
      have e0 : atI n 0 = some (n.getD 0 .none) := by
        refine atI_nat (j := 0) ?_
        rw [List.getD_eq_getElem?_getD, List.getElem?_eq_getElem (by omega)]
        rfl
      have e1 : atI n 1 = some (n.getD 1 .none) := by
        refine atI_nat (j := 1) ?_
        rw [List.getD_eq_getElem?_getD, List.getElem?_eq_getElem (by omega)]
        rfl
      refine seq_asg ?_
      refine (?hd : EvM K (tDisp _) (startD n_l_with.length [PyData.list n, PyData.dict ch]) (baseW n)) σ G H f.gh f.sd _ fun p kvs G1 H1 w1 np ng hp dk hk => ?_
      case hd =>
        exact em_disp ⟨ee_str, ee_op (ee_var rfl) ee_int (rd_ix e0), ee_str, ee_tup (ea_cons (ee_op (ee_var rfl) ee_int (rd_ix e1)) ea_nil) (by show 1 ≤ 100000; decide), ee_str, ee_tup ea_nil (by decide), ee_str, ee_tup (ea_cons ee_str ea_nil) (by decide), ee_str, ee_int, ee_str, ee_tup ea_nil (by decide), ee_str, ee_tup ea_nil (by decide), trivial⟩ (by show List.Nodup [("name" : Str), "folk", "lists", "ways", "most", "more", "links"]; decide +kernel) (by show 7 ≤ 15; decide)
      obtain ⟨vc, hc, dc⟩ := f.sd.at' 1 (.dict ch) rfl
      have hl2 : 2 < σ.length := by rw [f.sd.len]; show 2 < 4; decide
      cases dc with
      | @dct c ls _ hcl' dkc =>
        have hH1c : H1 c = some (.dK ls) := w1.hh _ _ (f.gh _ _ hcl')
        have hpc : p ≠ c := fun z => by
          rw [z] at np
          rw [f.gh _ _ hcl'] at np
          cases np
        have hkl : kvs.length = 7 := by
          have z := congrArg List.length hk
          rw [List.length_map] at z
          exact z
        have hll := kv_len dkc
        have hσ2 : (σ.set 2 (some (V.ref p)))[2]? = some (some (V.ref p)) := by rw [List.getElem?_set, if_pos rfl, if_pos hl2]
        have hσ1 : (σ.set 2 (some (V.ref p)))[1]? = some (some (V.ref c)) := by rw [List.getElem?_set_ne (by decide)]; exact hc
        refine ⟨.ref p, hσ2, p, rfl, .inl ⟨kvs, .inl hp⟩, .ref c, hσ1, c, kvs, ls, rfl, hp, hH1c, hpc, by omega, ?_⟩
        have w2 := ((w.trans w1).mut (o := HO.dK (mergeK kvs ls)) (w.hh.free np) ng)
        generalize hH2 : upd H1 p (.dK (mergeK kvs ls)) = H2 at w2
        have hp2 : H2 p = some (.dK (mergeK kvs ls)) := by rw [← hH2, upd_same]
        have val : ∀ (k : Str) (d0 : Dt), lookD ((baseW n).map fun p => (PyData.str p.1, p.2)) k = some d0 → ∃ v, valV (mergeK kvs ls) (Sum.inr k) = some v ∧ Dq K G1 v ((lookD ch k).getD d0) := by
          intro k d0 h0
          rw [valV_merge ls kvs _ (kv_nodup dkc hnd)]
          rcases look_val k dkc with ⟨d, v, a, b, c⟩ | ⟨a, b⟩
          · exact ⟨v, by rw [b], by rw [a]; exact dpM w1.gg c⟩
          · rcases look_val k dk with ⟨d', v', a', b', c'⟩ | ⟨a', _⟩
            · rw [h0] at a'
              cases a'
              exact ⟨v', by rw [b]; exact b', by rw [a]; exact c'⟩
            · rw [h0] at a'
              cases a'
        obtain ⟨v0, g0, d0⟩ := val "name" _ rfl
        obtain ⟨v1, g1, d1⟩ := val "folk" _ rfl
        obtain ⟨v2, g2, d2⟩ := val "lists" _ rfl
        obtain ⟨v3, g3, d3⟩ := val "ways" _ rfl
        obtain ⟨v4, g4, d4⟩ := val "most" _ rfl
        obtain ⟨v5, g5, d5⟩ := val "more" _ rfl
        obtain ⟨v6, g6, d6⟩ := val "links" _ rfl
        have dg : ∀ (H' : Hp) (k : Str) (v : V), Same H2 H' → valV (mergeK kvs ls) (Sum.inr k) = some v → DGet H' p (.str k) (some v) := fun H' k v s e => by
          have z := DGet.k (k := Sum.inr k) (s _ _ hp2)
          rw [e] at z
          exact z
        have rf := Same.refl H2
        refine ⟨.ref p, hσ2, p, v0, rfl, dg _ _ _ rf g0, .ref p, hσ2, p, v1, rfl, dg _ _ _ rf g1, .ref p, hσ2, p, v2, rfl, dg _ _ _ rf g2, .ref p, hσ2, p, v3, rfl, dg _ _ _ rf g3, .ref p, hσ2, p, v4, rfl, dg _ _ _ rf g4, (by show 5 ≤ sizeLine; decide), fun t nt => ?_⟩
        have w3 := w2.trans (Gw.new (o := HO.tup [v0, v1, v2, v3, v4]) w2.gh nt)
        have ng3 : G1 t = none := w2.gh.free nt
        have m3 : Same G1 (upd G1 t (.tup [v0, v1, v2, v3, v4])) := sameU ng3
        have dh : Dq K (upd G1 t (.tup [v0, v1, v2, v3, v4])) (.ref t) (.tuple [_, _, _, _, _]) := .tup (.inl (.inl upd_same)) (dpsM m3 (.cons d0 (.cons d1 (.cons d2 (.cons d3 (.cons d4 .nil))))))
        have s3 : Same H2 (upd H2 t (.tup [v0, v1, v2, v3, v4])) := sameU nt
        generalize upd G1 t (.tup [v0, v1, v2, v3, v4]) = G3 at w3 m3 dh
        generalize upd H2 t (.tup [v0, v1, v2, v3, v4]) = H3 at w3 s3
        have hσ3 : ((σ.set 2 (some (V.ref p))).set 3 (some (V.ref t)))[3]? = some (some (V.ref t)) := by rw [List.getElem?_set, if_pos rfl, if_pos (by rw [List.length_set, f.sd.len]; show 3 < 4; decide)]
        have hσ2' : ((σ.set 2 (some (V.ref p))).set 3 (some (V.ref t)))[2]? = some (some (V.ref p)) := by rw [List.getElem?_set_ne (by decide)]; exact hσ2
        refine ⟨.ref t, hσ3, (by show 1 ≤ sizeLine; decide), fun t2 nt2 => ?_⟩
        have w4 := w3.trans (Gw.new (o := HO.tup [V.ref t]) w3.gh nt2)
        have m4 : Same G3 (upd G3 t2 (.tup [V.ref t])) := sameU (w3.gh.free nt2)
        have dt2 : Dq K (upd G3 t2 (.tup [V.ref t])) (.ref t2) (.tuple [_]) := .tup (.inl (.inl upd_same)) (.cons (dpM m4 dh) .nil)
        have s4 : Same H2 (upd H3 t2 (.tup [V.ref t])) := s3.trans (sameU nt2)
        generalize upd G3 t2 (.tup [V.ref t]) = G4 at w4 m4 dt2
        generalize upd H3 t2 (.tup [V.ref t]) = H4 at w4 s4
        refine ⟨.ref p, hσ2', p, v5, rfl, dg _ _ _ s4 g5, ?_⟩
        have em : (lookD ch "more").getD (.tuple []) = .tuple (elems (moreD ch)) := by
          show moreD ch = _
          cases z : moreD ch <;> first | rfl | (rw [z] at hmt; exact absurd hmt Bool.false_ne_true)
        rw [em] at d5
        refine rd_catT (K := K) (by show 1 + _ ≤ 100000; omega) (.ref t2) v5 G4 H4 w4.gh dt2 (dpM (m3.trans m4) d5) _ fun vh G5 H5 w5 dh5 => ?_
        have w6 := w4.trans w5
        refine ⟨.ref p, hσ2', p, v6, rfl, dg _ _ _ (s4.trans w5.hh) g6, (by show 2 ≤ sizeLine; decide), fun t3 nt3 => ?_⟩
        have w7 := w6.trans (Gw.new (o := HO.tup [vh, v6]) w6.gh nt3)
        have m7 : Same G5 (upd G5 t3 (.tup [vh, v6])) := sameU (w6.gh.free nt3)
        refine ⟨_, [planW n ch (elems (moreD ch))], _, w7.gh, .cons (.tup (.inl (.inl upd_same)) (.cons (dpM m7 dh5) (.cons (dpM (((m3.trans m4).trans w5.gg).trans m7) d6) .nil))) .nil, if_pos hok, fun v G8 H8 w8 dv => q v G8 H8 (w7.trans w8) dv⟩
end
end K13

namespace K13
open PySem PySem.Spec PyProof.Rows L2 LH C8
abbrev s_l_take : Stmt := topS 31
abbrev n_l_take : List Str := ["_law_state", "_law_size", "_law_turn", "_law_here", "_law_cell", "_law_near", "_law_mixed", "_law_digit"]
theorem sc_l_take : FnScope n_l_take ["_law_state", "_law_size"] (defScope s_l_take) := ⟨rfl, rfl, rfl, by decide +kernel, rfl, by decide +kernel, by decide +kernel⟩
/-- the law's state: a dict of its cells and its turn -/
def stK (ca : Addr) (t : Int) : List (Key × V) := [(Sum.inr "cells", .ref ca), (Sum.inr "turn", .int t)]
theorem stK_put (ca : Addr) (t x : Int) : putK (stK ca t) (Sum.inr "turn") (.int x) = stK ca x := rfl
structure StAt (H : Hp) (sd ca : Addr) (cs : List Int) (t : Int) : Prop where
  dc : H sd = some (.dK (stK ca t))
  ls : H ca = some (.lst (cs.map V.int))
  ne : 0 < cs.length
  few : cs.length ≤ 63
  t0 : 0 ≤ t
theorem StAt.neq {H : Hp} {sd ca : Addr} {cs : List Int} {t : Int} (S : StAt H sd ca cs t) : sd ≠ ca := fun z => by
  have a := S.dc
  rw [z, S.ls] at a
  cases a
def spTake : Sp := fun vs H Q _ => ∃ (sd ca : Addr) (cs : List Int) (t size : Int), vs = [.ref sd, .int size] ∧ StAt H sd ca cs t ∧ 1 ≤ size ∧ size ≤ 100000 ∧ t ≤ 100000 ∧
  ∀ (r : Int) (cs' : List Int) (H' : Hp), 0 ≤ r → r < size → StAt H' sd ca cs' (t + 1) → (∀ b o, H b = some o → b ≠ sd → b ≠ ca → H' b = some o) → Q (.int r) H'
structure Ty (mg : Str → Option Value) : Prop where
  m_len : mg "len" = none
  m_divmod : mg "divmod" = none
section
variable {P : Program} {w : World} {K : PySem.W.Frag} {mg : Str → Option Value} {base : Heap} {aW : Addr}
theorem c_l_take (T : Ty mg) (F : Dfn K mg "_law_take" s_l_take ["_law_state", "_law_size"]) : Cal P w K mg base 1 "_law_take" spTake [] := by
  obtain ⟨f, fd, F, hm, b⟩ := F.ex
  refine ⟨f, fd, ["_law_state", "_law_size"], [], F.ok sc_l_take (fun vs H Q E h => ?_) (fun cdv A outer s H vs Q E hr h => ?_), hm, F.kp, b, .nil⟩
  · obtain ⟨_, _, _, _, _, rfl, _⟩ := h
    rfl
  · obtain ⟨sd, ca, cs, t, size, rfl, S, h1, h2, h3, q⟩ := h
    refine ⟨_, (pss_cons (ps_set (i := 2) sc_l_take.nd rfl (Or.inl rfl) (pe_op op_add (pe_dget (hu_of hr) (pv 0) (pe_str) (fun _ _ => rfl)) (pe_int))) (pss_cons (ps_dput (hu_of hr) (pv 0) (pe_str) (pv 2) rfl) (pss_cons (ps_set (i := 3) sc_l_take.nd rfl (Or.inl rfl) (pe_op op_mod (pv 2) (pe_callB call_lenA (by rfl) T.m_len (by decide +kernel) (pa_cons (pe_dget (hu_of hr) (pv 0) (pe_str) (fun _ _ => rfl)) pa_nil)))) (pss_cons (ps_set (i := 4) sc_l_take.nd rfl (Or.inl rfl) (pe_ix ix_seq (pe_dget (hu_of hr) (pv 0) (pe_str) (fun _ _ => rfl)) (pv 3) (fun _ _ => rfl))) (pss_cons (ps_if (pt_cmpR op_ge (pv 4) (pe_op op_pow (pe_int) (pe_int)) (nomark _)) (pss_cons (ps_asg (pe_callB call_divmod (by rfl) T.m_divmod (by decide +kernel) (pa_cons (pv 4) (pa_cons (pv 1) pa_nil))) (pg_tup (by rfl) (pgs_cons (pg_sub (pe_dget (hu_of hr) (pv 0) (pe_str) (fun _ _ => rfl)) (pv 3) set_list) (pgs_cons (pg_name (i := 7) sc_l_take.nd rfl (Or.inl rfl)) (pgs_nil))))) (pss_one (ps_ret (pv 7)))) (pss_nil)) (pss_cons (ps_set (i := 5) sc_l_take.nd rfl (Or.inl rfl) (pe_op op_add (pe_op op_mod (pv 4) (pe_int)) (pe_op op_mul (pe_op op_mod (pe_op op_fdivW (pv 4) (pe_int)) (pe_int)) (pe_int)))) (pss_cons (ps_set (i := 6) sc_l_take.nd rfl (Or.inl rfl) (pe_op op_mod (pe_op op_mul (pe_op op_add (pe_op op_add (pv 5) (pe_op op_mul (pe_op op_mul (pv 2) (pv 2)) (pe_int))) (pe_int)) (pe_int)) (pe_int))) (pss_cons (ps_set (i := 6) sc_l_take.nd rfl (Or.inl rfl) (pe_op op_mod (pe_op op_mul (pv 6) (pv 6)) (pe_int))) (pss_one (ps_ret (pe_op op_mod (pe_op op_fdivW (pe_op op_mod (pe_op op_mul (pe_op op_add (pv 6) (pe_op op_mul (pv 2) (pe_int))) (pe_int)) (pe_int)) (pe_int)) (pv 1)))))))))))), ?_⟩
    have hne := S.neq
    have dgt : ∀ (x : Int) (H' : Hp), H' sd = some (.dK (stK ca x)) → DGet H' sd (.str "turn") (some (.int x)) := fun x H' e => DGet.k (k := Sum.inr "turn") e
    have dgc : ∀ (x : Int) (H' : Hp), H' sd = some (.dK (stK ca x)) → DGet H' sd (.str "cells") (some (.ref ca)) := fun x H' e => DGet.k (k := Sum.inr "cells") e
    -- turn
    refine ⟨.ref sd, rfl, sd, .int t, rfl, dgt _ _ S.dc, t, 1, rfl, rfl, ?_⟩
    -- the state's turn
    refine ⟨_, rfl, .ref sd, rfl, sd, _, rfl, DPut.k (k := Sum.inr "turn") S.dc (by show 2 < sizeLine; decide), ?_⟩
    rw [stK_put]
    generalize hH1 : upd H sd (.dK (stK ca (t + 1))) = H1
    have d1 : H1 sd = some (.dK (stK ca (t + 1))) := by rw [← hH1, upd_same]
    have l1 : H1 ca = some (.lst (cs.map V.int)) := by rw [← hH1, upd_ne hne.symm]; exact S.ls
    have k1 : ∀ b o, H b = some o → b ≠ sd → H1 b = some o := fun b o e hb => by rw [← hH1, upd_ne hb]; exact e
    have hlt : ((t + 1) % (cs.length : Int)).toNat < cs.length := by
      have a := Int.emod_nonneg (t + 1) (show (cs.length : Int) ≠ 0 by have := S.ne; omega)
      have b := Int.emod_lt_of_pos (t + 1) (show (0 : Int) < (cs.length : Int) by have := S.ne; omega)
      omega
    have hcast : (((t + 1) % (cs.length : Int)).toNat : Int) = (t + 1) % (cs.length : Int) := Int.toNat_of_nonneg (Int.emod_nonneg (t + 1) (show (cs.length : Int) ≠ 0 by have := S.ne; omega))
    generalize hj : ((t + 1) % (cs.length : Int)).toNat = j at hlt hcast
    -- here
    refine ⟨_, rfl, .ref sd, rfl, sd, .ref ca, rfl, dgc _ _ d1, .ref ca, cs.length, rfl, .inl ⟨cs.map V.int, .inl (.inl l1), (List.length_map ..).symm⟩, t + 1, (cs.length : Int), rfl, rfl, (by show (0 : Int) < _; have := S.ne; omega), ?_⟩
    dsimp only
    rw [← hcast]
    -- cell
    have gc : (cs.map V.int)[j]? = some (.int cs[j]) := by rw [List.getElem?_map, List.getElem?_eq_getElem hlt]; rfl
    refine ⟨.ref sd, rfl, sd, .ref ca, rfl, dgc _ _ d1, _, rfl, .inl ⟨ca, cs.map V.int, (j : Int), .int cs[j], rfl, rfl, .inl (.inl l1), atI_nat gc, ?_⟩⟩
    generalize cs[j] = c
    -- if cell >= 10 ** 18
    refine ⟨_, rfl, 10, 18, rfl, rfl, ⟨by decide, by decide, by decide⟩, c, (10 : Int) ^ 18, rfl, rfl, _, rfl, ite2 (fun _ => ?_) (fun _ => ?_)⟩
    · refine ⟨_, rfl, _, rfl, c, size, rfl, ⟨by omega, by omega⟩, fun p np => ?_⟩
      have np1 : p ≠ sd := fun z => by rw [z, d1] at np; cases np
      have np2 : p ≠ ca := fun z => by rw [z, l1] at np; cases np
      have d2 : (upd H1 p (.tup [.int (c / size), .int (c % size)])) sd = some (.dK (stK ca (t + 1))) := by rw [upd_ne np1.symm]; exact d1
      have l2 : (upd H1 p (.tup [.int (c / size), .int (c % size)])) ca = some (.lst (cs.map V.int)) := by rw [upd_ne np2.symm]; exact l1
      have lx : ixN (cs.map V.int).length (j : Int) = some j := by
        rw [List.length_map]
        unfold ixN
        (rw [if_pos (by omega), if_pos (by omega)])
        simp
      refine ⟨p, [.int (c / size), .int (c % size)], rfl, .inl (.inl upd_same), rfl, .int (c / size), [.int (c % size)], rfl, .ref sd, rfl, sd, .ref ca, rfl, dgc _ _ d2, _, rfl, ca, _, (j : Int), j, rfl, rfl, l2, lx, .int (c % size), [], rfl, rfl, ?_⟩
      refine ⟨_, rfl, ?_⟩
      have r0 := Int.emod_nonneg c (show size ≠ 0 by omega)
      have r1 := Int.emod_lt_of_pos c (show (0 : Int) < size by omega)
      refine q (c % size) (cs.set j (c / size)) _ r0 r1 ⟨?_, ?_, ?_, ?_, by have := S.t0; omega⟩ fun b o e hb hb2 => ?_
      · rw [upd_ne hne]
        exact d2
      · rw [upd_same, List.map_set]
      · rw [List.length_set]
        exact S.ne
      · rw [List.length_set]
        exact S.few
      · have h1b := k1 b o e hb
        rw [upd_ne hb2, upd_ne (fun z => by rw [z] at h1b; rw [h1b] at np; cases np)]
        exact h1b
    · have m1 := Int.emod_nonneg c (show (2147483629 : Int) ≠ 0 by decide)
      have m2 := Int.emod_lt_of_pos c (show (0 : Int) < 2147483629 by decide)
      have m3 := Int.emod_nonneg (c / 2147483629) (show (40009 : Int) ≠ 0 by decide)
      have m4 := Int.emod_lt_of_pos (c / 2147483629) (show (0 : Int) < 40009 by decide)
      have t0 := S.t0
      have mul : ∀ a b : Int, (0 ≤ a ∧ a < 2 ^ 64) → CMul a b := fun a b h => .inl ⟨by omega, h.2⟩
      have tt : 0 ≤ (t + 1) * (t + 1) ∧ (t + 1) * (t + 1) ≤ 100001 * 100001 := ⟨Int.mul_nonneg (by omega) (by omega), Int.mul_le_mul (by omega) (by omega) (by omega) (by omega)⟩
      -- near
      refine ⟨_, rfl, c, 2147483629, rfl, rfl, (show (0 : Int) < 2147483629 by decide), _, rfl, c, 2147483629, rfl, rfl, ⟨by decide, by decide⟩, _, 40009, rfl, rfl, (show (0 : Int) < 40009 by decide), _, 977, rfl, rfl, mul _ _ ⟨m3, by omega⟩, _, _, rfl, rfl, ?_⟩
      dsimp only
      generalize hne' : c % 2147483629 + c / 2147483629 % 40009 * 977 = near
      have n0 : 0 ≤ near := by omega
      have n1 : near < 2 ^ 33 := by omega
      -- mixed
      refine ⟨_, rfl, _, rfl, _, rfl, _, _, rfl, rfl, mul _ _ ⟨by omega, by omega⟩, _, 6007, rfl, rfl, mul _ _ ⟨tt.1, by omega⟩, _, _, rfl, rfl, _, 29, rfl, rfl, _, 48271, rfl, rfl, mul _ _ ⟨by omega, by omega⟩, _, 2147483647, rfl, rfl, (show (0 : Int) < 2147483647 by decide), ?_⟩
      have x0 := Int.emod_nonneg ((near + (t + 1) * (t + 1) * 6007 + 29) * 48271) (show (2147483647 : Int) ≠ 0 by decide)
      have x1 := Int.emod_lt_of_pos ((near + (t + 1) * (t + 1) * 6007 + 29) * 48271) (show (0 : Int) < 2147483647 by decide)
      dsimp only
      generalize (near + (t + 1) * (t + 1) * 6007 + 29) * 48271 % 2147483647 = mx at x0 x1
      refine ⟨_, rfl, _, rfl, _, _, rfl, rfl, mul _ _ ⟨x0, by omega⟩, _, 2147483579, rfl, rfl, (show (0 : Int) < 2147483579 by decide), ?_⟩
      have y0 := Int.emod_nonneg (mx * mx) (show (2147483579 : Int) ≠ 0 by decide)
      have y1 := Int.emod_lt_of_pos (mx * mx) (show (0 : Int) < 2147483579 by decide)
      dsimp only
      generalize mx * mx % 2147483579 = my at y0 y1
      refine ⟨_, rfl, _, rfl, _, 103049, rfl, rfl, mul _ _ ⟨by omega, by omega⟩, _, _, rfl, rfl, _, 69621, rfl, rfl, mul _ _ ⟨by omega, by omega⟩, _, 2147483629, rfl, rfl, (show (0 : Int) < 2147483629 by decide), _, 64, rfl, rfl, ⟨by decide, by decide⟩, _, rfl, _, size, rfl, rfl, (by show (0 : Int) < size; omega), ?_⟩
      refine q _ cs H1 (Int.emod_nonneg _ (by omega)) (Int.emod_lt_of_pos _ (by omega)) ⟨d1, l1, S.ne, S.few, by omega⟩ fun b o e hb _ => k1 b o e hb
end
end K13

namespace K13
open PySem PySem.Spec PyProof.Rows L2 LH C8
abbrev s_l_names : Stmt := topS 32
abbrev n_l_names : List Str := ["_law_state", "_law_count", "_law_letters", "_law_begun", "_law_way", "_law_stem", "_law_words", "_law_at", "_law_found", "_law_k", "_law_one", "_law_turn"]
theorem sc_l_names : FnScope n_l_names ["_law_state", "_law_count"] (defScope s_l_names) := ⟨rfl, rfl, rfl, by decide +kernel, rfl, by decide +kernel, by decide +kernel⟩
/-! ### a text once or not at all -/
def rRepS : R2 := fun x y H Q => ∃ (z : Str) (n : Int), x = .str z ∧ y = .int n ∧ 0 ≤ n ∧ n ≤ 1 ∧ Q (.str (Txt.mul z n)) H
theorem op_repS {X : Cx} : OpR X (binaryOp .Mult) rRepS := by
  (intro pins s σ H x y v u Q I rx ry h)
  obtain ⟨z, n, rfl, rfl, h0, h1, q⟩ := h
  obtain ⟨t, rfl⟩ := rx
  obtain ⟨t', rfl⟩ := ry
  have e : n < 1 ∨ n = 1 := by omega
  refine SB.mul ⟨?_, fun a b => ?_, fun a b => ?_⟩ fun t2 k => ⟨.str (Txt.mul z n), H, I.tok _, ⟨_, rfl⟩, q⟩
  · rw [decide_eq_false (by omega), decide_eq_false (by omega)]
    rfl
  · rcases e with e | e
    · exact absurd e a
    · rw [e] at b
      exact absurd b (by simp)
  · rcases e with e | e
    · exact absurd e a
    · rw [e] at b
      exact absurd b (by simp)
/-! ### the names -/
def lets : Str := "abcdefghijklmnoqrstuvwxyz"
structure Nm (ns : List Str) : Prop where
  len : ns.length = 12
  name : ∀ z ∈ ns, isNameD (.str z) = true
  nd : ns.Nodup
  post : ("post" : Str) ∉ ns
structure Tn (mg : Str → Option Value) : Prop where
  m_len : mg "len" = none
  m_range : mg "range" = none
def words : List Str := ["end", "begin", "house", "one", "list", "link", "from", "to", "in", "send", "now", "into"]
def rot (r : Nat) : List Str := (words.drop r ++ words.take r).take 12
/-- the k-th name -/
def nameK (z : Str) (at' bg : Int) (k : Nat) : Str := ((cutS z none (some at') ++ (⟨#[lets.cps.toList.getD ((bg + 7 * (k : Int)) % 25).toNat 0]⟩ : Str)) ++ cutS z (some at') none) ++ Txt.mul "z" ((k : Int) % 2)
def nmB (ns : List Str) : Bool := (decide (ns.length = 12) && ns.all fun z => isNameD (.str z)) && (decide ns.Nodup && !decide (("post" : Str) ∈ ns))
theorem nm_of {ns : List Str} (h : nmB ns = true) : Nm ns := by
  unfold nmB at h
  rw [Bool.and_eq_true, Bool.and_eq_true, Bool.and_eq_true, decide_eq_true_eq, decide_eq_true_eq, Bool.not_eq_true', decide_eq_false_iff_not] at h
  exact ⟨h.1.1, fun z hz => List.all_eq_true.mp h.1.2 z hz, h.2.1, h.2.2⟩
theorem nm_all : ((List.range 12).all fun r => nmB (rot r)) = true := by decide +kernel
theorem nm_rot {r : Nat} (h : r < 12) : Nm (rot r) := nm_of (List.all_eq_true.mp nm_all r (List.mem_range.mpr h))
theorem let_inj : ((List.range 25).all fun i => (List.range 25).all fun j => decide (lets.cps.toList.getD i 0 = lets.cps.toList.getD j 0 → i = j)) = true := by decide +kernel
theorem let_low : (lets.cps.toList.all fun c => decide (c ∈ lowers.cps.toList) && decide (c ≠ 112)) = true := by decide +kernel
theorem mul_z {k : Nat} : (Txt.mul "z" ((k : Int) % 2)).cps.toList = List.replicate (k % 2) 122 := by
  have hh : k % 2 = 0 ∨ k % 2 = 1 := by omega
  rcases hh with h | h
  · rw [h, show (k : Int) % 2 = 0 by omega]
    decide +kernel
  · rw [h, show (k : Int) % 2 = 1 by omega]
    decide +kernel
theorem cut_ab {z : Str} {at' : Int} (ha : 0 ≤ at') (ha2 : at' ≤ z.length) : (cutS z none (some at')).cps.toList = z.cps.toList.take at'.toNat ∧ (cutS z (some at') none).cps.toList = z.cps.toList.drop at'.toNat := by
  have hl : z.cps.toList.length = z.length := by rw [Array.length_toList]; rfl
  have e : HT.sIx z.length 0 (some at') = at'.toNat := by
    show (if at' < 0 then _ else min at'.toNat z.length) = _
    rw [if_neg (by omega)]
    omega
  have e2 : HT.sIx z.length z.length (some at') = at'.toNat := by
    show (if at' < 0 then _ else min at'.toNat z.length) = _
    rw [if_neg (by omega)]
    omega
  unfold cutS
  refine ⟨?_, ?_⟩
  · rw [e2]
    show (z.cps.toList.drop 0).take (at'.toNat - 0) = _
    rw [List.drop_zero, Nat.sub_zero]
  · rw [e]
    show (z.cps.toList.drop at'.toNat).take (z.length - at'.toNat) = _
    exact List.take_of_length_le (by rw [List.length_drop, hl]; omega)
theorem nameK_tl {z : Str} {at' bg : Int} {k : Nat} (ha : 0 ≤ at') (ha2 : at' ≤ z.length) : (nameK z at' bg k).cps.toList = z.cps.toList.take at'.toNat ++ (lets.cps.toList.getD ((bg + 7 * (k : Int)) % 25).toNat 0 :: (z.cps.toList.drop at'.toNat ++ List.replicate (k % 2) 122)) := by
  obtain ⟨a, b⟩ := cut_ab ha ha2
  show TL.tl (((cutS z none (some at') ++ _) ++ cutS z (some at') none) ++ _) = _
  rw [TL.tl_append, TL.tl_append, TL.tl_append]
  show ((cutS z none (some at')).cps.toList ++ [_] ++ (cutS z (some at') none).cps.toList) ++ (Txt.mul "z" ((k : Int) % 2)).cps.toList = _
  rw [a, b, mul_z]
  simp
theorem let_at {r : Int} (r0 : 0 ≤ r) (r1 : r < 25) : atI lets.cps.toList r = some (lets.cps.toList.getD r.toNat 0) ∧ lets.cps.toList.getD r.toNat 0 ∈ lets.cps.toList := by
  have hl : lets.cps.toList.length = 25 := by decide +kernel
  have hr : r.toNat < lets.cps.toList.length := by omega
  have e : lets.cps.toList.getD r.toNat 0 = lets.cps.toList[r.toNat] := by
    rw [List.getD_eq_getElem?_getD, List.getElem?_eq_getElem hr]
    rfl
  refine ⟨?_, by rw [e]; exact List.getElem_mem hr⟩
  have h := atI_nat (xs := lets.cps.toList) (j := r.toNat) (v := lets.cps.toList.getD r.toNat 0) (by rw [e]; exact List.getElem?_eq_getElem hr)
  rw [Int.toNat_of_nonneg r0] at h
  exact h
theorem nm_drawn {z : Str} {at' bg : Int} (hz : z.length ≤ 6) (hl : ∀ c ∈ z.cps.toList, c ∈ lets.cps.toList) (ha : 0 ≤ at') (ha2 : at' ≤ z.length) (b0 : 0 ≤ bg) (b1 : bg < 25) : Nm ((List.range 12).map (nameK z at' bg)) := by
  have hzl : z.cps.toList.length = z.length := by rw [Array.length_toList]; rfl
  have ix : ∀ k : Nat, ((bg + 7 * (k : Int)) % 25).toNat < 25 := fun k => by
    have i0 := Int.emod_nonneg (bg + 7 * (k : Int)) (show (25 : Int) ≠ 0 by decide)
    have i1 := Int.emod_lt_of_pos (bg + 7 * (k : Int)) (show (0 : Int) < 25 by decide)
    omega
  have cin : ∀ k : Nat, lets.cps.toList.getD ((bg + 7 * (k : Int)) % 25).toNat 0 ∈ lets.cps.toList := fun k => (let_at (Int.emod_nonneg _ (by decide)) (Int.emod_lt_of_pos _ (by decide))).2
  have mem : ∀ (k c : Nat), c ∈ (nameK z at' bg k).cps.toList → c ∈ lets.cps.toList ∨ c = 122 := fun k c h => by
    rw [nameK_tl ha ha2] at h
    (rcases List.mem_append.mp h with h | h)
    · exact .inl (hl c (List.mem_of_mem_take h))
    · rcases List.mem_cons.mp h with h | h
      · rw [h]
        exact .inl (cin k)
      · (rcases List.mem_append.mp h with h | h)
        · exact .inl (hl c (List.mem_of_mem_drop h))
        · exact .inr (List.eq_of_mem_replicate h)
  have low : ∀ c, (c ∈ lets.cps.toList ∨ c = 122) → c ∈ lowers.cps.toList ∧ c ≠ 112 := fun c h => by
    rcases h with h | h
    · have q := List.all_eq_true.mp let_low c h
      rw [Bool.and_eq_true, decide_eq_true_eq, decide_eq_true_eq] at q
      exact q
    · rw [h]
      exact ⟨by decide +kernel, by decide⟩
  have len : ∀ k : Nat, (nameK z at' bg k).length = z.length + 1 + k % 2 := fun k => by
    show (nameK z at' bg k).cps.size = _
    rw [← Array.length_toList, nameK_tl ha ha2, List.length_append, List.length_cons, List.length_append, List.length_take, List.length_drop, List.length_replicate, hzl]
    omega
  refine ⟨by rw [List.length_map, List.length_range], fun y hy => ?_, ?_, fun hp => ?_⟩
  · obtain ⟨k, hk, rfl⟩ := List.mem_map.mp hy
    have hk2 : k % 2 < 2 := Nat.mod_lt _ (by decide)
    have hn := len k
    show ((decide ((1 : Int) ≤ ((nameK z at' bg k).length : Int)) && decide (((nameK z at' bg k).length : Int) ≤ 8)) && (signsD (nameK z at' bg k)).all (signIn lowers)) = true
    rw [decide_eq_true (by omega), decide_eq_true (by omega)]
    refine List.all_eq_true.mpr fun d hd => ?_
    obtain ⟨c, hc, rfl⟩ := List.mem_map.mp hd
    exact decide_eq_true (low c (mem k c hc)).1
  · unfold List.Nodup
    rw [List.pairwise_map]
    refine List.Pairwise.imp_of_mem (fun {a b} ha' hb' hne e => hne ?_) (List.nodup_range (n := 12))
    have ka := List.mem_range.mp ha'
    have kb := List.mem_range.mp hb'
    have la := len a
    have lb := len b
    rw [e] at la
    have hpar : a % 2 = b % 2 := by omega
    have hl2 : (nameK z at' bg a).cps.toList = (nameK z at' bg b).cps.toList := congrArg (fun s : Str => s.cps.toList) e
    rw [nameK_tl ha ha2, nameK_tl ha ha2] at hl2
    have hc := List.append_cancel_left hl2
    have hc2 := (List.cons.inj hc).1
    have q := List.all_eq_true.mp (List.all_eq_true.mp let_inj _ (List.mem_range.mpr (ix a))) _ (List.mem_range.mpr (ix b))
    have r := of_decide_eq_true q hc2
    have i0 := Int.emod_nonneg (bg + 7 * (a : Int)) (show (25 : Int) ≠ 0 by decide)
    have j0 := Int.emod_nonneg (bg + 7 * (b : Int)) (show (25 : Int) ≠ 0 by decide)
    omega
  · obtain ⟨k, _, e⟩ := List.mem_map.mp hp
    have h112 : 112 ∈ (nameK z at' bg k).cps.toList := by
      rw [e]
      decide +kernel
    exact (low 112 (mem k 112 h112)).2 rfl
theorem rd_repS {K : PySem.W.Frag} {z : Str} {n : Int} (h0 : 0 ≤ n) (h1 : n ≤ 1) : RD K rRepS (.str z) (.int n) (.str (Txt.mul z n)) := fun a b G H gh da db Q q => by
  cases da
  cases db
  exact ⟨z, n, rfl, rfl, h0, h1, q _ G H (Gw.refl gh) (.str _)⟩
theorem cut_len {α : Type} (xs : List α) (lo hi : Option Int) : (cutD xs lo hi).length ≤ xs.length := by
  unfold LH.cutD
  (rw [List.length_take, List.length_drop])
  omega
theorem cutS_len (z : Str) (lo hi : Option Int) : (cutS z lo hi).length ≤ z.length := by
  unfold cutS
  show (List.toArray _).size ≤ z.cps.size
  (rw [List.size_toArray, List.length_take, List.length_drop, Array.length_toList])
  omega
theorem str_len (a b : Str) : (a ++ b).length = a.length + b.length := by
  show (a ++ b).cps.size = a.cps.size + b.cps.size
  rw [Str.cps_append, Array.size_append]
theorem cut_rot {r : Nat} (h : r < 12) : PyData.list (cutD (cutD (words.map PyData.str) (some (r : Int)) none ++ cutD (words.map PyData.str) none (some (r : Int))) none (some 12)) = .list ((rot r).map PyData.str) := by
  match r, h with
  | 0, _ => rfl
  | 1, _ => rfl
  | 2, _ => rfl
  | 3, _ => rfl
  | 4, _ => rfl
  | 5, _ => rfl
  | 6, _ => rfl
  | 7, _ => rfl
  | 8, _ => rfl
  | 9, _ => rfl
  | 10, _ => rfl
  | 11, _ => rfl
  | r + 12, h => exact absurd h (by omega)
/-- what the draws leave as it was -/
def Kept (H H' : Hp) (sd ca : Addr) : Prop := ∀ b o, H b = some o → b ≠ sd → b ≠ ca → H' b = some o
theorem StAt.new {H : Hp} {sd ca p : Addr} {cs : List Int} {t : Int} {o : HO} (S : StAt H sd ca cs t) (np : H p = none) : StAt (upd H p o) sd ca cs t :=
  ⟨by rw [upd_ne (ne_of_none S.dc np)]; exact S.dc, by rw [upd_ne (ne_of_none S.ls np)]; exact S.ls, S.ne, S.few, S.t0⟩
theorem StAt.same {H H' : Hp} {sd ca : Addr} {cs : List Int} {t : Int} (S : StAt H sd ca cs t) (h : Same H H') : StAt H' sd ca cs t := ⟨h _ _ S.dc, h _ _ S.ls, S.ne, S.few, S.t0⟩
def spNames (K : PySem.W.Frag) : Sp := fun vs H Q _ => ∃ (sd ca : Addr) (cs : List Int) (t : Int), vs = [.ref sd, .int 12] ∧ StAt H sd ca cs t ∧ t ≤ 10000 ∧
  ∀ (ns : List Str) (v : V) (cs' : List Int) (t' : Int) (G' H' : Hp), Nm ns → Dq K G' v (.list (ns.map PyData.str)) → Same G' H' → G' sd = none → G' ca = none → StAt H' sd ca cs' t' → t' ≤ t + 20 → Q v H'
section
variable {P : Program} {w : World} {K : PySem.W.Frag} {mg : Str → Option Value} {base : Heap} {aW : Addr}
theorem c_l_names (T : Tn mg) (F : Dfn K mg "_law_names" s_l_names ["_law_state", "_law_count"]) (C_l_take : Cal P w K mg base 1 "_law_take" spTake []) : Cal P w K mg base 2 "_law_names" (spNames K) [] := by
  obtain ⟨f, fd, F, hm, b⟩ := F.ex
  refine ⟨f, fd, ["_law_state", "_law_count"], [], F.ok sc_l_names (fun vs H Q E h => ?_) (fun cdv A outer s H vs Q E hr h => ?_), hm, F.kp, b, .nil⟩
  · obtain ⟨_, _, _, _, rfl, _⟩ := h
    rfl
  · obtain ⟨sd, ca, cs, t, rfl, S, ht, q⟩ := h
    refine ⟨_, (pss_cons (ps_asg (pe_tup (pa_cons (pe_str) (pa_cons (pe_c C_l_take hr (by decide) (by rfl) (pa_cons (pv 0) (pa_cons (pe_int) pa_nil))) (pa_cons (pe_c C_l_take hr (by decide) (by rfl) (pa_cons (pv 0) (pa_cons (pe_int) pa_nil))) pa_nil)))) (pg_tup (by rfl) (pgs_cons (pg_name (i := 2) sc_l_names.nd rfl (Or.inr rfl)) (pgs_cons (pg_name (i := 3) sc_l_names.nd rfl (Or.inl rfl)) (pgs_cons (pg_name (i := 4) sc_l_names.nd rfl (Or.inl rfl)) (pgs_nil)))))) (pss_cons (ps_set (i := 5) sc_l_names.nd rfl (Or.inl rfl) (pe_join (pe_str) (pe_lc (own := [("_law_turn", 11)]) (g := gName 11) (by rfl) sc_l_names.nd (pi_range1 (by rfl) T.m_range (pa_cons (pe_c C_l_take hr (by decide) (by rfl) (pa_cons (pv 0) (pa_cons (pe_int) pa_nil))) pa_nil)) (blkOk_by (own := [("_law_turn", 11)]) (N := n_l_names) (sc := defScope s_l_names) (by decide +kernel)) (fun _ _ _ _ _ => pg_name (i := 11) sc_l_names.nd rfl (Or.inl rfl)) (fun _ _ _ _ _ => pts_nil) (fun _ _ _ _ _ => pe_ix (@id (IxR _ (rIx K)) ix_seq) (pv 2) (pe_c C_l_take hr (by decide) (by rfl) (pa_cons (pv 0) (pa_cons (pe_int) pa_nil))) (fun _ _ => rfl))))) (pss_cons (ps_set (i := 6) sc_l_names.nd rfl (Or.inl rfl) (pe_lst (pa_cons (pe_str) (pa_cons (pe_str) (pa_cons (pe_str) (pa_cons (pe_str) (pa_cons (pe_str) (pa_cons (pe_str) (pa_cons (pe_str) (pa_cons (pe_str) (pa_cons (pe_str) (pa_cons (pe_str) (pa_cons (pe_str) (pa_cons (pe_str) pa_nil)))))))))))))) (pss_cons (ps_if (pt_cmpR (op_eqD hr.units) (pv 4) (pe_int) (nomark _)) (pss_one (ps_ret (pe_slice sl_list (pe_op op_catL (pe_slice sl_list (pv 6) (po_some (pe_op op_mod (pv 3) (pe_int))) po_none) (pe_slice sl_list (pv 6) po_none (po_some (pe_op op_mod (pv 3) (pe_int))))) po_none (po_some (pv 1))))) (pss_nil)) (pss_cons (ps_set (i := 7) sc_l_names.nd rfl (Or.inl rfl) (pe_ix ix_seq (pe_lst (pa_cons (pe_int) (pa_cons (pe_callB call_lenA (by rfl) T.m_len (by decide +kernel) (pa_cons (pv 5) pa_nil)) (pa_cons (pe_c C_l_take hr (by decide) (by rfl) (pa_cons (pv 0) (pa_cons (pe_op op_add (pe_callB call_lenA (by rfl) T.m_len (by decide +kernel) (pa_cons (pv 5) pa_nil)) (pe_int)) pa_nil))) pa_nil)))) (pe_op op_sub (pv 4) (pe_int)) (fun _ _ => rfl))) (pss_cons (ps_set (i := 8) sc_l_names.nd rfl (Or.inl rfl) (pe_lst (pa_nil))) (pss_cons (ps_for PassesOwn.never rfl (pi_range1 (by rfl) T.m_range (pa_cons (pv 1) pa_nil)) (pg_name (i := 9) sc_l_names.nd rfl (Or.inl rfl)) (pss_cons (ps_set (i := 10) sc_l_names.nd rfl (Or.inl rfl) (pe_op op_add_str (pe_op op_add_str (pe_slice sl_str (pv 5) po_none (po_some (pv 7))) (pe_ix ix_seq (pv 2) (pe_op op_mod (pe_op op_add (pv 3) (pe_op op_mul (pe_int) (pv 9))) (pe_int)) (fun _ _ => rfl))) (pe_slice sl_str (pv 5) (po_some (pv 7)) po_none))) (pss_one (ps_expr (pe_bm PySem.F.plainAttrs_list PySem.F.slot_list_append PySem.F.type_list_append mt_append (pv 8) (pa_cons (pe_op op_add_str (pv 10) (pe_op op_repS (pe_str) (pe_op op_mod (pv 9) (pe_int)))) pa_nil)))))) (pss_one (ps_ret (pv 8)))))))))), ?_⟩
    have t0 := S.t0
    -- letters, begun, way
    refine ⟨.ref sd, rfl, sd, ca, cs, t, 25, rfl, S, by decide, by decide, by omega, fun bg cs1 H1 b0 b1 S1 _ => ?_⟩
    refine ⟨.ref sd, rfl, sd, ca, cs1, t + 1, 4, rfl, S1, by decide, by decide, by omega, fun wy cs2 H2 w0 w1 S2 _ => ?_⟩
    refine ⟨(by show 3 ≤ sizeLine; decide), fun p np => ?_⟩
    refine ⟨p, [_, _, _], rfl, .inl (.inl upd_same), rfl, _, _, rfl, _, _, rfl, _, _, rfl, rfl, ?_⟩
    have S3 := S2.new (o := HO.tup [V.str "abcdefghijklmnoqrstuvwxyz", .int bg, .int wy]) np
    generalize upd H2 p (.tup [V.str "abcdefghijklmnoqrstuvwxyz", .int bg, .int wy]) = H3 at S3
    -- the stem
    refine ⟨⟨"", rfl⟩, .ref sd, rfl, sd, ca, cs2, t + 1 + 1, 7, rfl, S3, by decide, by decide, by omega, fun m cs4 H4 m0 m1 S4 _ => ?_⟩
    refine ⟨m, rfl, by omega, by omega, fun Dl nD => ?_⟩
    have nDs : Dl ≠ sd := fun z => by rw [z, S4.dc] at nD; cases nD
    have nDc : Dl ≠ ca := fun z => by rw [z, S4.ls] at nD; cases nD
    refine lc_range (lo := 0) (n := m.toNat) (fun i H' => ∃ cs' ys, StAt H' sd ca cs' (t + 1 + 1 + 1 + i) ∧ H' Dl = some (.lst (ys.map V.str)) ∧ ys.length = i ∧ ∀ y ∈ ys, ∃ c, c ∈ lets.cps.toList ∧ y = ⟨#[c]⟩)
      ⟨cs4, [], by simpa using S4.new nD, upd_same, rfl, fun y hy => nomatch hy⟩ ?_ ?_
    · rintro i H' hi ⟨cs', ys, S', hD, hl, hy⟩
      have i6 : (i : Int) < 7 := by omega
      refine ⟨rfl, ?_⟩
      dsimp only [tYes]
      rw [if_pos rfl]
      refine ⟨.str "abcdefghijklmnoqrstuvwxyz", rfl, .ref sd, rfl, sd, ca, cs', _, 25, rfl, S', by decide, by decide, by omega, fun r cs5 H5 r0 r1 S5 k5 => ?_⟩
      obtain ⟨ha, hc⟩ := let_at r0 r1
      refine .inr (.inr ⟨_, r, _, rfl, rfl, (by show lets.length ≤ sizeLine; decide +kernel), ha, ?_⟩)
      have hD5 := k5 _ _ hD nDs nDc
      refine ⟨_, hD5, by rw [List.length_map, hl]; exact Nat.lt_of_lt_of_le (show i < 100 by omega) (by decide), cs5, ys ++ [⟨#[lets.cps.toList.getD r.toNat 0]⟩], ?_, by rw [upd_same, List.map_append]; rfl, by rw [List.length_append, hl]; rfl, ?_⟩
      · have e : t + 1 + 1 + 1 + ((i + 1 : Nat) : Int) = t + 1 + 1 + 1 + (i : Int) + 1 := by omega
        rw [e]
        exact ⟨by rw [upd_ne nDs.symm]; exact S5.dc, by rw [upd_ne nDc.symm]; exact S5.ls, S5.ne, S5.few, S5.t0⟩
      · intro y hy'
        rcases List.mem_append.mp hy' with z | z
        · exact hy y z
        · (rw [List.mem_singleton.mp z])
          exact ⟨_, hc, rfl⟩
    rintro H5 ⟨cs5, ys, S5, hD, hl, hy⟩
    have hm6 : m.toNat ≤ 6 := by omega
    have hsum : (ys.map (·.length)).sum = ys.length := by
      clear hD hl
      induction ys with
      | nil => rfl
      | cons y r ih =>
        obtain ⟨c, _, rfl⟩ := hy _ List.mem_cons_self
        rw [List.map_cons, List.sum_cons, ih fun z hz => hy z (List.mem_cons_of_mem _ hz), List.length_cons]
        show 1 + r.length = _
        omega
    refine ⟨"", Dl, ys, rfl, rfl, .inl (.inl (.inl hD)), ?_, ?_⟩
    · rw [hsum, hl]
      show m.toNat + m.toNat * 0 ≤ 16777216
      omega
    obtain ⟨zl, zc⟩ := join_one ys hy
    rw [TL.join_eq]
    generalize Str.join "" ys = z at zl zc
    have zlen : z.length ≤ 6 := by
      show z.cps.size ≤ 6
      rw [← Array.length_toList, zl, hl]
      exact hm6
    -- the words
    refine ⟨(by show 12 ≤ sizeLine; decide), fun pw npw => ?_⟩
    have S6 := S5.new (o := HO.lst (words.map V.str)) npw
    have hw6 : (upd H5 pw (.lst (words.map V.str))) pw = some (.lst (words.map V.str)) := upd_same
    have npw1 : pw ≠ sd := fun e => by rw [e, S5.dc] at npw; cases npw
    have npw2 : pw ≠ ca := fun e => by rw [e, S5.ls] at npw; cases npw
    generalize hH6 : upd H5 pw (.lst (words.map V.str)) = H6 at S6 hw6
    have hH6' : upd H5 pw (.lst [V.str "end", .str "begin", .str "house", .str "one", .str "list", .str "link", .str "from", .str "to", .str "in", .str "send", .str "now", .str "into"]) = H6 := hH6
    rw [hH6']
    -- way == 0
    refine ⟨.int wy, rfl, .int wy, .int 0, .int _, .int _, rfl, rfl, _, rfl, ite2 (fun e => ?_) (fun e => ?_)⟩
    · have r0 := Int.emod_nonneg bg (show (12 : Int) ≠ 0 by decide)
      have r1 := Int.emod_lt_of_pos bg (show (0 : Int) < 12 by decide)
      have er : ((bg % 12).toNat : Int) = bg % 12 := Int.toNat_of_nonneg r0
      have rl : (bg % 12).toNat < 12 := by omega
      generalize hrr : (bg % 12).toNat = r at er rl
      have Gm : Same (oneH pw (HO.lst (words.map V.str))) H6 := oneH_same hw6
      have dw : Dq K (oneH pw (HO.lst (words.map V.str))) (.ref pw) (.list (words.map PyData.str)) := .lst (.inl (.inl (oneH_at _ _))) (dpsOfStrs _)
      refine (?hrt : RtE K (tRet _) [none, some (.int 12), some (.str lets), some (.int bg), some (.int wy), some (.str z), some (.list (words.map PyData.str)), none, none, none, none, none] [] (.list ((rot r).map PyData.str))) H6 _ _ _ H6 _ (Gw.refl Gm) ⟨Gm, (SdL.any (.val (.int _) (.val (.str _) (.val (.int _) (.val (.int _) (.val (.str _) (.val dw (.any (.any (.any (.any (.any .nil)))))))))))).sd, [], .nil⟩ fun v G' H' w dv => ?_
      case hrt =>
        refine rt_ret (ee_is (ee_of (en_slL (ee_of (en_cat (ee_of (en_slL (ee_var rfl) (eo_some (ee_op (ee_var rfl) ee_int (rd_mod (by decide)))) eo_none)) (ee_of (en_slL (ee_var rfl) eo_none (eo_some (ee_op (ee_var rfl) ee_int (rd_mod (by decide)))))) ?_)) eo_none (eo_some (ee_var rfl)))) ?_)
        · exact Nat.le_trans (Nat.add_le_add (cut_len _ _ _) (cut_len _ _ _)) (by rw [List.length_map]; decide)
        · rw [← er]
          exact cut_rot rl
      have n1 : G' sd = none := w.nw sd (by rw [S6.dc]; exact fun z => nomatch z) (oneH_ne npw1.symm)
      have n2 : G' ca = none := w.nw ca (by rw [S6.ls]; exact fun z => nomatch z) (oneH_ne npw2.symm)
      exact q (rot r) v cs5 _ G' H' (nm_rot rl) dv w.gh n1 n2 (S6.same w.hh) (by omega)
    · have hw1 : 1 ≤ wy := by
        have : wy ≠ 0 := fun z => e (by rw [z]; rfl)
        omega
      -- at
      have z0 : (0 : Int) ≤ (z.length : Int) := Int.natCast_nonneg _
      have z6 : (z.length : Int) ≤ 6 := by omega
      refine ⟨.str z, rfl, .str z, z.length, rfl, ⟨Nat.le_trans zlen (by decide), rfl⟩, .ref sd, rfl, .str z, rfl, .str z, z.length, rfl, ⟨Nat.le_trans zlen (by decide), rfl⟩, _, 1, rfl, rfl, sd, ca, cs5, _, _, rfl, S6, (by show (1 : Int) ≤ (z.length : Int) + 1; omega), (by show (z.length : Int) + 1 ≤ 100000; omega), by omega, fun ax cs7 H7 a0 a1 S7 _ => ?_⟩
      have a1' : ax < (z.length : Int) + 1 := a1
      refine ⟨(by show 3 ≤ sizeLine; decide), fun pl npl => ?_⟩
      refine ⟨.int wy, rfl, wy, 1, rfl, rfl, ?_⟩
      have S8 := S7.new (o := HO.lst [V.int 0, .int z.length, .int ax]) npl
      obtain ⟨at', ha', h1', h2'⟩ : ∃ at' : Int, atI [V.int 0, .int z.length, .int ax] (wy - 1) = some (.int at') ∧ 0 ≤ at' ∧ at' ≤ z.length := by
        have hh : wy = 1 ∨ wy = 2 ∨ wy = 3 := by omega
        rcases hh with rfl | rfl | rfl
        · exact ⟨0, rfl, by omega, by omega⟩
        · exact ⟨z.length, rfl, by omega, by omega⟩
        · exact ⟨ax, rfl, a0, by omega⟩
      refine .inl ⟨pl, [V.int 0, .int z.length, .int ax], wy - 1, .int at', rfl, rfl, .inl (.inl upd_same), ha', ?_⟩
      generalize upd H7 pl (.lst [V.int 0, .int z.length, .int ax]) = H8 at S8
      have Gm : Same (fun _ => none) H8 := fun a o h => nomatch h
      refine g_name ?_
      dsimp only
      refine (?hrt : RtE K (tSeq _ (tSeq (tFor _ _ _) (tRet _))) [none, some (.int 12), some (.str lets), some (.int bg), some (.int wy), some (.str z), none, some (.int at'), none, none, none, none] [] (.list (((List.range 12).map (nameK z at' bg)).map PyData.str))) H8 _ _ _ H8 _ (Gw.refl Gm) ⟨Gm, (SdL.any (.val (.int _) (.val (.str _) (.val (.int _) (.val (.int _) (.val (.str _) (.any (.val (.int _) (.any (.any (.any (.any .nil)))))))))))).sd, [], .nil⟩ fun v G' H' w dv => ?_
      case hrt =>
        have hcut : ∀ lo hi : Option Int, (cutS z lo hi).length ≤ 6 := fun lo hi => Nat.le_trans (cutS_len z lo hi) zlen
        refine rt_seq (go_asgN (en_lst ea_nil (by decide)) (fun m hm => nomatch hm) (by show 8 < 12; decide)) (rt_seq (go_for (ei_range1 (n := 12) (ea_cons (ee_var rfl) ea_nil) (by decide)) (fun _ => [none, some (.int 12), some (.str lets), some (.int bg), some (.int wy), some (.str z), none, some (.int at'), none, none, none, none])
          (fun k => [(8, ((List.range k).map (nameK z at' bg)).map PyData.str)]) rfl rfl ?_ (fun k m hm => by rw [List.mem_singleton.mp hm]; show (8 : Nat) ≠ 9; decide)) (rt_freeze (rt_ret (ee_var rfl))))
        intro k d hk
        have hk12 : k < 12 := by
          have z := (List.getElem?_eq_some_iff.mp hk).1
          rw [List.length_map, List.length_range] at z
          exact z
        have ed : d = .int (k : Int) := by
          rw [List.getElem?_map, List.getElem?_range hk12] at hk
          exact (Option.some.inj hk).symm
        subst ed
        have i0 := Int.emod_nonneg (bg + 7 * (k : Int)) (show (25 : Int) ≠ 0 by decide)
        have i1 := Int.emod_lt_of_pos (bg + 7 * (k : Int)) (show (0 : Int) < 25 by decide)
        have p0 := Int.emod_nonneg (k : Int) (show (2 : Int) ≠ 0 by decide)
        have p1 := Int.emod_lt_of_pos (k : Int) (show (0 : Int) < 2 by decide)
        have e1 : EvE K _ _ _ := ee_op (K := K) (ee_op (ee_slS (ee_var (env := [none, some (.int 12), some (.str lets), some (.int bg), some (.int wy), some (.str z), none, some (.int at'), none, some (.int (k : Int)), none, none]) (i := 5) rfl) eo_none (eo_some (ee_var (i := 7) rfl)) (Nat.le_trans zlen (by decide)))
            (ee_op (ee_var (i := 2) rfl) (ee_op (ee_op (ee_var (i := 3) rfl) (ee_op (ee_int (i := 7)) (ee_var (i := 9) rfl) (rd_mul (.inl ⟨by decide, by decide⟩))) rd_add) (ee_int (i := 25)) (rd_mod (by decide))) (rd_ix (d := .str ⟨#[lets.cps.toList.getD ((bg + 7 * (k : Int)) % 25).toNat 0]⟩) ?i1)) (rd_addS ?i2))
            (ee_slS (ee_var (i := 5) rfl) (eo_some (ee_var (i := 7) rfl)) eo_none (Nat.le_trans zlen (by decide))) (rd_addS ?i3)
        case i1 =>
          show (if lets.length ≤ 100000 then (atI lets.cps.toList ((bg + 7 * (k : Int)) % 25)).map (fun c => PyData.str ⟨#[c]⟩) else none) = _
          rw [if_pos (by decide +kernel), (let_at i0 i1).1]
          rfl
        case i2 =>
          have := hcut none (some at')
          show _ + 1 ≤ 100000
          omega
        case i3 =>
          have a := hcut none (some at')
          have b := hcut (some at') none
          rw [str_len]
          show (_ + 1) + _ ≤ 100000
          omega
        show GoE K _ _ _ _ [(8, ((List.range (k + 1)).map (nameK z at' bg)).map PyData.str)]
        rw [List.range_succ, List.map_append, List.map_append]
        refine go_weak (go_seq (go_asg e1 (fun m hm => by rw [List.mem_singleton.mp hm]; show (8 : Nat) ≠ 10; decide)) (go_app (ee_op (ee_var rfl) (ee_op ee_str (ee_op (ee_var rfl) ee_int (rd_mod (by decide))) (rd_repS p0 (by omega))) (rd_addS ?_)) ?_)) ?_ ?_
        · have a := hcut none (some at')
          have b := hcut (some at') none
          rw [str_len, str_len]
          have c : (Txt.mul "z" ((k : Int) % 2)).length ≤ 1 := by
            have hh : (k : Int) % 2 = 0 ∨ (k : Int) % 2 = 1 := by omega
            rcases hh with h | h <;> rw [h] <;> decide +kernel
          show ((_ + 1) + _) + _ ≤ 100000
          omega
        · rw [List.length_map, List.length_map, List.length_range]
          omega
        · rfl
        · intro i e hi
          match i, hi with
          | 0, hi => cases hi
          | 1, hi => exact hi
          | 2, hi => exact hi
          | 3, hi => exact hi
          | 4, hi => exact hi
          | 5, hi => exact hi
          | 6, hi => cases hi
          | 7, hi => exact hi
          | 8, hi => cases hi
          | 9, hi => cases hi
          | 10, hi => cases hi
          | 11, hi => cases hi
          | i + 12, hi => cases hi
      have n1 : G' sd = none := w.nw sd (by rw [S8.dc]; exact fun z => nomatch z) rfl
      have n2 : G' ca = none := w.nw ca (by rw [S8.ls]; exact fun z => nomatch z) rfl
      exact q _ v cs7 _ G' H' (nm_drawn zlen zc h1' h2' b0 b1) dv w.gh n1 n2 (S8.same w.hh) (by omega)
end
end K13

namespace K13
open PySem PySem.Spec PyProof.Rows L2 LH C8
abbrev plD (name folk lists ways most : Dt) (more : List Dt) (links : Dt) : Dt := .tuple [.tuple (.tuple [name, folk, lists, ways, most] :: more), links]
theorem with_of {n : List Dt} {ch : List (Dt × Dt)} {p : Dt} {b : Bool} {ms : List Dt} (ks : List Str) (hk : (ch.map fun p => LH.strOf p.1) = ks) (hn : ks.Nodup) (hm : moreD ch = .tuple ms) (hp : planW n ch ms = p) (h1 : Nat.ble 2 n.length = true) (hl : Nat.ble ch.length 15 = true) (hml : Nat.ble ms.length 1000 = true) (ho : okPlan p = true) (hb : isPlanD p = b) : mWith [.list n, .dict ch] = some (.bool b) := by
  have em : elems (moreD ch) = ms := by rw [hm]; rfl
  show (if okWith n ch = true then some (PyData.bool (isPlanD (planW n ch (elems (moreD ch))))) else none) = _
  rw [if_pos]
  · rw [em, hp, hb]
  · unfold okWith
    rw [decide_eq_true (Nat.le_of_ble_eq_true h1), hk, decide_eq_true hn, decide_eq_true (Nat.le_of_ble_eq_true hl), em, decide_eq_true (Nat.le_of_ble_eq_true hml), hm, hp, ho]
    rfl
theorem sort2_comm (a b : Str) : sort2 a b = sort2 b a := by
  unfold sort2
  rw [sorted2, sorted2]
  cases h1 : ltCps b.cps.toList a.cps.toList with
  | true =>
    cases h2 : ltCps a.cps.toList b.cps.toList with
    | true => exact (lt_asym _ _ h1 h2).elim
    | false => rfl
  | false =>
    cases h2 : ltCps a.cps.toList b.cps.toList with
    | true => rfl
    | false =>
      have e : a = b := TL.ext_tl (lt_tri _ _ h2 h1)
      rw [e]
theorem sort2_or (a b : Str) : sort2 a b = [a, b] ∨ sort2 a b = [b, a] := by
  unfold sort2
  split
  · exact .inl rfl
  · exact .inr rfl
theorem sort2_iff {a b c d : Str} : sort2 a b = sort2 c d ↔ (a = c ∧ b = d) ∨ (a = d ∧ b = c) := by
  constructor
  · intro h
    rcases sort2_or a b with e | e <;> rcases sort2_or c d with f | f <;> rw [e, f] at h <;> simp only [List.cons.injEq, and_true] at h
    · exact .inl h
    · exact .inr h
    · exact .inr ⟨h.2, h.1⟩
    · exact .inl ⟨h.2, h.1⟩
  · rintro (⟨rfl, rfl⟩ | ⟨rfl, rfl⟩)
    · rfl
    · exact sort2_comm _ _
section
theorem e_plan (hs ls : Dt) : isPlanD (.tuple [hs, ls]) = (isHousesD hs && isLinksD ls ((elems hs).map fstOf)) := rfl
theorem e_houses (ds : List Dt) : isHousesD (.tuple ds) = ((isTupD (.tuple ds) 1 5 && ds.all isHouseD) && decide ((ds.map fun h => LH.strOf (fstOf h)).Nodup)) := rfl
theorem e_house (a b c e f : Dt) : isHouseD (.tuple [a, b, c, e, f]) = ((isNameD a && (isPeopleD b && isListsD c)) && ((!((namesD b c).any fun z => PyData.eqv z (.str "post")) && decide (((namesD b c).map LH.strOf).Nodup)) && (isWaysD e && isWithinD f 400 9000))) := rfl
theorem e_people (ds : List Dt) : isPeopleD (.tuple ds) = (isTupD (.tuple ds) 1 4 && ds.all isNameD) := rfl
theorem e_lists (ds : List Dt) : isListsD (.tuple ds) = (isTupD (.tuple ds) 0 3 && ds.all isLohD) := rfl
theorem e_loh (a : Dt) (as : List Dt) : isLohD (.tuple [a, .tuple as]) = (isNameD a && (isTupD (.tuple as) 1 4 && (as.all isAddrD && decide ((as.map addrOf).Nodup)))) := rfl
theorem e_addr (a b : Dt) : isAddrD (.tuple [a, b]) = (isNameD a && isNameD b) := rfl
theorem e_tup (ds : List Dt) (a b : Int) : isTupD (.tuple ds) a b = (decide (a ≤ (ds.length : Int)) && decide ((ds.length : Int) ≤ b)) := rfl
theorem e_links (ds ns : List Dt) : isLinksD (.tuple ds) ns = ((isTupD (.tuple ds) 0 8 && ds.all fun l => isLinkD l ns) && decide ((ds.map pairOf).Nodup)) := rfl
theorem e_link (x y n : Dt) (ns : List Dt) : isLinkD (.tuple [x, y, n]) ns = (((ns.any fun z => PyData.eqv z x) && (ns.any fun z => PyData.eqv z y)) && (!PyData.eqv x y && isWithinD n 1 4)) := rfl
theorem e_eqv (a b : Str) : PyData.eqv (.str a) (.str b) = decide (a = b) := by
  show (a == b) = _
  rfl
theorem e_names (ps ls : List Dt) : namesD (.tuple ps) (.tuple ls) = ps ++ ls.map fstOf := rfl
theorem e_fst (x : Dt) (r : List Dt) : fstOf (.tuple (x :: r)) = x := rfl
theorem e_str (s : Str) : LH.strOf (.str s) = s := rfl
theorem e_addrOf (ds : List Dt) : addrOf (.tuple ds) = ds.map LH.strOf := rfl
theorem e_pair (x y : Dt) (r : List Dt) : pairOf (.tuple (x :: y :: r)) = sort2 (LH.strOf x) (LH.strOf y) := rfl
theorem e_elT (ds : List Dt) : elems (.tuple ds) = ds := rfl
theorem o_plan (hs ls : Dt) : okPlan (.tuple [hs, ls]) = (smD (.tuple [hs, ls]) && ((elems hs).all okHouse && (elems ls).all okLink)) := rfl
theorem o_house (a b c e f : Dt) : okHouse (.tuple [a, b, c, e, f]) = (smD (.tuple [a, b, c, e, f]) && okWays e) := rfl
theorem o_link (a b c : Dt) : okLink (.tuple [a, b, c]) = (smD (.tuple [a, b, c]) && (flatD a && flatD b)) := rfl
theorem s_tup (ds : List Dt) : smD (.tuple ds) = (decide (ds.length ≤ 100000) && smAll ds) := rfl
theorem s_lst (ds : List Dt) : smD (.list ds) = (decide (ds.length ≤ 100000) && smAll ds) := rfl
theorem s_cons (d : Dt) (ds : List Dt) : smAll (d :: ds) = (smD d && smAll ds) := rfl
theorem s_nil : smAll [] = true := rfl
theorem s_int (i : Int) : smD (.int i) = true := rfl
theorem s_bool (i : Bool) : smD (.bool i) = true := rfl
theorem s_none : smD .none = true := rfl
theorem s_plain : smD (.str "plain") = true := by decide +kernel
theorem s_packed : smD (.str "packed") = true := by decide +kernel
theorem s_post : smD (.str "post") = true := by decide +kernel
theorem s_a : smD (.str "a") = true := by decide +kernel
theorem f_str (s : Str) : flatD (.str s) = true := rfl
theorem w_plain : isWaysD (.tuple [.str "plain"]) = true := by decide +kernel
theorem w_packed : isWaysD (.tuple [.str "packed"]) = true := by decide +kernel
theorem ow_plain : okWays (.tuple [.str "plain"]) = true := rfl
theorem ow_packed : okWays (.tuple [.str "packed"]) = true := rfl
theorem n_a : isNameD (.str "a") = true := by decide +kernel
theorem n_post : isNameD (.str "post") = true := by decide +kernel
theorem p_a : ¬ (("a" : Str) = "post") := by decide +kernel
theorem wi_b (i : Bool) (a b : Int) : isWithinD (.bool i) a b = false := rfl
theorem wi_n (a b : Int) : isWithinD .none a b = false := rfl
theorem wi_s (i : Str) (a b : Int) : isWithinD (.str i) a b = false := rfl
theorem e_peopleL (ds : List Dt) : isPeopleD (.list ds) = false := rfl
theorem e_addr1 (a : Dt) : isAddrD (.tuple [a]) = false := rfl
theorem s_400 : smD (.str "400") = true := by decide +kernel
theorem s_1 : smD (.str "1") = true := by decide +kernel
theorem wi (i a b : Int) : isWithinD (.int i) a b = (decide (a ≤ i) && decide (i ≤ b)) := rfl
theorem low_small : (lowers.cps.toList.all fun c => decide (c < 1114112)) = true := by decide +kernel
theorem sm_name {z : Str} (h : isNameD (.str z) = true) : smD (.str z) = true := by
  have h' : ((decide ((1 : Int) ≤ (z.length : Int)) && decide ((z.length : Int) ≤ 8)) && (signsD z).all (signIn lowers)) = true := h
  rw [Bool.and_eq_true, Bool.and_eq_true, decide_eq_true_eq, decide_eq_true_eq] at h'
  show (decide (z.length ≤ 100000) && PyData.canLay0 (.str z)) = true
  rw [decide_eq_true (by omega), Bool.true_and]
  show z.cps.all (· < 0x110000) = true
  rw [← Array.all_toList]
  refine List.all_eq_true.mpr fun c hc => ?_
  have q := List.all_eq_true.mp h'.2 (.str ⟨#[c]⟩) (List.mem_map.mpr ⟨c, hc, rfl⟩)
  have q2 : c ∈ lowers.cps.toList := of_decide_eq_true q
  exact List.all_eq_true.mp low_small c q2
end
section
variable {n0 n1 n2 n3 n4 n5 n6 n7 n8 n9 na nb : Str}
theorem nf (N : Nm [n0, n1, n2, n3, n4, n5, n6, n7, n8, n9, na, nb]) : (isNameD (.str n0) = true ∧ isNameD (.str n1) = true ∧ isNameD (.str n2) = true ∧ isNameD (.str n3) = true ∧ isNameD (.str n4) = true ∧ isNameD (.str n5) = true ∧ isNameD (.str n6) = true ∧ isNameD (.str n7) = true ∧ isNameD (.str n8) = true ∧ isNameD (.str n9) = true ∧ isNameD (.str na) = true ∧ isNameD (.str nb) = true ∧ smD (.str n0) = true ∧ smD (.str n1) = true ∧ smD (.str n2) = true ∧ smD (.str n3) = true ∧ smD (.str n4) = true ∧ smD (.str n5) = true ∧ smD (.str n6) = true ∧ smD (.str n7) = true ∧ smD (.str n8) = true ∧ smD (.str n9) = true ∧ smD (.str na) = true ∧ smD (.str nb) = true) ∧ (¬ n0 = n1 ∧ ¬ n1 = n0 ∧ ¬ n0 = n2 ∧ ¬ n2 = n0 ∧ ¬ n0 = n3 ∧ ¬ n3 = n0 ∧ ¬ n0 = n4 ∧ ¬ n4 = n0 ∧ ¬ n0 = n5 ∧ ¬ n5 = n0 ∧ ¬ n0 = n6 ∧ ¬ n6 = n0 ∧ ¬ n0 = n7 ∧ ¬ n7 = n0 ∧ ¬ n0 = n8 ∧ ¬ n8 = n0 ∧ ¬ n0 = n9 ∧ ¬ n9 = n0 ∧ ¬ n0 = na ∧ ¬ na = n0 ∧ ¬ n0 = nb ∧ ¬ nb = n0 ∧ ¬ n1 = n2 ∧ ¬ n2 = n1 ∧ ¬ n1 = n3 ∧ ¬ n3 = n1 ∧ ¬ n1 = n4 ∧ ¬ n4 = n1 ∧ ¬ n1 = n5 ∧ ¬ n5 = n1 ∧ ¬ n1 = n6 ∧ ¬ n6 = n1 ∧ ¬ n1 = n7 ∧ ¬ n7 = n1 ∧ ¬ n1 = n8 ∧ ¬ n8 = n1 ∧ ¬ n1 = n9 ∧ ¬ n9 = n1 ∧ ¬ n1 = na ∧ ¬ na = n1 ∧ ¬ n1 = nb ∧ ¬ nb = n1 ∧ ¬ n2 = n3 ∧ ¬ n3 = n2 ∧ ¬ n2 = n4 ∧ ¬ n4 = n2 ∧ ¬ n2 = n5 ∧ ¬ n5 = n2 ∧ ¬ n2 = n6 ∧ ¬ n6 = n2 ∧ ¬ n2 = n7 ∧ ¬ n7 = n2 ∧ ¬ n2 = n8 ∧ ¬ n8 = n2 ∧ ¬ n2 = n9 ∧ ¬ n9 = n2 ∧ ¬ n2 = na ∧ ¬ na = n2 ∧ ¬ n2 = nb ∧ ¬ nb = n2 ∧ ¬ n3 = n4 ∧ ¬ n4 = n3 ∧ ¬ n3 = n5 ∧ ¬ n5 = n3 ∧ ¬ n3 = n6 ∧ ¬ n6 = n3 ∧ ¬ n3 = n7 ∧ ¬ n7 = n3 ∧ ¬ n3 = n8 ∧ ¬ n8 = n3 ∧ ¬ n3 = n9 ∧ ¬ n9 = n3 ∧ ¬ n3 = na ∧ ¬ na = n3 ∧ ¬ n3 = nb ∧ ¬ nb = n3 ∧ ¬ n4 = n5 ∧ ¬ n5 = n4 ∧ ¬ n4 = n6 ∧ ¬ n6 = n4 ∧ ¬ n4 = n7 ∧ ¬ n7 = n4 ∧ ¬ n4 = n8 ∧ ¬ n8 = n4 ∧ ¬ n4 = n9 ∧ ¬ n9 = n4 ∧ ¬ n4 = na ∧ ¬ na = n4 ∧ ¬ n4 = nb ∧ ¬ nb = n4 ∧ ¬ n5 = n6 ∧ ¬ n6 = n5 ∧ ¬ n5 = n7 ∧ ¬ n7 = n5 ∧ ¬ n5 = n8 ∧ ¬ n8 = n5 ∧ ¬ n5 = n9 ∧ ¬ n9 = n5 ∧ ¬ n5 = na ∧ ¬ na = n5 ∧ ¬ n5 = nb ∧ ¬ nb = n5 ∧ ¬ n6 = n7 ∧ ¬ n7 = n6 ∧ ¬ n6 = n8 ∧ ¬ n8 = n6 ∧ ¬ n6 = n9 ∧ ¬ n9 = n6 ∧ ¬ n6 = na ∧ ¬ na = n6 ∧ ¬ n6 = nb ∧ ¬ nb = n6 ∧ ¬ n7 = n8 ∧ ¬ n8 = n7 ∧ ¬ n7 = n9 ∧ ¬ n9 = n7 ∧ ¬ n7 = na ∧ ¬ na = n7 ∧ ¬ n7 = nb ∧ ¬ nb = n7 ∧ ¬ n8 = n9 ∧ ¬ n9 = n8 ∧ ¬ n8 = na ∧ ¬ na = n8 ∧ ¬ n8 = nb ∧ ¬ nb = n8 ∧ ¬ n9 = na ∧ ¬ na = n9 ∧ ¬ n9 = nb ∧ ¬ nb = n9 ∧ ¬ na = nb ∧ ¬ nb = na) ∧ (¬ n0 = "post" ∧ ¬ ("post" : Str) = n0 ∧ ¬ n1 = "post" ∧ ¬ ("post" : Str) = n1 ∧ ¬ n2 = "post" ∧ ¬ ("post" : Str) = n2 ∧ ¬ n3 = "post" ∧ ¬ ("post" : Str) = n3 ∧ ¬ n4 = "post" ∧ ¬ ("post" : Str) = n4 ∧ ¬ n5 = "post" ∧ ¬ ("post" : Str) = n5 ∧ ¬ n6 = "post" ∧ ¬ ("post" : Str) = n6 ∧ ¬ n7 = "post" ∧ ¬ ("post" : Str) = n7 ∧ ¬ n8 = "post" ∧ ¬ ("post" : Str) = n8 ∧ ¬ n9 = "post" ∧ ¬ ("post" : Str) = n9 ∧ ¬ na = "post" ∧ ¬ ("post" : Str) = na ∧ ¬ nb = "post" ∧ ¬ ("post" : Str) = nb) := by
  have h : ∀ z ∈ [n0, n1, n2, n3, n4, n5, n6, n7, n8, n9, na, nb], isNameD (.str z) = true ∧ smD (.str z) = true := fun z hz => ⟨N.name z hz, sm_name (N.name z hz)⟩
  have nd := N.nd
  have np := N.post
  simp only [List.nodup_cons, List.mem_cons, List.not_mem_nil, or_false, not_or, List.nodup_nil, and_true, not_false_eq_true] at nd np
  simp only [List.mem_cons, List.not_mem_nil, or_false, forall_eq_or_imp, forall_eq] at h
  obtain ⟨⟨en0_n1, en0_n2, en0_n3, en0_n4, en0_n5, en0_n6, en0_n7, en0_n8, en0_n9, en0_na, en0_nb⟩, ⟨en1_n2, en1_n3, en1_n4, en1_n5, en1_n6, en1_n7, en1_n8, en1_n9, en1_na, en1_nb⟩, ⟨en2_n3, en2_n4, en2_n5, en2_n6, en2_n7, en2_n8, en2_n9, en2_na, en2_nb⟩, ⟨en3_n4, en3_n5, en3_n6, en3_n7, en3_n8, en3_n9, en3_na, en3_nb⟩, ⟨en4_n5, en4_n6, en4_n7, en4_n8, en4_n9, en4_na, en4_nb⟩, ⟨en5_n6, en5_n7, en5_n8, en5_n9, en5_na, en5_nb⟩, ⟨en6_n7, en6_n8, en6_n9, en6_na, en6_nb⟩, ⟨en7_n8, en7_n9, en7_na, en7_nb⟩, ⟨en8_n9, en8_na, en8_nb⟩, ⟨en9_na, en9_nb⟩, ena_nb⟩ := nd
  obtain ⟨pn0, pn1, pn2, pn3, pn4, pn5, pn6, pn7, pn8, pn9, pna, pnb⟩ := np
  obtain ⟨hn0, hn1, hn2, hn3, hn4, hn5, hn6, hn7, hn8, hn9, hna, hnb⟩ := h
  exact ⟨⟨hn0.1, hn1.1, hn2.1, hn3.1, hn4.1, hn5.1, hn6.1, hn7.1, hn8.1, hn9.1, hna.1, hnb.1, hn0.2, hn1.2, hn2.2, hn3.2, hn4.2, hn5.2, hn6.2, hn7.2, hn8.2, hn9.2, hna.2, hnb.2⟩, ⟨en0_n1, fun z => en0_n1 z.symm, en0_n2, fun z => en0_n2 z.symm, en0_n3, fun z => en0_n3 z.symm, en0_n4, fun z => en0_n4 z.symm, en0_n5, fun z => en0_n5 z.symm, en0_n6, fun z => en0_n6 z.symm, en0_n7, fun z => en0_n7 z.symm, en0_n8, fun z => en0_n8 z.symm, en0_n9, fun z => en0_n9 z.symm, en0_na, fun z => en0_na z.symm, en0_nb, fun z => en0_nb z.symm, en1_n2, fun z => en1_n2 z.symm, en1_n3, fun z => en1_n3 z.symm, en1_n4, fun z => en1_n4 z.symm, en1_n5, fun z => en1_n5 z.symm, en1_n6, fun z => en1_n6 z.symm, en1_n7, fun z => en1_n7 z.symm, en1_n8, fun z => en1_n8 z.symm, en1_n9, fun z => en1_n9 z.symm, en1_na, fun z => en1_na z.symm, en1_nb, fun z => en1_nb z.symm, en2_n3, fun z => en2_n3 z.symm, en2_n4, fun z => en2_n4 z.symm, en2_n5, fun z => en2_n5 z.symm, en2_n6, fun z => en2_n6 z.symm, en2_n7, fun z => en2_n7 z.symm, en2_n8, fun z => en2_n8 z.symm, en2_n9, fun z => en2_n9 z.symm, en2_na, fun z => en2_na z.symm, en2_nb, fun z => en2_nb z.symm, en3_n4, fun z => en3_n4 z.symm, en3_n5, fun z => en3_n5 z.symm, en3_n6, fun z => en3_n6 z.symm, en3_n7, fun z => en3_n7 z.symm, en3_n8, fun z => en3_n8 z.symm, en3_n9, fun z => en3_n9 z.symm, en3_na, fun z => en3_na z.symm, en3_nb, fun z => en3_nb z.symm, en4_n5, fun z => en4_n5 z.symm, en4_n6, fun z => en4_n6 z.symm, en4_n7, fun z => en4_n7 z.symm, en4_n8, fun z => en4_n8 z.symm, en4_n9, fun z => en4_n9 z.symm, en4_na, fun z => en4_na z.symm, en4_nb, fun z => en4_nb z.symm, en5_n6, fun z => en5_n6 z.symm, en5_n7, fun z => en5_n7 z.symm, en5_n8, fun z => en5_n8 z.symm, en5_n9, fun z => en5_n9 z.symm, en5_na, fun z => en5_na z.symm, en5_nb, fun z => en5_nb z.symm, en6_n7, fun z => en6_n7 z.symm, en6_n8, fun z => en6_n8 z.symm, en6_n9, fun z => en6_n9 z.symm, en6_na, fun z => en6_na z.symm, en6_nb, fun z => en6_nb z.symm, en7_n8, fun z => en7_n8 z.symm, en7_n9, fun z => en7_n9 z.symm, en7_na, fun z => en7_na z.symm, en7_nb, fun z => en7_nb z.symm, en8_n9, fun z => en8_n9 z.symm, en8_na, fun z => en8_na z.symm, en8_nb, fun z => en8_nb z.symm, en9_na, fun z => en9_na z.symm, en9_nb, fun z => en9_nb z.symm, ena_nb, fun z => ena_nb z.symm⟩, ⟨fun z => pn0 z.symm, pn0, fun z => pn1 z.symm, pn1, fun z => pn2 z.symm, pn2, fun z => pn3 z.symm, pn3, fun z => pn4 z.symm, pn4, fun z => pn5 z.symm, pn5, fun z => pn6 z.symm, pn6, fun z => pn7 z.symm, pn7, fun z => pn8 z.symm, pn8, fun z => pn9 z.symm, pn9, fun z => pna z.symm, pna, fun z => pnb z.symm, pnb⟩⟩
theorem s1_0 (N : Nm [n0, n1, n2, n3, n4, n5, n6, n7, n8, n9, na, nb]) : mWith [.list ([n0, n1, n2, n3, n4, n5, n6, n7, n8, n9, na, nb].map PyData.str), .dict [(.str "folk", .tuple [])]] = some (.bool false) := by
  have F := nf N
  refine with_of (ms := []) (p := plD (.str n0) (.tuple []) (.tuple []) (.tuple [.str "plain"]) (.int 400) [] (.tuple [])) ["folk"] rfl (by decide +kernel) rfl rfl rfl rfl rfl ?_ ?_
  · simp [o_plan, o_house, o_link, s_tup, s_lst, s_cons, s_nil, s_int, s_bool, s_none, s_plain, s_packed, s_post, s_a, s_400, s_1, e_elT, ow_plain, ow_packed, f_str, F]
  · simp [e_plan, e_houses, e_house, e_people, e_peopleL, e_lists, e_loh, e_addr, e_addr1, e_names, e_fst, e_str, e_tup, e_links, e_link, e_elT, e_eqv, e_addrOf, e_pair, sort2_iff, w_plain, w_packed, n_a, n_post, p_a, wi, wi_b, wi_n, wi_s, F]
theorem s2_0 (N : Nm [n0, n1, n2, n3, n4, n5, n6, n7, n8, n9, na, nb]) : mWith [.list ([n0, n1, n2, n3, n4, n5, n6, n7, n8, n9, na, nb].map PyData.str), .dict [(.str "lists", .tuple [])]] = some (.bool true) := by
  have F := nf N
  refine with_of (ms := []) (p := plD (.str n0) (.tuple [.str n1]) (.tuple []) (.tuple [.str "plain"]) (.int 400) [] (.tuple [])) ["lists"] rfl (by decide +kernel) rfl rfl rfl rfl rfl ?_ ?_
  · simp [o_plan, o_house, o_link, s_tup, s_lst, s_cons, s_nil, s_int, s_bool, s_none, s_plain, s_packed, s_post, s_a, s_400, s_1, e_elT, ow_plain, ow_packed, f_str, F]
  · simp [e_plan, e_houses, e_house, e_people, e_peopleL, e_lists, e_loh, e_addr, e_addr1, e_names, e_fst, e_str, e_tup, e_links, e_link, e_elT, e_eqv, e_addrOf, e_pair, sort2_iff, w_plain, w_packed, n_a, n_post, p_a, wi, wi_b, wi_n, wi_s, F]
theorem s3_0 (N : Nm [n0, n1, n2, n3, n4, n5, n6, n7, n8, n9, na, nb]) : mWith [.list ([n0, n1, n2, n3, n4, n5, n6, n7, n8, n9, na, nb].map PyData.str), .dict [(.str "lists", .tuple [.tuple [.str n2, .tuple []]])]] = some (.bool false) := by
  have F := nf N
  refine with_of (ms := []) (p := plD (.str n0) (.tuple [.str n1]) (.tuple [.tuple [.str n2, .tuple []]]) (.tuple [.str "plain"]) (.int 400) [] (.tuple [])) ["lists"] rfl (by decide +kernel) rfl rfl rfl rfl rfl ?_ ?_
  · simp [o_plan, o_house, o_link, s_tup, s_lst, s_cons, s_nil, s_int, s_bool, s_none, s_plain, s_packed, s_post, s_a, s_400, s_1, e_elT, ow_plain, ow_packed, f_str, F]
  · simp [e_plan, e_houses, e_house, e_people, e_peopleL, e_lists, e_loh, e_addr, e_addr1, e_names, e_fst, e_str, e_tup, e_links, e_link, e_elT, e_eqv, e_addrOf, e_pair, sort2_iff, w_plain, w_packed, n_a, n_post, p_a, wi, wi_b, wi_n, wi_s, F]
theorem s4_0 (N : Nm [n0, n1, n2, n3, n4, n5, n6, n7, n8, n9, na, nb]) : mWith [.list ([n0, n1, n2, n3, n4, n5, n6, n7, n8, n9, na, nb].map PyData.str), .dict [(.str "more", .tuple [])]] = some (.bool true) := by
  have F := nf N
  refine with_of (ms := []) (p := plD (.str n0) (.tuple [.str n1]) (.tuple []) (.tuple [.str "plain"]) (.int 400) [] (.tuple [])) ["more"] rfl (by decide +kernel) rfl rfl rfl rfl rfl ?_ ?_
  · simp [o_plan, o_house, o_link, s_tup, s_lst, s_cons, s_nil, s_int, s_bool, s_none, s_plain, s_packed, s_post, s_a, s_400, s_1, e_elT, ow_plain, ow_packed, f_str, F]
  · simp [e_plan, e_houses, e_house, e_people, e_peopleL, e_lists, e_loh, e_addr, e_addr1, e_names, e_fst, e_str, e_tup, e_links, e_link, e_elT, e_eqv, e_addrOf, e_pair, sort2_iff, w_plain, w_packed, n_a, n_post, p_a, wi, wi_b, wi_n, wi_s, F]
theorem s1_1 (N : Nm [n0, n1, n2, n3, n4, n5, n6, n7, n8, n9, na, nb]) : mWith [.list ([n0, n1, n2, n3, n4, n5, n6, n7, n8, n9, na, nb].map PyData.str), .dict [(.str "folk", .tuple [.str n1])]] = some (.bool true) := by
  have F := nf N
  refine with_of (ms := []) (p := plD (.str n0) (.tuple [.str n1]) (.tuple []) (.tuple [.str "plain"]) (.int 400) [] (.tuple [])) ["folk"] rfl (by decide +kernel) rfl rfl rfl rfl rfl ?_ ?_
  · simp [o_plan, o_house, o_link, s_tup, s_lst, s_cons, s_nil, s_int, s_bool, s_none, s_plain, s_packed, s_post, s_a, s_400, s_1, e_elT, ow_plain, ow_packed, f_str, F]
  · simp [e_plan, e_houses, e_house, e_people, e_peopleL, e_lists, e_loh, e_addr, e_addr1, e_names, e_fst, e_str, e_tup, e_links, e_link, e_elT, e_eqv, e_addrOf, e_pair, sort2_iff, w_plain, w_packed, n_a, n_post, p_a, wi, wi_b, wi_n, wi_s, F]
theorem s2_1 (N : Nm [n0, n1, n2, n3, n4, n5, n6, n7, n8, n9, na, nb]) : mWith [.list ([n0, n1, n2, n3, n4, n5, n6, n7, n8, n9, na, nb].map PyData.str), .dict [(.str "lists", .tuple [.tuple [.str n2, .tuple [.tuple [.str n1, .str n0]]]])]] = some (.bool true) := by
  have F := nf N
  refine with_of (ms := []) (p := plD (.str n0) (.tuple [.str n1]) (.tuple [.tuple [.str n2, .tuple [.tuple [.str n1, .str n0]]]]) (.tuple [.str "plain"]) (.int 400) [] (.tuple [])) ["lists"] rfl (by decide +kernel) rfl rfl rfl rfl rfl ?_ ?_
  · simp [o_plan, o_house, o_link, s_tup, s_lst, s_cons, s_nil, s_int, s_bool, s_none, s_plain, s_packed, s_post, s_a, s_400, s_1, e_elT, ow_plain, ow_packed, f_str, F]
  · simp [e_plan, e_houses, e_house, e_people, e_peopleL, e_lists, e_loh, e_addr, e_addr1, e_names, e_fst, e_str, e_tup, e_links, e_link, e_elT, e_eqv, e_addrOf, e_pair, sort2_iff, w_plain, w_packed, n_a, n_post, p_a, wi, wi_b, wi_n, wi_s, F]
theorem s3_1 (N : Nm [n0, n1, n2, n3, n4, n5, n6, n7, n8, n9, na, nb]) : mWith [.list ([n0, n1, n2, n3, n4, n5, n6, n7, n8, n9, na, nb].map PyData.str), .dict [(.str "lists", .tuple [.tuple [.str n2, .tuple [.tuple [.str n1, .str n0]]]])]] = some (.bool true) := by
  have F := nf N
  refine with_of (ms := []) (p := plD (.str n0) (.tuple [.str n1]) (.tuple [.tuple [.str n2, .tuple [.tuple [.str n1, .str n0]]]]) (.tuple [.str "plain"]) (.int 400) [] (.tuple [])) ["lists"] rfl (by decide +kernel) rfl rfl rfl rfl rfl ?_ ?_
  · simp [o_plan, o_house, o_link, s_tup, s_lst, s_cons, s_nil, s_int, s_bool, s_none, s_plain, s_packed, s_post, s_a, s_400, s_1, e_elT, ow_plain, ow_packed, f_str, F]
  · simp [e_plan, e_houses, e_house, e_people, e_peopleL, e_lists, e_loh, e_addr, e_addr1, e_names, e_fst, e_str, e_tup, e_links, e_link, e_elT, e_eqv, e_addrOf, e_pair, sort2_iff, w_plain, w_packed, n_a, n_post, p_a, wi, wi_b, wi_n, wi_s, F]
theorem s4_1 (N : Nm [n0, n1, n2, n3, n4, n5, n6, n7, n8, n9, na, nb]) : mWith [.list ([n0, n1, n2, n3, n4, n5, n6, n7, n8, n9, na, nb].map PyData.str), .dict [(.str "more", .tuple [.tuple [.str n1, .tuple [.str "a"], .tuple [], .tuple [.str "packed"], .int 9000]])]] = some (.bool true) := by
  have F := nf N
  refine with_of (ms := [.tuple [.str n1, .tuple [.str "a"], .tuple [], .tuple [.str "packed"], .int 9000]]) (p := plD (.str n0) (.tuple [.str n1]) (.tuple []) (.tuple [.str "plain"]) (.int 400) [.tuple [.str n1, .tuple [.str "a"], .tuple [], .tuple [.str "packed"], .int 9000]] (.tuple [])) ["more"] rfl (by decide +kernel) rfl rfl rfl rfl rfl ?_ ?_
  · simp [o_plan, o_house, o_link, s_tup, s_lst, s_cons, s_nil, s_int, s_bool, s_none, s_plain, s_packed, s_post, s_a, s_400, s_1, e_elT, ow_plain, ow_packed, f_str, F]
  · simp [e_plan, e_houses, e_house, e_people, e_peopleL, e_lists, e_loh, e_addr, e_addr1, e_names, e_fst, e_str, e_tup, e_links, e_link, e_elT, e_eqv, e_addrOf, e_pair, sort2_iff, w_plain, w_packed, n_a, n_post, p_a, wi, wi_b, wi_n, wi_s, F]
theorem s1_2 (N : Nm [n0, n1, n2, n3, n4, n5, n6, n7, n8, n9, na, nb]) : mWith [.list ([n0, n1, n2, n3, n4, n5, n6, n7, n8, n9, na, nb].map PyData.str), .dict [(.str "folk", .tuple [.str n1, .str n2])]] = some (.bool true) := by
  have F := nf N
  refine with_of (ms := []) (p := plD (.str n0) (.tuple [.str n1, .str n2]) (.tuple []) (.tuple [.str "plain"]) (.int 400) [] (.tuple [])) ["folk"] rfl (by decide +kernel) rfl rfl rfl rfl rfl ?_ ?_
  · simp [o_plan, o_house, o_link, s_tup, s_lst, s_cons, s_nil, s_int, s_bool, s_none, s_plain, s_packed, s_post, s_a, s_400, s_1, e_elT, ow_plain, ow_packed, f_str, F]
  · simp [e_plan, e_houses, e_house, e_people, e_peopleL, e_lists, e_loh, e_addr, e_addr1, e_names, e_fst, e_str, e_tup, e_links, e_link, e_elT, e_eqv, e_addrOf, e_pair, sort2_iff, w_plain, w_packed, n_a, n_post, p_a, wi, wi_b, wi_n, wi_s, F]
theorem s2_2 (N : Nm [n0, n1, n2, n3, n4, n5, n6, n7, n8, n9, na, nb]) : mWith [.list ([n0, n1, n2, n3, n4, n5, n6, n7, n8, n9, na, nb].map PyData.str), .dict [(.str "lists", .tuple [.tuple [.str n2, .tuple [.tuple [.str n1, .str n0]]], .tuple [.str n3, .tuple [.tuple [.str n1, .str n0]]]])]] = some (.bool true) := by
  have F := nf N
  refine with_of (ms := []) (p := plD (.str n0) (.tuple [.str n1]) (.tuple [.tuple [.str n2, .tuple [.tuple [.str n1, .str n0]]], .tuple [.str n3, .tuple [.tuple [.str n1, .str n0]]]]) (.tuple [.str "plain"]) (.int 400) [] (.tuple [])) ["lists"] rfl (by decide +kernel) rfl rfl rfl rfl rfl ?_ ?_
  · simp [o_plan, o_house, o_link, s_tup, s_lst, s_cons, s_nil, s_int, s_bool, s_none, s_plain, s_packed, s_post, s_a, s_400, s_1, e_elT, ow_plain, ow_packed, f_str, F]
  · simp [e_plan, e_houses, e_house, e_people, e_peopleL, e_lists, e_loh, e_addr, e_addr1, e_names, e_fst, e_str, e_tup, e_links, e_link, e_elT, e_eqv, e_addrOf, e_pair, sort2_iff, w_plain, w_packed, n_a, n_post, p_a, wi, wi_b, wi_n, wi_s, F]
theorem s3_2 (N : Nm [n0, n1, n2, n3, n4, n5, n6, n7, n8, n9, na, nb]) : mWith [.list ([n0, n1, n2, n3, n4, n5, n6, n7, n8, n9, na, nb].map PyData.str), .dict [(.str "lists", .tuple [.tuple [.str n2, .tuple [.tuple [.str n1, .str n0], .tuple [.str n2, .str n0]]]])]] = some (.bool true) := by
  have F := nf N
  refine with_of (ms := []) (p := plD (.str n0) (.tuple [.str n1]) (.tuple [.tuple [.str n2, .tuple [.tuple [.str n1, .str n0], .tuple [.str n2, .str n0]]]]) (.tuple [.str "plain"]) (.int 400) [] (.tuple [])) ["lists"] rfl (by decide +kernel) rfl rfl rfl rfl rfl ?_ ?_
  · simp [o_plan, o_house, o_link, s_tup, s_lst, s_cons, s_nil, s_int, s_bool, s_none, s_plain, s_packed, s_post, s_a, s_400, s_1, e_elT, ow_plain, ow_packed, f_str, F]
  · simp [e_plan, e_houses, e_house, e_people, e_peopleL, e_lists, e_loh, e_addr, e_addr1, e_names, e_fst, e_str, e_tup, e_links, e_link, e_elT, e_eqv, e_addrOf, e_pair, sort2_iff, w_plain, w_packed, n_a, n_post, p_a, wi, wi_b, wi_n, wi_s, F]
theorem s4_2 (N : Nm [n0, n1, n2, n3, n4, n5, n6, n7, n8, n9, na, nb]) : mWith [.list ([n0, n1, n2, n3, n4, n5, n6, n7, n8, n9, na, nb].map PyData.str), .dict [(.str "more", .tuple [.tuple [.str n1, .tuple [.str "a"], .tuple [], .tuple [.str "packed"], .int 9000], .tuple [.str n2, .tuple [.str "a"], .tuple [], .tuple [.str "packed"], .int 9000]])]] = some (.bool true) := by
  have F := nf N
  refine with_of (ms := [.tuple [.str n1, .tuple [.str "a"], .tuple [], .tuple [.str "packed"], .int 9000], .tuple [.str n2, .tuple [.str "a"], .tuple [], .tuple [.str "packed"], .int 9000]]) (p := plD (.str n0) (.tuple [.str n1]) (.tuple []) (.tuple [.str "plain"]) (.int 400) [.tuple [.str n1, .tuple [.str "a"], .tuple [], .tuple [.str "packed"], .int 9000], .tuple [.str n2, .tuple [.str "a"], .tuple [], .tuple [.str "packed"], .int 9000]] (.tuple [])) ["more"] rfl (by decide +kernel) rfl rfl rfl rfl rfl ?_ ?_
  · simp [o_plan, o_house, o_link, s_tup, s_lst, s_cons, s_nil, s_int, s_bool, s_none, s_plain, s_packed, s_post, s_a, s_400, s_1, e_elT, ow_plain, ow_packed, f_str, F]
  · simp [e_plan, e_houses, e_house, e_people, e_peopleL, e_lists, e_loh, e_addr, e_addr1, e_names, e_fst, e_str, e_tup, e_links, e_link, e_elT, e_eqv, e_addrOf, e_pair, sort2_iff, w_plain, w_packed, n_a, n_post, p_a, wi, wi_b, wi_n, wi_s, F]
theorem s1_3 (N : Nm [n0, n1, n2, n3, n4, n5, n6, n7, n8, n9, na, nb]) : mWith [.list ([n0, n1, n2, n3, n4, n5, n6, n7, n8, n9, na, nb].map PyData.str), .dict [(.str "folk", .tuple [.str n1, .str n2, .str n3])]] = some (.bool true) := by
  have F := nf N
  refine with_of (ms := []) (p := plD (.str n0) (.tuple [.str n1, .str n2, .str n3]) (.tuple []) (.tuple [.str "plain"]) (.int 400) [] (.tuple [])) ["folk"] rfl (by decide +kernel) rfl rfl rfl rfl rfl ?_ ?_
  · simp [o_plan, o_house, o_link, s_tup, s_lst, s_cons, s_nil, s_int, s_bool, s_none, s_plain, s_packed, s_post, s_a, s_400, s_1, e_elT, ow_plain, ow_packed, f_str, F]
  · simp [e_plan, e_houses, e_house, e_people, e_peopleL, e_lists, e_loh, e_addr, e_addr1, e_names, e_fst, e_str, e_tup, e_links, e_link, e_elT, e_eqv, e_addrOf, e_pair, sort2_iff, w_plain, w_packed, n_a, n_post, p_a, wi, wi_b, wi_n, wi_s, F]
theorem s2_3 (N : Nm [n0, n1, n2, n3, n4, n5, n6, n7, n8, n9, na, nb]) : mWith [.list ([n0, n1, n2, n3, n4, n5, n6, n7, n8, n9, na, nb].map PyData.str), .dict [(.str "lists", .tuple [.tuple [.str n2, .tuple [.tuple [.str n1, .str n0]]], .tuple [.str n3, .tuple [.tuple [.str n1, .str n0]]], .tuple [.str n4, .tuple [.tuple [.str n1, .str n0]]]])]] = some (.bool true) := by
  have F := nf N
  refine with_of (ms := []) (p := plD (.str n0) (.tuple [.str n1]) (.tuple [.tuple [.str n2, .tuple [.tuple [.str n1, .str n0]]], .tuple [.str n3, .tuple [.tuple [.str n1, .str n0]]], .tuple [.str n4, .tuple [.tuple [.str n1, .str n0]]]]) (.tuple [.str "plain"]) (.int 400) [] (.tuple [])) ["lists"] rfl (by decide +kernel) rfl rfl rfl rfl rfl ?_ ?_
  · simp [o_plan, o_house, o_link, s_tup, s_lst, s_cons, s_nil, s_int, s_bool, s_none, s_plain, s_packed, s_post, s_a, s_400, s_1, e_elT, ow_plain, ow_packed, f_str, F]
  · simp [e_plan, e_houses, e_house, e_people, e_peopleL, e_lists, e_loh, e_addr, e_addr1, e_names, e_fst, e_str, e_tup, e_links, e_link, e_elT, e_eqv, e_addrOf, e_pair, sort2_iff, w_plain, w_packed, n_a, n_post, p_a, wi, wi_b, wi_n, wi_s, F]
theorem s3_3 (N : Nm [n0, n1, n2, n3, n4, n5, n6, n7, n8, n9, na, nb]) : mWith [.list ([n0, n1, n2, n3, n4, n5, n6, n7, n8, n9, na, nb].map PyData.str), .dict [(.str "lists", .tuple [.tuple [.str n2, .tuple [.tuple [.str n1, .str n0], .tuple [.str n2, .str n0], .tuple [.str n3, .str n0]]]])]] = some (.bool true) := by
  have F := nf N
  refine with_of (ms := []) (p := plD (.str n0) (.tuple [.str n1]) (.tuple [.tuple [.str n2, .tuple [.tuple [.str n1, .str n0], .tuple [.str n2, .str n0], .tuple [.str n3, .str n0]]]]) (.tuple [.str "plain"]) (.int 400) [] (.tuple [])) ["lists"] rfl (by decide +kernel) rfl rfl rfl rfl rfl ?_ ?_
  · simp [o_plan, o_house, o_link, s_tup, s_lst, s_cons, s_nil, s_int, s_bool, s_none, s_plain, s_packed, s_post, s_a, s_400, s_1, e_elT, ow_plain, ow_packed, f_str, F]
  · simp [e_plan, e_houses, e_house, e_people, e_peopleL, e_lists, e_loh, e_addr, e_addr1, e_names, e_fst, e_str, e_tup, e_links, e_link, e_elT, e_eqv, e_addrOf, e_pair, sort2_iff, w_plain, w_packed, n_a, n_post, p_a, wi, wi_b, wi_n, wi_s, F]
theorem s4_3 (N : Nm [n0, n1, n2, n3, n4, n5, n6, n7, n8, n9, na, nb]) : mWith [.list ([n0, n1, n2, n3, n4, n5, n6, n7, n8, n9, na, nb].map PyData.str), .dict [(.str "more", .tuple [.tuple [.str n1, .tuple [.str "a"], .tuple [], .tuple [.str "packed"], .int 9000], .tuple [.str n2, .tuple [.str "a"], .tuple [], .tuple [.str "packed"], .int 9000], .tuple [.str n3, .tuple [.str "a"], .tuple [], .tuple [.str "packed"], .int 9000]])]] = some (.bool true) := by
  have F := nf N
  refine with_of (ms := [.tuple [.str n1, .tuple [.str "a"], .tuple [], .tuple [.str "packed"], .int 9000], .tuple [.str n2, .tuple [.str "a"], .tuple [], .tuple [.str "packed"], .int 9000], .tuple [.str n3, .tuple [.str "a"], .tuple [], .tuple [.str "packed"], .int 9000]]) (p := plD (.str n0) (.tuple [.str n1]) (.tuple []) (.tuple [.str "plain"]) (.int 400) [.tuple [.str n1, .tuple [.str "a"], .tuple [], .tuple [.str "packed"], .int 9000], .tuple [.str n2, .tuple [.str "a"], .tuple [], .tuple [.str "packed"], .int 9000], .tuple [.str n3, .tuple [.str "a"], .tuple [], .tuple [.str "packed"], .int 9000]] (.tuple [])) ["more"] rfl (by decide +kernel) rfl rfl rfl rfl rfl ?_ ?_
  · simp [o_plan, o_house, o_link, s_tup, s_lst, s_cons, s_nil, s_int, s_bool, s_none, s_plain, s_packed, s_post, s_a, s_400, s_1, e_elT, ow_plain, ow_packed, f_str, F]
  · simp [e_plan, e_houses, e_house, e_people, e_peopleL, e_lists, e_loh, e_addr, e_addr1, e_names, e_fst, e_str, e_tup, e_links, e_link, e_elT, e_eqv, e_addrOf, e_pair, sort2_iff, w_plain, w_packed, n_a, n_post, p_a, wi, wi_b, wi_n, wi_s, F]
theorem s1_4 (N : Nm [n0, n1, n2, n3, n4, n5, n6, n7, n8, n9, na, nb]) : mWith [.list ([n0, n1, n2, n3, n4, n5, n6, n7, n8, n9, na, nb].map PyData.str), .dict [(.str "folk", .tuple [.str n1, .str n2, .str n3, .str n4])]] = some (.bool true) := by
  have F := nf N
  refine with_of (ms := []) (p := plD (.str n0) (.tuple [.str n1, .str n2, .str n3, .str n4]) (.tuple []) (.tuple [.str "plain"]) (.int 400) [] (.tuple [])) ["folk"] rfl (by decide +kernel) rfl rfl rfl rfl rfl ?_ ?_
  · simp [o_plan, o_house, o_link, s_tup, s_lst, s_cons, s_nil, s_int, s_bool, s_none, s_plain, s_packed, s_post, s_a, s_400, s_1, e_elT, ow_plain, ow_packed, f_str, F]
  · simp [e_plan, e_houses, e_house, e_people, e_peopleL, e_lists, e_loh, e_addr, e_addr1, e_names, e_fst, e_str, e_tup, e_links, e_link, e_elT, e_eqv, e_addrOf, e_pair, sort2_iff, w_plain, w_packed, n_a, n_post, p_a, wi, wi_b, wi_n, wi_s, F]
theorem s2_4 (N : Nm [n0, n1, n2, n3, n4, n5, n6, n7, n8, n9, na, nb]) : mWith [.list ([n0, n1, n2, n3, n4, n5, n6, n7, n8, n9, na, nb].map PyData.str), .dict [(.str "lists", .tuple [.tuple [.str n2, .tuple [.tuple [.str n1, .str n0]]], .tuple [.str n3, .tuple [.tuple [.str n1, .str n0]]], .tuple [.str n4, .tuple [.tuple [.str n1, .str n0]]], .tuple [.str n5, .tuple [.tuple [.str n1, .str n0]]]])]] = some (.bool false) := by
  have F := nf N
  refine with_of (ms := []) (p := plD (.str n0) (.tuple [.str n1]) (.tuple [.tuple [.str n2, .tuple [.tuple [.str n1, .str n0]]], .tuple [.str n3, .tuple [.tuple [.str n1, .str n0]]], .tuple [.str n4, .tuple [.tuple [.str n1, .str n0]]], .tuple [.str n5, .tuple [.tuple [.str n1, .str n0]]]]) (.tuple [.str "plain"]) (.int 400) [] (.tuple [])) ["lists"] rfl (by decide +kernel) rfl rfl rfl rfl rfl ?_ ?_
  · simp [o_plan, o_house, o_link, s_tup, s_lst, s_cons, s_nil, s_int, s_bool, s_none, s_plain, s_packed, s_post, s_a, s_400, s_1, e_elT, ow_plain, ow_packed, f_str, F]
  · simp [e_plan, e_houses, e_house, e_people, e_peopleL, e_lists, e_loh, e_addr, e_addr1, e_names, e_fst, e_str, e_tup, e_links, e_link, e_elT, e_eqv, e_addrOf, e_pair, sort2_iff, w_plain, w_packed, n_a, n_post, p_a, wi, wi_b, wi_n, wi_s, F]
theorem s3_4 (N : Nm [n0, n1, n2, n3, n4, n5, n6, n7, n8, n9, na, nb]) : mWith [.list ([n0, n1, n2, n3, n4, n5, n6, n7, n8, n9, na, nb].map PyData.str), .dict [(.str "lists", .tuple [.tuple [.str n2, .tuple [.tuple [.str n1, .str n0], .tuple [.str n2, .str n0], .tuple [.str n3, .str n0], .tuple [.str n4, .str n0]]]])]] = some (.bool true) := by
  have F := nf N
  refine with_of (ms := []) (p := plD (.str n0) (.tuple [.str n1]) (.tuple [.tuple [.str n2, .tuple [.tuple [.str n1, .str n0], .tuple [.str n2, .str n0], .tuple [.str n3, .str n0], .tuple [.str n4, .str n0]]]]) (.tuple [.str "plain"]) (.int 400) [] (.tuple [])) ["lists"] rfl (by decide +kernel) rfl rfl rfl rfl rfl ?_ ?_
  · simp [o_plan, o_house, o_link, s_tup, s_lst, s_cons, s_nil, s_int, s_bool, s_none, s_plain, s_packed, s_post, s_a, s_400, s_1, e_elT, ow_plain, ow_packed, f_str, F]
  · simp [e_plan, e_houses, e_house, e_people, e_peopleL, e_lists, e_loh, e_addr, e_addr1, e_names, e_fst, e_str, e_tup, e_links, e_link, e_elT, e_eqv, e_addrOf, e_pair, sort2_iff, w_plain, w_packed, n_a, n_post, p_a, wi, wi_b, wi_n, wi_s, F]
theorem s4_4 (N : Nm [n0, n1, n2, n3, n4, n5, n6, n7, n8, n9, na, nb]) : mWith [.list ([n0, n1, n2, n3, n4, n5, n6, n7, n8, n9, na, nb].map PyData.str), .dict [(.str "more", .tuple [.tuple [.str n1, .tuple [.str "a"], .tuple [], .tuple [.str "packed"], .int 9000], .tuple [.str n2, .tuple [.str "a"], .tuple [], .tuple [.str "packed"], .int 9000], .tuple [.str n3, .tuple [.str "a"], .tuple [], .tuple [.str "packed"], .int 9000], .tuple [.str n4, .tuple [.str "a"], .tuple [], .tuple [.str "packed"], .int 9000]])]] = some (.bool true) := by
  have F := nf N
  refine with_of (ms := [.tuple [.str n1, .tuple [.str "a"], .tuple [], .tuple [.str "packed"], .int 9000], .tuple [.str n2, .tuple [.str "a"], .tuple [], .tuple [.str "packed"], .int 9000], .tuple [.str n3, .tuple [.str "a"], .tuple [], .tuple [.str "packed"], .int 9000], .tuple [.str n4, .tuple [.str "a"], .tuple [], .tuple [.str "packed"], .int 9000]]) (p := plD (.str n0) (.tuple [.str n1]) (.tuple []) (.tuple [.str "plain"]) (.int 400) [.tuple [.str n1, .tuple [.str "a"], .tuple [], .tuple [.str "packed"], .int 9000], .tuple [.str n2, .tuple [.str "a"], .tuple [], .tuple [.str "packed"], .int 9000], .tuple [.str n3, .tuple [.str "a"], .tuple [], .tuple [.str "packed"], .int 9000], .tuple [.str n4, .tuple [.str "a"], .tuple [], .tuple [.str "packed"], .int 9000]] (.tuple [])) ["more"] rfl (by decide +kernel) rfl rfl rfl rfl rfl ?_ ?_
  · simp [o_plan, o_house, o_link, s_tup, s_lst, s_cons, s_nil, s_int, s_bool, s_none, s_plain, s_packed, s_post, s_a, s_400, s_1, e_elT, ow_plain, ow_packed, f_str, F]
  · simp [e_plan, e_houses, e_house, e_people, e_peopleL, e_lists, e_loh, e_addr, e_addr1, e_names, e_fst, e_str, e_tup, e_links, e_link, e_elT, e_eqv, e_addrOf, e_pair, sort2_iff, w_plain, w_packed, n_a, n_post, p_a, wi, wi_b, wi_n, wi_s, F]
theorem s1_5 (N : Nm [n0, n1, n2, n3, n4, n5, n6, n7, n8, n9, na, nb]) : mWith [.list ([n0, n1, n2, n3, n4, n5, n6, n7, n8, n9, na, nb].map PyData.str), .dict [(.str "folk", .tuple [.str n1, .str n2, .str n3, .str n4, .str n5])]] = some (.bool false) := by
  have F := nf N
  refine with_of (ms := []) (p := plD (.str n0) (.tuple [.str n1, .str n2, .str n3, .str n4, .str n5]) (.tuple []) (.tuple [.str "plain"]) (.int 400) [] (.tuple [])) ["folk"] rfl (by decide +kernel) rfl rfl rfl rfl rfl ?_ ?_
  · simp [o_plan, o_house, o_link, s_tup, s_lst, s_cons, s_nil, s_int, s_bool, s_none, s_plain, s_packed, s_post, s_a, s_400, s_1, e_elT, ow_plain, ow_packed, f_str, F]
  · simp [e_plan, e_houses, e_house, e_people, e_peopleL, e_lists, e_loh, e_addr, e_addr1, e_names, e_fst, e_str, e_tup, e_links, e_link, e_elT, e_eqv, e_addrOf, e_pair, sort2_iff, w_plain, w_packed, n_a, n_post, p_a, wi, wi_b, wi_n, wi_s, F]
theorem s2_5 (N : Nm [n0, n1, n2, n3, n4, n5, n6, n7, n8, n9, na, nb]) : mWith [.list ([n0, n1, n2, n3, n4, n5, n6, n7, n8, n9, na, nb].map PyData.str), .dict [(.str "lists", .tuple [.tuple [.str n2, .tuple [.tuple [.str n1, .str n0]]], .tuple [.str n3, .tuple [.tuple [.str n1, .str n0]]], .tuple [.str n4, .tuple [.tuple [.str n1, .str n0]]], .tuple [.str n5, .tuple [.tuple [.str n1, .str n0]]], .tuple [.str n6, .tuple [.tuple [.str n1, .str n0]]]])]] = some (.bool false) := by
  have F := nf N
  refine with_of (ms := []) (p := plD (.str n0) (.tuple [.str n1]) (.tuple [.tuple [.str n2, .tuple [.tuple [.str n1, .str n0]]], .tuple [.str n3, .tuple [.tuple [.str n1, .str n0]]], .tuple [.str n4, .tuple [.tuple [.str n1, .str n0]]], .tuple [.str n5, .tuple [.tuple [.str n1, .str n0]]], .tuple [.str n6, .tuple [.tuple [.str n1, .str n0]]]]) (.tuple [.str "plain"]) (.int 400) [] (.tuple [])) ["lists"] rfl (by decide +kernel) rfl rfl rfl rfl rfl ?_ ?_
  · simp [o_plan, o_house, o_link, s_tup, s_lst, s_cons, s_nil, s_int, s_bool, s_none, s_plain, s_packed, s_post, s_a, s_400, s_1, e_elT, ow_plain, ow_packed, f_str, F]
  · simp [e_plan, e_houses, e_house, e_people, e_peopleL, e_lists, e_loh, e_addr, e_addr1, e_names, e_fst, e_str, e_tup, e_links, e_link, e_elT, e_eqv, e_addrOf, e_pair, sort2_iff, w_plain, w_packed, n_a, n_post, p_a, wi, wi_b, wi_n, wi_s, F]
theorem s3_5 (N : Nm [n0, n1, n2, n3, n4, n5, n6, n7, n8, n9, na, nb]) : mWith [.list ([n0, n1, n2, n3, n4, n5, n6, n7, n8, n9, na, nb].map PyData.str), .dict [(.str "lists", .tuple [.tuple [.str n2, .tuple [.tuple [.str n1, .str n0], .tuple [.str n2, .str n0], .tuple [.str n3, .str n0], .tuple [.str n4, .str n0], .tuple [.str n5, .str n0]]]])]] = some (.bool false) := by
  have F := nf N
  refine with_of (ms := []) (p := plD (.str n0) (.tuple [.str n1]) (.tuple [.tuple [.str n2, .tuple [.tuple [.str n1, .str n0], .tuple [.str n2, .str n0], .tuple [.str n3, .str n0], .tuple [.str n4, .str n0], .tuple [.str n5, .str n0]]]]) (.tuple [.str "plain"]) (.int 400) [] (.tuple [])) ["lists"] rfl (by decide +kernel) rfl rfl rfl rfl rfl ?_ ?_
  · simp [o_plan, o_house, o_link, s_tup, s_lst, s_cons, s_nil, s_int, s_bool, s_none, s_plain, s_packed, s_post, s_a, s_400, s_1, e_elT, ow_plain, ow_packed, f_str, F]
  · simp [e_plan, e_houses, e_house, e_people, e_peopleL, e_lists, e_loh, e_addr, e_addr1, e_names, e_fst, e_str, e_tup, e_links, e_link, e_elT, e_eqv, e_addrOf, e_pair, sort2_iff, w_plain, w_packed, n_a, n_post, p_a, wi, wi_b, wi_n, wi_s, F]
theorem s4_5 (N : Nm [n0, n1, n2, n3, n4, n5, n6, n7, n8, n9, na, nb]) : mWith [.list ([n0, n1, n2, n3, n4, n5, n6, n7, n8, n9, na, nb].map PyData.str), .dict [(.str "more", .tuple [.tuple [.str n1, .tuple [.str "a"], .tuple [], .tuple [.str "packed"], .int 9000], .tuple [.str n2, .tuple [.str "a"], .tuple [], .tuple [.str "packed"], .int 9000], .tuple [.str n3, .tuple [.str "a"], .tuple [], .tuple [.str "packed"], .int 9000], .tuple [.str n4, .tuple [.str "a"], .tuple [], .tuple [.str "packed"], .int 9000], .tuple [.str n5, .tuple [.str "a"], .tuple [], .tuple [.str "packed"], .int 9000]])]] = some (.bool false) := by
  have F := nf N
  refine with_of (ms := [.tuple [.str n1, .tuple [.str "a"], .tuple [], .tuple [.str "packed"], .int 9000], .tuple [.str n2, .tuple [.str "a"], .tuple [], .tuple [.str "packed"], .int 9000], .tuple [.str n3, .tuple [.str "a"], .tuple [], .tuple [.str "packed"], .int 9000], .tuple [.str n4, .tuple [.str "a"], .tuple [], .tuple [.str "packed"], .int 9000], .tuple [.str n5, .tuple [.str "a"], .tuple [], .tuple [.str "packed"], .int 9000]]) (p := plD (.str n0) (.tuple [.str n1]) (.tuple []) (.tuple [.str "plain"]) (.int 400) [.tuple [.str n1, .tuple [.str "a"], .tuple [], .tuple [.str "packed"], .int 9000], .tuple [.str n2, .tuple [.str "a"], .tuple [], .tuple [.str "packed"], .int 9000], .tuple [.str n3, .tuple [.str "a"], .tuple [], .tuple [.str "packed"], .int 9000], .tuple [.str n4, .tuple [.str "a"], .tuple [], .tuple [.str "packed"], .int 9000], .tuple [.str n5, .tuple [.str "a"], .tuple [], .tuple [.str "packed"], .int 9000]] (.tuple [])) ["more"] rfl (by decide +kernel) rfl rfl rfl rfl rfl ?_ ?_
  · simp [o_plan, o_house, o_link, s_tup, s_lst, s_cons, s_nil, s_int, s_bool, s_none, s_plain, s_packed, s_post, s_a, s_400, s_1, e_elT, ow_plain, ow_packed, f_str, F]
  · simp [e_plan, e_houses, e_house, e_people, e_peopleL, e_lists, e_loh, e_addr, e_addr1, e_names, e_fst, e_str, e_tup, e_links, e_link, e_elT, e_eqv, e_addrOf, e_pair, sort2_iff, w_plain, w_packed, n_a, n_post, p_a, wi, wi_b, wi_n, wi_s, F]
theorem s1_6 (N : Nm [n0, n1, n2, n3, n4, n5, n6, n7, n8, n9, na, nb]) : mWith [.list ([n0, n1, n2, n3, n4, n5, n6, n7, n8, n9, na, nb].map PyData.str), .dict [(.str "folk", .tuple [.str n1, .str n2, .str n3, .str n4, .str n5, .str n6])]] = some (.bool false) := by
  have F := nf N
  refine with_of (ms := []) (p := plD (.str n0) (.tuple [.str n1, .str n2, .str n3, .str n4, .str n5, .str n6]) (.tuple []) (.tuple [.str "plain"]) (.int 400) [] (.tuple [])) ["folk"] rfl (by decide +kernel) rfl rfl rfl rfl rfl ?_ ?_
  · simp [o_plan, o_house, o_link, s_tup, s_lst, s_cons, s_nil, s_int, s_bool, s_none, s_plain, s_packed, s_post, s_a, s_400, s_1, e_elT, ow_plain, ow_packed, f_str, F]
  · simp [e_plan, e_houses, e_house, e_people, e_peopleL, e_lists, e_loh, e_addr, e_addr1, e_names, e_fst, e_str, e_tup, e_links, e_link, e_elT, e_eqv, e_addrOf, e_pair, sort2_iff, w_plain, w_packed, n_a, n_post, p_a, wi, wi_b, wi_n, wi_s, F]
theorem s2_6 (N : Nm [n0, n1, n2, n3, n4, n5, n6, n7, n8, n9, na, nb]) : mWith [.list ([n0, n1, n2, n3, n4, n5, n6, n7, n8, n9, na, nb].map PyData.str), .dict [(.str "lists", .tuple [.tuple [.str n2, .tuple [.tuple [.str n1, .str n0]]], .tuple [.str n3, .tuple [.tuple [.str n1, .str n0]]], .tuple [.str n4, .tuple [.tuple [.str n1, .str n0]]], .tuple [.str n5, .tuple [.tuple [.str n1, .str n0]]], .tuple [.str n6, .tuple [.tuple [.str n1, .str n0]]], .tuple [.str n7, .tuple [.tuple [.str n1, .str n0]]]])]] = some (.bool false) := by
  have F := nf N
  refine with_of (ms := []) (p := plD (.str n0) (.tuple [.str n1]) (.tuple [.tuple [.str n2, .tuple [.tuple [.str n1, .str n0]]], .tuple [.str n3, .tuple [.tuple [.str n1, .str n0]]], .tuple [.str n4, .tuple [.tuple [.str n1, .str n0]]], .tuple [.str n5, .tuple [.tuple [.str n1, .str n0]]], .tuple [.str n6, .tuple [.tuple [.str n1, .str n0]]], .tuple [.str n7, .tuple [.tuple [.str n1, .str n0]]]]) (.tuple [.str "plain"]) (.int 400) [] (.tuple [])) ["lists"] rfl (by decide +kernel) rfl rfl rfl rfl rfl ?_ ?_
  · simp [o_plan, o_house, o_link, s_tup, s_lst, s_cons, s_nil, s_int, s_bool, s_none, s_plain, s_packed, s_post, s_a, s_400, s_1, e_elT, ow_plain, ow_packed, f_str, F]
  · simp [e_plan, e_houses, e_house, e_people, e_peopleL, e_lists, e_loh, e_addr, e_addr1, e_names, e_fst, e_str, e_tup, e_links, e_link, e_elT, e_eqv, e_addrOf, e_pair, sort2_iff, w_plain, w_packed, n_a, n_post, p_a, wi, wi_b, wi_n, wi_s, F]
theorem s3_6 (N : Nm [n0, n1, n2, n3, n4, n5, n6, n7, n8, n9, na, nb]) : mWith [.list ([n0, n1, n2, n3, n4, n5, n6, n7, n8, n9, na, nb].map PyData.str), .dict [(.str "lists", .tuple [.tuple [.str n2, .tuple [.tuple [.str n1, .str n0], .tuple [.str n2, .str n0], .tuple [.str n3, .str n0], .tuple [.str n4, .str n0], .tuple [.str n5, .str n0], .tuple [.str n6, .str n0]]]])]] = some (.bool false) := by
  have F := nf N
  refine with_of (ms := []) (p := plD (.str n0) (.tuple [.str n1]) (.tuple [.tuple [.str n2, .tuple [.tuple [.str n1, .str n0], .tuple [.str n2, .str n0], .tuple [.str n3, .str n0], .tuple [.str n4, .str n0], .tuple [.str n5, .str n0], .tuple [.str n6, .str n0]]]]) (.tuple [.str "plain"]) (.int 400) [] (.tuple [])) ["lists"] rfl (by decide +kernel) rfl rfl rfl rfl rfl ?_ ?_
  · simp [o_plan, o_house, o_link, s_tup, s_lst, s_cons, s_nil, s_int, s_bool, s_none, s_plain, s_packed, s_post, s_a, s_400, s_1, e_elT, ow_plain, ow_packed, f_str, F]
  · simp [e_plan, e_houses, e_house, e_people, e_peopleL, e_lists, e_loh, e_addr, e_addr1, e_names, e_fst, e_str, e_tup, e_links, e_link, e_elT, e_eqv, e_addrOf, e_pair, sort2_iff, w_plain, w_packed, n_a, n_post, p_a, wi, wi_b, wi_n, wi_s, F]
theorem s4_6 (N : Nm [n0, n1, n2, n3, n4, n5, n6, n7, n8, n9, na, nb]) : mWith [.list ([n0, n1, n2, n3, n4, n5, n6, n7, n8, n9, na, nb].map PyData.str), .dict [(.str "more", .tuple [.tuple [.str n1, .tuple [.str "a"], .tuple [], .tuple [.str "packed"], .int 9000], .tuple [.str n2, .tuple [.str "a"], .tuple [], .tuple [.str "packed"], .int 9000], .tuple [.str n3, .tuple [.str "a"], .tuple [], .tuple [.str "packed"], .int 9000], .tuple [.str n4, .tuple [.str "a"], .tuple [], .tuple [.str "packed"], .int 9000], .tuple [.str n5, .tuple [.str "a"], .tuple [], .tuple [.str "packed"], .int 9000], .tuple [.str n6, .tuple [.str "a"], .tuple [], .tuple [.str "packed"], .int 9000]])]] = some (.bool false) := by
  have F := nf N
  refine with_of (ms := [.tuple [.str n1, .tuple [.str "a"], .tuple [], .tuple [.str "packed"], .int 9000], .tuple [.str n2, .tuple [.str "a"], .tuple [], .tuple [.str "packed"], .int 9000], .tuple [.str n3, .tuple [.str "a"], .tuple [], .tuple [.str "packed"], .int 9000], .tuple [.str n4, .tuple [.str "a"], .tuple [], .tuple [.str "packed"], .int 9000], .tuple [.str n5, .tuple [.str "a"], .tuple [], .tuple [.str "packed"], .int 9000], .tuple [.str n6, .tuple [.str "a"], .tuple [], .tuple [.str "packed"], .int 9000]]) (p := plD (.str n0) (.tuple [.str n1]) (.tuple []) (.tuple [.str "plain"]) (.int 400) [.tuple [.str n1, .tuple [.str "a"], .tuple [], .tuple [.str "packed"], .int 9000], .tuple [.str n2, .tuple [.str "a"], .tuple [], .tuple [.str "packed"], .int 9000], .tuple [.str n3, .tuple [.str "a"], .tuple [], .tuple [.str "packed"], .int 9000], .tuple [.str n4, .tuple [.str "a"], .tuple [], .tuple [.str "packed"], .int 9000], .tuple [.str n5, .tuple [.str "a"], .tuple [], .tuple [.str "packed"], .int 9000], .tuple [.str n6, .tuple [.str "a"], .tuple [], .tuple [.str "packed"], .int 9000]] (.tuple [])) ["more"] rfl (by decide +kernel) rfl rfl rfl rfl rfl ?_ ?_
  · simp [o_plan, o_house, o_link, s_tup, s_lst, s_cons, s_nil, s_int, s_bool, s_none, s_plain, s_packed, s_post, s_a, s_400, s_1, e_elT, ow_plain, ow_packed, f_str, F]
  · simp [e_plan, e_houses, e_house, e_people, e_peopleL, e_lists, e_loh, e_addr, e_addr1, e_names, e_fst, e_str, e_tup, e_links, e_link, e_elT, e_eqv, e_addrOf, e_pair, sort2_iff, w_plain, w_packed, n_a, n_post, p_a, wi, wi_b, wi_n, wi_s, F]
theorem s1_7 (N : Nm [n0, n1, n2, n3, n4, n5, n6, n7, n8, n9, na, nb]) : mWith [.list ([n0, n1, n2, n3, n4, n5, n6, n7, n8, n9, na, nb].map PyData.str), .dict [(.str "folk", .tuple [.str n1, .str n2, .str n3, .str n4, .str n5, .str n6, .str n7])]] = some (.bool false) := by
  have F := nf N
  refine with_of (ms := []) (p := plD (.str n0) (.tuple [.str n1, .str n2, .str n3, .str n4, .str n5, .str n6, .str n7]) (.tuple []) (.tuple [.str "plain"]) (.int 400) [] (.tuple [])) ["folk"] rfl (by decide +kernel) rfl rfl rfl rfl rfl ?_ ?_
  · simp [o_plan, o_house, o_link, s_tup, s_lst, s_cons, s_nil, s_int, s_bool, s_none, s_plain, s_packed, s_post, s_a, s_400, s_1, e_elT, ow_plain, ow_packed, f_str, F]
  · simp [e_plan, e_houses, e_house, e_people, e_peopleL, e_lists, e_loh, e_addr, e_addr1, e_names, e_fst, e_str, e_tup, e_links, e_link, e_elT, e_eqv, e_addrOf, e_pair, sort2_iff, w_plain, w_packed, n_a, n_post, p_a, wi, wi_b, wi_n, wi_s, F]
theorem s2_7 (N : Nm [n0, n1, n2, n3, n4, n5, n6, n7, n8, n9, na, nb]) : mWith [.list ([n0, n1, n2, n3, n4, n5, n6, n7, n8, n9, na, nb].map PyData.str), .dict [(.str "lists", .tuple [.tuple [.str n2, .tuple [.tuple [.str n1, .str n0]]], .tuple [.str n3, .tuple [.tuple [.str n1, .str n0]]], .tuple [.str n4, .tuple [.tuple [.str n1, .str n0]]], .tuple [.str n5, .tuple [.tuple [.str n1, .str n0]]], .tuple [.str n6, .tuple [.tuple [.str n1, .str n0]]], .tuple [.str n7, .tuple [.tuple [.str n1, .str n0]]], .tuple [.str n8, .tuple [.tuple [.str n1, .str n0]]]])]] = some (.bool false) := by
  have F := nf N
  refine with_of (ms := []) (p := plD (.str n0) (.tuple [.str n1]) (.tuple [.tuple [.str n2, .tuple [.tuple [.str n1, .str n0]]], .tuple [.str n3, .tuple [.tuple [.str n1, .str n0]]], .tuple [.str n4, .tuple [.tuple [.str n1, .str n0]]], .tuple [.str n5, .tuple [.tuple [.str n1, .str n0]]], .tuple [.str n6, .tuple [.tuple [.str n1, .str n0]]], .tuple [.str n7, .tuple [.tuple [.str n1, .str n0]]], .tuple [.str n8, .tuple [.tuple [.str n1, .str n0]]]]) (.tuple [.str "plain"]) (.int 400) [] (.tuple [])) ["lists"] rfl (by decide +kernel) rfl rfl rfl rfl rfl ?_ ?_
  · simp [o_plan, o_house, o_link, s_tup, s_lst, s_cons, s_nil, s_int, s_bool, s_none, s_plain, s_packed, s_post, s_a, s_400, s_1, e_elT, ow_plain, ow_packed, f_str, F]
  · simp [e_plan, e_houses, e_house, e_people, e_peopleL, e_lists, e_loh, e_addr, e_addr1, e_names, e_fst, e_str, e_tup, e_links, e_link, e_elT, e_eqv, e_addrOf, e_pair, sort2_iff, w_plain, w_packed, n_a, n_post, p_a, wi, wi_b, wi_n, wi_s, F]
theorem s3_7 (N : Nm [n0, n1, n2, n3, n4, n5, n6, n7, n8, n9, na, nb]) : mWith [.list ([n0, n1, n2, n3, n4, n5, n6, n7, n8, n9, na, nb].map PyData.str), .dict [(.str "lists", .tuple [.tuple [.str n2, .tuple [.tuple [.str n1, .str n0], .tuple [.str n2, .str n0], .tuple [.str n3, .str n0], .tuple [.str n4, .str n0], .tuple [.str n5, .str n0], .tuple [.str n6, .str n0], .tuple [.str n7, .str n0]]]])]] = some (.bool false) := by
  have F := nf N
  refine with_of (ms := []) (p := plD (.str n0) (.tuple [.str n1]) (.tuple [.tuple [.str n2, .tuple [.tuple [.str n1, .str n0], .tuple [.str n2, .str n0], .tuple [.str n3, .str n0], .tuple [.str n4, .str n0], .tuple [.str n5, .str n0], .tuple [.str n6, .str n0], .tuple [.str n7, .str n0]]]]) (.tuple [.str "plain"]) (.int 400) [] (.tuple [])) ["lists"] rfl (by decide +kernel) rfl rfl rfl rfl rfl ?_ ?_
  · simp [o_plan, o_house, o_link, s_tup, s_lst, s_cons, s_nil, s_int, s_bool, s_none, s_plain, s_packed, s_post, s_a, s_400, s_1, e_elT, ow_plain, ow_packed, f_str, F]
  · simp [e_plan, e_houses, e_house, e_people, e_peopleL, e_lists, e_loh, e_addr, e_addr1, e_names, e_fst, e_str, e_tup, e_links, e_link, e_elT, e_eqv, e_addrOf, e_pair, sort2_iff, w_plain, w_packed, n_a, n_post, p_a, wi, wi_b, wi_n, wi_s, F]
theorem s4_7 (N : Nm [n0, n1, n2, n3, n4, n5, n6, n7, n8, n9, na, nb]) : mWith [.list ([n0, n1, n2, n3, n4, n5, n6, n7, n8, n9, na, nb].map PyData.str), .dict [(.str "more", .tuple [.tuple [.str n1, .tuple [.str "a"], .tuple [], .tuple [.str "packed"], .int 9000], .tuple [.str n2, .tuple [.str "a"], .tuple [], .tuple [.str "packed"], .int 9000], .tuple [.str n3, .tuple [.str "a"], .tuple [], .tuple [.str "packed"], .int 9000], .tuple [.str n4, .tuple [.str "a"], .tuple [], .tuple [.str "packed"], .int 9000], .tuple [.str n5, .tuple [.str "a"], .tuple [], .tuple [.str "packed"], .int 9000], .tuple [.str n6, .tuple [.str "a"], .tuple [], .tuple [.str "packed"], .int 9000], .tuple [.str n7, .tuple [.str "a"], .tuple [], .tuple [.str "packed"], .int 9000]])]] = some (.bool false) := by
  have F := nf N
  refine with_of (ms := [.tuple [.str n1, .tuple [.str "a"], .tuple [], .tuple [.str "packed"], .int 9000], .tuple [.str n2, .tuple [.str "a"], .tuple [], .tuple [.str "packed"], .int 9000], .tuple [.str n3, .tuple [.str "a"], .tuple [], .tuple [.str "packed"], .int 9000], .tuple [.str n4, .tuple [.str "a"], .tuple [], .tuple [.str "packed"], .int 9000], .tuple [.str n5, .tuple [.str "a"], .tuple [], .tuple [.str "packed"], .int 9000], .tuple [.str n6, .tuple [.str "a"], .tuple [], .tuple [.str "packed"], .int 9000], .tuple [.str n7, .tuple [.str "a"], .tuple [], .tuple [.str "packed"], .int 9000]]) (p := plD (.str n0) (.tuple [.str n1]) (.tuple []) (.tuple [.str "plain"]) (.int 400) [.tuple [.str n1, .tuple [.str "a"], .tuple [], .tuple [.str "packed"], .int 9000], .tuple [.str n2, .tuple [.str "a"], .tuple [], .tuple [.str "packed"], .int 9000], .tuple [.str n3, .tuple [.str "a"], .tuple [], .tuple [.str "packed"], .int 9000], .tuple [.str n4, .tuple [.str "a"], .tuple [], .tuple [.str "packed"], .int 9000], .tuple [.str n5, .tuple [.str "a"], .tuple [], .tuple [.str "packed"], .int 9000], .tuple [.str n6, .tuple [.str "a"], .tuple [], .tuple [.str "packed"], .int 9000], .tuple [.str n7, .tuple [.str "a"], .tuple [], .tuple [.str "packed"], .int 9000]] (.tuple [])) ["more"] rfl (by decide +kernel) rfl rfl rfl rfl rfl ?_ ?_
  · simp [o_plan, o_house, o_link, s_tup, s_lst, s_cons, s_nil, s_int, s_bool, s_none, s_plain, s_packed, s_post, s_a, s_400, s_1, e_elT, ow_plain, ow_packed, f_str, F]
  · simp [e_plan, e_houses, e_house, e_people, e_peopleL, e_lists, e_loh, e_addr, e_addr1, e_names, e_fst, e_str, e_tup, e_links, e_link, e_elT, e_eqv, e_addrOf, e_pair, sort2_iff, w_plain, w_packed, n_a, n_post, p_a, wi, wi_b, wi_n, wi_s, F]
theorem s5_0 (N : Nm [n0, n1, n2, n3, n4, n5, n6, n7, n8, n9, na, nb]) : mWith [.list ([n0, n1, n2, n3, n4, n5, n6, n7, n8, n9, na, nb].map PyData.str), .dict [(.str "more", .tuple [.tuple [.str n1, .tuple [.str "a"], .tuple [], .tuple [.str "packed"], .int 9000], .tuple [.str n2, .tuple [.str "a"], .tuple [], .tuple [.str "packed"], .int 9000], .tuple [.str n3, .tuple [.str "a"], .tuple [], .tuple [.str "packed"], .int 9000], .tuple [.str n4, .tuple [.str "a"], .tuple [], .tuple [.str "packed"], .int 9000]]), (.str "links", .tuple [])]] = some (.bool true) := by
  have F := nf N
  refine with_of (ms := [.tuple [.str n1, .tuple [.str "a"], .tuple [], .tuple [.str "packed"], .int 9000], .tuple [.str n2, .tuple [.str "a"], .tuple [], .tuple [.str "packed"], .int 9000], .tuple [.str n3, .tuple [.str "a"], .tuple [], .tuple [.str "packed"], .int 9000], .tuple [.str n4, .tuple [.str "a"], .tuple [], .tuple [.str "packed"], .int 9000]]) (p := plD (.str n0) (.tuple [.str n1]) (.tuple []) (.tuple [.str "plain"]) (.int 400) [.tuple [.str n1, .tuple [.str "a"], .tuple [], .tuple [.str "packed"], .int 9000], .tuple [.str n2, .tuple [.str "a"], .tuple [], .tuple [.str "packed"], .int 9000], .tuple [.str n3, .tuple [.str "a"], .tuple [], .tuple [.str "packed"], .int 9000], .tuple [.str n4, .tuple [.str "a"], .tuple [], .tuple [.str "packed"], .int 9000]] (.tuple [])) ["more", "links"] rfl (by decide +kernel) rfl rfl rfl rfl rfl ?_ ?_
  · simp [o_plan, o_house, o_link, s_tup, s_lst, s_cons, s_nil, s_int, s_bool, s_none, s_plain, s_packed, s_post, s_a, s_400, s_1, e_elT, ow_plain, ow_packed, f_str, F]
  · simp [e_plan, e_houses, e_house, e_people, e_peopleL, e_lists, e_loh, e_addr, e_addr1, e_names, e_fst, e_str, e_tup, e_links, e_link, e_elT, e_eqv, e_addrOf, e_pair, sort2_iff, w_plain, w_packed, n_a, n_post, p_a, wi, wi_b, wi_n, wi_s, F]
theorem s5_1 (N : Nm [n0, n1, n2, n3, n4, n5, n6, n7, n8, n9, na, nb]) : mWith [.list ([n0, n1, n2, n3, n4, n5, n6, n7, n8, n9, na, nb].map PyData.str), .dict [(.str "more", .tuple [.tuple [.str n1, .tuple [.str "a"], .tuple [], .tuple [.str "packed"], .int 9000], .tuple [.str n2, .tuple [.str "a"], .tuple [], .tuple [.str "packed"], .int 9000], .tuple [.str n3, .tuple [.str "a"], .tuple [], .tuple [.str "packed"], .int 9000], .tuple [.str n4, .tuple [.str "a"], .tuple [], .tuple [.str "packed"], .int 9000]]), (.str "links", .tuple [.tuple [.str n1, .str n0, .int 1]])]] = some (.bool true) := by
  have F := nf N
  refine with_of (ms := [.tuple [.str n1, .tuple [.str "a"], .tuple [], .tuple [.str "packed"], .int 9000], .tuple [.str n2, .tuple [.str "a"], .tuple [], .tuple [.str "packed"], .int 9000], .tuple [.str n3, .tuple [.str "a"], .tuple [], .tuple [.str "packed"], .int 9000], .tuple [.str n4, .tuple [.str "a"], .tuple [], .tuple [.str "packed"], .int 9000]]) (p := plD (.str n0) (.tuple [.str n1]) (.tuple []) (.tuple [.str "plain"]) (.int 400) [.tuple [.str n1, .tuple [.str "a"], .tuple [], .tuple [.str "packed"], .int 9000], .tuple [.str n2, .tuple [.str "a"], .tuple [], .tuple [.str "packed"], .int 9000], .tuple [.str n3, .tuple [.str "a"], .tuple [], .tuple [.str "packed"], .int 9000], .tuple [.str n4, .tuple [.str "a"], .tuple [], .tuple [.str "packed"], .int 9000]] (.tuple [.tuple [.str n1, .str n0, .int 1]])) ["more", "links"] rfl (by decide +kernel) rfl rfl rfl rfl rfl ?_ ?_
  · simp [o_plan, o_house, o_link, s_tup, s_lst, s_cons, s_nil, s_int, s_bool, s_none, s_plain, s_packed, s_post, s_a, s_400, s_1, e_elT, ow_plain, ow_packed, f_str, F]
  · simp [e_plan, e_houses, e_house, e_people, e_peopleL, e_lists, e_loh, e_addr, e_addr1, e_names, e_fst, e_str, e_tup, e_links, e_link, e_elT, e_eqv, e_addrOf, e_pair, sort2_iff, w_plain, w_packed, n_a, n_post, p_a, wi, wi_b, wi_n, wi_s, F]
theorem s5_2 (N : Nm [n0, n1, n2, n3, n4, n5, n6, n7, n8, n9, na, nb]) : mWith [.list ([n0, n1, n2, n3, n4, n5, n6, n7, n8, n9, na, nb].map PyData.str), .dict [(.str "more", .tuple [.tuple [.str n1, .tuple [.str "a"], .tuple [], .tuple [.str "packed"], .int 9000], .tuple [.str n2, .tuple [.str "a"], .tuple [], .tuple [.str "packed"], .int 9000], .tuple [.str n3, .tuple [.str "a"], .tuple [], .tuple [.str "packed"], .int 9000], .tuple [.str n4, .tuple [.str "a"], .tuple [], .tuple [.str "packed"], .int 9000]]), (.str "links", .tuple [.tuple [.str n1, .str n0, .int 1], .tuple [.str n2, .str n0, .int 1]])]] = some (.bool true) := by
  have F := nf N
  refine with_of (ms := [.tuple [.str n1, .tuple [.str "a"], .tuple [], .tuple [.str "packed"], .int 9000], .tuple [.str n2, .tuple [.str "a"], .tuple [], .tuple [.str "packed"], .int 9000], .tuple [.str n3, .tuple [.str "a"], .tuple [], .tuple [.str "packed"], .int 9000], .tuple [.str n4, .tuple [.str "a"], .tuple [], .tuple [.str "packed"], .int 9000]]) (p := plD (.str n0) (.tuple [.str n1]) (.tuple []) (.tuple [.str "plain"]) (.int 400) [.tuple [.str n1, .tuple [.str "a"], .tuple [], .tuple [.str "packed"], .int 9000], .tuple [.str n2, .tuple [.str "a"], .tuple [], .tuple [.str "packed"], .int 9000], .tuple [.str n3, .tuple [.str "a"], .tuple [], .tuple [.str "packed"], .int 9000], .tuple [.str n4, .tuple [.str "a"], .tuple [], .tuple [.str "packed"], .int 9000]] (.tuple [.tuple [.str n1, .str n0, .int 1], .tuple [.str n2, .str n0, .int 1]])) ["more", "links"] rfl (by decide +kernel) rfl rfl rfl rfl rfl ?_ ?_
  · simp [o_plan, o_house, o_link, s_tup, s_lst, s_cons, s_nil, s_int, s_bool, s_none, s_plain, s_packed, s_post, s_a, s_400, s_1, e_elT, ow_plain, ow_packed, f_str, F]
  · simp [e_plan, e_houses, e_house, e_people, e_peopleL, e_lists, e_loh, e_addr, e_addr1, e_names, e_fst, e_str, e_tup, e_links, e_link, e_elT, e_eqv, e_addrOf, e_pair, sort2_iff, w_plain, w_packed, n_a, n_post, p_a, wi, wi_b, wi_n, wi_s, F]
theorem s5_3 (N : Nm [n0, n1, n2, n3, n4, n5, n6, n7, n8, n9, na, nb]) : mWith [.list ([n0, n1, n2, n3, n4, n5, n6, n7, n8, n9, na, nb].map PyData.str), .dict [(.str "more", .tuple [.tuple [.str n1, .tuple [.str "a"], .tuple [], .tuple [.str "packed"], .int 9000], .tuple [.str n2, .tuple [.str "a"], .tuple [], .tuple [.str "packed"], .int 9000], .tuple [.str n3, .tuple [.str "a"], .tuple [], .tuple [.str "packed"], .int 9000], .tuple [.str n4, .tuple [.str "a"], .tuple [], .tuple [.str "packed"], .int 9000]]), (.str "links", .tuple [.tuple [.str n1, .str n0, .int 1], .tuple [.str n2, .str n0, .int 1], .tuple [.str n3, .str n0, .int 1]])]] = some (.bool true) := by
  have F := nf N
  refine with_of (ms := [.tuple [.str n1, .tuple [.str "a"], .tuple [], .tuple [.str "packed"], .int 9000], .tuple [.str n2, .tuple [.str "a"], .tuple [], .tuple [.str "packed"], .int 9000], .tuple [.str n3, .tuple [.str "a"], .tuple [], .tuple [.str "packed"], .int 9000], .tuple [.str n4, .tuple [.str "a"], .tuple [], .tuple [.str "packed"], .int 9000]]) (p := plD (.str n0) (.tuple [.str n1]) (.tuple []) (.tuple [.str "plain"]) (.int 400) [.tuple [.str n1, .tuple [.str "a"], .tuple [], .tuple [.str "packed"], .int 9000], .tuple [.str n2, .tuple [.str "a"], .tuple [], .tuple [.str "packed"], .int 9000], .tuple [.str n3, .tuple [.str "a"], .tuple [], .tuple [.str "packed"], .int 9000], .tuple [.str n4, .tuple [.str "a"], .tuple [], .tuple [.str "packed"], .int 9000]] (.tuple [.tuple [.str n1, .str n0, .int 1], .tuple [.str n2, .str n0, .int 1], .tuple [.str n3, .str n0, .int 1]])) ["more", "links"] rfl (by decide +kernel) rfl rfl rfl rfl rfl ?_ ?_
  · simp [o_plan, o_house, o_link, s_tup, s_lst, s_cons, s_nil, s_int, s_bool, s_none, s_plain, s_packed, s_post, s_a, s_400, s_1, e_elT, ow_plain, ow_packed, f_str, F]
  · simp [e_plan, e_houses, e_house, e_people, e_peopleL, e_lists, e_loh, e_addr, e_addr1, e_names, e_fst, e_str, e_tup, e_links, e_link, e_elT, e_eqv, e_addrOf, e_pair, sort2_iff, w_plain, w_packed, n_a, n_post, p_a, wi, wi_b, wi_n, wi_s, F]
theorem s5_4 (N : Nm [n0, n1, n2, n3, n4, n5, n6, n7, n8, n9, na, nb]) : mWith [.list ([n0, n1, n2, n3, n4, n5, n6, n7, n8, n9, na, nb].map PyData.str), .dict [(.str "more", .tuple [.tuple [.str n1, .tuple [.str "a"], .tuple [], .tuple [.str "packed"], .int 9000], .tuple [.str n2, .tuple [.str "a"], .tuple [], .tuple [.str "packed"], .int 9000], .tuple [.str n3, .tuple [.str "a"], .tuple [], .tuple [.str "packed"], .int 9000], .tuple [.str n4, .tuple [.str "a"], .tuple [], .tuple [.str "packed"], .int 9000]]), (.str "links", .tuple [.tuple [.str n1, .str n0, .int 1], .tuple [.str n2, .str n0, .int 1], .tuple [.str n3, .str n0, .int 1], .tuple [.str n4, .str n0, .int 1]])]] = some (.bool true) := by
  have F := nf N
  refine with_of (ms := [.tuple [.str n1, .tuple [.str "a"], .tuple [], .tuple [.str "packed"], .int 9000], .tuple [.str n2, .tuple [.str "a"], .tuple [], .tuple [.str "packed"], .int 9000], .tuple [.str n3, .tuple [.str "a"], .tuple [], .tuple [.str "packed"], .int 9000], .tuple [.str n4, .tuple [.str "a"], .tuple [], .tuple [.str "packed"], .int 9000]]) (p := plD (.str n0) (.tuple [.str n1]) (.tuple []) (.tuple [.str "plain"]) (.int 400) [.tuple [.str n1, .tuple [.str "a"], .tuple [], .tuple [.str "packed"], .int 9000], .tuple [.str n2, .tuple [.str "a"], .tuple [], .tuple [.str "packed"], .int 9000], .tuple [.str n3, .tuple [.str "a"], .tuple [], .tuple [.str "packed"], .int 9000], .tuple [.str n4, .tuple [.str "a"], .tuple [], .tuple [.str "packed"], .int 9000]] (.tuple [.tuple [.str n1, .str n0, .int 1], .tuple [.str n2, .str n0, .int 1], .tuple [.str n3, .str n0, .int 1], .tuple [.str n4, .str n0, .int 1]])) ["more", "links"] rfl (by decide +kernel) rfl rfl rfl rfl rfl ?_ ?_
  · simp [o_plan, o_house, o_link, s_tup, s_lst, s_cons, s_nil, s_int, s_bool, s_none, s_plain, s_packed, s_post, s_a, s_400, s_1, e_elT, ow_plain, ow_packed, f_str, F]
  · simp [e_plan, e_houses, e_house, e_people, e_peopleL, e_lists, e_loh, e_addr, e_addr1, e_names, e_fst, e_str, e_tup, e_links, e_link, e_elT, e_eqv, e_addrOf, e_pair, sort2_iff, w_plain, w_packed, n_a, n_post, p_a, wi, wi_b, wi_n, wi_s, F]
theorem s5_5 (N : Nm [n0, n1, n2, n3, n4, n5, n6, n7, n8, n9, na, nb]) : mWith [.list ([n0, n1, n2, n3, n4, n5, n6, n7, n8, n9, na, nb].map PyData.str), .dict [(.str "more", .tuple [.tuple [.str n1, .tuple [.str "a"], .tuple [], .tuple [.str "packed"], .int 9000], .tuple [.str n2, .tuple [.str "a"], .tuple [], .tuple [.str "packed"], .int 9000], .tuple [.str n3, .tuple [.str "a"], .tuple [], .tuple [.str "packed"], .int 9000], .tuple [.str n4, .tuple [.str "a"], .tuple [], .tuple [.str "packed"], .int 9000]]), (.str "links", .tuple [.tuple [.str n1, .str n0, .int 1], .tuple [.str n2, .str n0, .int 1], .tuple [.str n3, .str n0, .int 1], .tuple [.str n4, .str n0, .int 1], .tuple [.str n2, .str n1, .int 1]])]] = some (.bool true) := by
  have F := nf N
  refine with_of (ms := [.tuple [.str n1, .tuple [.str "a"], .tuple [], .tuple [.str "packed"], .int 9000], .tuple [.str n2, .tuple [.str "a"], .tuple [], .tuple [.str "packed"], .int 9000], .tuple [.str n3, .tuple [.str "a"], .tuple [], .tuple [.str "packed"], .int 9000], .tuple [.str n4, .tuple [.str "a"], .tuple [], .tuple [.str "packed"], .int 9000]]) (p := plD (.str n0) (.tuple [.str n1]) (.tuple []) (.tuple [.str "plain"]) (.int 400) [.tuple [.str n1, .tuple [.str "a"], .tuple [], .tuple [.str "packed"], .int 9000], .tuple [.str n2, .tuple [.str "a"], .tuple [], .tuple [.str "packed"], .int 9000], .tuple [.str n3, .tuple [.str "a"], .tuple [], .tuple [.str "packed"], .int 9000], .tuple [.str n4, .tuple [.str "a"], .tuple [], .tuple [.str "packed"], .int 9000]] (.tuple [.tuple [.str n1, .str n0, .int 1], .tuple [.str n2, .str n0, .int 1], .tuple [.str n3, .str n0, .int 1], .tuple [.str n4, .str n0, .int 1], .tuple [.str n2, .str n1, .int 1]])) ["more", "links"] rfl (by decide +kernel) rfl rfl rfl rfl rfl ?_ ?_
  · simp [o_plan, o_house, o_link, s_tup, s_lst, s_cons, s_nil, s_int, s_bool, s_none, s_plain, s_packed, s_post, s_a, s_400, s_1, e_elT, ow_plain, ow_packed, f_str, F]
  · simp [e_plan, e_houses, e_house, e_people, e_peopleL, e_lists, e_loh, e_addr, e_addr1, e_names, e_fst, e_str, e_tup, e_links, e_link, e_elT, e_eqv, e_addrOf, e_pair, sort2_iff, w_plain, w_packed, n_a, n_post, p_a, wi, wi_b, wi_n, wi_s, F]
theorem s5_6 (N : Nm [n0, n1, n2, n3, n4, n5, n6, n7, n8, n9, na, nb]) : mWith [.list ([n0, n1, n2, n3, n4, n5, n6, n7, n8, n9, na, nb].map PyData.str), .dict [(.str "more", .tuple [.tuple [.str n1, .tuple [.str "a"], .tuple [], .tuple [.str "packed"], .int 9000], .tuple [.str n2, .tuple [.str "a"], .tuple [], .tuple [.str "packed"], .int 9000], .tuple [.str n3, .tuple [.str "a"], .tuple [], .tuple [.str "packed"], .int 9000], .tuple [.str n4, .tuple [.str "a"], .tuple [], .tuple [.str "packed"], .int 9000]]), (.str "links", .tuple [.tuple [.str n1, .str n0, .int 1], .tuple [.str n2, .str n0, .int 1], .tuple [.str n3, .str n0, .int 1], .tuple [.str n4, .str n0, .int 1], .tuple [.str n2, .str n1, .int 1], .tuple [.str n3, .str n1, .int 1]])]] = some (.bool true) := by
  have F := nf N
  refine with_of (ms := [.tuple [.str n1, .tuple [.str "a"], .tuple [], .tuple [.str "packed"], .int 9000], .tuple [.str n2, .tuple [.str "a"], .tuple [], .tuple [.str "packed"], .int 9000], .tuple [.str n3, .tuple [.str "a"], .tuple [], .tuple [.str "packed"], .int 9000], .tuple [.str n4, .tuple [.str "a"], .tuple [], .tuple [.str "packed"], .int 9000]]) (p := plD (.str n0) (.tuple [.str n1]) (.tuple []) (.tuple [.str "plain"]) (.int 400) [.tuple [.str n1, .tuple [.str "a"], .tuple [], .tuple [.str "packed"], .int 9000], .tuple [.str n2, .tuple [.str "a"], .tuple [], .tuple [.str "packed"], .int 9000], .tuple [.str n3, .tuple [.str "a"], .tuple [], .tuple [.str "packed"], .int 9000], .tuple [.str n4, .tuple [.str "a"], .tuple [], .tuple [.str "packed"], .int 9000]] (.tuple [.tuple [.str n1, .str n0, .int 1], .tuple [.str n2, .str n0, .int 1], .tuple [.str n3, .str n0, .int 1], .tuple [.str n4, .str n0, .int 1], .tuple [.str n2, .str n1, .int 1], .tuple [.str n3, .str n1, .int 1]])) ["more", "links"] rfl (by decide +kernel) rfl rfl rfl rfl rfl ?_ ?_
  · simp [o_plan, o_house, o_link, s_tup, s_lst, s_cons, s_nil, s_int, s_bool, s_none, s_plain, s_packed, s_post, s_a, s_400, s_1, e_elT, ow_plain, ow_packed, f_str, F]
  · simp [e_plan, e_houses, e_house, e_people, e_peopleL, e_lists, e_loh, e_addr, e_addr1, e_names, e_fst, e_str, e_tup, e_links, e_link, e_elT, e_eqv, e_addrOf, e_pair, sort2_iff, w_plain, w_packed, n_a, n_post, p_a, wi, wi_b, wi_n, wi_s, F]
theorem s5_7 (N : Nm [n0, n1, n2, n3, n4, n5, n6, n7, n8, n9, na, nb]) : mWith [.list ([n0, n1, n2, n3, n4, n5, n6, n7, n8, n9, na, nb].map PyData.str), .dict [(.str "more", .tuple [.tuple [.str n1, .tuple [.str "a"], .tuple [], .tuple [.str "packed"], .int 9000], .tuple [.str n2, .tuple [.str "a"], .tuple [], .tuple [.str "packed"], .int 9000], .tuple [.str n3, .tuple [.str "a"], .tuple [], .tuple [.str "packed"], .int 9000], .tuple [.str n4, .tuple [.str "a"], .tuple [], .tuple [.str "packed"], .int 9000]]), (.str "links", .tuple [.tuple [.str n1, .str n0, .int 1], .tuple [.str n2, .str n0, .int 1], .tuple [.str n3, .str n0, .int 1], .tuple [.str n4, .str n0, .int 1], .tuple [.str n2, .str n1, .int 1], .tuple [.str n3, .str n1, .int 1], .tuple [.str n4, .str n1, .int 1]])]] = some (.bool true) := by
  have F := nf N
  refine with_of (ms := [.tuple [.str n1, .tuple [.str "a"], .tuple [], .tuple [.str "packed"], .int 9000], .tuple [.str n2, .tuple [.str "a"], .tuple [], .tuple [.str "packed"], .int 9000], .tuple [.str n3, .tuple [.str "a"], .tuple [], .tuple [.str "packed"], .int 9000], .tuple [.str n4, .tuple [.str "a"], .tuple [], .tuple [.str "packed"], .int 9000]]) (p := plD (.str n0) (.tuple [.str n1]) (.tuple []) (.tuple [.str "plain"]) (.int 400) [.tuple [.str n1, .tuple [.str "a"], .tuple [], .tuple [.str "packed"], .int 9000], .tuple [.str n2, .tuple [.str "a"], .tuple [], .tuple [.str "packed"], .int 9000], .tuple [.str n3, .tuple [.str "a"], .tuple [], .tuple [.str "packed"], .int 9000], .tuple [.str n4, .tuple [.str "a"], .tuple [], .tuple [.str "packed"], .int 9000]] (.tuple [.tuple [.str n1, .str n0, .int 1], .tuple [.str n2, .str n0, .int 1], .tuple [.str n3, .str n0, .int 1], .tuple [.str n4, .str n0, .int 1], .tuple [.str n2, .str n1, .int 1], .tuple [.str n3, .str n1, .int 1], .tuple [.str n4, .str n1, .int 1]])) ["more", "links"] rfl (by decide +kernel) rfl rfl rfl rfl rfl ?_ ?_
  · simp [o_plan, o_house, o_link, s_tup, s_lst, s_cons, s_nil, s_int, s_bool, s_none, s_plain, s_packed, s_post, s_a, s_400, s_1, e_elT, ow_plain, ow_packed, f_str, F]
  · simp [e_plan, e_houses, e_house, e_people, e_peopleL, e_lists, e_loh, e_addr, e_addr1, e_names, e_fst, e_str, e_tup, e_links, e_link, e_elT, e_eqv, e_addrOf, e_pair, sort2_iff, w_plain, w_packed, n_a, n_post, p_a, wi, wi_b, wi_n, wi_s, F]
theorem s5_8 (N : Nm [n0, n1, n2, n3, n4, n5, n6, n7, n8, n9, na, nb]) : mWith [.list ([n0, n1, n2, n3, n4, n5, n6, n7, n8, n9, na, nb].map PyData.str), .dict [(.str "more", .tuple [.tuple [.str n1, .tuple [.str "a"], .tuple [], .tuple [.str "packed"], .int 9000], .tuple [.str n2, .tuple [.str "a"], .tuple [], .tuple [.str "packed"], .int 9000], .tuple [.str n3, .tuple [.str "a"], .tuple [], .tuple [.str "packed"], .int 9000], .tuple [.str n4, .tuple [.str "a"], .tuple [], .tuple [.str "packed"], .int 9000]]), (.str "links", .tuple [.tuple [.str n1, .str n0, .int 1], .tuple [.str n2, .str n0, .int 1], .tuple [.str n3, .str n0, .int 1], .tuple [.str n4, .str n0, .int 1], .tuple [.str n2, .str n1, .int 1], .tuple [.str n3, .str n1, .int 1], .tuple [.str n4, .str n1, .int 1], .tuple [.str n3, .str n2, .int 1]])]] = some (.bool true) := by
  have F := nf N
  refine with_of (ms := [.tuple [.str n1, .tuple [.str "a"], .tuple [], .tuple [.str "packed"], .int 9000], .tuple [.str n2, .tuple [.str "a"], .tuple [], .tuple [.str "packed"], .int 9000], .tuple [.str n3, .tuple [.str "a"], .tuple [], .tuple [.str "packed"], .int 9000], .tuple [.str n4, .tuple [.str "a"], .tuple [], .tuple [.str "packed"], .int 9000]]) (p := plD (.str n0) (.tuple [.str n1]) (.tuple []) (.tuple [.str "plain"]) (.int 400) [.tuple [.str n1, .tuple [.str "a"], .tuple [], .tuple [.str "packed"], .int 9000], .tuple [.str n2, .tuple [.str "a"], .tuple [], .tuple [.str "packed"], .int 9000], .tuple [.str n3, .tuple [.str "a"], .tuple [], .tuple [.str "packed"], .int 9000], .tuple [.str n4, .tuple [.str "a"], .tuple [], .tuple [.str "packed"], .int 9000]] (.tuple [.tuple [.str n1, .str n0, .int 1], .tuple [.str n2, .str n0, .int 1], .tuple [.str n3, .str n0, .int 1], .tuple [.str n4, .str n0, .int 1], .tuple [.str n2, .str n1, .int 1], .tuple [.str n3, .str n1, .int 1], .tuple [.str n4, .str n1, .int 1], .tuple [.str n3, .str n2, .int 1]])) ["more", "links"] rfl (by decide +kernel) rfl rfl rfl rfl rfl ?_ ?_
  · simp [o_plan, o_house, o_link, s_tup, s_lst, s_cons, s_nil, s_int, s_bool, s_none, s_plain, s_packed, s_post, s_a, s_400, s_1, e_elT, ow_plain, ow_packed, f_str, F]
  · simp [e_plan, e_houses, e_house, e_people, e_peopleL, e_lists, e_loh, e_addr, e_addr1, e_names, e_fst, e_str, e_tup, e_links, e_link, e_elT, e_eqv, e_addrOf, e_pair, sort2_iff, w_plain, w_packed, n_a, n_post, p_a, wi, wi_b, wi_n, wi_s, F]
theorem s5_9 (N : Nm [n0, n1, n2, n3, n4, n5, n6, n7, n8, n9, na, nb]) : mWith [.list ([n0, n1, n2, n3, n4, n5, n6, n7, n8, n9, na, nb].map PyData.str), .dict [(.str "more", .tuple [.tuple [.str n1, .tuple [.str "a"], .tuple [], .tuple [.str "packed"], .int 9000], .tuple [.str n2, .tuple [.str "a"], .tuple [], .tuple [.str "packed"], .int 9000], .tuple [.str n3, .tuple [.str "a"], .tuple [], .tuple [.str "packed"], .int 9000], .tuple [.str n4, .tuple [.str "a"], .tuple [], .tuple [.str "packed"], .int 9000]]), (.str "links", .tuple [.tuple [.str n1, .str n0, .int 1], .tuple [.str n2, .str n0, .int 1], .tuple [.str n3, .str n0, .int 1], .tuple [.str n4, .str n0, .int 1], .tuple [.str n2, .str n1, .int 1], .tuple [.str n3, .str n1, .int 1], .tuple [.str n4, .str n1, .int 1], .tuple [.str n3, .str n2, .int 1], .tuple [.str n4, .str n2, .int 1]])]] = some (.bool false) := by
  have F := nf N
  refine with_of (ms := [.tuple [.str n1, .tuple [.str "a"], .tuple [], .tuple [.str "packed"], .int 9000], .tuple [.str n2, .tuple [.str "a"], .tuple [], .tuple [.str "packed"], .int 9000], .tuple [.str n3, .tuple [.str "a"], .tuple [], .tuple [.str "packed"], .int 9000], .tuple [.str n4, .tuple [.str "a"], .tuple [], .tuple [.str "packed"], .int 9000]]) (p := plD (.str n0) (.tuple [.str n1]) (.tuple []) (.tuple [.str "plain"]) (.int 400) [.tuple [.str n1, .tuple [.str "a"], .tuple [], .tuple [.str "packed"], .int 9000], .tuple [.str n2, .tuple [.str "a"], .tuple [], .tuple [.str "packed"], .int 9000], .tuple [.str n3, .tuple [.str "a"], .tuple [], .tuple [.str "packed"], .int 9000], .tuple [.str n4, .tuple [.str "a"], .tuple [], .tuple [.str "packed"], .int 9000]] (.tuple [.tuple [.str n1, .str n0, .int 1], .tuple [.str n2, .str n0, .int 1], .tuple [.str n3, .str n0, .int 1], .tuple [.str n4, .str n0, .int 1], .tuple [.str n2, .str n1, .int 1], .tuple [.str n3, .str n1, .int 1], .tuple [.str n4, .str n1, .int 1], .tuple [.str n3, .str n2, .int 1], .tuple [.str n4, .str n2, .int 1]])) ["more", "links"] rfl (by decide +kernel) rfl rfl rfl rfl rfl ?_ ?_
  · simp [o_plan, o_house, o_link, s_tup, s_lst, s_cons, s_nil, s_int, s_bool, s_none, s_plain, s_packed, s_post, s_a, s_400, s_1, e_elT, ow_plain, ow_packed, f_str, F]
  · simp [e_plan, e_houses, e_house, e_people, e_peopleL, e_lists, e_loh, e_addr, e_addr1, e_names, e_fst, e_str, e_tup, e_links, e_link, e_elT, e_eqv, e_addrOf, e_pair, sort2_iff, w_plain, w_packed, n_a, n_post, p_a, wi, wi_b, wi_n, wi_s, F]
theorem s5_10 (N : Nm [n0, n1, n2, n3, n4, n5, n6, n7, n8, n9, na, nb]) : mWith [.list ([n0, n1, n2, n3, n4, n5, n6, n7, n8, n9, na, nb].map PyData.str), .dict [(.str "more", .tuple [.tuple [.str n1, .tuple [.str "a"], .tuple [], .tuple [.str "packed"], .int 9000], .tuple [.str n2, .tuple [.str "a"], .tuple [], .tuple [.str "packed"], .int 9000], .tuple [.str n3, .tuple [.str "a"], .tuple [], .tuple [.str "packed"], .int 9000], .tuple [.str n4, .tuple [.str "a"], .tuple [], .tuple [.str "packed"], .int 9000]]), (.str "links", .tuple [.tuple [.str n1, .str n0, .int 1], .tuple [.str n2, .str n0, .int 1], .tuple [.str n3, .str n0, .int 1], .tuple [.str n4, .str n0, .int 1], .tuple [.str n2, .str n1, .int 1], .tuple [.str n3, .str n1, .int 1], .tuple [.str n4, .str n1, .int 1], .tuple [.str n3, .str n2, .int 1], .tuple [.str n4, .str n2, .int 1], .tuple [.str n4, .str n3, .int 1]])]] = some (.bool false) := by
  have F := nf N
  refine with_of (ms := [.tuple [.str n1, .tuple [.str "a"], .tuple [], .tuple [.str "packed"], .int 9000], .tuple [.str n2, .tuple [.str "a"], .tuple [], .tuple [.str "packed"], .int 9000], .tuple [.str n3, .tuple [.str "a"], .tuple [], .tuple [.str "packed"], .int 9000], .tuple [.str n4, .tuple [.str "a"], .tuple [], .tuple [.str "packed"], .int 9000]]) (p := plD (.str n0) (.tuple [.str n1]) (.tuple []) (.tuple [.str "plain"]) (.int 400) [.tuple [.str n1, .tuple [.str "a"], .tuple [], .tuple [.str "packed"], .int 9000], .tuple [.str n2, .tuple [.str "a"], .tuple [], .tuple [.str "packed"], .int 9000], .tuple [.str n3, .tuple [.str "a"], .tuple [], .tuple [.str "packed"], .int 9000], .tuple [.str n4, .tuple [.str "a"], .tuple [], .tuple [.str "packed"], .int 9000]] (.tuple [.tuple [.str n1, .str n0, .int 1], .tuple [.str n2, .str n0, .int 1], .tuple [.str n3, .str n0, .int 1], .tuple [.str n4, .str n0, .int 1], .tuple [.str n2, .str n1, .int 1], .tuple [.str n3, .str n1, .int 1], .tuple [.str n4, .str n1, .int 1], .tuple [.str n3, .str n2, .int 1], .tuple [.str n4, .str n2, .int 1], .tuple [.str n4, .str n3, .int 1]])) ["more", "links"] rfl (by decide +kernel) rfl rfl rfl rfl rfl ?_ ?_
  · simp [o_plan, o_house, o_link, s_tup, s_lst, s_cons, s_nil, s_int, s_bool, s_none, s_plain, s_packed, s_post, s_a, s_400, s_1, e_elT, ow_plain, ow_packed, f_str, F]
  · simp [e_plan, e_houses, e_house, e_people, e_peopleL, e_lists, e_loh, e_addr, e_addr1, e_names, e_fst, e_str, e_tup, e_links, e_link, e_elT, e_eqv, e_addrOf, e_pair, sort2_iff, w_plain, w_packed, n_a, n_post, p_a, wi, wi_b, wi_n, wi_s, F]
theorem m_0 (N : Nm [n0, n1, n2, n3, n4, n5, n6, n7, n8, n9, na, nb]) : mWith [.list ([n0, n1, n2, n3, n4, n5, n6, n7, n8, n9, na, nb].map PyData.str), .dict [(.str "most", .int 399)]] = some (.bool false) := by
  have F := nf N
  refine with_of (ms := []) (p := plD (.str n0) (.tuple [.str n1]) (.tuple []) (.tuple [.str "plain"]) (.int 399) [] (.tuple [])) ["most"] rfl (by decide +kernel) rfl rfl rfl rfl rfl ?_ ?_
  · simp [o_plan, o_house, o_link, s_tup, s_lst, s_cons, s_nil, s_int, s_bool, s_none, s_plain, s_packed, s_post, s_a, s_400, s_1, e_elT, ow_plain, ow_packed, f_str, F]
  · simp [e_plan, e_houses, e_house, e_people, e_peopleL, e_lists, e_loh, e_addr, e_addr1, e_names, e_fst, e_str, e_tup, e_links, e_link, e_elT, e_eqv, e_addrOf, e_pair, sort2_iff, w_plain, w_packed, n_a, n_post, p_a, wi, wi_b, wi_n, wi_s, F]
theorem m_1 (N : Nm [n0, n1, n2, n3, n4, n5, n6, n7, n8, n9, na, nb]) : mWith [.list ([n0, n1, n2, n3, n4, n5, n6, n7, n8, n9, na, nb].map PyData.str), .dict [(.str "most", .int 400)]] = some (.bool true) := by
  have F := nf N
  refine with_of (ms := []) (p := plD (.str n0) (.tuple [.str n1]) (.tuple []) (.tuple [.str "plain"]) (.int 400) [] (.tuple [])) ["most"] rfl (by decide +kernel) rfl rfl rfl rfl rfl ?_ ?_
  · simp [o_plan, o_house, o_link, s_tup, s_lst, s_cons, s_nil, s_int, s_bool, s_none, s_plain, s_packed, s_post, s_a, s_400, s_1, e_elT, ow_plain, ow_packed, f_str, F]
  · simp [e_plan, e_houses, e_house, e_people, e_peopleL, e_lists, e_loh, e_addr, e_addr1, e_names, e_fst, e_str, e_tup, e_links, e_link, e_elT, e_eqv, e_addrOf, e_pair, sort2_iff, w_plain, w_packed, n_a, n_post, p_a, wi, wi_b, wi_n, wi_s, F]
theorem m_2 (N : Nm [n0, n1, n2, n3, n4, n5, n6, n7, n8, n9, na, nb]) : mWith [.list ([n0, n1, n2, n3, n4, n5, n6, n7, n8, n9, na, nb].map PyData.str), .dict [(.str "most", .int 9000)]] = some (.bool true) := by
  have F := nf N
  refine with_of (ms := []) (p := plD (.str n0) (.tuple [.str n1]) (.tuple []) (.tuple [.str "plain"]) (.int 9000) [] (.tuple [])) ["most"] rfl (by decide +kernel) rfl rfl rfl rfl rfl ?_ ?_
  · simp [o_plan, o_house, o_link, s_tup, s_lst, s_cons, s_nil, s_int, s_bool, s_none, s_plain, s_packed, s_post, s_a, s_400, s_1, e_elT, ow_plain, ow_packed, f_str, F]
  · simp [e_plan, e_houses, e_house, e_people, e_peopleL, e_lists, e_loh, e_addr, e_addr1, e_names, e_fst, e_str, e_tup, e_links, e_link, e_elT, e_eqv, e_addrOf, e_pair, sort2_iff, w_plain, w_packed, n_a, n_post, p_a, wi, wi_b, wi_n, wi_s, F]
theorem m_3 (N : Nm [n0, n1, n2, n3, n4, n5, n6, n7, n8, n9, na, nb]) : mWith [.list ([n0, n1, n2, n3, n4, n5, n6, n7, n8, n9, na, nb].map PyData.str), .dict [(.str "most", .int 9001)]] = some (.bool false) := by
  have F := nf N
  refine with_of (ms := []) (p := plD (.str n0) (.tuple [.str n1]) (.tuple []) (.tuple [.str "plain"]) (.int 9001) [] (.tuple [])) ["most"] rfl (by decide +kernel) rfl rfl rfl rfl rfl ?_ ?_
  · simp [o_plan, o_house, o_link, s_tup, s_lst, s_cons, s_nil, s_int, s_bool, s_none, s_plain, s_packed, s_post, s_a, s_400, s_1, e_elT, ow_plain, ow_packed, f_str, F]
  · simp [e_plan, e_houses, e_house, e_people, e_peopleL, e_lists, e_loh, e_addr, e_addr1, e_names, e_fst, e_str, e_tup, e_links, e_link, e_elT, e_eqv, e_addrOf, e_pair, sort2_iff, w_plain, w_packed, n_a, n_post, p_a, wi, wi_b, wi_n, wi_s, F]
theorem m_4 (N : Nm [n0, n1, n2, n3, n4, n5, n6, n7, n8, n9, na, nb]) : mWith [.list ([n0, n1, n2, n3, n4, n5, n6, n7, n8, n9, na, nb].map PyData.str), .dict [(.str "most", .int 0)]] = some (.bool false) := by
  have F := nf N
  refine with_of (ms := []) (p := plD (.str n0) (.tuple [.str n1]) (.tuple []) (.tuple [.str "plain"]) (.int 0) [] (.tuple [])) ["most"] rfl (by decide +kernel) rfl rfl rfl rfl rfl ?_ ?_
  · simp [o_plan, o_house, o_link, s_tup, s_lst, s_cons, s_nil, s_int, s_bool, s_none, s_plain, s_packed, s_post, s_a, s_400, s_1, e_elT, ow_plain, ow_packed, f_str, F]
  · simp [e_plan, e_houses, e_house, e_people, e_peopleL, e_lists, e_loh, e_addr, e_addr1, e_names, e_fst, e_str, e_tup, e_links, e_link, e_elT, e_eqv, e_addrOf, e_pair, sort2_iff, w_plain, w_packed, n_a, n_post, p_a, wi, wi_b, wi_n, wi_s, F]
theorem m_5 (N : Nm [n0, n1, n2, n3, n4, n5, n6, n7, n8, n9, na, nb]) : mWith [.list ([n0, n1, n2, n3, n4, n5, n6, n7, n8, n9, na, nb].map PyData.str), .dict [(.str "most", .int (-400))]] = some (.bool false) := by
  have F := nf N
  refine with_of (ms := []) (p := plD (.str n0) (.tuple [.str n1]) (.tuple []) (.tuple [.str "plain"]) (.int (-400)) [] (.tuple [])) ["most"] rfl (by decide +kernel) rfl rfl rfl rfl rfl ?_ ?_
  · simp [o_plan, o_house, o_link, s_tup, s_lst, s_cons, s_nil, s_int, s_bool, s_none, s_plain, s_packed, s_post, s_a, s_400, s_1, e_elT, ow_plain, ow_packed, f_str, F]
  · simp [e_plan, e_houses, e_house, e_people, e_peopleL, e_lists, e_loh, e_addr, e_addr1, e_names, e_fst, e_str, e_tup, e_links, e_link, e_elT, e_eqv, e_addrOf, e_pair, sort2_iff, w_plain, w_packed, n_a, n_post, p_a, wi, wi_b, wi_n, wi_s, F]
theorem m_6 (N : Nm [n0, n1, n2, n3, n4, n5, n6, n7, n8, n9, na, nb]) : mWith [.list ([n0, n1, n2, n3, n4, n5, n6, n7, n8, n9, na, nb].map PyData.str), .dict [(.str "most", .bool true)]] = some (.bool false) := by
  have F := nf N
  refine with_of (ms := []) (p := plD (.str n0) (.tuple [.str n1]) (.tuple []) (.tuple [.str "plain"]) (.bool true) [] (.tuple [])) ["most"] rfl (by decide +kernel) rfl rfl rfl rfl rfl ?_ ?_
  · simp [o_plan, o_house, o_link, s_tup, s_lst, s_cons, s_nil, s_int, s_bool, s_none, s_plain, s_packed, s_post, s_a, s_400, s_1, e_elT, ow_plain, ow_packed, f_str, F]
  · simp [e_plan, e_houses, e_house, e_people, e_peopleL, e_lists, e_loh, e_addr, e_addr1, e_names, e_fst, e_str, e_tup, e_links, e_link, e_elT, e_eqv, e_addrOf, e_pair, sort2_iff, w_plain, w_packed, n_a, n_post, p_a, wi, wi_b, wi_n, wi_s, F]
theorem m_7 (N : Nm [n0, n1, n2, n3, n4, n5, n6, n7, n8, n9, na, nb]) : mWith [.list ([n0, n1, n2, n3, n4, n5, n6, n7, n8, n9, na, nb].map PyData.str), .dict [(.str "most", .none)]] = some (.bool false) := by
  have F := nf N
  refine with_of (ms := []) (p := plD (.str n0) (.tuple [.str n1]) (.tuple []) (.tuple [.str "plain"]) (.none) [] (.tuple [])) ["most"] rfl (by decide +kernel) rfl rfl rfl rfl rfl ?_ ?_
  · simp [o_plan, o_house, o_link, s_tup, s_lst, s_cons, s_nil, s_int, s_bool, s_none, s_plain, s_packed, s_post, s_a, s_400, s_1, e_elT, ow_plain, ow_packed, f_str, F]
  · simp [e_plan, e_houses, e_house, e_people, e_peopleL, e_lists, e_loh, e_addr, e_addr1, e_names, e_fst, e_str, e_tup, e_links, e_link, e_elT, e_eqv, e_addrOf, e_pair, sort2_iff, w_plain, w_packed, n_a, n_post, p_a, wi, wi_b, wi_n, wi_s, F]
theorem m_8 (N : Nm [n0, n1, n2, n3, n4, n5, n6, n7, n8, n9, na, nb]) : mWith [.list ([n0, n1, n2, n3, n4, n5, n6, n7, n8, n9, na, nb].map PyData.str), .dict [(.str "most", .str "400")]] = some (.bool false) := by
  have F := nf N
  refine with_of (ms := []) (p := plD (.str n0) (.tuple [.str n1]) (.tuple []) (.tuple [.str "plain"]) (.str "400") [] (.tuple [])) ["most"] rfl (by decide +kernel) rfl rfl rfl rfl rfl ?_ ?_
  · simp [o_plan, o_house, o_link, s_tup, s_lst, s_cons, s_nil, s_int, s_bool, s_none, s_plain, s_packed, s_post, s_a, s_400, s_1, e_elT, ow_plain, ow_packed, f_str, F]
  · simp [e_plan, e_houses, e_house, e_people, e_peopleL, e_lists, e_loh, e_addr, e_addr1, e_names, e_fst, e_str, e_tup, e_links, e_link, e_elT, e_eqv, e_addrOf, e_pair, sort2_iff, w_plain, w_packed, n_a, n_post, p_a, wi, wi_b, wi_n, wi_s, F]
theorem d_0 (N : Nm [n0, n1, n2, n3, n4, n5, n6, n7, n8, n9, na, nb]) : mWith [.list ([n0, n1, n2, n3, n4, n5, n6, n7, n8, n9, na, nb].map PyData.str), .dict [(.str "more", .tuple [.tuple [.str n2, .tuple [.str "a"], .tuple [], .tuple [.str "packed"], .int 9000]]), (.str "links", .tuple [.tuple [.str n0, .str n2, .int 0]])]] = some (.bool false) := by
  have F := nf N
  refine with_of (ms := [.tuple [.str n2, .tuple [.str "a"], .tuple [], .tuple [.str "packed"], .int 9000]]) (p := plD (.str n0) (.tuple [.str n1]) (.tuple []) (.tuple [.str "plain"]) (.int 400) [.tuple [.str n2, .tuple [.str "a"], .tuple [], .tuple [.str "packed"], .int 9000]] (.tuple [.tuple [.str n0, .str n2, .int 0]])) ["more", "links"] rfl (by decide +kernel) rfl rfl rfl rfl rfl ?_ ?_
  · simp [o_plan, o_house, o_link, s_tup, s_lst, s_cons, s_nil, s_int, s_bool, s_none, s_plain, s_packed, s_post, s_a, s_400, s_1, e_elT, ow_plain, ow_packed, f_str, F]
  · simp [e_plan, e_houses, e_house, e_people, e_peopleL, e_lists, e_loh, e_addr, e_addr1, e_names, e_fst, e_str, e_tup, e_links, e_link, e_elT, e_eqv, e_addrOf, e_pair, sort2_iff, w_plain, w_packed, n_a, n_post, p_a, wi, wi_b, wi_n, wi_s, F]
theorem d_1 (N : Nm [n0, n1, n2, n3, n4, n5, n6, n7, n8, n9, na, nb]) : mWith [.list ([n0, n1, n2, n3, n4, n5, n6, n7, n8, n9, na, nb].map PyData.str), .dict [(.str "more", .tuple [.tuple [.str n2, .tuple [.str "a"], .tuple [], .tuple [.str "packed"], .int 9000]]), (.str "links", .tuple [.tuple [.str n0, .str n2, .int 1]])]] = some (.bool true) := by
  have F := nf N
  refine with_of (ms := [.tuple [.str n2, .tuple [.str "a"], .tuple [], .tuple [.str "packed"], .int 9000]]) (p := plD (.str n0) (.tuple [.str n1]) (.tuple []) (.tuple [.str "plain"]) (.int 400) [.tuple [.str n2, .tuple [.str "a"], .tuple [], .tuple [.str "packed"], .int 9000]] (.tuple [.tuple [.str n0, .str n2, .int 1]])) ["more", "links"] rfl (by decide +kernel) rfl rfl rfl rfl rfl ?_ ?_
  · simp [o_plan, o_house, o_link, s_tup, s_lst, s_cons, s_nil, s_int, s_bool, s_none, s_plain, s_packed, s_post, s_a, s_400, s_1, e_elT, ow_plain, ow_packed, f_str, F]
  · simp [e_plan, e_houses, e_house, e_people, e_peopleL, e_lists, e_loh, e_addr, e_addr1, e_names, e_fst, e_str, e_tup, e_links, e_link, e_elT, e_eqv, e_addrOf, e_pair, sort2_iff, w_plain, w_packed, n_a, n_post, p_a, wi, wi_b, wi_n, wi_s, F]
theorem d_2 (N : Nm [n0, n1, n2, n3, n4, n5, n6, n7, n8, n9, na, nb]) : mWith [.list ([n0, n1, n2, n3, n4, n5, n6, n7, n8, n9, na, nb].map PyData.str), .dict [(.str "more", .tuple [.tuple [.str n2, .tuple [.str "a"], .tuple [], .tuple [.str "packed"], .int 9000]]), (.str "links", .tuple [.tuple [.str n0, .str n2, .int 4]])]] = some (.bool true) := by
  have F := nf N
  refine with_of (ms := [.tuple [.str n2, .tuple [.str "a"], .tuple [], .tuple [.str "packed"], .int 9000]]) (p := plD (.str n0) (.tuple [.str n1]) (.tuple []) (.tuple [.str "plain"]) (.int 400) [.tuple [.str n2, .tuple [.str "a"], .tuple [], .tuple [.str "packed"], .int 9000]] (.tuple [.tuple [.str n0, .str n2, .int 4]])) ["more", "links"] rfl (by decide +kernel) rfl rfl rfl rfl rfl ?_ ?_
  · simp [o_plan, o_house, o_link, s_tup, s_lst, s_cons, s_nil, s_int, s_bool, s_none, s_plain, s_packed, s_post, s_a, s_400, s_1, e_elT, ow_plain, ow_packed, f_str, F]
  · simp [e_plan, e_houses, e_house, e_people, e_peopleL, e_lists, e_loh, e_addr, e_addr1, e_names, e_fst, e_str, e_tup, e_links, e_link, e_elT, e_eqv, e_addrOf, e_pair, sort2_iff, w_plain, w_packed, n_a, n_post, p_a, wi, wi_b, wi_n, wi_s, F]
theorem d_3 (N : Nm [n0, n1, n2, n3, n4, n5, n6, n7, n8, n9, na, nb]) : mWith [.list ([n0, n1, n2, n3, n4, n5, n6, n7, n8, n9, na, nb].map PyData.str), .dict [(.str "more", .tuple [.tuple [.str n2, .tuple [.str "a"], .tuple [], .tuple [.str "packed"], .int 9000]]), (.str "links", .tuple [.tuple [.str n0, .str n2, .int 5]])]] = some (.bool false) := by
  have F := nf N
  refine with_of (ms := [.tuple [.str n2, .tuple [.str "a"], .tuple [], .tuple [.str "packed"], .int 9000]]) (p := plD (.str n0) (.tuple [.str n1]) (.tuple []) (.tuple [.str "plain"]) (.int 400) [.tuple [.str n2, .tuple [.str "a"], .tuple [], .tuple [.str "packed"], .int 9000]] (.tuple [.tuple [.str n0, .str n2, .int 5]])) ["more", "links"] rfl (by decide +kernel) rfl rfl rfl rfl rfl ?_ ?_
  · simp [o_plan, o_house, o_link, s_tup, s_lst, s_cons, s_nil, s_int, s_bool, s_none, s_plain, s_packed, s_post, s_a, s_400, s_1, e_elT, ow_plain, ow_packed, f_str, F]
  · simp [e_plan, e_houses, e_house, e_people, e_peopleL, e_lists, e_loh, e_addr, e_addr1, e_names, e_fst, e_str, e_tup, e_links, e_link, e_elT, e_eqv, e_addrOf, e_pair, sort2_iff, w_plain, w_packed, n_a, n_post, p_a, wi, wi_b, wi_n, wi_s, F]
theorem d_4 (N : Nm [n0, n1, n2, n3, n4, n5, n6, n7, n8, n9, na, nb]) : mWith [.list ([n0, n1, n2, n3, n4, n5, n6, n7, n8, n9, na, nb].map PyData.str), .dict [(.str "more", .tuple [.tuple [.str n2, .tuple [.str "a"], .tuple [], .tuple [.str "packed"], .int 9000]]), (.str "links", .tuple [.tuple [.str n0, .str n2, .int (-1)]])]] = some (.bool false) := by
  have F := nf N
  refine with_of (ms := [.tuple [.str n2, .tuple [.str "a"], .tuple [], .tuple [.str "packed"], .int 9000]]) (p := plD (.str n0) (.tuple [.str n1]) (.tuple []) (.tuple [.str "plain"]) (.int 400) [.tuple [.str n2, .tuple [.str "a"], .tuple [], .tuple [.str "packed"], .int 9000]] (.tuple [.tuple [.str n0, .str n2, .int (-1)]])) ["more", "links"] rfl (by decide +kernel) rfl rfl rfl rfl rfl ?_ ?_
  · simp [o_plan, o_house, o_link, s_tup, s_lst, s_cons, s_nil, s_int, s_bool, s_none, s_plain, s_packed, s_post, s_a, s_400, s_1, e_elT, ow_plain, ow_packed, f_str, F]
  · simp [e_plan, e_houses, e_house, e_people, e_peopleL, e_lists, e_loh, e_addr, e_addr1, e_names, e_fst, e_str, e_tup, e_links, e_link, e_elT, e_eqv, e_addrOf, e_pair, sort2_iff, w_plain, w_packed, n_a, n_post, p_a, wi, wi_b, wi_n, wi_s, F]
theorem d_5 (N : Nm [n0, n1, n2, n3, n4, n5, n6, n7, n8, n9, na, nb]) : mWith [.list ([n0, n1, n2, n3, n4, n5, n6, n7, n8, n9, na, nb].map PyData.str), .dict [(.str "more", .tuple [.tuple [.str n2, .tuple [.str "a"], .tuple [], .tuple [.str "packed"], .int 9000]]), (.str "links", .tuple [.tuple [.str n0, .str n2, .bool true]])]] = some (.bool false) := by
  have F := nf N
  refine with_of (ms := [.tuple [.str n2, .tuple [.str "a"], .tuple [], .tuple [.str "packed"], .int 9000]]) (p := plD (.str n0) (.tuple [.str n1]) (.tuple []) (.tuple [.str "plain"]) (.int 400) [.tuple [.str n2, .tuple [.str "a"], .tuple [], .tuple [.str "packed"], .int 9000]] (.tuple [.tuple [.str n0, .str n2, .bool true]])) ["more", "links"] rfl (by decide +kernel) rfl rfl rfl rfl rfl ?_ ?_
  · simp [o_plan, o_house, o_link, s_tup, s_lst, s_cons, s_nil, s_int, s_bool, s_none, s_plain, s_packed, s_post, s_a, s_400, s_1, e_elT, ow_plain, ow_packed, f_str, F]
  · simp [e_plan, e_houses, e_house, e_people, e_peopleL, e_lists, e_loh, e_addr, e_addr1, e_names, e_fst, e_str, e_tup, e_links, e_link, e_elT, e_eqv, e_addrOf, e_pair, sort2_iff, w_plain, w_packed, n_a, n_post, p_a, wi, wi_b, wi_n, wi_s, F]
theorem d_6 (N : Nm [n0, n1, n2, n3, n4, n5, n6, n7, n8, n9, na, nb]) : mWith [.list ([n0, n1, n2, n3, n4, n5, n6, n7, n8, n9, na, nb].map PyData.str), .dict [(.str "more", .tuple [.tuple [.str n2, .tuple [.str "a"], .tuple [], .tuple [.str "packed"], .int 9000]]), (.str "links", .tuple [.tuple [.str n0, .str n2, .none]])]] = some (.bool false) := by
  have F := nf N
  refine with_of (ms := [.tuple [.str n2, .tuple [.str "a"], .tuple [], .tuple [.str "packed"], .int 9000]]) (p := plD (.str n0) (.tuple [.str n1]) (.tuple []) (.tuple [.str "plain"]) (.int 400) [.tuple [.str n2, .tuple [.str "a"], .tuple [], .tuple [.str "packed"], .int 9000]] (.tuple [.tuple [.str n0, .str n2, .none]])) ["more", "links"] rfl (by decide +kernel) rfl rfl rfl rfl rfl ?_ ?_
  · simp [o_plan, o_house, o_link, s_tup, s_lst, s_cons, s_nil, s_int, s_bool, s_none, s_plain, s_packed, s_post, s_a, s_400, s_1, e_elT, ow_plain, ow_packed, f_str, F]
  · simp [e_plan, e_houses, e_house, e_people, e_peopleL, e_lists, e_loh, e_addr, e_addr1, e_names, e_fst, e_str, e_tup, e_links, e_link, e_elT, e_eqv, e_addrOf, e_pair, sort2_iff, w_plain, w_packed, n_a, n_post, p_a, wi, wi_b, wi_n, wi_s, F]
theorem d_7 (N : Nm [n0, n1, n2, n3, n4, n5, n6, n7, n8, n9, na, nb]) : mWith [.list ([n0, n1, n2, n3, n4, n5, n6, n7, n8, n9, na, nb].map PyData.str), .dict [(.str "more", .tuple [.tuple [.str n2, .tuple [.str "a"], .tuple [], .tuple [.str "packed"], .int 9000]]), (.str "links", .tuple [.tuple [.str n0, .str n2, .str "1"]])]] = some (.bool false) := by
  have F := nf N
  refine with_of (ms := [.tuple [.str n2, .tuple [.str "a"], .tuple [], .tuple [.str "packed"], .int 9000]]) (p := plD (.str n0) (.tuple [.str n1]) (.tuple []) (.tuple [.str "plain"]) (.int 400) [.tuple [.str n2, .tuple [.str "a"], .tuple [], .tuple [.str "packed"], .int 9000]] (.tuple [.tuple [.str n0, .str n2, .str "1"]])) ["more", "links"] rfl (by decide +kernel) rfl rfl rfl rfl rfl ?_ ?_
  · simp [o_plan, o_house, o_link, s_tup, s_lst, s_cons, s_nil, s_int, s_bool, s_none, s_plain, s_packed, s_post, s_a, s_400, s_1, e_elT, ow_plain, ow_packed, f_str, F]
  · simp [e_plan, e_houses, e_house, e_people, e_peopleL, e_lists, e_loh, e_addr, e_addr1, e_names, e_fst, e_str, e_tup, e_links, e_link, e_elT, e_eqv, e_addrOf, e_pair, sort2_iff, w_plain, w_packed, n_a, n_post, p_a, wi, wi_b, wi_n, wi_s, F]
theorem w_0 (N : Nm [n0, n1, n2, n3, n4, n5, n6, n7, n8, n9, na, nb]) : mWith [.list ([n0, n1, n2, n3, n4, n5, n6, n7, n8, n9, na, nb].map PyData.str), .dict [(.str "ways", .tuple [.str "plain"])]] = some (.bool true) := by
  have F := nf N
  refine with_of (ms := []) (p := plD (.str n0) (.tuple [.str n1]) (.tuple []) (.tuple [.str "plain"]) (.int 400) [] (.tuple [])) ["ways"] rfl (by decide +kernel) rfl rfl rfl rfl rfl ?_ ?_
  · have w1 : smD (.tuple [.str "plain"]) = true := by decide +kernel
    have w2 : okWays (.tuple [.str "plain"]) = true := by decide +kernel
    rw [o_plan, e_elT, e_elT, List.all_cons, o_house, s_tup, s_cons, s_tup, s_cons, s_tup, s_cons, s_cons, s_cons, s_cons, w1, w2]
    simp [o_plan, o_house, o_link, s_tup, s_lst, s_cons, s_nil, s_int, s_bool, s_none, s_plain, s_packed, s_post, s_a, s_400, s_1, e_elT, ow_plain, ow_packed, f_str, F]
  · have w3 : isWaysD (.tuple [.str "plain"]) = true := by decide +kernel
    rw [e_plan, e_houses, List.all_cons, e_house, w3]
    simp [e_plan, e_houses, e_people, e_lists, e_loh, e_addr, e_names, e_fst, e_str, e_tup, e_links, e_link, e_elT, e_eqv, e_addrOf, e_pair, sort2_iff, wi, wi_b, wi_n, wi_s, F]
theorem w_1 (N : Nm [n0, n1, n2, n3, n4, n5, n6, n7, n8, n9, na, nb]) : mWith [.list ([n0, n1, n2, n3, n4, n5, n6, n7, n8, n9, na, nb].map PyData.str), .dict [(.str "ways", .tuple [.str "packed"])]] = some (.bool true) := by
  have F := nf N
  refine with_of (ms := []) (p := plD (.str n0) (.tuple [.str n1]) (.tuple []) (.tuple [.str "packed"]) (.int 400) [] (.tuple [])) ["ways"] rfl (by decide +kernel) rfl rfl rfl rfl rfl ?_ ?_
  · have w1 : smD (.tuple [.str "packed"]) = true := by decide +kernel
    have w2 : okWays (.tuple [.str "packed"]) = true := by decide +kernel
    rw [o_plan, e_elT, e_elT, List.all_cons, o_house, s_tup, s_cons, s_tup, s_cons, s_tup, s_cons, s_cons, s_cons, s_cons, w1, w2]
    simp [o_plan, o_house, o_link, s_tup, s_lst, s_cons, s_nil, s_int, s_bool, s_none, s_plain, s_packed, s_post, s_a, s_400, s_1, e_elT, ow_plain, ow_packed, f_str, F]
  · have w3 : isWaysD (.tuple [.str "packed"]) = true := by decide +kernel
    rw [e_plan, e_houses, List.all_cons, e_house, w3]
    simp [e_plan, e_houses, e_people, e_lists, e_loh, e_addr, e_names, e_fst, e_str, e_tup, e_links, e_link, e_elT, e_eqv, e_addrOf, e_pair, sort2_iff, wi, wi_b, wi_n, wi_s, F]
theorem w_2 (N : Nm [n0, n1, n2, n3, n4, n5, n6, n7, n8, n9, na, nb]) : mWith [.list ([n0, n1, n2, n3, n4, n5, n6, n7, n8, n9, na, nb].map PyData.str), .dict [(.str "ways", .tuple [.str "plain", .str "packed"])]] = some (.bool true) := by
  have F := nf N
  refine with_of (ms := []) (p := plD (.str n0) (.tuple [.str n1]) (.tuple []) (.tuple [.str "plain", .str "packed"]) (.int 400) [] (.tuple [])) ["ways"] rfl (by decide +kernel) rfl rfl rfl rfl rfl ?_ ?_
  · have w1 : smD (.tuple [.str "plain", .str "packed"]) = true := by decide +kernel
    have w2 : okWays (.tuple [.str "plain", .str "packed"]) = true := by decide +kernel
    rw [o_plan, e_elT, e_elT, List.all_cons, o_house, s_tup, s_cons, s_tup, s_cons, s_tup, s_cons, s_cons, s_cons, s_cons, w1, w2]
    simp [o_plan, o_house, o_link, s_tup, s_lst, s_cons, s_nil, s_int, s_bool, s_none, s_plain, s_packed, s_post, s_a, s_400, s_1, e_elT, ow_plain, ow_packed, f_str, F]
  · have w3 : isWaysD (.tuple [.str "plain", .str "packed"]) = true := by decide +kernel
    rw [e_plan, e_houses, List.all_cons, e_house, w3]
    simp [e_plan, e_houses, e_people, e_lists, e_loh, e_addr, e_names, e_fst, e_str, e_tup, e_links, e_link, e_elT, e_eqv, e_addrOf, e_pair, sort2_iff, wi, wi_b, wi_n, wi_s, F]
theorem w_3 (N : Nm [n0, n1, n2, n3, n4, n5, n6, n7, n8, n9, na, nb]) : mWith [.list ([n0, n1, n2, n3, n4, n5, n6, n7, n8, n9, na, nb].map PyData.str), .dict [(.str "ways", .tuple [.str "plain", .str "marked", .str "packed"])]] = some (.bool true) := by
  have F := nf N
  refine with_of (ms := []) (p := plD (.str n0) (.tuple [.str n1]) (.tuple []) (.tuple [.str "plain", .str "marked", .str "packed"]) (.int 400) [] (.tuple [])) ["ways"] rfl (by decide +kernel) rfl rfl rfl rfl rfl ?_ ?_
  · have w1 : smD (.tuple [.str "plain", .str "marked", .str "packed"]) = true := by decide +kernel
    have w2 : okWays (.tuple [.str "plain", .str "marked", .str "packed"]) = true := by decide +kernel
    rw [o_plan, e_elT, e_elT, List.all_cons, o_house, s_tup, s_cons, s_tup, s_cons, s_tup, s_cons, s_cons, s_cons, s_cons, w1, w2]
    simp [o_plan, o_house, o_link, s_tup, s_lst, s_cons, s_nil, s_int, s_bool, s_none, s_plain, s_packed, s_post, s_a, s_400, s_1, e_elT, ow_plain, ow_packed, f_str, F]
  · have w3 : isWaysD (.tuple [.str "plain", .str "marked", .str "packed"]) = true := by decide +kernel
    rw [e_plan, e_houses, List.all_cons, e_house, w3]
    simp [e_plan, e_houses, e_people, e_lists, e_loh, e_addr, e_names, e_fst, e_str, e_tup, e_links, e_link, e_elT, e_eqv, e_addrOf, e_pair, sort2_iff, wi, wi_b, wi_n, wi_s, F]
theorem w_4 (N : Nm [n0, n1, n2, n3, n4, n5, n6, n7, n8, n9, na, nb]) : mWith [.list ([n0, n1, n2, n3, n4, n5, n6, n7, n8, n9, na, nb].map PyData.str), .dict [(.str "ways", .tuple [.str "marked", .str "packed"])]] = some (.bool true) := by
  have F := nf N
  refine with_of (ms := []) (p := plD (.str n0) (.tuple [.str n1]) (.tuple []) (.tuple [.str "marked", .str "packed"]) (.int 400) [] (.tuple [])) ["ways"] rfl (by decide +kernel) rfl rfl rfl rfl rfl ?_ ?_
  · have w1 : smD (.tuple [.str "marked", .str "packed"]) = true := by decide +kernel
    have w2 : okWays (.tuple [.str "marked", .str "packed"]) = true := by decide +kernel
    rw [o_plan, e_elT, e_elT, List.all_cons, o_house, s_tup, s_cons, s_tup, s_cons, s_tup, s_cons, s_cons, s_cons, s_cons, w1, w2]
    simp [o_plan, o_house, o_link, s_tup, s_lst, s_cons, s_nil, s_int, s_bool, s_none, s_plain, s_packed, s_post, s_a, s_400, s_1, e_elT, ow_plain, ow_packed, f_str, F]
  · have w3 : isWaysD (.tuple [.str "marked", .str "packed"]) = true := by decide +kernel
    rw [e_plan, e_houses, List.all_cons, e_house, w3]
    simp [e_plan, e_houses, e_people, e_lists, e_loh, e_addr, e_names, e_fst, e_str, e_tup, e_links, e_link, e_elT, e_eqv, e_addrOf, e_pair, sort2_iff, wi, wi_b, wi_n, wi_s, F]
theorem w_5 (N : Nm [n0, n1, n2, n3, n4, n5, n6, n7, n8, n9, na, nb]) : mWith [.list ([n0, n1, n2, n3, n4, n5, n6, n7, n8, n9, na, nb].map PyData.str), .dict [(.str "ways", .tuple [])]] = some (.bool false) := by
  have F := nf N
  refine with_of (ms := []) (p := plD (.str n0) (.tuple [.str n1]) (.tuple []) (.tuple []) (.int 400) [] (.tuple [])) ["ways"] rfl (by decide +kernel) rfl rfl rfl rfl rfl ?_ ?_
  · have w1 : smD (.tuple []) = true := by decide +kernel
    have w2 : okWays (.tuple []) = true := by decide +kernel
    rw [o_plan, e_elT, e_elT, List.all_cons, o_house, s_tup, s_cons, s_tup, s_cons, s_tup, s_cons, s_cons, s_cons, s_cons, w1, w2]
    simp [o_plan, o_house, o_link, s_tup, s_lst, s_cons, s_nil, s_int, s_bool, s_none, s_plain, s_packed, s_post, s_a, s_400, s_1, e_elT, ow_plain, ow_packed, f_str, F]
  · have w3 : isWaysD (.tuple []) = false := by decide +kernel
    rw [e_plan, e_houses, List.all_cons, e_house, w3]
    simp [e_plan, e_houses, e_people, e_lists, e_loh, e_addr, e_names, e_fst, e_str, e_tup, e_links, e_link, e_elT, e_eqv, e_addrOf, e_pair, sort2_iff, wi, wi_b, wi_n, wi_s, F]
theorem w_6 (N : Nm [n0, n1, n2, n3, n4, n5, n6, n7, n8, n9, na, nb]) : mWith [.list ([n0, n1, n2, n3, n4, n5, n6, n7, n8, n9, na, nb].map PyData.str), .dict [(.str "ways", .tuple [.str "packed", .str "plain"])]] = some (.bool false) := by
  have F := nf N
  refine with_of (ms := []) (p := plD (.str n0) (.tuple [.str n1]) (.tuple []) (.tuple [.str "packed", .str "plain"]) (.int 400) [] (.tuple [])) ["ways"] rfl (by decide +kernel) rfl rfl rfl rfl rfl ?_ ?_
  · have w1 : smD (.tuple [.str "packed", .str "plain"]) = true := by decide +kernel
    have w2 : okWays (.tuple [.str "packed", .str "plain"]) = true := by decide +kernel
    rw [o_plan, e_elT, e_elT, List.all_cons, o_house, s_tup, s_cons, s_tup, s_cons, s_tup, s_cons, s_cons, s_cons, s_cons, w1, w2]
    simp [o_plan, o_house, o_link, s_tup, s_lst, s_cons, s_nil, s_int, s_bool, s_none, s_plain, s_packed, s_post, s_a, s_400, s_1, e_elT, ow_plain, ow_packed, f_str, F]
  · have w3 : isWaysD (.tuple [.str "packed", .str "plain"]) = false := by decide +kernel
    rw [e_plan, e_houses, List.all_cons, e_house, w3]
    simp [e_plan, e_houses, e_people, e_lists, e_loh, e_addr, e_names, e_fst, e_str, e_tup, e_links, e_link, e_elT, e_eqv, e_addrOf, e_pair, sort2_iff, wi, wi_b, wi_n, wi_s, F]
theorem w_7 (N : Nm [n0, n1, n2, n3, n4, n5, n6, n7, n8, n9, na, nb]) : mWith [.list ([n0, n1, n2, n3, n4, n5, n6, n7, n8, n9, na, nb].map PyData.str), .dict [(.str "ways", .tuple [.str "plain", .str "plain"])]] = some (.bool false) := by
  have F := nf N
  refine with_of (ms := []) (p := plD (.str n0) (.tuple [.str n1]) (.tuple []) (.tuple [.str "plain", .str "plain"]) (.int 400) [] (.tuple [])) ["ways"] rfl (by decide +kernel) rfl rfl rfl rfl rfl ?_ ?_
  · have w1 : smD (.tuple [.str "plain", .str "plain"]) = true := by decide +kernel
    have w2 : okWays (.tuple [.str "plain", .str "plain"]) = true := by decide +kernel
    rw [o_plan, e_elT, e_elT, List.all_cons, o_house, s_tup, s_cons, s_tup, s_cons, s_tup, s_cons, s_cons, s_cons, s_cons, w1, w2]
    simp [o_plan, o_house, o_link, s_tup, s_lst, s_cons, s_nil, s_int, s_bool, s_none, s_plain, s_packed, s_post, s_a, s_400, s_1, e_elT, ow_plain, ow_packed, f_str, F]
  · have w3 : isWaysD (.tuple [.str "plain", .str "plain"]) = false := by decide +kernel
    rw [e_plan, e_houses, List.all_cons, e_house, w3]
    simp [e_plan, e_houses, e_people, e_lists, e_loh, e_addr, e_names, e_fst, e_str, e_tup, e_links, e_link, e_elT, e_eqv, e_addrOf, e_pair, sort2_iff, wi, wi_b, wi_n, wi_s, F]
theorem w_8 (N : Nm [n0, n1, n2, n3, n4, n5, n6, n7, n8, n9, na, nb]) : mWith [.list ([n0, n1, n2, n3, n4, n5, n6, n7, n8, n9, na, nb].map PyData.str), .dict [(.str "ways", .tuple [.str "Plain"])]] = some (.bool false) := by
  have F := nf N
  refine with_of (ms := []) (p := plD (.str n0) (.tuple [.str n1]) (.tuple []) (.tuple [.str "Plain"]) (.int 400) [] (.tuple [])) ["ways"] rfl (by decide +kernel) rfl rfl rfl rfl rfl ?_ ?_
  · have w1 : smD (.tuple [.str "Plain"]) = true := by decide +kernel
    have w2 : okWays (.tuple [.str "Plain"]) = true := by decide +kernel
    rw [o_plan, e_elT, e_elT, List.all_cons, o_house, s_tup, s_cons, s_tup, s_cons, s_tup, s_cons, s_cons, s_cons, s_cons, w1, w2]
    simp [o_plan, o_house, o_link, s_tup, s_lst, s_cons, s_nil, s_int, s_bool, s_none, s_plain, s_packed, s_post, s_a, s_400, s_1, e_elT, ow_plain, ow_packed, f_str, F]
  · have w3 : isWaysD (.tuple [.str "Plain"]) = false := by decide +kernel
    rw [e_plan, e_houses, List.all_cons, e_house, w3]
    simp [e_plan, e_houses, e_people, e_lists, e_loh, e_addr, e_names, e_fst, e_str, e_tup, e_links, e_link, e_elT, e_eqv, e_addrOf, e_pair, sort2_iff, wi, wi_b, wi_n, wi_s, F]
theorem w_9 (N : Nm [n0, n1, n2, n3, n4, n5, n6, n7, n8, n9, na, nb]) : mWith [.list ([n0, n1, n2, n3, n4, n5, n6, n7, n8, n9, na, nb].map PyData.str), .dict [(.str "ways", .list [.str "plain"])]] = some (.bool false) := by
  have F := nf N
  refine with_of (ms := []) (p := plD (.str n0) (.tuple [.str n1]) (.tuple []) (.list [.str "plain"]) (.int 400) [] (.tuple [])) ["ways"] rfl (by decide +kernel) rfl rfl rfl rfl rfl ?_ ?_
  · have w1 : smD (.list [.str "plain"]) = true := by decide +kernel
    have w2 : okWays (.list [.str "plain"]) = true := by decide +kernel
    rw [o_plan, e_elT, e_elT, List.all_cons, o_house, s_tup, s_cons, s_tup, s_cons, s_tup, s_cons, s_cons, s_cons, s_cons, w1, w2]
    simp [o_plan, o_house, o_link, s_tup, s_lst, s_cons, s_nil, s_int, s_bool, s_none, s_plain, s_packed, s_post, s_a, s_400, s_1, e_elT, ow_plain, ow_packed, f_str, F]
  · have w3 : isWaysD (.list [.str "plain"]) = false := by decide +kernel
    rw [e_plan, e_houses, List.all_cons, e_house, w3]
    simp [e_plan, e_houses, e_people, e_lists, e_loh, e_addr, e_names, e_fst, e_str, e_tup, e_links, e_link, e_elT, e_eqv, e_addrOf, e_pair, sort2_iff, wi, wi_b, wi_n, wi_s, F]
theorem w_10 (N : Nm [n0, n1, n2, n3, n4, n5, n6, n7, n8, n9, na, nb]) : mWith [.list ([n0, n1, n2, n3, n4, n5, n6, n7, n8, n9, na, nb].map PyData.str), .dict [(.str "ways", .str "plain")]] = some (.bool false) := by
  have F := nf N
  refine with_of (ms := []) (p := plD (.str n0) (.tuple [.str n1]) (.tuple []) (.str "plain") (.int 400) [] (.tuple [])) ["ways"] rfl (by decide +kernel) rfl rfl rfl rfl rfl ?_ ?_
  · have w1 : smD (.str "plain") = true := by decide +kernel
    have w2 : okWays (.str "plain") = true := by decide +kernel
    rw [o_plan, e_elT, e_elT, List.all_cons, o_house, s_tup, s_cons, s_tup, s_cons, s_tup, s_cons, s_cons, s_cons, s_cons, w1, w2]
    simp [o_plan, o_house, o_link, s_tup, s_lst, s_cons, s_nil, s_int, s_bool, s_none, s_plain, s_packed, s_post, s_a, s_400, s_1, e_elT, ow_plain, ow_packed, f_str, F]
  · have w3 : isWaysD (.str "plain") = false := by decide +kernel
    rw [e_plan, e_houses, List.all_cons, e_house, w3]
    simp [e_plan, e_houses, e_people, e_lists, e_loh, e_addr, e_names, e_fst, e_str, e_tup, e_links, e_link, e_elT, e_eqv, e_addrOf, e_pair, sort2_iff, wi, wi_b, wi_n, wi_s, F]
theorem w_11 (N : Nm [n0, n1, n2, n3, n4, n5, n6, n7, n8, n9, na, nb]) : mWith [.list ([n0, n1, n2, n3, n4, n5, n6, n7, n8, n9, na, nb].map PyData.str), .dict [(.str "ways", .tuple [.none])]] = some (.bool false) := by
  have F := nf N
  refine with_of (ms := []) (p := plD (.str n0) (.tuple [.str n1]) (.tuple []) (.tuple [.none]) (.int 400) [] (.tuple [])) ["ways"] rfl (by decide +kernel) rfl rfl rfl rfl rfl ?_ ?_
  · have w1 : smD (.tuple [.none]) = true := by decide +kernel
    have w2 : okWays (.tuple [.none]) = true := by decide +kernel
    rw [o_plan, e_elT, e_elT, List.all_cons, o_house, s_tup, s_cons, s_tup, s_cons, s_tup, s_cons, s_cons, s_cons, s_cons, w1, w2]
    simp [o_plan, o_house, o_link, s_tup, s_lst, s_cons, s_nil, s_int, s_bool, s_none, s_plain, s_packed, s_post, s_a, s_400, s_1, e_elT, ow_plain, ow_packed, f_str, F]
  · have w3 : isWaysD (.tuple [.none]) = false := by decide +kernel
    rw [e_plan, e_houses, List.all_cons, e_house, w3]
    simp [e_plan, e_houses, e_people, e_lists, e_loh, e_addr, e_names, e_fst, e_str, e_tup, e_links, e_link, e_elT, e_eqv, e_addrOf, e_pair, sort2_iff, wi, wi_b, wi_n, wi_s, F]
theorem w_12 (N : Nm [n0, n1, n2, n3, n4, n5, n6, n7, n8, n9, na, nb]) : mWith [.list ([n0, n1, n2, n3, n4, n5, n6, n7, n8, n9, na, nb].map PyData.str), .dict [(.str "ways", .tuple [.str "marked", .str "plain"])]] = some (.bool false) := by
  have F := nf N
  refine with_of (ms := []) (p := plD (.str n0) (.tuple [.str n1]) (.tuple []) (.tuple [.str "marked", .str "plain"]) (.int 400) [] (.tuple [])) ["ways"] rfl (by decide +kernel) rfl rfl rfl rfl rfl ?_ ?_
  · have w1 : smD (.tuple [.str "marked", .str "plain"]) = true := by decide +kernel
    have w2 : okWays (.tuple [.str "marked", .str "plain"]) = true := by decide +kernel
    rw [o_plan, e_elT, e_elT, List.all_cons, o_house, s_tup, s_cons, s_tup, s_cons, s_tup, s_cons, s_cons, s_cons, s_cons, w1, w2]
    simp [o_plan, o_house, o_link, s_tup, s_lst, s_cons, s_nil, s_int, s_bool, s_none, s_plain, s_packed, s_post, s_a, s_400, s_1, e_elT, ow_plain, ow_packed, f_str, F]
  · have w3 : isWaysD (.tuple [.str "marked", .str "plain"]) = false := by decide +kernel
    rw [e_plan, e_houses, List.all_cons, e_house, w3]
    simp [e_plan, e_houses, e_people, e_lists, e_loh, e_addr, e_names, e_fst, e_str, e_tup, e_links, e_link, e_elT, e_eqv, e_addrOf, e_pair, sort2_iff, wi, wi_b, wi_n, wi_s, F]
theorem a_0 (N : Nm [n0, n1, n2, n3, n4, n5, n6, n7, n8, n9, na, nb]) : mWith [.list ([n0, n1, n2, n3, n4, n5, n6, n7, n8, n9, na, nb].map PyData.str), .dict [(.str "folk", .tuple [.str n1, .str n2, .str n1])]] = some (.bool false) := by
  have F := nf N
  refine with_of (ms := []) (p := plD (.str n0) (.tuple [.str n1, .str n2, .str n1]) (.tuple []) (.tuple [.str "plain"]) (.int 400) [] (.tuple [])) ["folk"] rfl (by decide +kernel) rfl rfl rfl rfl rfl ?_ ?_
  · simp [o_plan, o_house, o_link, s_tup, s_lst, s_cons, s_nil, s_int, s_bool, s_none, s_plain, s_packed, s_post, s_a, s_400, s_1, e_elT, ow_plain, ow_packed, f_str, F]
  · simp [e_plan, e_houses, e_house, e_people, e_peopleL, e_lists, e_loh, e_addr, e_addr1, e_names, e_fst, e_str, e_tup, e_links, e_link, e_elT, e_eqv, e_addrOf, e_pair, sort2_iff, w_plain, w_packed, n_a, n_post, p_a, wi, wi_b, wi_n, wi_s, F]
theorem a_1 (N : Nm [n0, n1, n2, n3, n4, n5, n6, n7, n8, n9, na, nb]) : mWith [.list ([n0, n1, n2, n3, n4, n5, n6, n7, n8, n9, na, nb].map PyData.str), .dict [(.str "folk", .tuple [.str n1, .str "post"])]] = some (.bool false) := by
  have F := nf N
  refine with_of (ms := []) (p := plD (.str n0) (.tuple [.str n1, .str "post"]) (.tuple []) (.tuple [.str "plain"]) (.int 400) [] (.tuple [])) ["folk"] rfl (by decide +kernel) rfl rfl rfl rfl rfl ?_ ?_
  · simp [o_plan, o_house, o_link, s_tup, s_lst, s_cons, s_nil, s_int, s_bool, s_none, s_plain, s_packed, s_post, s_a, s_400, s_1, e_elT, ow_plain, ow_packed, f_str, F]
  · simp [e_plan, e_houses, e_house, e_people, e_peopleL, e_lists, e_loh, e_addr, e_addr1, e_names, e_fst, e_str, e_tup, e_links, e_link, e_elT, e_eqv, e_addrOf, e_pair, sort2_iff, w_plain, w_packed, n_a, n_post, p_a, wi, wi_b, wi_n, wi_s, F]
theorem a_2 (N : Nm [n0, n1, n2, n3, n4, n5, n6, n7, n8, n9, na, nb]) : mWith [.list ([n0, n1, n2, n3, n4, n5, n6, n7, n8, n9, na, nb].map PyData.str), .dict [(.str "lists", .tuple [.tuple [.str n1, .tuple [.tuple [.str n1, .str n0]]]])]] = some (.bool false) := by
  have F := nf N
  refine with_of (ms := []) (p := plD (.str n0) (.tuple [.str n1]) (.tuple [.tuple [.str n1, .tuple [.tuple [.str n1, .str n0]]]]) (.tuple [.str "plain"]) (.int 400) [] (.tuple [])) ["lists"] rfl (by decide +kernel) rfl rfl rfl rfl rfl ?_ ?_
  · simp [o_plan, o_house, o_link, s_tup, s_lst, s_cons, s_nil, s_int, s_bool, s_none, s_plain, s_packed, s_post, s_a, s_400, s_1, e_elT, ow_plain, ow_packed, f_str, F]
  · simp [e_plan, e_houses, e_house, e_people, e_peopleL, e_lists, e_loh, e_addr, e_addr1, e_names, e_fst, e_str, e_tup, e_links, e_link, e_elT, e_eqv, e_addrOf, e_pair, sort2_iff, w_plain, w_packed, n_a, n_post, p_a, wi, wi_b, wi_n, wi_s, F]
theorem a_3 (N : Nm [n0, n1, n2, n3, n4, n5, n6, n7, n8, n9, na, nb]) : mWith [.list ([n0, n1, n2, n3, n4, n5, n6, n7, n8, n9, na, nb].map PyData.str), .dict [(.str "lists", .tuple [.tuple [.str n2, .tuple [.tuple [.str n1, .str n0]]], .tuple [.str n2, .tuple [.tuple [.str n1, .str n0]]]])]] = some (.bool false) := by
  have F := nf N
  refine with_of (ms := []) (p := plD (.str n0) (.tuple [.str n1]) (.tuple [.tuple [.str n2, .tuple [.tuple [.str n1, .str n0]]], .tuple [.str n2, .tuple [.tuple [.str n1, .str n0]]]]) (.tuple [.str "plain"]) (.int 400) [] (.tuple [])) ["lists"] rfl (by decide +kernel) rfl rfl rfl rfl rfl ?_ ?_
  · simp [o_plan, o_house, o_link, s_tup, s_lst, s_cons, s_nil, s_int, s_bool, s_none, s_plain, s_packed, s_post, s_a, s_400, s_1, e_elT, ow_plain, ow_packed, f_str, F]
  · simp [e_plan, e_houses, e_house, e_people, e_peopleL, e_lists, e_loh, e_addr, e_addr1, e_names, e_fst, e_str, e_tup, e_links, e_link, e_elT, e_eqv, e_addrOf, e_pair, sort2_iff, w_plain, w_packed, n_a, n_post, p_a, wi, wi_b, wi_n, wi_s, F]
theorem a_4 (N : Nm [n0, n1, n2, n3, n4, n5, n6, n7, n8, n9, na, nb]) : mWith [.list ([n0, n1, n2, n3, n4, n5, n6, n7, n8, n9, na, nb].map PyData.str), .dict [(.str "lists", .tuple [.tuple [.str "post", .tuple [.tuple [.str n1, .str n0]]]])]] = some (.bool false) := by
  have F := nf N
  refine with_of (ms := []) (p := plD (.str n0) (.tuple [.str n1]) (.tuple [.tuple [.str "post", .tuple [.tuple [.str n1, .str n0]]]]) (.tuple [.str "plain"]) (.int 400) [] (.tuple [])) ["lists"] rfl (by decide +kernel) rfl rfl rfl rfl rfl ?_ ?_
  · simp [o_plan, o_house, o_link, s_tup, s_lst, s_cons, s_nil, s_int, s_bool, s_none, s_plain, s_packed, s_post, s_a, s_400, s_1, e_elT, ow_plain, ow_packed, f_str, F]
  · simp [e_plan, e_houses, e_house, e_people, e_peopleL, e_lists, e_loh, e_addr, e_addr1, e_names, e_fst, e_str, e_tup, e_links, e_link, e_elT, e_eqv, e_addrOf, e_pair, sort2_iff, w_plain, w_packed, n_a, n_post, p_a, wi, wi_b, wi_n, wi_s, F]
theorem a_5 (N : Nm [n0, n1, n2, n3, n4, n5, n6, n7, n8, n9, na, nb]) : mWith [.list ([n0, n1, n2, n3, n4, n5, n6, n7, n8, n9, na, nb].map PyData.str), .dict [(.str "lists", .tuple [.tuple [.str n2, .tuple [.tuple [.str n1, .str n0], .tuple [.str n1, .str n0]]]])]] = some (.bool false) := by
  have F := nf N
  refine with_of (ms := []) (p := plD (.str n0) (.tuple [.str n1]) (.tuple [.tuple [.str n2, .tuple [.tuple [.str n1, .str n0], .tuple [.str n1, .str n0]]]]) (.tuple [.str "plain"]) (.int 400) [] (.tuple [])) ["lists"] rfl (by decide +kernel) rfl rfl rfl rfl rfl ?_ ?_
  · simp [o_plan, o_house, o_link, s_tup, s_lst, s_cons, s_nil, s_int, s_bool, s_none, s_plain, s_packed, s_post, s_a, s_400, s_1, e_elT, ow_plain, ow_packed, f_str, F]
  · simp [e_plan, e_houses, e_house, e_people, e_peopleL, e_lists, e_loh, e_addr, e_addr1, e_names, e_fst, e_str, e_tup, e_links, e_link, e_elT, e_eqv, e_addrOf, e_pair, sort2_iff, w_plain, w_packed, n_a, n_post, p_a, wi, wi_b, wi_n, wi_s, F]
theorem a_6 (N : Nm [n0, n1, n2, n3, n4, n5, n6, n7, n8, n9, na, nb]) : mWith [.list ([n0, n1, n2, n3, n4, n5, n6, n7, n8, n9, na, nb].map PyData.str), .dict [(.str "more", .tuple [.tuple [.str n2, .tuple [.str "a"], .tuple [], .tuple [.str "packed"], .int 9000], .tuple [.str n2, .tuple [.str "a"], .tuple [], .tuple [.str "packed"], .int 9000]])]] = some (.bool false) := by
  have F := nf N
  refine with_of (ms := [.tuple [.str n2, .tuple [.str "a"], .tuple [], .tuple [.str "packed"], .int 9000], .tuple [.str n2, .tuple [.str "a"], .tuple [], .tuple [.str "packed"], .int 9000]]) (p := plD (.str n0) (.tuple [.str n1]) (.tuple []) (.tuple [.str "plain"]) (.int 400) [.tuple [.str n2, .tuple [.str "a"], .tuple [], .tuple [.str "packed"], .int 9000], .tuple [.str n2, .tuple [.str "a"], .tuple [], .tuple [.str "packed"], .int 9000]] (.tuple [])) ["more"] rfl (by decide +kernel) rfl rfl rfl rfl rfl ?_ ?_
  · simp [o_plan, o_house, o_link, s_tup, s_lst, s_cons, s_nil, s_int, s_bool, s_none, s_plain, s_packed, s_post, s_a, s_400, s_1, e_elT, ow_plain, ow_packed, f_str, F]
  · simp [e_plan, e_houses, e_house, e_people, e_peopleL, e_lists, e_loh, e_addr, e_addr1, e_names, e_fst, e_str, e_tup, e_links, e_link, e_elT, e_eqv, e_addrOf, e_pair, sort2_iff, w_plain, w_packed, n_a, n_post, p_a, wi, wi_b, wi_n, wi_s, F]
theorem a_7 (N : Nm [n0, n1, n2, n3, n4, n5, n6, n7, n8, n9, na, nb]) : mWith [.list ([n0, n1, n2, n3, n4, n5, n6, n7, n8, n9, na, nb].map PyData.str), .dict [(.str "more", .tuple [.tuple [.str n0, .tuple [.str "a"], .tuple [], .tuple [.str "packed"], .int 9000]])]] = some (.bool false) := by
  have F := nf N
  refine with_of (ms := [.tuple [.str n0, .tuple [.str "a"], .tuple [], .tuple [.str "packed"], .int 9000]]) (p := plD (.str n0) (.tuple [.str n1]) (.tuple []) (.tuple [.str "plain"]) (.int 400) [.tuple [.str n0, .tuple [.str "a"], .tuple [], .tuple [.str "packed"], .int 9000]] (.tuple [])) ["more"] rfl (by decide +kernel) rfl rfl rfl rfl rfl ?_ ?_
  · simp [o_plan, o_house, o_link, s_tup, s_lst, s_cons, s_nil, s_int, s_bool, s_none, s_plain, s_packed, s_post, s_a, s_400, s_1, e_elT, ow_plain, ow_packed, f_str, F]
  · simp [e_plan, e_houses, e_house, e_people, e_peopleL, e_lists, e_loh, e_addr, e_addr1, e_names, e_fst, e_str, e_tup, e_links, e_link, e_elT, e_eqv, e_addrOf, e_pair, sort2_iff, w_plain, w_packed, n_a, n_post, p_a, wi, wi_b, wi_n, wi_s, F]
theorem a_8 (N : Nm [n0, n1, n2, n3, n4, n5, n6, n7, n8, n9, na, nb]) : mWith [.list ([n0, n1, n2, n3, n4, n5, n6, n7, n8, n9, na, nb].map PyData.str), .dict [(.str "more", .tuple [.tuple [.str n2, .tuple [.str "a"], .tuple [], .tuple [.str "packed"], .int 9000]]), (.str "links", .tuple [.tuple [.str n0, .str n0, .int 1]])]] = some (.bool false) := by
  have F := nf N
  refine with_of (ms := [.tuple [.str n2, .tuple [.str "a"], .tuple [], .tuple [.str "packed"], .int 9000]]) (p := plD (.str n0) (.tuple [.str n1]) (.tuple []) (.tuple [.str "plain"]) (.int 400) [.tuple [.str n2, .tuple [.str "a"], .tuple [], .tuple [.str "packed"], .int 9000]] (.tuple [.tuple [.str n0, .str n0, .int 1]])) ["more", "links"] rfl (by decide +kernel) rfl rfl rfl rfl rfl ?_ ?_
  · simp [o_plan, o_house, o_link, s_tup, s_lst, s_cons, s_nil, s_int, s_bool, s_none, s_plain, s_packed, s_post, s_a, s_400, s_1, e_elT, ow_plain, ow_packed, f_str, F]
  · simp [e_plan, e_houses, e_house, e_people, e_peopleL, e_lists, e_loh, e_addr, e_addr1, e_names, e_fst, e_str, e_tup, e_links, e_link, e_elT, e_eqv, e_addrOf, e_pair, sort2_iff, w_plain, w_packed, n_a, n_post, p_a, wi, wi_b, wi_n, wi_s, F]
theorem a_9 (N : Nm [n0, n1, n2, n3, n4, n5, n6, n7, n8, n9, na, nb]) : mWith [.list ([n0, n1, n2, n3, n4, n5, n6, n7, n8, n9, na, nb].map PyData.str), .dict [(.str "more", .tuple [.tuple [.str n2, .tuple [.str "a"], .tuple [], .tuple [.str "packed"], .int 9000]]), (.str "links", .tuple [.tuple [.str n0, .str n2, .int 1], .tuple [.str n2, .str n0, .int 2]])]] = some (.bool false) := by
  have F := nf N
  refine with_of (ms := [.tuple [.str n2, .tuple [.str "a"], .tuple [], .tuple [.str "packed"], .int 9000]]) (p := plD (.str n0) (.tuple [.str n1]) (.tuple []) (.tuple [.str "plain"]) (.int 400) [.tuple [.str n2, .tuple [.str "a"], .tuple [], .tuple [.str "packed"], .int 9000]] (.tuple [.tuple [.str n0, .str n2, .int 1], .tuple [.str n2, .str n0, .int 2]])) ["more", "links"] rfl (by decide +kernel) rfl rfl rfl rfl rfl ?_ ?_
  · simp [o_plan, o_house, o_link, s_tup, s_lst, s_cons, s_nil, s_int, s_bool, s_none, s_plain, s_packed, s_post, s_a, s_400, s_1, e_elT, ow_plain, ow_packed, f_str, F]
  · simp [e_plan, e_houses, e_house, e_people, e_peopleL, e_lists, e_loh, e_addr, e_addr1, e_names, e_fst, e_str, e_tup, e_links, e_link, e_elT, e_eqv, e_addrOf, e_pair, sort2_iff, w_plain, w_packed, n_a, n_post, p_a, wi, wi_b, wi_n, wi_s, F]
theorem a_10 (N : Nm [n0, n1, n2, n3, n4, n5, n6, n7, n8, n9, na, nb]) : mWith [.list ([n0, n1, n2, n3, n4, n5, n6, n7, n8, n9, na, nb].map PyData.str), .dict [(.str "more", .tuple [.tuple [.str n2, .tuple [.str "a"], .tuple [], .tuple [.str "packed"], .int 9000]]), (.str "links", .tuple [.tuple [.str n0, .str n3, .int 1]])]] = some (.bool false) := by
  have F := nf N
  refine with_of (ms := [.tuple [.str n2, .tuple [.str "a"], .tuple [], .tuple [.str "packed"], .int 9000]]) (p := plD (.str n0) (.tuple [.str n1]) (.tuple []) (.tuple [.str "plain"]) (.int 400) [.tuple [.str n2, .tuple [.str "a"], .tuple [], .tuple [.str "packed"], .int 9000]] (.tuple [.tuple [.str n0, .str n3, .int 1]])) ["more", "links"] rfl (by decide +kernel) rfl rfl rfl rfl rfl ?_ ?_
  · simp [o_plan, o_house, o_link, s_tup, s_lst, s_cons, s_nil, s_int, s_bool, s_none, s_plain, s_packed, s_post, s_a, s_400, s_1, e_elT, ow_plain, ow_packed, f_str, F]
  · simp [e_plan, e_houses, e_house, e_people, e_peopleL, e_lists, e_loh, e_addr, e_addr1, e_names, e_fst, e_str, e_tup, e_links, e_link, e_elT, e_eqv, e_addrOf, e_pair, sort2_iff, w_plain, w_packed, n_a, n_post, p_a, wi, wi_b, wi_n, wi_s, F]
theorem a_11 (N : Nm [n0, n1, n2, n3, n4, n5, n6, n7, n8, n9, na, nb]) : mWith [.list ([n0, n1, n2, n3, n4, n5, n6, n7, n8, n9, na, nb].map PyData.str), .dict [(.str "more", .tuple [.tuple [.str n2, .tuple [.str "a"], .tuple [], .tuple [.str "packed"], .int 9000]]), (.str "links", .tuple [.tuple [.str n0, .str n2, .int 1], .tuple [.str n0, .str n2, .int 1]])]] = some (.bool false) := by
  have F := nf N
  refine with_of (ms := [.tuple [.str n2, .tuple [.str "a"], .tuple [], .tuple [.str "packed"], .int 9000]]) (p := plD (.str n0) (.tuple [.str n1]) (.tuple []) (.tuple [.str "plain"]) (.int 400) [.tuple [.str n2, .tuple [.str "a"], .tuple [], .tuple [.str "packed"], .int 9000]] (.tuple [.tuple [.str n0, .str n2, .int 1], .tuple [.str n0, .str n2, .int 1]])) ["more", "links"] rfl (by decide +kernel) rfl rfl rfl rfl rfl ?_ ?_
  · simp [o_plan, o_house, o_link, s_tup, s_lst, s_cons, s_nil, s_int, s_bool, s_none, s_plain, s_packed, s_post, s_a, s_400, s_1, e_elT, ow_plain, ow_packed, f_str, F]
  · simp [e_plan, e_houses, e_house, e_people, e_peopleL, e_lists, e_loh, e_addr, e_addr1, e_names, e_fst, e_str, e_tup, e_links, e_link, e_elT, e_eqv, e_addrOf, e_pair, sort2_iff, w_plain, w_packed, n_a, n_post, p_a, wi, wi_b, wi_n, wi_s, F]
theorem a_12 (N : Nm [n0, n1, n2, n3, n4, n5, n6, n7, n8, n9, na, nb]) : mWith [.list ([n0, n1, n2, n3, n4, n5, n6, n7, n8, n9, na, nb].map PyData.str), .dict [(.str "folk", .list [.str n1])]] = some (.bool false) := by
  have F := nf N
  refine with_of (ms := []) (p := plD (.str n0) (.list [.str n1]) (.tuple []) (.tuple [.str "plain"]) (.int 400) [] (.tuple [])) ["folk"] rfl (by decide +kernel) rfl rfl rfl rfl rfl ?_ ?_
  · simp [o_plan, o_house, o_link, s_tup, s_lst, s_cons, s_nil, s_int, s_bool, s_none, s_plain, s_packed, s_post, s_a, s_400, s_1, e_elT, ow_plain, ow_packed, f_str, F]
  · simp [e_plan, e_houses, e_house, e_people, e_peopleL, e_lists, e_loh, e_addr, e_addr1, e_names, e_fst, e_str, e_tup, e_links, e_link, e_elT, e_eqv, e_addrOf, e_pair, sort2_iff, w_plain, w_packed, n_a, n_post, p_a, wi, wi_b, wi_n, wi_s, F]
theorem a_13 (N : Nm [n0, n1, n2, n3, n4, n5, n6, n7, n8, n9, na, nb]) : mWith [.list ([n0, n1, n2, n3, n4, n5, n6, n7, n8, n9, na, nb].map PyData.str), .dict [(.str "lists", .tuple [.tuple [.str n2, .tuple [.tuple [.str n1]]]])]] = some (.bool false) := by
  have F := nf N
  refine with_of (ms := []) (p := plD (.str n0) (.tuple [.str n1]) (.tuple [.tuple [.str n2, .tuple [.tuple [.str n1]]]]) (.tuple [.str "plain"]) (.int 400) [] (.tuple [])) ["lists"] rfl (by decide +kernel) rfl rfl rfl rfl rfl ?_ ?_
  · simp [o_plan, o_house, o_link, s_tup, s_lst, s_cons, s_nil, s_int, s_bool, s_none, s_plain, s_packed, s_post, s_a, s_400, s_1, e_elT, ow_plain, ow_packed, f_str, F]
  · simp [e_plan, e_houses, e_house, e_people, e_peopleL, e_lists, e_loh, e_addr, e_addr1, e_names, e_fst, e_str, e_tup, e_links, e_link, e_elT, e_eqv, e_addrOf, e_pair, sort2_iff, w_plain, w_packed, n_a, n_post, p_a, wi, wi_b, wi_n, wi_s, F]
theorem a_14 (N : Nm [n0, n1, n2, n3, n4, n5, n6, n7, n8, n9, na, nb]) : mWith [.list ([n0, n1, n2, n3, n4, n5, n6, n7, n8, n9, na, nb].map PyData.str), .dict [(.str "folk", .tuple [.str n0])]] = some (.bool true) := by
  have F := nf N
  refine with_of (ms := []) (p := plD (.str n0) (.tuple [.str n0]) (.tuple []) (.tuple [.str "plain"]) (.int 400) [] (.tuple [])) ["folk"] rfl (by decide +kernel) rfl rfl rfl rfl rfl ?_ ?_
  · simp [o_plan, o_house, o_link, s_tup, s_lst, s_cons, s_nil, s_int, s_bool, s_none, s_plain, s_packed, s_post, s_a, s_400, s_1, e_elT, ow_plain, ow_packed, f_str, F]
  · simp [e_plan, e_houses, e_house, e_people, e_peopleL, e_lists, e_loh, e_addr, e_addr1, e_names, e_fst, e_str, e_tup, e_links, e_link, e_elT, e_eqv, e_addrOf, e_pair, sort2_iff, w_plain, w_packed, n_a, n_post, p_a, wi, wi_b, wi_n, wi_s, F]
theorem a_15 (N : Nm [n0, n1, n2, n3, n4, n5, n6, n7, n8, n9, na, nb]) : mWith [.list ([n0, n1, n2, n3, n4, n5, n6, n7, n8, n9, na, nb].map PyData.str), .dict [(.str "lists", .tuple [.tuple [.str n0, .tuple [.tuple [.str n1, .str n0]]]])]] = some (.bool true) := by
  have F := nf N
  refine with_of (ms := []) (p := plD (.str n0) (.tuple [.str n1]) (.tuple [.tuple [.str n0, .tuple [.tuple [.str n1, .str n0]]]]) (.tuple [.str "plain"]) (.int 400) [] (.tuple [])) ["lists"] rfl (by decide +kernel) rfl rfl rfl rfl rfl ?_ ?_
  · simp [o_plan, o_house, o_link, s_tup, s_lst, s_cons, s_nil, s_int, s_bool, s_none, s_plain, s_packed, s_post, s_a, s_400, s_1, e_elT, ow_plain, ow_packed, f_str, F]
  · simp [e_plan, e_houses, e_house, e_people, e_peopleL, e_lists, e_loh, e_addr, e_addr1, e_names, e_fst, e_str, e_tup, e_links, e_link, e_elT, e_eqv, e_addrOf, e_pair, sort2_iff, w_plain, w_packed, n_a, n_post, p_a, wi, wi_b, wi_n, wi_s, F]
theorem a_16 (N : Nm [n0, n1, n2, n3, n4, n5, n6, n7, n8, n9, na, nb]) : mWith [.list ([n0, n1, n2, n3, n4, n5, n6, n7, n8, n9, na, nb].map PyData.str), .dict [(.str "more", .tuple [.tuple [.str n2, .tuple [.str "a"], .tuple [], .tuple [.str "packed"], .int 9000]]), (.str "folk", .tuple [.str n3, .str n2]), (.str "links", .tuple [.tuple [.str n2, .str n0, .int 2]])]] = some (.bool true) := by
  have F := nf N
  refine with_of (ms := [.tuple [.str n2, .tuple [.str "a"], .tuple [], .tuple [.str "packed"], .int 9000]]) (p := plD (.str n0) (.tuple [.str n3, .str n2]) (.tuple []) (.tuple [.str "plain"]) (.int 400) [.tuple [.str n2, .tuple [.str "a"], .tuple [], .tuple [.str "packed"], .int 9000]] (.tuple [.tuple [.str n2, .str n0, .int 2]])) ["more", "folk", "links"] rfl (by decide +kernel) rfl rfl rfl rfl rfl ?_ ?_
  · simp [o_plan, o_house, o_link, s_tup, s_lst, s_cons, s_nil, s_int, s_bool, s_none, s_plain, s_packed, s_post, s_a, s_400, s_1, e_elT, ow_plain, ow_packed, f_str, F]
  · simp [e_plan, e_houses, e_house, e_people, e_peopleL, e_lists, e_loh, e_addr, e_addr1, e_names, e_fst, e_str, e_tup, e_links, e_link, e_elT, e_eqv, e_addrOf, e_pair, sort2_iff, w_plain, w_packed, n_a, n_post, p_a, wi, wi_b, wi_n, wi_s, F]
theorem a_17 (N : Nm [n0, n1, n2, n3, n4, n5, n6, n7, n8, n9, na, nb]) : mWith [.list ([n0, n1, n2, n3, n4, n5, n6, n7, n8, n9, na, nb].map PyData.str), .dict [(.str "name", .str "post")]] = some (.bool true) := by
  have F := nf N
  refine with_of (ms := []) (p := plD (.str "post") (.tuple [.str n1]) (.tuple []) (.tuple [.str "plain"]) (.int 400) [] (.tuple [])) ["name"] rfl (by decide +kernel) rfl rfl rfl rfl rfl ?_ ?_
  · simp [o_plan, o_house, o_link, s_tup, s_lst, s_cons, s_nil, s_int, s_bool, s_none, s_plain, s_packed, s_post, s_a, s_400, s_1, e_elT, ow_plain, ow_packed, f_str, F]
  · simp [e_plan, e_houses, e_house, e_people, e_peopleL, e_lists, e_loh, e_addr, e_addr1, e_names, e_fst, e_str, e_tup, e_links, e_link, e_elT, e_eqv, e_addrOf, e_pair, sort2_iff, w_plain, w_packed, n_a, n_post, p_a, wi, wi_b, wi_n, wi_s, F]
theorem a_18 (N : Nm [n0, n1, n2, n3, n4, n5, n6, n7, n8, n9, na, nb]) : mWith [.list ([n0, n1, n2, n3, n4, n5, n6, n7, n8, n9, na, nb].map PyData.str), .dict [(.str "lists", .tuple [.tuple [.str n2, .tuple [.tuple [.str "post", .str n3], .tuple [.str n2, .str n0]]]])]] = some (.bool true) := by
  have F := nf N
  refine with_of (ms := []) (p := plD (.str n0) (.tuple [.str n1]) (.tuple [.tuple [.str n2, .tuple [.tuple [.str "post", .str n3], .tuple [.str n2, .str n0]]]]) (.tuple [.str "plain"]) (.int 400) [] (.tuple [])) ["lists"] rfl (by decide +kernel) rfl rfl rfl rfl rfl ?_ ?_
  · simp [o_plan, o_house, o_link, s_tup, s_lst, s_cons, s_nil, s_int, s_bool, s_none, s_plain, s_packed, s_post, s_a, s_400, s_1, e_elT, ow_plain, ow_packed, f_str, F]
  · simp [e_plan, e_houses, e_house, e_people, e_peopleL, e_lists, e_loh, e_addr, e_addr1, e_names, e_fst, e_str, e_tup, e_links, e_link, e_elT, e_eqv, e_addrOf, e_pair, sort2_iff, w_plain, w_packed, n_a, n_post, p_a, wi, wi_b, wi_n, wi_s, F]
theorem a_19 (N : Nm [n0, n1, n2, n3, n4, n5, n6, n7, n8, n9, na, nb]) : mWith [.list ([n0, n1, n2, n3, n4, n5, n6, n7, n8, n9, na, nb].map PyData.str), .dict [(.str "lists", .tuple [.tuple [.str n2, .tuple [.tuple [.str n1, .str n0]]]])]] = some (.bool true) := by
  have F := nf N
  refine with_of (ms := []) (p := plD (.str n0) (.tuple [.str n1]) (.tuple [.tuple [.str n2, .tuple [.tuple [.str n1, .str n0]]]]) (.tuple [.str "plain"]) (.int 400) [] (.tuple [])) ["lists"] rfl (by decide +kernel) rfl rfl rfl rfl rfl ?_ ?_
  · simp [o_plan, o_house, o_link, s_tup, s_lst, s_cons, s_nil, s_int, s_bool, s_none, s_plain, s_packed, s_post, s_a, s_400, s_1, e_elT, ow_plain, ow_packed, f_str, F]
  · simp [e_plan, e_houses, e_house, e_people, e_peopleL, e_lists, e_loh, e_addr, e_addr1, e_names, e_fst, e_str, e_tup, e_links, e_link, e_elT, e_eqv, e_addrOf, e_pair, sort2_iff, w_plain, w_packed, n_a, n_post, p_a, wi, wi_b, wi_n, wi_s, F]
theorem b_0 (N : Nm [n0, n1, n2, n3, n4, n5, n6, n7, n8, n9, na, nb]) : mWith [.list ([n0, n1, n2, n3, n4, n5, n6, n7, n8, n9, na, nb].map PyData.str), .dict []] = some (.bool true) := by
  have F := nf N
  refine with_of (ms := []) (p := plD (.str n0) (.tuple [.str n1]) (.tuple []) (.tuple [.str "plain"]) (.int 400) [] (.tuple [])) [] rfl (by decide +kernel) rfl rfl rfl rfl rfl ?_ ?_
  · simp [o_plan, o_house, o_link, s_tup, s_lst, s_cons, s_nil, s_int, s_bool, s_none, s_plain, s_packed, s_post, s_a, s_400, s_1, e_elT, ow_plain, ow_packed, f_str, F]
  · simp [e_plan, e_houses, e_house, e_people, e_peopleL, e_lists, e_loh, e_addr, e_addr1, e_names, e_fst, e_str, e_tup, e_links, e_link, e_elT, e_eqv, e_addrOf, e_pair, sort2_iff, w_plain, w_packed, n_a, n_post, p_a, wi, wi_b, wi_n, wi_s, F]
end
end K13

namespace K13
open PySem PySem.Spec PyProof.Rows L2 LH C8
structure Tr (mg : Str → Option Value) : Prop where
  m_len : mg "len" = none
  m_range : mg "range" = none
  m_tuple : mg "tuple" = none
  m_isinstance : mg "isinstance" = none
  m_bool : mg "bool" = none
theorem nm_to {ns : List Str} (N : Nm ns) : nmB ns = true := by
  unfold nmB
  rw [decide_eq_true N.len, List.all_eq_true.mpr fun z hz => N.name z hz, decide_eq_true N.nd, decide_eq_false N.post]
  rfl
def mRight : List Dt → Option Dt
  | [.list ds] => if ds.all isStrD = true ∧ nmB (ds.map LH.strOf) = true then some (.bool true) else none
  | _ => none
theorem right_at {ns : List Str} (N : Nm ns) : mRight [.list (ns.map PyData.str)] = some (.bool true) := by
  show (if _ ∧ _ then _ else none) = _
  rw [if_pos ⟨strs_all ns, by rw [strs_of]; exact nm_to N⟩]
structure NN where
  n0 : Str
  n1 : Str
  n2 : Str
  n3 : Str
  n4 : Str
  n5 : Str
  n6 : Str
  n7 : Str
  n8 : Str
  n9 : Str
  na : Str
  nb : Str
def nD (q : NN) : Dt := .list [.str q.n0, .str q.n1, .str q.n2, .str q.n3, .str q.n4, .str q.n5, .str q.n6, .str q.n7, .str q.n8, .str q.n9, .str q.na, .str q.nb]
theorem right_of {ds : List Dt} {d : Dt} (h : mRight ds = some d) : d = .bool true ∧ ∃ q : NN, ds = [nD q] ∧ Nm [q.n0, q.n1, q.n2, q.n3, q.n4, q.n5, q.n6, q.n7, q.n8, q.n9, q.na, q.nb] := by
  unfold mRight at h
  split at h
  · rename_i es
    obtain ⟨⟨h1, h2⟩, rfl⟩ := if_some h
    have N := nm_of h2
    have e := strs_back h1
    generalize es.map LH.strOf = ns at N e
    have hl := N.len
    match ns, hl with
    | [n0, n1, n2, n3, n4, n5, n6, n7, n8, n9, na, nb], _ => exact ⟨rfl, ⟨n0, n1, n2, n3, n4, n5, n6, n7, n8, n9, na, nb⟩, by rw [e]; rfl, N⟩
  · cases h
theorem ee_neg {K : PySem.W.Frag} {env : Env0'} {ta : TE} {i : Int} (h : EvE K ta env (.int i)) : EvE K (tUn (rU fun i => .int (-i)) ta) env (.int (-i)) := fun σ G H gh s Q q => h σ G H gh s _ fun v G2 H2 e dv => by
  cases dv
  exact ⟨i, rfl, q _ G2 H2 e (.int _)⟩
def dA0 (q : NN) : Dt := .dict [(.str "folk", .tuple [.str q.n1, .str q.n2, .str q.n1])]
def dA1 (q : NN) : Dt := .dict [(.str "folk", .tuple [.str q.n1, .str "post"])]
def dA2 (q : NN) : Dt := .dict [(.str "lists", .tuple [.tuple [.str q.n1, .tuple [.tuple [.str q.n1, .str q.n0]]]])]
def dA3 (q : NN) : Dt := .dict [(.str "lists", .tuple [.tuple [.str q.n2, .tuple [.tuple [.str q.n1, .str q.n0]]], .tuple [.str q.n2, .tuple [.tuple [.str q.n1, .str q.n0]]]])]
def dA4 (q : NN) : Dt := .dict [(.str "lists", .tuple [.tuple [.str "post", .tuple [.tuple [.str q.n1, .str q.n0]]]])]
def dA5 (q : NN) : Dt := .dict [(.str "lists", .tuple [.tuple [.str q.n2, .tuple [.tuple [.str q.n1, .str q.n0], .tuple [.str q.n1, .str q.n0]]]])]
def dA6 (q : NN) : Dt := .dict [(.str "more", .tuple [.tuple [.str q.n2, .tuple [.str "a"], .tuple [], .tuple [.str "packed"], .int 9000], .tuple [.str q.n2, .tuple [.str "a"], .tuple [], .tuple [.str "packed"], .int 9000]])]
def dA7 (q : NN) : Dt := .dict [(.str "more", .tuple [.tuple [.str q.n0, .tuple [.str "a"], .tuple [], .tuple [.str "packed"], .int 9000]])]
def dA8 (q : NN) : Dt := .dict [(.str "more", .tuple [.tuple [.str q.n2, .tuple [.str "a"], .tuple [], .tuple [.str "packed"], .int 9000]]), (.str "links", .tuple [.tuple [.str q.n0, .str q.n0, .int 1]])]
def dA9 (q : NN) : Dt := .dict [(.str "more", .tuple [.tuple [.str q.n2, .tuple [.str "a"], .tuple [], .tuple [.str "packed"], .int 9000]]), (.str "links", .tuple [.tuple [.str q.n0, .str q.n2, .int 1], .tuple [.str q.n2, .str q.n0, .int 2]])]
def dA10 (q : NN) : Dt := .dict [(.str "more", .tuple [.tuple [.str q.n2, .tuple [.str "a"], .tuple [], .tuple [.str "packed"], .int 9000]]), (.str "links", .tuple [.tuple [.str q.n0, .str q.n3, .int 1]])]
def dA11 (q : NN) : Dt := .dict [(.str "more", .tuple [.tuple [.str q.n2, .tuple [.str "a"], .tuple [], .tuple [.str "packed"], .int 9000]]), (.str "links", .tuple [.tuple [.str q.n0, .str q.n2, .int 1], .tuple [.str q.n0, .str q.n2, .int 1]])]
def dA12 (q : NN) : Dt := .dict [(.str "folk", .list [.str q.n1])]
def dA13 (q : NN) : Dt := .dict [(.str "lists", .tuple [.tuple [.str q.n2, .tuple [.tuple [.str q.n1]]]])]
def dA14 (q : NN) : Dt := .dict [(.str "folk", .tuple [.str q.n0])]
def dA15 (q : NN) : Dt := .dict [(.str "lists", .tuple [.tuple [.str q.n0, .tuple [.tuple [.str q.n1, .str q.n0]]]])]
def dA16 (q : NN) : Dt := .dict [(.str "more", .tuple [.tuple [.str q.n2, .tuple [.str "a"], .tuple [], .tuple [.str "packed"], .int 9000]]), (.str "folk", .tuple [.str q.n3, .str q.n2]), (.str "links", .tuple [.tuple [.str q.n2, .str q.n0, .int 2]])]
def dA17 (q : NN) : Dt := .dict [(.str "name", .str "post")]
def dA18 (q : NN) : Dt := .dict [(.str "lists", .tuple [.tuple [.str q.n2, .tuple [.tuple [.str "post", .str q.n3], .tuple [.str q.n2, .str q.n0]]]])]
def dA19 (q : NN) : Dt := .dict [(.str "lists", .tuple [.tuple [.str q.n2, .tuple [.tuple [.str q.n1, .str q.n0]]]])]
def hereQ (q : NN) : Dt := .tuple [.tuple [.str q.n1, .str q.n0]]
def moreQ (q : NN) : Dt := .tuple [.tuple [.str q.n2, .tuple [.str "a"], .tuple [], .tuple [.str "packed"], .int 9000]]
def twiceQ (q : NN) : Dt := .tuple [.tuple [.str q.n0, .str q.n2, .int 1], .tuple [.str q.n2, .str q.n0, .int 2]]
abbrev s_l_alike_right : Stmt := topS 37
abbrev n_l_alike_right : List Str := ["_law_n", "_law_here", "_law_more", "_law_some", "_law_twice", "_law_fine", "_law_one"]
theorem sc_l_alike_right : FnScope n_l_alike_right ["_law_n"] (defScope s_l_alike_right) := ⟨rfl, rfl, rfl, by decide +kernel, rfl, by decide +kernel, by decide +kernel⟩
section
variable {w : World} {P : Program} {K : PySem.W.Frag} {mg : Str → Option Value} {base : Heap}
theorem c_l_alike_right (T : Tr mg) (F : Dfn K mg "_law_alike_right" s_l_alike_right ["_law_n"]) (C_l_house : Cal P w K mg base 1 "_law_house" (spF K mHouse) []) (C_l_with : Cal P w K mg base 8 "_law_with" (spF K mWith) []) : Cal P w K mg base 9 "_law_alike_right" (spF K mRight) [] := by
  refine calF mRight F sc_l_alike_right (fun ds d h => ?_) fun f cdv A outer s H E hr ds d h => ?_
  · obtain ⟨_, _, rfl, _⟩ := right_of h
    rfl
  · obtain ⟨rfl, q, rfl, N⟩ := right_of h
    refine ⟨_, (pss_cons (ps_par (i := 1) (j := 2) (by rfl) sc_l_alike_right.nd rfl rfl (by decide) rfl rfl (pa_cons (pe_tup (pa_cons (pe_tup (pa_cons (pe_ix ix_seq (pv 0) (pe_int) (fun _ _ => rfl)) (pa_cons (pe_ix ix_seq (pv 0) (pe_int) (fun _ _ => rfl)) pa_nil))) pa_nil)) (pa_cons (pe_tup (pa_cons (pe_c C_l_house hr (by decide) (by rfl) (pa_cons (pe_ix ix_seq (pv 0) (pe_int) (fun _ _ => rfl)) pa_nil)) pa_nil)) pa_nil)) (by rfl)) (pss_cons (ps_set (i := 3) sc_l_alike_right.nd rfl (Or.inl rfl) (pe_lst (pa_cons (pe_disp (pps_cons (pe_str) (pe_tup (pa_cons (pe_ix ix_seq (pv 0) (pe_int) (fun _ _ => rfl)) (pa_cons (pe_ix ix_seq (pv 0) (pe_int) (fun _ _ => rfl)) (pa_cons (pe_ix ix_seq (pv 0) (pe_int) (fun _ _ => rfl)) pa_nil)))) (pps_nil)) (by rfl) (by rfl) (fun z => by cases z) (by decide)) (pa_cons (pe_disp (pps_cons (pe_str) (pe_tup (pa_cons (pe_ix ix_seq (pv 0) (pe_int) (fun _ _ => rfl)) (pa_cons (pe_str) pa_nil))) (pps_nil)) (by rfl) (by rfl) (fun z => by cases z) (by decide)) (pa_cons (pe_disp (pps_cons (pe_str) (pe_tup (pa_cons (pe_tup (pa_cons (pe_ix ix_seq (pv 0) (pe_int) (fun _ _ => rfl)) (pa_cons (pv 1) pa_nil))) pa_nil)) (pps_nil)) (by rfl) (by rfl) (fun z => by cases z) (by decide)) pa_nil))))) (pss_cons (ps_set (i := 3) sc_l_alike_right.nd rfl (Or.inl rfl) (pe_op op_catL (pv 3) (pe_lst (pa_cons (pe_disp (pps_cons (pe_str) (pe_tup (pa_cons (pe_tup (pa_cons (pe_ix ix_seq (pv 0) (pe_int) (fun _ _ => rfl)) (pa_cons (pv 1) pa_nil))) (pa_cons (pe_tup (pa_cons (pe_ix ix_seq (pv 0) (pe_int) (fun _ _ => rfl)) (pa_cons (pv 1) pa_nil))) pa_nil))) (pps_nil)) (by rfl) (by rfl) (fun z => by cases z) (by decide)) (pa_cons (pe_disp (pps_cons (pe_str) (pe_tup (pa_cons (pe_tup (pa_cons (pe_str) (pa_cons (pv 1) pa_nil))) pa_nil)) (pps_nil)) (by rfl) (by rfl) (fun z => by cases z) (by decide)) pa_nil))))) (pss_cons (ps_expr (pe_bm PySem.F.plainAttrs_list PySem.F.slot_list_append PySem.F.type_list_append mt_append (pv 3) (pa_cons (pe_disp (pps_cons (pe_str) (pe_tup (pa_cons (pe_tup (pa_cons (pe_ix ix_seq (pv 0) (pe_int) (fun _ _ => rfl)) (pa_cons (pe_op op_repT (pv 1) (pe_int)) pa_nil))) pa_nil)) (pps_nil)) (by rfl) (by rfl) (fun z => by cases z) (by decide)) pa_nil))) (pss_cons (ps_set (i := 3) sc_l_alike_right.nd rfl (Or.inl rfl) (pe_op op_catL (pv 3) (pe_lst (pa_cons (pe_disp (pps_cons (pe_str) (pe_op op_catA (pv 2) (pv 2)) (pps_nil)) (by rfl) (by rfl) (fun z => by cases z) (by decide)) (pa_cons (pe_disp (pps_cons (pe_str) (pe_tup (pa_cons (pe_c C_l_house hr (by decide) (by rfl) (pa_cons (pe_ix ix_seq (pv 0) (pe_int) (fun _ _ => rfl)) pa_nil)) pa_nil)) (pps_nil)) (by rfl) (by rfl) (fun z => by cases z) (by decide)) (pa_cons (pe_disp (pps_cons (pe_str) (pv 2) (pps_cons (pe_str) (pe_tup (pa_cons (pe_tup (pa_cons (pe_ix ix_seq (pv 0) (pe_int) (fun _ _ => rfl)) (pa_cons (pe_ix ix_seq (pv 0) (pe_int) (fun _ _ => rfl)) (pa_cons (pe_int) pa_nil)))) pa_nil)) (pps_nil))) (by rfl) (by rfl) (fun z => by cases z) (by decide)) pa_nil)))))) (pss_cons (ps_set (i := 4) sc_l_alike_right.nd rfl (Or.inl rfl) (pe_tup (pa_cons (pe_tup (pa_cons (pe_ix ix_seq (pv 0) (pe_int) (fun _ _ => rfl)) (pa_cons (pe_ix ix_seq (pv 0) (pe_int) (fun _ _ => rfl)) (pa_cons (pe_int) pa_nil)))) (pa_cons (pe_tup (pa_cons (pe_ix ix_seq (pv 0) (pe_int) (fun _ _ => rfl)) (pa_cons (pe_ix ix_seq (pv 0) (pe_int) (fun _ _ => rfl)) (pa_cons (pe_int) pa_nil)))) pa_nil)))) (pss_cons (ps_set (i := 3) sc_l_alike_right.nd rfl (Or.inl rfl) (pe_op op_catL (pv 3) (pe_lst (pa_cons (pe_disp (pps_cons (pe_str) (pv 2) (pps_cons (pe_str) (pv 4) (pps_nil))) (by rfl) (by rfl) (fun z => by cases z) (by decide)) (pa_cons (pe_disp (pps_cons (pe_str) (pv 2) (pps_cons (pe_str) (pe_tup (pa_cons (pe_tup (pa_cons (pe_ix ix_seq (pv 0) (pe_int) (fun _ _ => rfl)) (pa_cons (pe_ix ix_seq (pv 0) (pe_int) (fun _ _ => rfl)) (pa_cons (pe_int) pa_nil)))) pa_nil)) (pps_nil))) (by rfl) (by rfl) (fun z => by cases z) (by decide)) pa_nil))))) (pss_cons (ps_set (i := 3) sc_l_alike_right.nd rfl (Or.inl rfl) (pe_op op_catL (pv 3) (pe_lst (pa_cons (pe_disp (pps_cons (pe_str) (pv 2) (pps_cons (pe_str) (pe_op op_repT (pe_slice sl_tupA (pv 4) po_none (po_some (pe_int))) (pe_int)) (pps_nil))) (by rfl) (by rfl) (fun z => by cases z) (by decide)) (pa_cons (pe_disp (pps_cons (pe_str) (pe_lst (pa_cons (pe_ix ix_seq (pv 0) (pe_int) (fun _ _ => rfl)) pa_nil)) (pps_nil)) (by rfl) (by rfl) (fun z => by cases z) (by decide)) (pa_cons (pe_disp (pps_cons (pe_str) (pe_tup (pa_cons (pe_tup (pa_cons (pe_ix ix_seq (pv 0) (pe_int) (fun _ _ => rfl)) (pa_cons (pe_tup (pa_cons (pe_tup (pa_cons (pe_ix ix_seq (pv 0) (pe_int) (fun _ _ => rfl)) pa_nil)) pa_nil)) pa_nil))) pa_nil)) (pps_nil)) (by rfl) (by rfl) (fun z => by cases z) (by decide)) pa_nil)))))) (pss_cons (ps_set (i := 5) sc_l_alike_right.nd rfl (Or.inl rfl) (pe_lst (pa_cons (pe_disp (pps_cons (pe_str) (pe_tup (pa_cons (pe_ix ix_seq (pv 0) (pe_int) (fun _ _ => rfl)) pa_nil)) (pps_nil)) (by rfl) (by rfl) (fun z => by cases z) (by decide)) (pa_cons (pe_disp (pps_cons (pe_str) (pe_tup (pa_cons (pe_tup (pa_cons (pe_ix ix_seq (pv 0) (pe_int) (fun _ _ => rfl)) (pa_cons (pv 1) pa_nil))) pa_nil)) (pps_nil)) (by rfl) (by rfl) (fun z => by cases z) (by decide)) (pa_cons (pe_disp (pps_cons (pe_str) (pv 2) (pps_cons (pe_str) (pe_tup (pa_cons (pe_ix ix_seq (pv 0) (pe_int) (fun _ _ => rfl)) (pa_cons (pe_ix ix_seq (pv 0) (pe_int) (fun _ _ => rfl)) pa_nil))) (pps_cons (pe_str) (pe_slice sl_tupA (pv 4) (po_some (pe_int)) po_none) (pps_nil)))) (by rfl) (by rfl) (fun z => by cases z) (by decide)) pa_nil))))) (pss_cons (ps_set (i := 5) sc_l_alike_right.nd rfl (Or.inl rfl) (pe_op op_catL (pv 5) (pe_lst (pa_cons (pe_disp (pps_cons (pe_str) (pe_str) (pps_nil)) (by rfl) (by rfl) (fun z => by cases z) (by decide)) (pa_cons (pe_disp (pps_cons (pe_str) (pe_tup (pa_cons (pe_tup (pa_cons (pe_ix ix_seq (pv 0) (pe_int) (fun _ _ => rfl)) (pa_cons (pe_tup (pa_cons (pe_tup (pa_cons (pe_str) (pa_cons (pe_ix ix_seq (pv 0) (pe_int) (fun _ _ => rfl)) pa_nil))) (pa_cons (pe_tup (pa_cons (pe_ix ix_seq (pv 0) (pe_int) (fun _ _ => rfl)) (pa_cons (pe_ix ix_seq (pv 0) (pe_int) (fun _ _ => rfl)) pa_nil))) pa_nil))) pa_nil))) pa_nil)) (pps_nil)) (by rfl) (by rfl) (fun z => by cases z) (by decide)) (pa_cons (pe_disp (pps_cons (pe_str) (pe_tup (pa_cons (pe_tup (pa_cons (pe_ix ix_seq (pv 0) (pe_int) (fun _ _ => rfl)) (pa_cons (pv 1) pa_nil))) pa_nil)) (pps_nil)) (by rfl) (by rfl) (fun z => by cases z) (by decide)) pa_nil)))))) (pss_one (ps_ret (pe_cmpR (op_eqD hr.units) (pe_lc (own := [("_law_one", 6)]) (g := gName 6) (by rfl) sc_l_alike_right.nd (pi_list (pe_op op_catL (pv 3) (pv 5))) (blkOk_by (own := [("_law_one", 6)]) (N := n_l_alike_right) (sc := defScope s_l_alike_right) (by decide +kernel)) (fun _ _ _ _ _ => pg_name (i := 6) sc_l_alike_right.nd rfl (Or.inl rfl)) (fun _ _ _ _ _ => pts_nil) (fun _ _ _ _ _ => pe_c C_l_with hr (by decide) (by rfl) (pa_cons (pv 0) (pa_cons (pv 6) pa_nil)))) (pe_op op_catL (pe_op op_rep (pe_lst (pa_cons (pe_bl) pa_nil)) (pe_int)) (pe_op op_rep (pe_lst (pa_cons (pe_bl) pa_nil)) (pe_int))) (nomark _)))))))))))))), ?_⟩
    refine rt_seq (go_par (ea_cons (ee_tup (ea_cons (ee_tup (ea_cons (ee_op (ee_var rfl) (ee_int) (rd_ix rfl)) (ea_cons (ee_op (ee_var rfl) (ee_int) (rd_ix rfl)) ea_nil)) (Nat.le_of_ble_eq_true rfl)) ea_nil) (Nat.le_of_ble_eq_true rfl)) (ea_cons (ee_tup (ea_cons (ee_call (ea_cons (ee_op (ee_var rfl) (ee_int) (rd_ix rfl)) ea_nil) rfl) ea_nil) (Nat.le_of_ble_eq_true rfl)) ea_nil)) (fun m hm => nomatch hm) (fun m hm => nomatch hm)) ?_
    show RtE K _ [some (nD q), some (hereQ q), some (moreQ q), none, none, none, none] [] (.bool true)
    refine rt_seq (go_asgN (en_lst (ea_cons (ee_dict (em_disp (ds := [("folk", _)]) ⟨ee_str, ee_tup (ea_cons (ee_op (ee_var rfl) (ee_int) (rd_ix rfl)) (ea_cons (ee_op (ee_var rfl) (ee_int) (rd_ix rfl)) (ea_cons (ee_op (ee_var rfl) (ee_int) (rd_ix rfl)) ea_nil))) (Nat.le_of_ble_eq_true rfl), trivial⟩ (show List.Nodup (["folk"] : List Str) by decide +kernel) (Nat.le_of_ble_eq_true rfl))) (ea_cons (ee_dict (em_disp (ds := [("folk", _)]) ⟨ee_str, ee_tup (ea_cons (ee_op (ee_var rfl) (ee_int) (rd_ix rfl)) (ea_cons (ee_str) ea_nil)) (Nat.le_of_ble_eq_true rfl), trivial⟩ (show List.Nodup (["folk"] : List Str) by decide +kernel) (Nat.le_of_ble_eq_true rfl))) (ea_cons (ee_dict (em_disp (ds := [("lists", _)]) ⟨ee_str, ee_tup (ea_cons (ee_tup (ea_cons (ee_op (ee_var rfl) (ee_int) (rd_ix rfl)) (ea_cons (ee_var rfl) ea_nil)) (Nat.le_of_ble_eq_true rfl)) ea_nil) (Nat.le_of_ble_eq_true rfl), trivial⟩ (show List.Nodup (["lists"] : List Str) by decide +kernel) (Nat.le_of_ble_eq_true rfl))) ea_nil))) (Nat.le_of_ble_eq_true rfl)) (fun m hm => nomatch hm) (by show 3 < 7; decide)) ?_
    show RtE K _ [some (nD q), some (hereQ q), some (moreQ q), none, none, none, none] [(3, [dA0 q, dA1 q, dA2 q])] (.bool true)
    refine rt_seq (go_freeze (go_asgN (en_cat (ee_var rfl) (ee_of (en_lst (ea_cons (ee_dict (em_disp (ds := [("lists", _)]) ⟨ee_str, ee_tup (ea_cons (ee_tup (ea_cons (ee_op (ee_var rfl) (ee_int) (rd_ix rfl)) (ea_cons (ee_var rfl) ea_nil)) (Nat.le_of_ble_eq_true rfl)) (ea_cons (ee_tup (ea_cons (ee_op (ee_var rfl) (ee_int) (rd_ix rfl)) (ea_cons (ee_var rfl) ea_nil)) (Nat.le_of_ble_eq_true rfl)) ea_nil)) (Nat.le_of_ble_eq_true rfl), trivial⟩ (show List.Nodup (["lists"] : List Str) by decide +kernel) (Nat.le_of_ble_eq_true rfl))) (ea_cons (ee_dict (em_disp (ds := [("lists", _)]) ⟨ee_str, ee_tup (ea_cons (ee_tup (ea_cons (ee_str) (ea_cons (ee_var rfl) ea_nil)) (Nat.le_of_ble_eq_true rfl)) ea_nil) (Nat.le_of_ble_eq_true rfl), trivial⟩ (show List.Nodup (["lists"] : List Str) by decide +kernel) (Nat.le_of_ble_eq_true rfl))) ea_nil)) (Nat.le_of_ble_eq_true rfl))) (Nat.le_of_ble_eq_true rfl)) (fun m hm => nomatch hm) (by show 3 < 7; decide))) ?_
    show RtE K _ [some (nD q), some (hereQ q), some (moreQ q), none, none, none, none] [(3, [dA0 q, dA1 q, dA2 q, dA3 q, dA4 q])] (.bool true)
    refine rt_seq (go_app (ee_dict (em_disp (ds := [("lists", _)]) ⟨ee_str, ee_tup (ea_cons (ee_tup (ea_cons (ee_op (ee_var rfl) (ee_int) (rd_ix rfl)) (ea_cons (ee_op (ee_var rfl) (ee_int (i := ((2 : Nat) : Int))) (rd_repT rfl rfl rfl rfl)) ea_nil)) (Nat.le_of_ble_eq_true rfl)) ea_nil) (Nat.le_of_ble_eq_true rfl), trivial⟩ (show List.Nodup (["lists"] : List Str) by decide +kernel) (Nat.le_of_ble_eq_true rfl))) (Nat.lt_of_lt_of_le (Nat.lt_succ_self _) (Nat.le_of_ble_eq_true rfl))) ?_
    show RtE K _ [some (nD q), some (hereQ q), some (moreQ q), none, none, none, none] [(3, [dA0 q, dA1 q, dA2 q, dA3 q, dA4 q, dA5 q])] (.bool true)
    refine rt_seq (go_freeze (go_asgN (en_cat (ee_var rfl) (ee_of (en_lst (ea_cons (ee_dict (em_disp (ds := [("more", _)]) ⟨ee_str, ee_op (ee_var rfl) (ee_var rfl) (rd_catT (Nat.le_of_ble_eq_true rfl)), trivial⟩ (show List.Nodup (["more"] : List Str) by decide +kernel) (Nat.le_of_ble_eq_true rfl))) (ea_cons (ee_dict (em_disp (ds := [("more", _)]) ⟨ee_str, ee_tup (ea_cons (ee_call (ea_cons (ee_op (ee_var rfl) (ee_int) (rd_ix rfl)) ea_nil) rfl) ea_nil) (Nat.le_of_ble_eq_true rfl), trivial⟩ (show List.Nodup (["more"] : List Str) by decide +kernel) (Nat.le_of_ble_eq_true rfl))) (ea_cons (ee_dict (em_disp (ds := [("more", _), ("links", _)]) ⟨ee_str, ee_var rfl, ee_str, ee_tup (ea_cons (ee_tup (ea_cons (ee_op (ee_var rfl) (ee_int) (rd_ix rfl)) (ea_cons (ee_op (ee_var rfl) (ee_int) (rd_ix rfl)) (ea_cons (ee_int) ea_nil))) (Nat.le_of_ble_eq_true rfl)) ea_nil) (Nat.le_of_ble_eq_true rfl), trivial⟩ (show List.Nodup (["more", "links"] : List Str) by decide +kernel) (Nat.le_of_ble_eq_true rfl))) ea_nil))) (Nat.le_of_ble_eq_true rfl))) (Nat.le_of_ble_eq_true rfl)) (fun m hm => nomatch hm) (by show 3 < 7; decide))) ?_
    show RtE K _ [some (nD q), some (hereQ q), some (moreQ q), none, none, none, none] [(3, [dA0 q, dA1 q, dA2 q, dA3 q, dA4 q, dA5 q, dA6 q, dA7 q, dA8 q])] (.bool true)
    refine rt_seq (go_asg (ee_tup (ea_cons (ee_tup (ea_cons (ee_op (ee_var rfl) (ee_int) (rd_ix rfl)) (ea_cons (ee_op (ee_var rfl) (ee_int) (rd_ix rfl)) (ea_cons (ee_int) ea_nil))) (Nat.le_of_ble_eq_true rfl)) (ea_cons (ee_tup (ea_cons (ee_op (ee_var rfl) (ee_int) (rd_ix rfl)) (ea_cons (ee_op (ee_var rfl) (ee_int) (rd_ix rfl)) (ea_cons (ee_int) ea_nil))) (Nat.le_of_ble_eq_true rfl)) ea_nil)) (Nat.le_of_ble_eq_true rfl)) (fun m hm => by rw [List.mem_singleton.mp hm]; show (3 : Nat) ≠ 4; decide)) ?_
    show RtE K _ [some (nD q), some (hereQ q), some (moreQ q), none, some (twiceQ q), none, none] [(3, [dA0 q, dA1 q, dA2 q, dA3 q, dA4 q, dA5 q, dA6 q, dA7 q, dA8 q])] (.bool true)
    refine rt_seq (go_freeze (go_asgN (en_cat (ee_var rfl) (ee_of (en_lst (ea_cons (ee_dict (em_disp (ds := [("more", _), ("links", _)]) ⟨ee_str, ee_var rfl, ee_str, ee_var rfl, trivial⟩ (show List.Nodup (["more", "links"] : List Str) by decide +kernel) (Nat.le_of_ble_eq_true rfl))) (ea_cons (ee_dict (em_disp (ds := [("more", _), ("links", _)]) ⟨ee_str, ee_var rfl, ee_str, ee_tup (ea_cons (ee_tup (ea_cons (ee_op (ee_var rfl) (ee_int) (rd_ix rfl)) (ea_cons (ee_op (ee_var rfl) (ee_int) (rd_ix rfl)) (ea_cons (ee_int) ea_nil))) (Nat.le_of_ble_eq_true rfl)) ea_nil) (Nat.le_of_ble_eq_true rfl), trivial⟩ (show List.Nodup (["more", "links"] : List Str) by decide +kernel) (Nat.le_of_ble_eq_true rfl))) ea_nil)) (Nat.le_of_ble_eq_true rfl))) (Nat.le_of_ble_eq_true rfl)) (fun m hm => nomatch hm) (by show 3 < 7; decide))) ?_
    show RtE K _ [some (nD q), some (hereQ q), some (moreQ q), none, some (twiceQ q), none, none] [(3, [dA0 q, dA1 q, dA2 q, dA3 q, dA4 q, dA5 q, dA6 q, dA7 q, dA8 q, dA9 q, dA10 q])] (.bool true)
    refine rt_seq (go_freeze (go_asgN (en_cat (ee_var rfl) (ee_of (en_lst (ea_cons (ee_dict (em_disp (ds := [("more", _), ("links", _)]) ⟨ee_str, ee_var rfl, ee_str, ee_op (ee_slT (ee_var rfl) eo_none (eo_some (ee_int))) (ee_int (i := ((2 : Nat) : Int))) (rd_repT rfl rfl rfl rfl), trivial⟩ (show List.Nodup (["more", "links"] : List Str) by decide +kernel) (Nat.le_of_ble_eq_true rfl))) (ea_cons (ee_dict (em_disp (ds := [("folk", _)]) ⟨ee_str, ee_of (en_lst (ea_cons (ee_op (ee_var rfl) (ee_int) (rd_ix rfl)) ea_nil) (Nat.le_of_ble_eq_true rfl)), trivial⟩ (show List.Nodup (["folk"] : List Str) by decide +kernel) (Nat.le_of_ble_eq_true rfl))) (ea_cons (ee_dict (em_disp (ds := [("lists", _)]) ⟨ee_str, ee_tup (ea_cons (ee_tup (ea_cons (ee_op (ee_var rfl) (ee_int) (rd_ix rfl)) (ea_cons (ee_tup (ea_cons (ee_tup (ea_cons (ee_op (ee_var rfl) (ee_int) (rd_ix rfl)) ea_nil) (Nat.le_of_ble_eq_true rfl)) ea_nil) (Nat.le_of_ble_eq_true rfl)) ea_nil)) (Nat.le_of_ble_eq_true rfl)) ea_nil) (Nat.le_of_ble_eq_true rfl), trivial⟩ (show List.Nodup (["lists"] : List Str) by decide +kernel) (Nat.le_of_ble_eq_true rfl))) ea_nil))) (Nat.le_of_ble_eq_true rfl))) (Nat.le_of_ble_eq_true rfl)) (fun m hm => nomatch hm) (by show 3 < 7; decide))) ?_
    show RtE K _ [some (nD q), some (hereQ q), some (moreQ q), none, some (twiceQ q), none, none] [(3, [dA0 q, dA1 q, dA2 q, dA3 q, dA4 q, dA5 q, dA6 q, dA7 q, dA8 q, dA9 q, dA10 q, dA11 q, dA12 q, dA13 q])] (.bool true)
    refine rt_seq (go_asgN (en_lst (ea_cons (ee_dict (em_disp (ds := [("folk", _)]) ⟨ee_str, ee_tup (ea_cons (ee_op (ee_var rfl) (ee_int) (rd_ix rfl)) ea_nil) (Nat.le_of_ble_eq_true rfl), trivial⟩ (show List.Nodup (["folk"] : List Str) by decide +kernel) (Nat.le_of_ble_eq_true rfl))) (ea_cons (ee_dict (em_disp (ds := [("lists", _)]) ⟨ee_str, ee_tup (ea_cons (ee_tup (ea_cons (ee_op (ee_var rfl) (ee_int) (rd_ix rfl)) (ea_cons (ee_var rfl) ea_nil)) (Nat.le_of_ble_eq_true rfl)) ea_nil) (Nat.le_of_ble_eq_true rfl), trivial⟩ (show List.Nodup (["lists"] : List Str) by decide +kernel) (Nat.le_of_ble_eq_true rfl))) (ea_cons (ee_dict (em_disp (ds := [("more", _), ("folk", _), ("links", _)]) ⟨ee_str, ee_var rfl, ee_str, ee_tup (ea_cons (ee_op (ee_var rfl) (ee_int) (rd_ix rfl)) (ea_cons (ee_op (ee_var rfl) (ee_int) (rd_ix rfl)) ea_nil)) (Nat.le_of_ble_eq_true rfl), ee_str, ee_slT (ee_var rfl) (eo_some (ee_int)) eo_none, trivial⟩ (show List.Nodup (["more", "folk", "links"] : List Str) by decide +kernel) (Nat.le_of_ble_eq_true rfl))) ea_nil))) (Nat.le_of_ble_eq_true rfl)) (fun m hm => by rw [List.mem_singleton.mp hm]; show (3 : Nat) ≠ 5; decide) (by show 5 < 7; decide)) ?_
    show RtE K _ [some (nD q), some (hereQ q), some (moreQ q), none, some (twiceQ q), none, none] [(5, [dA14 q, dA15 q, dA16 q]), (3, [dA0 q, dA1 q, dA2 q, dA3 q, dA4 q, dA5 q, dA6 q, dA7 q, dA8 q, dA9 q, dA10 q, dA11 q, dA12 q, dA13 q])] (.bool true)
    refine rt_seq (go_freeze (go_asgN (en_cat (ee_var rfl) (ee_of (en_lst (ea_cons (ee_dict (em_disp (ds := [("name", _)]) ⟨ee_str, ee_str, trivial⟩ (show List.Nodup (["name"] : List Str) by decide +kernel) (Nat.le_of_ble_eq_true rfl))) (ea_cons (ee_dict (em_disp (ds := [("lists", _)]) ⟨ee_str, ee_tup (ea_cons (ee_tup (ea_cons (ee_op (ee_var rfl) (ee_int) (rd_ix rfl)) (ea_cons (ee_tup (ea_cons (ee_tup (ea_cons (ee_str) (ea_cons (ee_op (ee_var rfl) (ee_int) (rd_ix rfl)) ea_nil)) (Nat.le_of_ble_eq_true rfl)) (ea_cons (ee_tup (ea_cons (ee_op (ee_var rfl) (ee_int) (rd_ix rfl)) (ea_cons (ee_op (ee_var rfl) (ee_int) (rd_ix rfl)) ea_nil)) (Nat.le_of_ble_eq_true rfl)) ea_nil)) (Nat.le_of_ble_eq_true rfl)) ea_nil)) (Nat.le_of_ble_eq_true rfl)) ea_nil) (Nat.le_of_ble_eq_true rfl), trivial⟩ (show List.Nodup (["lists"] : List Str) by decide +kernel) (Nat.le_of_ble_eq_true rfl))) (ea_cons (ee_dict (em_disp (ds := [("lists", _)]) ⟨ee_str, ee_tup (ea_cons (ee_tup (ea_cons (ee_op (ee_var rfl) (ee_int) (rd_ix rfl)) (ea_cons (ee_var rfl) ea_nil)) (Nat.le_of_ble_eq_true rfl)) ea_nil) (Nat.le_of_ble_eq_true rfl), trivial⟩ (show List.Nodup (["lists"] : List Str) by decide +kernel) (Nat.le_of_ble_eq_true rfl))) ea_nil))) (Nat.le_of_ble_eq_true rfl))) (Nat.le_of_ble_eq_true rfl)) (fun m hm => by rw [List.mem_singleton.mp hm]; show (3 : Nat) ≠ 5; decide) (by show 5 < 7; decide))) ?_
    show RtE K _ [some (nD q), some (hereQ q), some (moreQ q), none, some (twiceQ q), none, none] [(5, [dA14 q, dA15 q, dA16 q, dA17 q, dA18 q, dA19 q]), (3, [dA0 q, dA1 q, dA2 q, dA3 q, dA4 q, dA5 q, dA6 q, dA7 q, dA8 q, dA9 q, dA10 q, dA11 q, dA12 q, dA13 q])] (.bool true)
    refine rt_freeze (rt_freeze ?_)
    show RtE K _ [some (nD q), some (hereQ q), some (moreQ q), some (.list [dA0 q, dA1 q, dA2 q, dA3 q, dA4 q, dA5 q, dA6 q, dA7 q, dA8 q, dA9 q, dA10 q, dA11 q, dA12 q, dA13 q]), some (twiceQ q), some (.list [dA14 q, dA15 q, dA16 q, dA17 q, dA18 q, dA19 q]), none] [] (.bool true)
    have ec : EvI K _ _ [dA0 q, dA1 q, dA2 q, dA3 q, dA4 q, dA5 q, dA6 q, dA7 q, dA8 q, dA9 q, dA10 q, dA11 q, dA12 q, dA13 q, dA14 q, dA15 q, dA16 q, dA17 q, dA18 q, dA19 q] := ei_list (ee_of (en_cat (K := K) (ee_var (env := [some (nD q), some (hereQ q), some (moreQ q), some (.list [dA0 q, dA1 q, dA2 q, dA3 q, dA4 q, dA5 q, dA6 q, dA7 q, dA8 q, dA9 q, dA10 q, dA11 q, dA12 q, dA13 q]), some (twiceQ q), some (.list [dA14 q, dA15 q, dA16 q, dA17 q, dA18 q, dA19 q]), none]) (i := 3) rfl) (ee_var (i := 5) rfl) (Nat.le_of_ble_eq_true rfl)))
    have em := en_maps (te := tCall (spF K mWith) [] C8.E0 (tCons (tVar 0) (tCons (tVar 6) tNil))) (j := 6) (rs := (List.replicate 14 (PyData.bool false)) ++ List.replicate 6 (PyData.bool true)) ec rfl (.cons (ee_call (ea_cons (ee_var rfl) (ea_cons (ee_var rfl) ea_nil)) (a_0 N)) (.cons (ee_call (ea_cons (ee_var rfl) (ea_cons (ee_var rfl) ea_nil)) (a_1 N)) (.cons (ee_call (ea_cons (ee_var rfl) (ea_cons (ee_var rfl) ea_nil)) (a_2 N)) (.cons (ee_call (ea_cons (ee_var rfl) (ea_cons (ee_var rfl) ea_nil)) (a_3 N)) (.cons (ee_call (ea_cons (ee_var rfl) (ea_cons (ee_var rfl) ea_nil)) (a_4 N)) (.cons (ee_call (ea_cons (ee_var rfl) (ea_cons (ee_var rfl) ea_nil)) (a_5 N)) (.cons (ee_call (ea_cons (ee_var rfl) (ea_cons (ee_var rfl) ea_nil)) (a_6 N)) (.cons (ee_call (ea_cons (ee_var rfl) (ea_cons (ee_var rfl) ea_nil)) (a_7 N)) (.cons (ee_call (ea_cons (ee_var rfl) (ea_cons (ee_var rfl) ea_nil)) (a_8 N)) (.cons (ee_call (ea_cons (ee_var rfl) (ea_cons (ee_var rfl) ea_nil)) (a_9 N)) (.cons (ee_call (ea_cons (ee_var rfl) (ea_cons (ee_var rfl) ea_nil)) (a_10 N)) (.cons (ee_call (ea_cons (ee_var rfl) (ea_cons (ee_var rfl) ea_nil)) (a_11 N)) (.cons (ee_call (ea_cons (ee_var rfl) (ea_cons (ee_var rfl) ea_nil)) (a_12 N)) (.cons (ee_call (ea_cons (ee_var rfl) (ea_cons (ee_var rfl) ea_nil)) (a_13 N)) (.cons (ee_call (ea_cons (ee_var rfl) (ea_cons (ee_var rfl) ea_nil)) (a_14 N)) (.cons (ee_call (ea_cons (ee_var rfl) (ea_cons (ee_var rfl) ea_nil)) (a_15 N)) (.cons (ee_call (ea_cons (ee_var rfl) (ea_cons (ee_var rfl) ea_nil)) (a_16 N)) (.cons (ee_call (ea_cons (ee_var rfl) (ea_cons (ee_var rfl) ea_nil)) (a_17 N)) (.cons (ee_call (ea_cons (ee_var rfl) (ea_cons (ee_var rfl) ea_nil)) (a_18 N)) (.cons (ee_call (ea_cons (ee_var rfl) (ea_cons (ee_var rfl) ea_nil)) (a_19 N)) (.nil)))))))))))))))))))))
    refine rt_ret (ee_is (ee_op (ee_of em) (ee_of (en_cat (ee_of (en_rep (k := 14) (en_lst (ea_cons (ee_bl) ea_nil) (Nat.le_of_ble_eq_true rfl)) rfl rfl)) (ee_of (en_rep (k := 6) (en_lst (ea_cons (ee_bl) ea_nil) (Nat.le_of_ble_eq_true rfl)) rfl rfl)) (Nat.le_of_ble_eq_true rfl))) (rd_eqD (by decide +kernel) (by decide +kernel))) ?_)
    exact congrArg PyData.bool (by decide +kernel)
end
end K13

namespace K13
open PySem PySem.Spec PyProof.Rows L2 LH C8
def allN : List Dt := [.bool false, .bool true, .bool true, .bool false, .bool false, .bool false, .bool false, .bool false, .bool false, .bool false, .bool true, .bool true, .bool false, .bool false, .bool false, .bool false, .bool false]
theorem two_ne {a b c : Nat} {x y : List Dt} (h1 : a ≠ c) (h2 : b ≠ c) : ∀ m ∈ [(a, x), (b, y)], m.1 ≠ c := fun m hm => by
  rcases List.mem_cons.mp hm with z | z
  · rw [z]
    exact h1
  · (rw [List.mem_singleton.mp z])
    exact h2
theorem wk8 {a b c : Dt} : ∀ (k : Nat) (e : Dt), [some a, none, none, some b, none, none, none, none][k]? = some (some e) → [some a, none, none, some b, some c, none, none, none][k]? = some (some e)
  | 0, e, h => h
  | 1, e, h => by cases h
  | 2, e, h => by cases h
  | 3, e, h => h
  | 4, e, h => by cases h
  | 5, e, h => by cases h
  | 6, e, h => by cases h
  | 7, e, h => by cases h
  | k + 8, e, h => by cases h
abbrev s_l_numbers_right : Stmt := topS 36
abbrev n_l_numbers_right : List Str := ["_law_n", "_law_told", "_law_due", "_law_more", "_law_number", "_law_some", "_law_wrong", "_law_one"]
theorem sc_l_numbers_right : FnScope n_l_numbers_right ["_law_n"] (defScope s_l_numbers_right) := ⟨rfl, rfl, rfl, by decide +kernel, rfl, by decide +kernel, by decide +kernel⟩
section
variable {w : World} {P : Program} {K : PySem.W.Frag} {mg : Str → Option Value} {base : Heap}
theorem c_l_numbers_right (T : Tr mg) (F : Dfn K mg "_law_numbers_right" s_l_numbers_right ["_law_n"]) (C_l_house : Cal P w K mg base 1 "_law_house" (spF K mHouse) []) (C_l_with : Cal P w K mg base 8 "_law_with" (spF K mWith) []) : Cal P w K mg base 9 "_law_numbers_right" (spF K mRight) [] := by
  refine calF mRight F sc_l_numbers_right (fun ds d h => ?_) fun f cdv A outer s H E hr ds d h => ?_
  · obtain ⟨_, _, rfl, _⟩ := right_of h
    rfl
  · obtain ⟨rfl, q, rfl, N⟩ := right_of h
    refine ⟨_, (pss_cons (ps_par3 (i := 1) (j := 2) (l := 3) (by rfl) sc_l_numbers_right.nd rfl rfl rfl (by decide) (by decide) (by decide) rfl rfl rfl (pa_cons (pe_lst (pa_nil)) (pa_cons (pe_lst (pa_nil)) (pa_cons (pe_tup (pa_cons (pe_c C_l_house hr (by decide) (by rfl) (pa_cons (pe_ix ix_seq (pv 0) (pe_int) (fun _ _ => rfl)) pa_nil)) pa_nil)) pa_nil))) (by rfl)) (pss_cons (ps_for PassesOwn.never rfl (pi_tup (pe_tup (pa_cons (pe_int) (pa_cons (pe_int) (pa_cons (pe_int) (pa_cons (pe_int) (pa_cons (pe_int) (pa_cons (pe_un un_neg (pe_int)) (pa_cons (pe_bl) (pa_cons (pe_non) (pa_cons (pe_str) pa_nil))))))))))) (pg_name (i := 4) sc_l_numbers_right.nd rfl (Or.inl rfl)) (pss_cons (ps_expr (pe_bm PySem.F.plainAttrs_list PySem.F.slot_list_append PySem.F.type_list_append mt_append (pv 1) (pa_cons (pe_c C_l_with hr (by decide) (by rfl) (pa_cons (pv 0) (pa_cons (pe_disp (pps_cons (pe_str) (pv 4) (pps_nil)) (by rfl) (by rfl) (fun z => by cases z) (by decide)) pa_nil))) pa_nil))) (pss_one (ps_expr (pe_bm PySem.F.plainAttrs_list PySem.F.slot_list_append PySem.F.type_list_append mt_append (pv 2) (pa_cons (pe_cmpR op_in_seq (pv 4) (pe_tup (pa_cons (pe_int) (pa_cons (pe_int) pa_nil))) rfl) pa_nil)))))) (pss_cons (ps_for PassesOwn.never rfl (pi_tup (pe_tup (pa_cons (pe_int) (pa_cons (pe_int) (pa_cons (pe_int) (pa_cons (pe_int) (pa_cons (pe_un un_neg (pe_int)) (pa_cons (pe_bl) (pa_cons (pe_non) (pa_cons (pe_str) pa_nil)))))))))) (pg_name (i := 4) sc_l_numbers_right.nd rfl (Or.inl rfl)) (pss_cons (ps_expr (pe_bm PySem.F.plainAttrs_list PySem.F.slot_list_append PySem.F.type_list_append mt_append (pv 1) (pa_cons (pe_c C_l_with hr (by decide) (by rfl) (pa_cons (pv 0) (pa_cons (pe_disp (pps_cons (pe_str) (pv 3) (pps_cons (pe_str) (pe_tup (pa_cons (pe_tup (pa_cons (pe_ix ix_seq (pv 0) (pe_int) (fun _ _ => rfl)) (pa_cons (pe_ix ix_seq (pv 0) (pe_int) (fun _ _ => rfl)) (pa_cons (pv 4) pa_nil)))) pa_nil)) (pps_nil))) (by rfl) (by rfl) (fun z => by cases z) (by decide)) pa_nil))) pa_nil))) (pss_one (ps_expr (pe_bm PySem.F.plainAttrs_list PySem.F.slot_list_append PySem.F.type_list_append mt_append (pv 2) (pa_cons (pe_and (pe_cmpR op_in_seq (pv 4) (pe_tup (pa_cons (pe_int) (pa_cons (pe_int) pa_nil))) rfl) (pe_one (pe_not (pe_callB call_isi (by rfl) T.m_isinstance (by decide +kernel) (pa_cons (pv 4) (pa_cons (pe_tyN "bool" (by rfl) T.m_bool (by decide +kernel)) pa_nil)))))) pa_nil)))))) (pss_cons (ps_set (i := 5) sc_l_numbers_right.nd rfl (Or.inl rfl) (pe_lst (pa_cons (pe_tup (pa_cons (pe_str) pa_nil)) (pa_cons (pe_tup (pa_cons (pe_str) pa_nil)) (pa_cons (pe_tup (pa_cons (pe_str) (pa_cons (pe_str) pa_nil))) (pa_cons (pe_tup (pa_cons (pe_str) (pa_cons (pe_str) (pa_cons (pe_str) pa_nil)))) (pa_cons (pe_tup (pa_cons (pe_str) (pa_cons (pe_str) pa_nil))) pa_nil))))))) (pss_cons (ps_set (i := 6) sc_l_numbers_right.nd rfl (Or.inl rfl) (pe_lst (pa_cons (pe_tup (pa_nil)) (pa_cons (pe_tup (pa_cons (pe_str) (pa_cons (pe_str) pa_nil))) (pa_cons (pe_tup (pa_cons (pe_str) (pa_cons (pe_str) pa_nil))) (pa_cons (pe_tup (pa_cons (pe_str) pa_nil)) (pa_cons (pe_lst (pa_cons (pe_str) pa_nil)) (pa_cons (pe_str) (pa_cons (pe_tup (pa_cons (pe_non) pa_nil)) (pa_cons (pe_tup (pa_cons (pe_str) (pa_cons (pe_str) pa_nil))) pa_nil)))))))))) (pss_cons (ps_set (i := 1) sc_l_numbers_right.nd rfl (Or.inl rfl) (pe_op op_catL (pv 1) (pe_lc (own := [("_law_one", 7)]) (g := gName 7) (by rfl) sc_l_numbers_right.nd (pi_list (pe_op op_catL (pv 5) (pv 6))) (blkOk_by (own := [("_law_one", 7)]) (N := n_l_numbers_right) (sc := defScope s_l_numbers_right) (by decide +kernel)) (fun _ _ _ _ _ => pg_name (i := 7) sc_l_numbers_right.nd rfl (Or.inl rfl)) (fun _ _ _ _ _ => pts_nil) (fun _ _ _ _ _ => pe_c C_l_with hr (by decide) (by rfl) (pa_cons (pv 0) (pa_cons (pe_disp (pps_cons (pe_str) (pv 7) (pps_nil)) (by rfl) (by rfl) (fun z => by cases z) (by decide)) pa_nil)))))) (pss_one (ps_ret (pe_cmpR (op_eqD hr.units) (pv 1) (pe_op op_catL (pe_op op_catL (pv 2) (pe_op op_rep (pe_lst (pa_cons (pe_bl) pa_nil)) (pe_int))) (pe_op op_rep (pe_lst (pa_cons (pe_bl) pa_nil)) (pe_int))) (nomark _)))))))))), ?_⟩
    refine rt_seq (go_par3 (by decide) (by decide) (by decide) (by show 1 < 8; decide) (by show 2 < 8; decide) (by show 3 < 8; decide) (ee_tup (ea_cons (ee_call (ea_cons (ee_op (ee_var rfl) (ee_int) (rd_ix rfl)) ea_nil) rfl) ea_nil) (Nat.le_of_ble_eq_true rfl))) ?_
    show RtE K _ [some (nD q), none, none, some (moreQ q), none, none, none, none] [(2, []), (1, [])] (.bool true)
    refine rt_seq (go_for (ei_tup (ds := [.int 399, .int 400, .int 9000, .int 9001, .int 0, .int (-400), .bool true, .none, .str "400"]) (ee_tup (ea_cons (ee_int) (ea_cons (ee_int) (ea_cons (ee_int) (ea_cons (ee_int) (ea_cons (ee_int) (ea_cons (ee_neg (ee_int)) (ea_cons (ee_bl) (ea_cons (ee_non) (ea_cons (ee_str) ea_nil))))))))) (Nat.le_of_ble_eq_true rfl))) (fun _ => [some (nD q), none, none, some (moreQ q), none, none, none, none]) (fun k => [(2, allN.take (0 + k)), (1, allN.take (0 + k))]) rfl rfl ?_ (fun k => two_ne (by decide) (by decide))) ?_
    · intro k d hk
      match k, hk with
      | 0, hk =>
        cases hk
        show GoE K _ [some (nD q), none, none, some (moreQ q), some (.int 399), none, none, none] [(2, []), (1, [])] [some (nD q), none, none, some (moreQ q), none, none, none, none] [(2, [.bool false]), (1, [.bool false])]
        refine go_weak (env1 := [some (nD q), none, none, some (moreQ q), some (.int 399), none, none, none]) (go_swap (go_seq (go_app (ee_call (ea_cons (ee_var rfl) (ea_cons (ee_dict (em_disp (ds := [("most", _)]) ⟨ee_str, ee_var rfl, trivial⟩ (show List.Nodup (["most"] : List Str) by decide +kernel) (Nat.le_of_ble_eq_true rfl))) ea_nil)) (m_0 N)) (Nat.lt_of_lt_of_le (Nat.lt_succ_self _) (Nat.le_of_ble_eq_true rfl))) (go_swap (go_app (ee_is (ee_op (ee_var rfl) (ee_tup (ea_cons (ee_int) (ea_cons (ee_int) ea_nil)) (Nat.le_of_ble_eq_true rfl)) (rd_inT (neg := false) rfl rfl)) rfl) (Nat.lt_of_lt_of_le (Nat.lt_succ_self _) (Nat.le_of_ble_eq_true rfl)))))) rfl wk8
      | 1, hk =>
        cases hk
        show GoE K _ [some (nD q), none, none, some (moreQ q), some (.int 400), none, none, none] [(2, [.bool false]), (1, [.bool false])] [some (nD q), none, none, some (moreQ q), none, none, none, none] [(2, [.bool false, .bool true]), (1, [.bool false, .bool true])]
        refine go_weak (env1 := [some (nD q), none, none, some (moreQ q), some (.int 400), none, none, none]) (go_swap (go_seq (go_app (ee_call (ea_cons (ee_var rfl) (ea_cons (ee_dict (em_disp (ds := [("most", _)]) ⟨ee_str, ee_var rfl, trivial⟩ (show List.Nodup (["most"] : List Str) by decide +kernel) (Nat.le_of_ble_eq_true rfl))) ea_nil)) (m_1 N)) (Nat.lt_of_lt_of_le (Nat.lt_succ_self _) (Nat.le_of_ble_eq_true rfl))) (go_swap (go_app (ee_is (ee_op (ee_var rfl) (ee_tup (ea_cons (ee_int) (ea_cons (ee_int) ea_nil)) (Nat.le_of_ble_eq_true rfl)) (rd_inT (neg := false) rfl rfl)) rfl) (Nat.lt_of_lt_of_le (Nat.lt_succ_self _) (Nat.le_of_ble_eq_true rfl)))))) rfl wk8
      | 2, hk =>
        cases hk
        show GoE K _ [some (nD q), none, none, some (moreQ q), some (.int 9000), none, none, none] [(2, [.bool false, .bool true]), (1, [.bool false, .bool true])] [some (nD q), none, none, some (moreQ q), none, none, none, none] [(2, [.bool false, .bool true, .bool true]), (1, [.bool false, .bool true, .bool true])]
        refine go_weak (env1 := [some (nD q), none, none, some (moreQ q), some (.int 9000), none, none, none]) (go_swap (go_seq (go_app (ee_call (ea_cons (ee_var rfl) (ea_cons (ee_dict (em_disp (ds := [("most", _)]) ⟨ee_str, ee_var rfl, trivial⟩ (show List.Nodup (["most"] : List Str) by decide +kernel) (Nat.le_of_ble_eq_true rfl))) ea_nil)) (m_2 N)) (Nat.lt_of_lt_of_le (Nat.lt_succ_self _) (Nat.le_of_ble_eq_true rfl))) (go_swap (go_app (ee_is (ee_op (ee_var rfl) (ee_tup (ea_cons (ee_int) (ea_cons (ee_int) ea_nil)) (Nat.le_of_ble_eq_true rfl)) (rd_inT (neg := false) rfl rfl)) rfl) (Nat.lt_of_lt_of_le (Nat.lt_succ_self _) (Nat.le_of_ble_eq_true rfl)))))) rfl wk8
      | 3, hk =>
        cases hk
        show GoE K _ [some (nD q), none, none, some (moreQ q), some (.int 9001), none, none, none] [(2, [.bool false, .bool true, .bool true]), (1, [.bool false, .bool true, .bool true])] [some (nD q), none, none, some (moreQ q), none, none, none, none] [(2, [.bool false, .bool true, .bool true, .bool false]), (1, [.bool false, .bool true, .bool true, .bool false])]
        refine go_weak (env1 := [some (nD q), none, none, some (moreQ q), some (.int 9001), none, none, none]) (go_swap (go_seq (go_app (ee_call (ea_cons (ee_var rfl) (ea_cons (ee_dict (em_disp (ds := [("most", _)]) ⟨ee_str, ee_var rfl, trivial⟩ (show List.Nodup (["most"] : List Str) by decide +kernel) (Nat.le_of_ble_eq_true rfl))) ea_nil)) (m_3 N)) (Nat.lt_of_lt_of_le (Nat.lt_succ_self _) (Nat.le_of_ble_eq_true rfl))) (go_swap (go_app (ee_is (ee_op (ee_var rfl) (ee_tup (ea_cons (ee_int) (ea_cons (ee_int) ea_nil)) (Nat.le_of_ble_eq_true rfl)) (rd_inT (neg := false) rfl rfl)) rfl) (Nat.lt_of_lt_of_le (Nat.lt_succ_self _) (Nat.le_of_ble_eq_true rfl)))))) rfl wk8
      | 4, hk =>
        cases hk
        show GoE K _ [some (nD q), none, none, some (moreQ q), some (.int 0), none, none, none] [(2, [.bool false, .bool true, .bool true, .bool false]), (1, [.bool false, .bool true, .bool true, .bool false])] [some (nD q), none, none, some (moreQ q), none, none, none, none] [(2, [.bool false, .bool true, .bool true, .bool false, .bool false]), (1, [.bool false, .bool true, .bool true, .bool false, .bool false])]
        refine go_weak (env1 := [some (nD q), none, none, some (moreQ q), some (.int 0), none, none, none]) (go_swap (go_seq (go_app (ee_call (ea_cons (ee_var rfl) (ea_cons (ee_dict (em_disp (ds := [("most", _)]) ⟨ee_str, ee_var rfl, trivial⟩ (show List.Nodup (["most"] : List Str) by decide +kernel) (Nat.le_of_ble_eq_true rfl))) ea_nil)) (m_4 N)) (Nat.lt_of_lt_of_le (Nat.lt_succ_self _) (Nat.le_of_ble_eq_true rfl))) (go_swap (go_app (ee_is (ee_op (ee_var rfl) (ee_tup (ea_cons (ee_int) (ea_cons (ee_int) ea_nil)) (Nat.le_of_ble_eq_true rfl)) (rd_inT (neg := false) rfl rfl)) rfl) (Nat.lt_of_lt_of_le (Nat.lt_succ_self _) (Nat.le_of_ble_eq_true rfl)))))) rfl wk8
      | 5, hk =>
        cases hk
        show GoE K _ [some (nD q), none, none, some (moreQ q), some (.int (-400)), none, none, none] [(2, [.bool false, .bool true, .bool true, .bool false, .bool false]), (1, [.bool false, .bool true, .bool true, .bool false, .bool false])] [some (nD q), none, none, some (moreQ q), none, none, none, none] [(2, [.bool false, .bool true, .bool true, .bool false, .bool false, .bool false]), (1, [.bool false, .bool true, .bool true, .bool false, .bool false, .bool false])]
        refine go_weak (env1 := [some (nD q), none, none, some (moreQ q), some (.int (-400)), none, none, none]) (go_swap (go_seq (go_app (ee_call (ea_cons (ee_var rfl) (ea_cons (ee_dict (em_disp (ds := [("most", _)]) ⟨ee_str, ee_var rfl, trivial⟩ (show List.Nodup (["most"] : List Str) by decide +kernel) (Nat.le_of_ble_eq_true rfl))) ea_nil)) (m_5 N)) (Nat.lt_of_lt_of_le (Nat.lt_succ_self _) (Nat.le_of_ble_eq_true rfl))) (go_swap (go_app (ee_is (ee_op (ee_var rfl) (ee_tup (ea_cons (ee_int) (ea_cons (ee_int) ea_nil)) (Nat.le_of_ble_eq_true rfl)) (rd_inT (neg := false) rfl rfl)) rfl) (Nat.lt_of_lt_of_le (Nat.lt_succ_self _) (Nat.le_of_ble_eq_true rfl)))))) rfl wk8
      | 6, hk =>
        cases hk
        show GoE K _ [some (nD q), none, none, some (moreQ q), some (.bool true), none, none, none] [(2, [.bool false, .bool true, .bool true, .bool false, .bool false, .bool false]), (1, [.bool false, .bool true, .bool true, .bool false, .bool false, .bool false])] [some (nD q), none, none, some (moreQ q), none, none, none, none] [(2, [.bool false, .bool true, .bool true, .bool false, .bool false, .bool false, .bool false]), (1, [.bool false, .bool true, .bool true, .bool false, .bool false, .bool false, .bool false])]
        refine go_weak (env1 := [some (nD q), none, none, some (moreQ q), some (.bool true), none, none, none]) (go_swap (go_seq (go_app (ee_call (ea_cons (ee_var rfl) (ea_cons (ee_dict (em_disp (ds := [("most", _)]) ⟨ee_str, ee_var rfl, trivial⟩ (show List.Nodup (["most"] : List Str) by decide +kernel) (Nat.le_of_ble_eq_true rfl))) ea_nil)) (m_6 N)) (Nat.lt_of_lt_of_le (Nat.lt_succ_self _) (Nat.le_of_ble_eq_true rfl))) (go_swap (go_app (ee_is (ee_op (ee_var rfl) (ee_tup (ea_cons (ee_int) (ea_cons (ee_int) ea_nil)) (Nat.le_of_ble_eq_true rfl)) (rd_inT (neg := false) rfl rfl)) rfl) (Nat.lt_of_lt_of_le (Nat.lt_succ_self _) (Nat.le_of_ble_eq_true rfl)))))) rfl wk8
      | 7, hk =>
        cases hk
        show GoE K _ [some (nD q), none, none, some (moreQ q), some (.none), none, none, none] [(2, [.bool false, .bool true, .bool true, .bool false, .bool false, .bool false, .bool false]), (1, [.bool false, .bool true, .bool true, .bool false, .bool false, .bool false, .bool false])] [some (nD q), none, none, some (moreQ q), none, none, none, none] [(2, [.bool false, .bool true, .bool true, .bool false, .bool false, .bool false, .bool false, .bool false]), (1, [.bool false, .bool true, .bool true, .bool false, .bool false, .bool false, .bool false, .bool false])]
        refine go_weak (env1 := [some (nD q), none, none, some (moreQ q), some (.none), none, none, none]) (go_swap (go_seq (go_app (ee_call (ea_cons (ee_var rfl) (ea_cons (ee_dict (em_disp (ds := [("most", _)]) ⟨ee_str, ee_var rfl, trivial⟩ (show List.Nodup (["most"] : List Str) by decide +kernel) (Nat.le_of_ble_eq_true rfl))) ea_nil)) (m_7 N)) (Nat.lt_of_lt_of_le (Nat.lt_succ_self _) (Nat.le_of_ble_eq_true rfl))) (go_swap (go_app (ee_is (ee_op (ee_var rfl) (ee_tup (ea_cons (ee_int) (ea_cons (ee_int) ea_nil)) (Nat.le_of_ble_eq_true rfl)) (rd_inT (neg := false) rfl rfl)) rfl) (Nat.lt_of_lt_of_le (Nat.lt_succ_self _) (Nat.le_of_ble_eq_true rfl)))))) rfl wk8
      | 8, hk =>
        cases hk
        show GoE K _ [some (nD q), none, none, some (moreQ q), some (.str "400"), none, none, none] [(2, [.bool false, .bool true, .bool true, .bool false, .bool false, .bool false, .bool false, .bool false]), (1, [.bool false, .bool true, .bool true, .bool false, .bool false, .bool false, .bool false, .bool false])] [some (nD q), none, none, some (moreQ q), none, none, none, none] [(2, [.bool false, .bool true, .bool true, .bool false, .bool false, .bool false, .bool false, .bool false, .bool false]), (1, [.bool false, .bool true, .bool true, .bool false, .bool false, .bool false, .bool false, .bool false, .bool false])]
        refine go_weak (env1 := [some (nD q), none, none, some (moreQ q), some (.str "400"), none, none, none]) (go_swap (go_seq (go_app (ee_call (ea_cons (ee_var rfl) (ea_cons (ee_dict (em_disp (ds := [("most", _)]) ⟨ee_str, ee_var rfl, trivial⟩ (show List.Nodup (["most"] : List Str) by decide +kernel) (Nat.le_of_ble_eq_true rfl))) ea_nil)) (m_8 N)) (Nat.lt_of_lt_of_le (Nat.lt_succ_self _) (Nat.le_of_ble_eq_true rfl))) (go_swap (go_app (ee_is (ee_op (ee_var rfl) (ee_tup (ea_cons (ee_int) (ea_cons (ee_int) ea_nil)) (Nat.le_of_ble_eq_true rfl)) (rd_inT (neg := false) rfl rfl)) rfl) (Nat.lt_of_lt_of_le (Nat.lt_succ_self _) (Nat.le_of_ble_eq_true rfl)))))) rfl wk8
      | k + 9, hk => cases hk
    show RtE K _ [some (nD q), none, none, some (moreQ q), none, none, none, none] [(2, [.bool false, .bool true, .bool true, .bool false, .bool false, .bool false, .bool false, .bool false, .bool false]), (1, [.bool false, .bool true, .bool true, .bool false, .bool false, .bool false, .bool false, .bool false, .bool false])] (.bool true)
    refine rt_seq (go_for (ei_tup (ds := [.int 0, .int 1, .int 4, .int 5, .int (-1), .bool true, .none, .str "1"]) (ee_tup (ea_cons (ee_int) (ea_cons (ee_int) (ea_cons (ee_int) (ea_cons (ee_int) (ea_cons (ee_neg (ee_int)) (ea_cons (ee_bl) (ea_cons (ee_non) (ea_cons (ee_str) ea_nil)))))))) (Nat.le_of_ble_eq_true rfl))) (fun _ => [some (nD q), none, none, some (moreQ q), none, none, none, none]) (fun k => [(2, allN.take (9 + k)), (1, allN.take (9 + k))]) rfl rfl ?_ (fun k => two_ne (by decide) (by decide))) ?_
    · intro k d hk
      match k, hk with
      | 0, hk =>
        cases hk
        show GoE K _ [some (nD q), none, none, some (moreQ q), some (.int 0), none, none, none] [(2, [.bool false, .bool true, .bool true, .bool false, .bool false, .bool false, .bool false, .bool false, .bool false]), (1, [.bool false, .bool true, .bool true, .bool false, .bool false, .bool false, .bool false, .bool false, .bool false])] [some (nD q), none, none, some (moreQ q), none, none, none, none] [(2, [.bool false, .bool true, .bool true, .bool false, .bool false, .bool false, .bool false, .bool false, .bool false, .bool false]), (1, [.bool false, .bool true, .bool true, .bool false, .bool false, .bool false, .bool false, .bool false, .bool false, .bool false])]
        refine go_weak (env1 := [some (nD q), none, none, some (moreQ q), some (.int 0), none, none, none]) (go_swap (go_seq (go_app (ee_call (ea_cons (ee_var rfl) (ea_cons (ee_dict (em_disp (ds := [("more", _), ("links", _)]) ⟨ee_str, ee_var rfl, ee_str, ee_tup (ea_cons (ee_tup (ea_cons (ee_op (ee_var rfl) (ee_int) (rd_ix rfl)) (ea_cons (ee_op (ee_var rfl) (ee_int) (rd_ix rfl)) (ea_cons (ee_var rfl) ea_nil))) (Nat.le_of_ble_eq_true rfl)) ea_nil) (Nat.le_of_ble_eq_true rfl), trivial⟩ (show List.Nodup (["more", "links"] : List Str) by decide +kernel) (Nat.le_of_ble_eq_true rfl))) ea_nil)) (d_0 N)) (Nat.lt_of_lt_of_le (Nat.lt_succ_self _) (Nat.le_of_ble_eq_true rfl))) (go_swap (go_app (ee_is (ee_and (ee_op (ee_var rfl) (ee_tup (ea_cons (ee_int) (ea_cons (ee_int) ea_nil)) (Nat.le_of_ble_eq_true rfl)) (rd_inT (neg := false) rfl rfl)) fun _ => ee_not (ee_isBool (ee_var rfl))) rfl) (Nat.lt_of_lt_of_le (Nat.lt_succ_self _) (Nat.le_of_ble_eq_true rfl)))))) rfl wk8
      | 1, hk =>
        cases hk
        show GoE K _ [some (nD q), none, none, some (moreQ q), some (.int 1), none, none, none] [(2, [.bool false, .bool true, .bool true, .bool false, .bool false, .bool false, .bool false, .bool false, .bool false, .bool false]), (1, [.bool false, .bool true, .bool true, .bool false, .bool false, .bool false, .bool false, .bool false, .bool false, .bool false])] [some (nD q), none, none, some (moreQ q), none, none, none, none] [(2, [.bool false, .bool true, .bool true, .bool false, .bool false, .bool false, .bool false, .bool false, .bool false, .bool false, .bool true]), (1, [.bool false, .bool true, .bool true, .bool false, .bool false, .bool false, .bool false, .bool false, .bool false, .bool false, .bool true])]
        refine go_weak (env1 := [some (nD q), none, none, some (moreQ q), some (.int 1), none, none, none]) (go_swap (go_seq (go_app (ee_call (ea_cons (ee_var rfl) (ea_cons (ee_dict (em_disp (ds := [("more", _), ("links", _)]) ⟨ee_str, ee_var rfl, ee_str, ee_tup (ea_cons (ee_tup (ea_cons (ee_op (ee_var rfl) (ee_int) (rd_ix rfl)) (ea_cons (ee_op (ee_var rfl) (ee_int) (rd_ix rfl)) (ea_cons (ee_var rfl) ea_nil))) (Nat.le_of_ble_eq_true rfl)) ea_nil) (Nat.le_of_ble_eq_true rfl), trivial⟩ (show List.Nodup (["more", "links"] : List Str) by decide +kernel) (Nat.le_of_ble_eq_true rfl))) ea_nil)) (d_1 N)) (Nat.lt_of_lt_of_le (Nat.lt_succ_self _) (Nat.le_of_ble_eq_true rfl))) (go_swap (go_app (ee_is (ee_and (ee_op (ee_var rfl) (ee_tup (ea_cons (ee_int) (ea_cons (ee_int) ea_nil)) (Nat.le_of_ble_eq_true rfl)) (rd_inT (neg := false) rfl rfl)) fun _ => ee_not (ee_isBool (ee_var rfl))) rfl) (Nat.lt_of_lt_of_le (Nat.lt_succ_self _) (Nat.le_of_ble_eq_true rfl)))))) rfl wk8
      | 2, hk =>
        cases hk
        show GoE K _ [some (nD q), none, none, some (moreQ q), some (.int 4), none, none, none] [(2, [.bool false, .bool true, .bool true, .bool false, .bool false, .bool false, .bool false, .bool false, .bool false, .bool false, .bool true]), (1, [.bool false, .bool true, .bool true, .bool false, .bool false, .bool false, .bool false, .bool false, .bool false, .bool false, .bool true])] [some (nD q), none, none, some (moreQ q), none, none, none, none] [(2, [.bool false, .bool true, .bool true, .bool false, .bool false, .bool false, .bool false, .bool false, .bool false, .bool false, .bool true, .bool true]), (1, [.bool false, .bool true, .bool true, .bool false, .bool false, .bool false, .bool false, .bool false, .bool false, .bool false, .bool true, .bool true])]
        refine go_weak (env1 := [some (nD q), none, none, some (moreQ q), some (.int 4), none, none, none]) (go_swap (go_seq (go_app (ee_call (ea_cons (ee_var rfl) (ea_cons (ee_dict (em_disp (ds := [("more", _), ("links", _)]) ⟨ee_str, ee_var rfl, ee_str, ee_tup (ea_cons (ee_tup (ea_cons (ee_op (ee_var rfl) (ee_int) (rd_ix rfl)) (ea_cons (ee_op (ee_var rfl) (ee_int) (rd_ix rfl)) (ea_cons (ee_var rfl) ea_nil))) (Nat.le_of_ble_eq_true rfl)) ea_nil) (Nat.le_of_ble_eq_true rfl), trivial⟩ (show List.Nodup (["more", "links"] : List Str) by decide +kernel) (Nat.le_of_ble_eq_true rfl))) ea_nil)) (d_2 N)) (Nat.lt_of_lt_of_le (Nat.lt_succ_self _) (Nat.le_of_ble_eq_true rfl))) (go_swap (go_app (ee_is (ee_and (ee_op (ee_var rfl) (ee_tup (ea_cons (ee_int) (ea_cons (ee_int) ea_nil)) (Nat.le_of_ble_eq_true rfl)) (rd_inT (neg := false) rfl rfl)) fun _ => ee_not (ee_isBool (ee_var rfl))) rfl) (Nat.lt_of_lt_of_le (Nat.lt_succ_self _) (Nat.le_of_ble_eq_true rfl)))))) rfl wk8
      | 3, hk =>
        cases hk
        show GoE K _ [some (nD q), none, none, some (moreQ q), some (.int 5), none, none, none] [(2, [.bool false, .bool true, .bool true, .bool false, .bool false, .bool false, .bool false, .bool false, .bool false, .bool false, .bool true, .bool true]), (1, [.bool false, .bool true, .bool true, .bool false, .bool false, .bool false, .bool false, .bool false, .bool false, .bool false, .bool true, .bool true])] [some (nD q), none, none, some (moreQ q), none, none, none, none] [(2, [.bool false, .bool true, .bool true, .bool false, .bool false, .bool false, .bool false, .bool false, .bool false, .bool false, .bool true, .bool true, .bool false]), (1, [.bool false, .bool true, .bool true, .bool false, .bool false, .bool false, .bool false, .bool false, .bool false, .bool false, .bool true, .bool true, .bool false])]
        refine go_weak (env1 := [some (nD q), none, none, some (moreQ q), some (.int 5), none, none, none]) (go_swap (go_seq (go_app (ee_call (ea_cons (ee_var rfl) (ea_cons (ee_dict (em_disp (ds := [("more", _), ("links", _)]) ⟨ee_str, ee_var rfl, ee_str, ee_tup (ea_cons (ee_tup (ea_cons (ee_op (ee_var rfl) (ee_int) (rd_ix rfl)) (ea_cons (ee_op (ee_var rfl) (ee_int) (rd_ix rfl)) (ea_cons (ee_var rfl) ea_nil))) (Nat.le_of_ble_eq_true rfl)) ea_nil) (Nat.le_of_ble_eq_true rfl), trivial⟩ (show List.Nodup (["more", "links"] : List Str) by decide +kernel) (Nat.le_of_ble_eq_true rfl))) ea_nil)) (d_3 N)) (Nat.lt_of_lt_of_le (Nat.lt_succ_self _) (Nat.le_of_ble_eq_true rfl))) (go_swap (go_app (ee_is (ee_and (ee_op (ee_var rfl) (ee_tup (ea_cons (ee_int) (ea_cons (ee_int) ea_nil)) (Nat.le_of_ble_eq_true rfl)) (rd_inT (neg := false) rfl rfl)) fun _ => ee_not (ee_isBool (ee_var rfl))) rfl) (Nat.lt_of_lt_of_le (Nat.lt_succ_self _) (Nat.le_of_ble_eq_true rfl)))))) rfl wk8
      | 4, hk =>
        cases hk
        show GoE K _ [some (nD q), none, none, some (moreQ q), some (.int (-1)), none, none, none] [(2, [.bool false, .bool true, .bool true, .bool false, .bool false, .bool false, .bool false, .bool false, .bool false, .bool false, .bool true, .bool true, .bool false]), (1, [.bool false, .bool true, .bool true, .bool false, .bool false, .bool false, .bool false, .bool false, .bool false, .bool false, .bool true, .bool true, .bool false])] [some (nD q), none, none, some (moreQ q), none, none, none, none] [(2, [.bool false, .bool true, .bool true, .bool false, .bool false, .bool false, .bool false, .bool false, .bool false, .bool false, .bool true, .bool true, .bool false, .bool false]), (1, [.bool false, .bool true, .bool true, .bool false, .bool false, .bool false, .bool false, .bool false, .bool false, .bool false, .bool true, .bool true, .bool false, .bool false])]
        refine go_weak (env1 := [some (nD q), none, none, some (moreQ q), some (.int (-1)), none, none, none]) (go_swap (go_seq (go_app (ee_call (ea_cons (ee_var rfl) (ea_cons (ee_dict (em_disp (ds := [("more", _), ("links", _)]) ⟨ee_str, ee_var rfl, ee_str, ee_tup (ea_cons (ee_tup (ea_cons (ee_op (ee_var rfl) (ee_int) (rd_ix rfl)) (ea_cons (ee_op (ee_var rfl) (ee_int) (rd_ix rfl)) (ea_cons (ee_var rfl) ea_nil))) (Nat.le_of_ble_eq_true rfl)) ea_nil) (Nat.le_of_ble_eq_true rfl), trivial⟩ (show List.Nodup (["more", "links"] : List Str) by decide +kernel) (Nat.le_of_ble_eq_true rfl))) ea_nil)) (d_4 N)) (Nat.lt_of_lt_of_le (Nat.lt_succ_self _) (Nat.le_of_ble_eq_true rfl))) (go_swap (go_app (ee_is (ee_and (ee_op (ee_var rfl) (ee_tup (ea_cons (ee_int) (ea_cons (ee_int) ea_nil)) (Nat.le_of_ble_eq_true rfl)) (rd_inT (neg := false) rfl rfl)) fun _ => ee_not (ee_isBool (ee_var rfl))) rfl) (Nat.lt_of_lt_of_le (Nat.lt_succ_self _) (Nat.le_of_ble_eq_true rfl)))))) rfl wk8
      | 5, hk =>
        cases hk
        show GoE K _ [some (nD q), none, none, some (moreQ q), some (.bool true), none, none, none] [(2, [.bool false, .bool true, .bool true, .bool false, .bool false, .bool false, .bool false, .bool false, .bool false, .bool false, .bool true, .bool true, .bool false, .bool false]), (1, [.bool false, .bool true, .bool true, .bool false, .bool false, .bool false, .bool false, .bool false, .bool false, .bool false, .bool true, .bool true, .bool false, .bool false])] [some (nD q), none, none, some (moreQ q), none, none, none, none] [(2, [.bool false, .bool true, .bool true, .bool false, .bool false, .bool false, .bool false, .bool false, .bool false, .bool false, .bool true, .bool true, .bool false, .bool false, .bool false]), (1, [.bool false, .bool true, .bool true, .bool false, .bool false, .bool false, .bool false, .bool false, .bool false, .bool false, .bool true, .bool true, .bool false, .bool false, .bool false])]
        refine go_weak (env1 := [some (nD q), none, none, some (moreQ q), some (.bool true), none, none, none]) (go_swap (go_seq (go_app (ee_call (ea_cons (ee_var rfl) (ea_cons (ee_dict (em_disp (ds := [("more", _), ("links", _)]) ⟨ee_str, ee_var rfl, ee_str, ee_tup (ea_cons (ee_tup (ea_cons (ee_op (ee_var rfl) (ee_int) (rd_ix rfl)) (ea_cons (ee_op (ee_var rfl) (ee_int) (rd_ix rfl)) (ea_cons (ee_var rfl) ea_nil))) (Nat.le_of_ble_eq_true rfl)) ea_nil) (Nat.le_of_ble_eq_true rfl), trivial⟩ (show List.Nodup (["more", "links"] : List Str) by decide +kernel) (Nat.le_of_ble_eq_true rfl))) ea_nil)) (d_5 N)) (Nat.lt_of_lt_of_le (Nat.lt_succ_self _) (Nat.le_of_ble_eq_true rfl))) (go_swap (go_app (ee_is (ee_and (ee_op (ee_var rfl) (ee_tup (ea_cons (ee_int) (ea_cons (ee_int) ea_nil)) (Nat.le_of_ble_eq_true rfl)) (rd_inT (neg := false) rfl rfl)) fun _ => ee_not (ee_isBool (ee_var rfl))) rfl) (Nat.lt_of_lt_of_le (Nat.lt_succ_self _) (Nat.le_of_ble_eq_true rfl)))))) rfl wk8
      | 6, hk =>
        cases hk
        show GoE K _ [some (nD q), none, none, some (moreQ q), some (.none), none, none, none] [(2, [.bool false, .bool true, .bool true, .bool false, .bool false, .bool false, .bool false, .bool false, .bool false, .bool false, .bool true, .bool true, .bool false, .bool false, .bool false]), (1, [.bool false, .bool true, .bool true, .bool false, .bool false, .bool false, .bool false, .bool false, .bool false, .bool false, .bool true, .bool true, .bool false, .bool false, .bool false])] [some (nD q), none, none, some (moreQ q), none, none, none, none] [(2, [.bool false, .bool true, .bool true, .bool false, .bool false, .bool false, .bool false, .bool false, .bool false, .bool false, .bool true, .bool true, .bool false, .bool false, .bool false, .bool false]), (1, [.bool false, .bool true, .bool true, .bool false, .bool false, .bool false, .bool false, .bool false, .bool false, .bool false, .bool true, .bool true, .bool false, .bool false, .bool false, .bool false])]
        refine go_weak (env1 := [some (nD q), none, none, some (moreQ q), some (.none), none, none, none]) (go_swap (go_seq (go_app (ee_call (ea_cons (ee_var rfl) (ea_cons (ee_dict (em_disp (ds := [("more", _), ("links", _)]) ⟨ee_str, ee_var rfl, ee_str, ee_tup (ea_cons (ee_tup (ea_cons (ee_op (ee_var rfl) (ee_int) (rd_ix rfl)) (ea_cons (ee_op (ee_var rfl) (ee_int) (rd_ix rfl)) (ea_cons (ee_var rfl) ea_nil))) (Nat.le_of_ble_eq_true rfl)) ea_nil) (Nat.le_of_ble_eq_true rfl), trivial⟩ (show List.Nodup (["more", "links"] : List Str) by decide +kernel) (Nat.le_of_ble_eq_true rfl))) ea_nil)) (d_6 N)) (Nat.lt_of_lt_of_le (Nat.lt_succ_self _) (Nat.le_of_ble_eq_true rfl))) (go_swap (go_app (ee_is (ee_and (ee_op (ee_var rfl) (ee_tup (ea_cons (ee_int) (ea_cons (ee_int) ea_nil)) (Nat.le_of_ble_eq_true rfl)) (rd_inT (neg := false) rfl rfl)) fun _ => ee_not (ee_isBool (ee_var rfl))) rfl) (Nat.lt_of_lt_of_le (Nat.lt_succ_self _) (Nat.le_of_ble_eq_true rfl)))))) rfl wk8
      | 7, hk =>
        cases hk
        show GoE K _ [some (nD q), none, none, some (moreQ q), some (.str "1"), none, none, none] [(2, [.bool false, .bool true, .bool true, .bool false, .bool false, .bool false, .bool false, .bool false, .bool false, .bool false, .bool true, .bool true, .bool false, .bool false, .bool false, .bool false]), (1, [.bool false, .bool true, .bool true, .bool false, .bool false, .bool false, .bool false, .bool false, .bool false, .bool false, .bool true, .bool true, .bool false, .bool false, .bool false, .bool false])] [some (nD q), none, none, some (moreQ q), none, none, none, none] [(2, [.bool false, .bool true, .bool true, .bool false, .bool false, .bool false, .bool false, .bool false, .bool false, .bool false, .bool true, .bool true, .bool false, .bool false, .bool false, .bool false, .bool false]), (1, [.bool false, .bool true, .bool true, .bool false, .bool false, .bool false, .bool false, .bool false, .bool false, .bool false, .bool true, .bool true, .bool false, .bool false, .bool false, .bool false, .bool false])]
        refine go_weak (env1 := [some (nD q), none, none, some (moreQ q), some (.str "1"), none, none, none]) (go_swap (go_seq (go_app (ee_call (ea_cons (ee_var rfl) (ea_cons (ee_dict (em_disp (ds := [("more", _), ("links", _)]) ⟨ee_str, ee_var rfl, ee_str, ee_tup (ea_cons (ee_tup (ea_cons (ee_op (ee_var rfl) (ee_int) (rd_ix rfl)) (ea_cons (ee_op (ee_var rfl) (ee_int) (rd_ix rfl)) (ea_cons (ee_var rfl) ea_nil))) (Nat.le_of_ble_eq_true rfl)) ea_nil) (Nat.le_of_ble_eq_true rfl), trivial⟩ (show List.Nodup (["more", "links"] : List Str) by decide +kernel) (Nat.le_of_ble_eq_true rfl))) ea_nil)) (d_7 N)) (Nat.lt_of_lt_of_le (Nat.lt_succ_self _) (Nat.le_of_ble_eq_true rfl))) (go_swap (go_app (ee_is (ee_and (ee_op (ee_var rfl) (ee_tup (ea_cons (ee_int) (ea_cons (ee_int) ea_nil)) (Nat.le_of_ble_eq_true rfl)) (rd_inT (neg := false) rfl rfl)) fun _ => ee_not (ee_isBool (ee_var rfl))) rfl) (Nat.lt_of_lt_of_le (Nat.lt_succ_self _) (Nat.le_of_ble_eq_true rfl)))))) rfl wk8
      | k + 8, hk => cases hk
    show RtE K _ [some (nD q), none, none, some (moreQ q), none, none, none, none] [(2, [.bool false, .bool true, .bool true, .bool false, .bool false, .bool false, .bool false, .bool false, .bool false, .bool false, .bool true, .bool true, .bool false, .bool false, .bool false, .bool false, .bool false]), (1, [.bool false, .bool true, .bool true, .bool false, .bool false, .bool false, .bool false, .bool false, .bool false, .bool false, .bool true, .bool true, .bool false, .bool false, .bool false, .bool false, .bool false])] (.bool true)
    refine rt_seq (go_asg (ee_of (en_lst (ea_cons (ee_tup (ea_cons (ee_str) ea_nil) (Nat.le_of_ble_eq_true rfl)) (ea_cons (ee_tup (ea_cons (ee_str) ea_nil) (Nat.le_of_ble_eq_true rfl)) (ea_cons (ee_tup (ea_cons (ee_str) (ea_cons (ee_str) ea_nil)) (Nat.le_of_ble_eq_true rfl)) (ea_cons (ee_tup (ea_cons (ee_str) (ea_cons (ee_str) (ea_cons (ee_str) ea_nil))) (Nat.le_of_ble_eq_true rfl)) (ea_cons (ee_tup (ea_cons (ee_str) (ea_cons (ee_str) ea_nil)) (Nat.le_of_ble_eq_true rfl)) ea_nil))))) (Nat.le_of_ble_eq_true rfl))) (two_ne (by decide) (by decide))) ?_
    refine rt_seq (go_asg (ee_of (en_lst (ea_cons (ee_tup (ea_nil) (Nat.le_of_ble_eq_true rfl)) (ea_cons (ee_tup (ea_cons (ee_str) (ea_cons (ee_str) ea_nil)) (Nat.le_of_ble_eq_true rfl)) (ea_cons (ee_tup (ea_cons (ee_str) (ea_cons (ee_str) ea_nil)) (Nat.le_of_ble_eq_true rfl)) (ea_cons (ee_tup (ea_cons (ee_str) ea_nil) (Nat.le_of_ble_eq_true rfl)) (ea_cons (ee_of (en_lst (ea_cons (ee_str) ea_nil) (Nat.le_of_ble_eq_true rfl))) (ea_cons (ee_str) (ea_cons (ee_tup (ea_cons (ee_non) ea_nil) (Nat.le_of_ble_eq_true rfl)) (ea_cons (ee_tup (ea_cons (ee_str) (ea_cons (ee_str) ea_nil)) (Nat.le_of_ble_eq_true rfl)) ea_nil)))))))) (Nat.le_of_ble_eq_true rfl))) (two_ne (by decide) (by decide))) ?_
    show RtE K _ [some (nD q), none, none, some (moreQ q), none, some (.list [.tuple [.str "plain"], .tuple [.str "packed"], .tuple [.str "plain", .str "packed"], .tuple [.str "plain", .str "marked", .str "packed"], .tuple [.str "marked", .str "packed"]]), some (.list [.tuple [], .tuple [.str "packed", .str "plain"], .tuple [.str "plain", .str "plain"], .tuple [.str "Plain"], .list [.str "plain"], .str "plain", .tuple [.none], .tuple [.str "marked", .str "plain"]]), none] [(2, [.bool false, .bool true, .bool true, .bool false, .bool false, .bool false, .bool false, .bool false, .bool false, .bool false, .bool true, .bool true, .bool false, .bool false, .bool false, .bool false, .bool false]), (1, [.bool false, .bool true, .bool true, .bool false, .bool false, .bool false, .bool false, .bool false, .bool false, .bool false, .bool true, .bool true, .bool false, .bool false, .bool false, .bool false, .bool false])] (.bool true)
    refine rt_seq (go_swap (go_freeze (go_asgN (en_cat (ee_var rfl) (ee_of (en_maps (ds := [.tuple [.str "plain"], .tuple [.str "packed"], .tuple [.str "plain", .str "packed"], .tuple [.str "plain", .str "marked", .str "packed"], .tuple [.str "marked", .str "packed"], .tuple [], .tuple [.str "packed", .str "plain"], .tuple [.str "plain", .str "plain"], .tuple [.str "Plain"], .list [.str "plain"], .str "plain", .tuple [.none], .tuple [.str "marked", .str "plain"]]) (rs := (List.replicate 5 (PyData.bool true)) ++ List.replicate 8 (PyData.bool false)) (ei_list (ee_is (ee_of (en_cat (ee_var rfl) (ee_var rfl) (Nat.le_of_ble_eq_true rfl))) rfl)) rfl (.cons (ee_call (ea_cons (ee_var rfl) (ea_cons (ee_dict (em_disp (ds := [("ways", _)]) ⟨ee_str, ee_var rfl, trivial⟩ (show List.Nodup (["ways"] : List Str) by decide +kernel) (Nat.le_of_ble_eq_true rfl))) ea_nil)) (w_0 N)) (.cons (ee_call (ea_cons (ee_var rfl) (ea_cons (ee_dict (em_disp (ds := [("ways", _)]) ⟨ee_str, ee_var rfl, trivial⟩ (show List.Nodup (["ways"] : List Str) by decide +kernel) (Nat.le_of_ble_eq_true rfl))) ea_nil)) (w_1 N)) (.cons (ee_call (ea_cons (ee_var rfl) (ea_cons (ee_dict (em_disp (ds := [("ways", _)]) ⟨ee_str, ee_var rfl, trivial⟩ (show List.Nodup (["ways"] : List Str) by decide +kernel) (Nat.le_of_ble_eq_true rfl))) ea_nil)) (w_2 N)) (.cons (ee_call (ea_cons (ee_var rfl) (ea_cons (ee_dict (em_disp (ds := [("ways", _)]) ⟨ee_str, ee_var rfl, trivial⟩ (show List.Nodup (["ways"] : List Str) by decide +kernel) (Nat.le_of_ble_eq_true rfl))) ea_nil)) (w_3 N)) (.cons (ee_call (ea_cons (ee_var rfl) (ea_cons (ee_dict (em_disp (ds := [("ways", _)]) ⟨ee_str, ee_var rfl, trivial⟩ (show List.Nodup (["ways"] : List Str) by decide +kernel) (Nat.le_of_ble_eq_true rfl))) ea_nil)) (w_4 N)) (.cons (ee_call (ea_cons (ee_var rfl) (ea_cons (ee_dict (em_disp (ds := [("ways", _)]) ⟨ee_str, ee_var rfl, trivial⟩ (show List.Nodup (["ways"] : List Str) by decide +kernel) (Nat.le_of_ble_eq_true rfl))) ea_nil)) (w_5 N)) (.cons (ee_call (ea_cons (ee_var rfl) (ea_cons (ee_dict (em_disp (ds := [("ways", _)]) ⟨ee_str, ee_var rfl, trivial⟩ (show List.Nodup (["ways"] : List Str) by decide +kernel) (Nat.le_of_ble_eq_true rfl))) ea_nil)) (w_6 N)) (.cons (ee_call (ea_cons (ee_var rfl) (ea_cons (ee_dict (em_disp (ds := [("ways", _)]) ⟨ee_str, ee_var rfl, trivial⟩ (show List.Nodup (["ways"] : List Str) by decide +kernel) (Nat.le_of_ble_eq_true rfl))) ea_nil)) (w_7 N)) (.cons (ee_call (ea_cons (ee_var rfl) (ea_cons (ee_dict (em_disp (ds := [("ways", _)]) ⟨ee_str, ee_var rfl, trivial⟩ (show List.Nodup (["ways"] : List Str) by decide +kernel) (Nat.le_of_ble_eq_true rfl))) ea_nil)) (w_8 N)) (.cons (ee_call (ea_cons (ee_var rfl) (ea_cons (ee_dict (em_disp (ds := [("ways", _)]) ⟨ee_str, ee_var rfl, trivial⟩ (show List.Nodup (["ways"] : List Str) by decide +kernel) (Nat.le_of_ble_eq_true rfl))) ea_nil)) (w_9 N)) (.cons (ee_call (ea_cons (ee_var rfl) (ea_cons (ee_dict (em_disp (ds := [("ways", _)]) ⟨ee_str, ee_var rfl, trivial⟩ (show List.Nodup (["ways"] : List Str) by decide +kernel) (Nat.le_of_ble_eq_true rfl))) ea_nil)) (w_10 N)) (.cons (ee_call (ea_cons (ee_var rfl) (ea_cons (ee_dict (em_disp (ds := [("ways", _)]) ⟨ee_str, ee_var rfl, trivial⟩ (show List.Nodup (["ways"] : List Str) by decide +kernel) (Nat.le_of_ble_eq_true rfl))) ea_nil)) (w_11 N)) (.cons (ee_call (ea_cons (ee_var rfl) (ea_cons (ee_dict (em_disp (ds := [("ways", _)]) ⟨ee_str, ee_var rfl, trivial⟩ (show List.Nodup (["ways"] : List Str) by decide +kernel) (Nat.le_of_ble_eq_true rfl))) ea_nil)) (w_12 N)) (.nil)))))))))))))))) (Nat.le_of_ble_eq_true rfl)) (fun m hm => by rw [List.mem_singleton.mp hm]; show (2 : Nat) ≠ 1; decide) (by show 1 < 8; decide)))) ?_
    refine rt_freeze (rt_freeze ?_)
    show RtE K _ [some (nD q), some (.list ([.bool false, .bool true, .bool true, .bool false, .bool false, .bool false, .bool false, .bool false, .bool false, .bool false, .bool true, .bool true, .bool false, .bool false, .bool false, .bool false, .bool false] ++ ((List.replicate 5 (PyData.bool true)) ++ List.replicate 8 (PyData.bool false)))), some (.list [.bool false, .bool true, .bool true, .bool false, .bool false, .bool false, .bool false, .bool false, .bool false, .bool false, .bool true, .bool true, .bool false, .bool false, .bool false, .bool false, .bool false]), some (moreQ q), none, some (.list [.tuple [.str "plain"], .tuple [.str "packed"], .tuple [.str "plain", .str "packed"], .tuple [.str "plain", .str "marked", .str "packed"], .tuple [.str "marked", .str "packed"]]), some (.list [.tuple [], .tuple [.str "packed", .str "plain"], .tuple [.str "plain", .str "plain"], .tuple [.str "Plain"], .list [.str "plain"], .str "plain", .tuple [.none], .tuple [.str "marked", .str "plain"]]), none] [] (.bool true)
    refine rt_ret (ee_is (ee_op (ee_var rfl) (ee_of (en_cat (ee_of (en_cat (ee_var rfl) (ee_of (en_rep (k := 5) (en_lst (ea_cons (ee_bl) ea_nil) (Nat.le_of_ble_eq_true rfl)) rfl rfl)) (Nat.le_of_ble_eq_true rfl))) (ee_of (en_rep (k := 8) (en_lst (ea_cons (ee_bl) ea_nil) (Nat.le_of_ble_eq_true rfl)) rfl rfl)) (Nat.le_of_ble_eq_true rfl))) (rd_eqD (by decide +kernel) (by decide +kernel))) ?_)
    exact congrArg PyData.bool (by decide +kernel)
end
end K13

namespace K13
open PySem PySem.Spec PyProof.Rows L2 LH C8
def allS : List Dt := [.bool false, .bool true, .bool false, .bool true, .bool true, .bool true, .bool true, .bool true, .bool true, .bool true, .bool true, .bool true, .bool true, .bool true, .bool true, .bool true, .bool true, .bool false, .bool true, .bool true, .bool false, .bool false, .bool false, .bool false, .bool false, .bool false, .bool false, .bool false, .bool false, .bool false, .bool false, .bool false, .bool true, .bool true, .bool true, .bool true, .bool true, .bool true, .bool true, .bool true, .bool true, .bool false, .bool false]
def houQ (q : NN) : Dt := .tuple [.tuple [.str q.n1, .tuple [.str "a"], .tuple [], .tuple [.str "packed"], .int 9000], .tuple [.str q.n2, .tuple [.str "a"], .tuple [], .tuple [.str "packed"], .int 9000], .tuple [.str q.n3, .tuple [.str "a"], .tuple [], .tuple [.str "packed"], .int 9000], .tuple [.str q.n4, .tuple [.str "a"], .tuple [], .tuple [.str "packed"], .int 9000]]
def pkQ (q : NN) : Nat → List Dt
  | 0 => []
  | 1 => [.tuple [.str q.n1, .str q.n0, .int 1], .tuple [.str q.n2, .str q.n0, .int 1], .tuple [.str q.n3, .str q.n0, .int 1], .tuple [.str q.n4, .str q.n0, .int 1]]
  | 2 => [.tuple [.str q.n1, .str q.n0, .int 1], .tuple [.str q.n2, .str q.n0, .int 1], .tuple [.str q.n3, .str q.n0, .int 1], .tuple [.str q.n4, .str q.n0, .int 1], .tuple [.str q.n2, .str q.n1, .int 1], .tuple [.str q.n3, .str q.n1, .int 1], .tuple [.str q.n4, .str q.n1, .int 1]]
  | 3 => [.tuple [.str q.n1, .str q.n0, .int 1], .tuple [.str q.n2, .str q.n0, .int 1], .tuple [.str q.n3, .str q.n0, .int 1], .tuple [.str q.n4, .str q.n0, .int 1], .tuple [.str q.n2, .str q.n1, .int 1], .tuple [.str q.n3, .str q.n1, .int 1], .tuple [.str q.n4, .str q.n1, .int 1], .tuple [.str q.n3, .str q.n2, .int 1], .tuple [.str q.n4, .str q.n2, .int 1]]
  | 4 => [.tuple [.str q.n1, .str q.n0, .int 1], .tuple [.str q.n2, .str q.n0, .int 1], .tuple [.str q.n3, .str q.n0, .int 1], .tuple [.str q.n4, .str q.n0, .int 1], .tuple [.str q.n2, .str q.n1, .int 1], .tuple [.str q.n3, .str q.n1, .int 1], .tuple [.str q.n4, .str q.n1, .int 1], .tuple [.str q.n3, .str q.n2, .int 1], .tuple [.str q.n4, .str q.n2, .int 1], .tuple [.str q.n4, .str q.n3, .int 1]]
  | _ => [.tuple [.str q.n1, .str q.n0, .int 1], .tuple [.str q.n2, .str q.n0, .int 1], .tuple [.str q.n3, .str q.n0, .int 1], .tuple [.str q.n4, .str q.n0, .int 1], .tuple [.str q.n2, .str q.n1, .int 1], .tuple [.str q.n3, .str q.n1, .int 1], .tuple [.str q.n4, .str q.n1, .int 1], .tuple [.str q.n3, .str q.n2, .int 1], .tuple [.str q.n4, .str q.n2, .int 1], .tuple [.str q.n4, .str q.n3, .int 1]]
theorem wkS {a0 a3 a4 a7 a8 a9 : Dt} : ∀ (k : Nat) (e : Dt), [some a0, none, none, none, none, none, none, none, none, none, none, none][k]? = some (some e) → [some a0, none, none, some a3, some a4, none, none, some a7, some a8, some a9, none, none][k]? = some (some e)
  | 0, e, h => h
  | 1, e, h => by cases h
  | 2, e, h => by cases h
  | 3, e, h => by cases h
  | 4, e, h => by cases h
  | 5, e, h => by cases h
  | 6, e, h => by cases h
  | 7, e, h => by cases h
  | 8, e, h => by cases h
  | 9, e, h => by cases h
  | 10, e, h => by cases h
  | 11, e, h => by cases h
  | k + 12, e, h => by cases h
theorem wkP {a0 a4 a5 a6 : Dt} : ∀ (k : Nat) (e : Dt), [some a0, none, none, none, some a4, some a5, none, none, none, none, none, none][k]? = some (some e) → [some a0, none, none, none, some a4, some a5, some a6, none, none, none, none, none][k]? = some (some e)
  | 0, e, h => h
  | 1, e, h => by cases h
  | 2, e, h => by cases h
  | 3, e, h => by cases h
  | 4, e, h => h
  | 5, e, h => h
  | 6, e, h => by cases h
  | 7, e, h => by cases h
  | 8, e, h => by cases h
  | 9, e, h => by cases h
  | 10, e, h => by cases h
  | 11, e, h => by cases h
  | k + 12, e, h => by cases h
theorem wkT {a0 a4 a5 a3 : Dt} : ∀ (k : Nat) (e : Dt), [some a0, none, none, none, some a4, some a5, none, none, none, none, none, none][k]? = some (some e) → [some a0, none, none, some a3, some a4, some a5, none, none, none, none, none, none][k]? = some (some e)
  | 0, e, h => h
  | 1, e, h => by cases h
  | 2, e, h => by cases h
  | 3, e, h => by cases h
  | 4, e, h => h
  | 5, e, h => h
  | 6, e, h => by cases h
  | 7, e, h => by cases h
  | 8, e, h => by cases h
  | 9, e, h => by cases h
  | 10, e, h => by cases h
  | 11, e, h => by cases h
  | k + 12, e, h => by cases h
abbrev s_l_sizes_right : Stmt := topS 35
abbrev n_l_sizes_right : List Str := ["_law_n", "_law_told", "_law_due", "_law_size", "_law_houses", "_law_pairs", "_law_k", "_law_folk", "_law_lists", "_law_some", "_law_name", "_law_one"]
theorem sc_l_sizes_right : FnScope n_l_sizes_right ["_law_n"] (defScope s_l_sizes_right) := ⟨rfl, rfl, rfl, by decide +kernel, rfl, by decide +kernel, by decide +kernel⟩
section
variable {w : World} {P : Program} {K : PySem.W.Frag} {mg : Str → Option Value} {base : Heap}
theorem c_l_sizes_right (T : Tr mg) (F : Dfn K mg "_law_sizes_right" s_l_sizes_right ["_law_n"]) (C_l_house : Cal P w K mg base 1 "_law_house" (spF K mHouse) []) (C_l_with : Cal P w K mg base 8 "_law_with" (spF K mWith) []) : Cal P w K mg base 9 "_law_sizes_right" (spF K mRight) [] := by
  refine calF mRight F sc_l_sizes_right (fun ds d h => ?_) fun f cdv A outer s H E hr ds d h => ?_
  · obtain ⟨_, _, rfl, _⟩ := right_of h
    rfl
  · obtain ⟨rfl, q, rfl, N⟩ := right_of h
    refine ⟨_, (pss_cons (ps_par (i := 1) (j := 2) (by rfl) sc_l_sizes_right.nd rfl rfl (by decide) rfl rfl (pa_cons (pe_lst (pa_nil)) (pa_cons (pe_lst (pa_nil)) pa_nil)) (by rfl)) (pss_cons (ps_for PassesOwn.never rfl (pi_range1 (by rfl) T.m_range (pa_cons (pe_int) pa_nil)) (pg_name (i := 3) sc_l_sizes_right.nd rfl (Or.inl rfl)) (pss_cons (ps_par (i := 7) (j := 8) (by rfl) sc_l_sizes_right.nd rfl rfl (by decide) rfl rfl (pa_cons (pe_tupleOf (by rfl) T.m_tuple (pe_slice sl_list (pv 0) (po_some (pe_int)) (po_some (pe_op op_add (pe_int) (pv 3))))) (pa_cons (pe_tupleOf (by rfl) T.m_tuple (pe_lc (own := [("_law_name", 10)]) (g := gName 10) (by rfl) sc_l_sizes_right.nd (pi_list (pe_slice sl_list (pv 0) (po_some (pe_int)) (po_some (pe_op op_add (pe_int) (pv 3))))) (blkOk_by (own := [("_law_name", 10)]) (N := n_l_sizes_right) (sc := defScope s_l_sizes_right) (by decide +kernel)) (fun _ _ _ _ _ => pg_name (i := 10) sc_l_sizes_right.nd rfl (Or.inl rfl)) (fun _ _ _ _ _ => pts_nil) (fun _ _ _ _ _ => pe_tup (pa_cons (pv 10) (pa_cons (pe_tup (pa_cons (pe_tup (pa_cons (pe_ix (@id (IxR _ (rIx K)) ix_seq) (pv 0) (pe_int) (fun _ _ => rfl)) (pa_cons (pe_ix (@id (IxR _ (rIx K)) ix_seq) (pv 0) (pe_int) (fun _ _ => rfl)) pa_nil))) pa_nil)) pa_nil))))) pa_nil)) (by rfl)) (pss_cons (ps_set (i := 9) sc_l_sizes_right.nd rfl (Or.inl rfl) (pe_tupleOf (by rfl) T.m_tuple (pe_lc (own := [("_law_name", 10)]) (g := gName 10) (by rfl) sc_l_sizes_right.nd (pi_list (pe_slice sl_list (pv 0) (po_some (pe_int)) (po_some (pe_op op_add (pe_int) (pv 3))))) (blkOk_by (own := [("_law_name", 10)]) (N := n_l_sizes_right) (sc := defScope s_l_sizes_right) (by decide +kernel)) (fun _ _ _ _ _ => pg_name (i := 10) sc_l_sizes_right.nd rfl (Or.inl rfl)) (fun _ _ _ _ _ => pts_nil) (fun _ _ _ _ _ => pe_tup (pa_cons (pv 10) (pa_cons (pe_ix (@id (IxR _ (rIx K)) ix_seq) (pv 0) (pe_int) (fun _ _ => rfl)) pa_nil)))))) (pss_cons (ps_set (i := 4) sc_l_sizes_right.nd rfl (Or.inl rfl) (pe_tupleOf (by rfl) T.m_tuple (pe_lc (own := [("_law_name", 10)]) (g := gName 10) (by rfl) sc_l_sizes_right.nd (pi_list (pe_slice sl_list (pv 0) (po_some (pe_int)) (po_some (pe_op op_add (pe_int) (pv 3))))) (blkOk_by (own := [("_law_name", 10)]) (N := n_l_sizes_right) (sc := defScope s_l_sizes_right) (by decide +kernel)) (fun _ _ _ _ _ => pg_name (i := 10) sc_l_sizes_right.nd rfl (Or.inl rfl)) (fun _ _ _ _ _ => pts_nil) (fun _ _ _ _ _ => pe_c C_l_house hr (by decide) (by rfl) (pa_cons (pv 10) pa_nil))))) (pss_cons (ps_set (i := 1) sc_l_sizes_right.nd rfl (Or.inl rfl) (pe_op op_catL (pv 1) (pe_lst (pa_cons (pe_c C_l_with hr (by decide) (by rfl) (pa_cons (pv 0) (pa_cons (pe_disp (pps_cons (pe_str) (pv 7) (pps_nil)) (by rfl) (by rfl) (fun z => by cases z) (by decide)) pa_nil))) (pa_cons (pe_c C_l_with hr (by decide) (by rfl) (pa_cons (pv 0) (pa_cons (pe_disp (pps_cons (pe_str) (pv 8) (pps_nil)) (by rfl) (by rfl) (fun z => by cases z) (by decide)) pa_nil))) pa_nil))))) (pss_cons (ps_set (i := 1) sc_l_sizes_right.nd rfl (Or.inl rfl) (pe_op op_catL (pv 1) (pe_lst (pa_cons (pe_c C_l_with hr (by decide) (by rfl) (pa_cons (pv 0) (pa_cons (pe_disp (pps_cons (pe_str) (pe_tup (pa_cons (pe_tup (pa_cons (pe_ix ix_seq (pv 0) (pe_int) (fun _ _ => rfl)) (pa_cons (pv 9) pa_nil))) pa_nil)) (pps_nil)) (by rfl) (by rfl) (fun z => by cases z) (by decide)) pa_nil))) (pa_cons (pe_c C_l_with hr (by decide) (by rfl) (pa_cons (pv 0) (pa_cons (pe_disp (pps_cons (pe_str) (pv 4) (pps_nil)) (by rfl) (by rfl) (fun z => by cases z) (by decide)) pa_nil))) pa_nil))))) (pss_one (ps_set (i := 2) sc_l_sizes_right.nd rfl (Or.inl rfl) (pe_op op_catL (pv 2) (pe_lst (pa_cons (pe_chain op_lt op_lt (pe_int) (pv 3) (pe_int)) (pa_cons (pe_cmpR op_lt (pv 3) (pe_int) (nomark _)) (pa_cons (pe_chain op_lt op_lt (pe_int) (pv 3) (pe_int)) (pa_cons (pe_cmpR op_lt (pv 3) (pe_int) (nomark _)) pa_nil)))))))))))))) (pss_cons (ps_par (i := 4) (j := 5) (by rfl) sc_l_sizes_right.nd rfl rfl (by decide) rfl rfl (pa_cons (pe_tupleOf (by rfl) T.m_tuple (pe_lc (own := [("_law_name", 10)]) (g := gName 10) (by rfl) sc_l_sizes_right.nd (pi_list (pe_slice sl_list (pv 0) (po_some (pe_int)) (po_some (pe_int)))) (blkOk_by (own := [("_law_name", 10)]) (N := n_l_sizes_right) (sc := defScope s_l_sizes_right) (by decide +kernel)) (fun _ _ _ _ _ => pg_name (i := 10) sc_l_sizes_right.nd rfl (Or.inl rfl)) (fun _ _ _ _ _ => pts_nil) (fun _ _ _ _ _ => pe_c C_l_house hr (by decide) (by rfl) (pa_cons (pv 10) pa_nil)))) (pa_cons (pe_lst (pa_nil)) pa_nil)) (by rfl)) (pss_cons (ps_for PassesOwn.never rfl (pi_range1 (by rfl) T.m_range (pa_cons (pe_int) pa_nil)) (pg_name (i := 6) sc_l_sizes_right.nd rfl (Or.inr rfl)) (pss_one (ps_set (i := 5) sc_l_sizes_right.nd rfl (Or.inl rfl) (pe_op op_catL (pv 5) (pe_lc (own := [("_law_one", 11)]) (g := gName 11) (by rfl) sc_l_sizes_right.nd (pi_list (pe_slice sl_list (pv 0) (po_some (pe_op op_add (pv 6) (pe_int))) (po_some (pe_int)))) (blkOk_by (own := [("_law_one", 11)]) (N := n_l_sizes_right) (sc := defScope s_l_sizes_right) (by decide +kernel)) (fun _ _ _ _ _ => pg_name (i := 11) sc_l_sizes_right.nd rfl (Or.inl rfl)) (fun _ _ _ _ _ => pts_nil) (fun _ _ _ _ _ => pe_tup (pa_cons (pv 11) (pa_cons (pe_ix (@id (IxR _ (rIx K)) ix_seq) (pv 0) (pv 6) (fun _ _ => rfl)) (pa_cons (pe_int) pa_nil))))))))) (pss_cons (ps_for PassesOwn.never rfl (pi_range1 (by rfl) T.m_range (pa_cons (pe_int) pa_nil)) (pg_name (i := 3) sc_l_sizes_right.nd rfl (Or.inl rfl)) (pss_cons (ps_expr (pe_bm PySem.F.plainAttrs_list PySem.F.slot_list_append PySem.F.type_list_append mt_append (pv 1) (pa_cons (pe_c C_l_with hr (by decide) (by rfl) (pa_cons (pv 0) (pa_cons (pe_disp (pps_cons (pe_str) (pv 4) (pps_cons (pe_str) (pe_tupleOf (by rfl) T.m_tuple (pe_slice sl_list (pv 5) po_none (po_some (pv 3)))) (pps_nil))) (by rfl) (by rfl) (fun z => by cases z) (by decide)) pa_nil))) pa_nil))) (pss_one (ps_expr (pe_bm PySem.F.plainAttrs_list PySem.F.slot_list_append PySem.F.type_list_append mt_append (pv 2) (pa_cons (pe_cmpR op_lt (pv 3) (pe_int) (nomark _)) pa_nil)))))) (pss_one (ps_ret (pe_cmpR (op_eqD hr.units) (pv 1) (pv 2) (nomark _))))))))), ?_⟩
    refine rt_seq (go_parLL (by decide) (by show 1 < 12; decide) (by show 2 < 12; decide)) ?_
    show RtE K _ [some (nD q), none, none, none, none, none, none, none, none, none, none, none] [(2, []), (1, [])] (.bool true)
    refine rt_seq (go_for (ds := [.int 0, .int 1, .int 2, .int 3, .int 4, .int 5, .int 6, .int 7]) (ei_range1 (n := 8) (ea_cons ee_int ea_nil) (by decide)) (fun _ => [some (nD q), none, none, none, none, none, none, none, none, none, none, none]) (fun k => [(2, allS.take (4 * k)), (1, allS.take (4 * k))]) rfl rfl ?_ (fun k => two_ne (by decide) (by decide))) ?_
    · intro k d hk
      match k, hk with
      | 0, hk =>
        cases hk
        show GoE K _ [some (nD q), none, none, some (.int 0), none, none, none, none, none, none, none, none] [(2, []), (1, [])] [some (nD q), none, none, none, none, none, none, none, none, none, none, none] [(2, [.bool false, .bool true, .bool false, .bool true]), (1, [.bool false, .bool true, .bool false, .bool true])]
        refine go_seq (env1 := [some (nD q), none, none, some (.int 0), none, none, none, some (.tuple []), some (.tuple []), none, none, none]) (M1 := [(2, []), (1, [])]) (go_par (ea_cons (ee_is (ee_tupleL (ee_of (en_slL (ee_var rfl) (eo_some (ee_int)) (eo_some (ee_op (ee_int) (ee_var rfl) rd_add))))) rfl) (ea_cons (ee_is (ee_tupleL (ee_of (en_map _ (ei_list (ee_of (en_slL (ee_var rfl) (eo_some (ee_int)) (eo_some (ee_op (ee_int) (ee_var rfl) rd_add))))) (Nat.le_of_ble_eq_true rfl) (fun _ _ => ee_tup (ea_cons (ee_var rfl) (ea_cons (ee_tup (ea_cons (ee_tup (ea_cons (ee_op (ee_var rfl) (ee_int) (rd_ix rfl)) (ea_cons (ee_op (ee_var rfl) (ee_int) (rd_ix rfl)) ea_nil)) (Nat.le_of_ble_eq_true rfl)) ea_nil) (Nat.le_of_ble_eq_true rfl)) ea_nil)) (Nat.le_of_ble_eq_true rfl))))) rfl) (ea_nil))) (two_ne (by decide) (by decide)) (two_ne (by decide) (by decide))) ?_
        refine go_seq (env1 := [some (nD q), none, none, some (.int 0), none, none, none, some (.tuple []), some (.tuple []), some (.tuple []), none, none]) (M1 := [(2, []), (1, [])]) (go_asg (ee_is (ee_tupleL (ee_of (en_map _ (ei_list (ee_of (en_slL (ee_var rfl) (eo_some (ee_int)) (eo_some (ee_op (ee_int) (ee_var rfl) rd_add))))) (Nat.le_of_ble_eq_true rfl) (fun _ _ => ee_tup (ea_cons (ee_var rfl) (ea_cons (ee_op (ee_var rfl) (ee_int) (rd_ix rfl)) ea_nil)) (Nat.le_of_ble_eq_true rfl))))) rfl) (two_ne (by decide) (by decide))) ?_
        refine go_seq (env1 := [some (nD q), none, none, some (.int 0), some (.tuple []), none, none, some (.tuple []), some (.tuple []), some (.tuple []), none, none]) (M1 := [(2, []), (1, [])]) (go_asg (ee_is (ee_tupleL (ee_of (en_map _ (ei_list (ee_of (en_slL (ee_var rfl) (eo_some (ee_int)) (eo_some (ee_op (ee_int) (ee_var rfl) rd_add))))) (Nat.le_of_ble_eq_true rfl) (fun _ _ => ee_call (ea_cons (ee_var rfl) ea_nil) rfl)))) rfl) (two_ne (by decide) (by decide))) ?_
        refine go_seq (env1 := [some (nD q), none, none, some (.int 0), some (.tuple []), none, none, some (.tuple []), some (.tuple []), some (.tuple []), none, none]) (M1 := [(1, [.bool false, .bool true]), (2, [])]) (go_swap (go_freeze (go_asgN (en_is (en_cat (ee_var rfl) (ee_of (en_lst (ea_cons (ee_call (ea_cons (ee_var rfl) (ea_cons (ee_dict (em_disp (ds := [("folk", _)]) ⟨ee_str, ee_var rfl, trivial⟩ (show List.Nodup (["folk"] : List Str) by decide +kernel) (Nat.le_of_ble_eq_true rfl))) ea_nil)) (s1_0 N)) (ea_cons (ee_call (ea_cons (ee_var rfl) (ea_cons (ee_dict (em_disp (ds := [("lists", _)]) ⟨ee_str, ee_var rfl, trivial⟩ (show List.Nodup (["lists"] : List Str) by decide +kernel) (Nat.le_of_ble_eq_true rfl))) ea_nil)) (s2_0 N)) ea_nil)) (Nat.le_of_ble_eq_true rfl))) (Nat.le_of_ble_eq_true rfl)) rfl) (fun m hm => by rw [List.mem_singleton.mp hm]; show (2 : Nat) ≠ 1; decide) (by show 1 < 12; decide)))) ?_
        refine go_seq (env1 := [some (nD q), none, none, some (.int 0), some (.tuple []), none, none, some (.tuple []), some (.tuple []), some (.tuple []), none, none]) (M1 := [(1, [.bool false, .bool true, .bool false, .bool true]), (2, [])]) (go_freeze (go_asgN (en_is (en_cat (ee_var rfl) (ee_of (en_lst (ea_cons (ee_call (ea_cons (ee_var rfl) (ea_cons (ee_dict (em_disp (ds := [("lists", _)]) ⟨ee_str, ee_tup (ea_cons (ee_tup (ea_cons (ee_op (ee_var rfl) (ee_int) (rd_ix rfl)) (ea_cons (ee_var rfl) ea_nil)) (Nat.le_of_ble_eq_true rfl)) ea_nil) (Nat.le_of_ble_eq_true rfl), trivial⟩ (show List.Nodup (["lists"] : List Str) by decide +kernel) (Nat.le_of_ble_eq_true rfl))) ea_nil)) (s3_0 N)) (ea_cons (ee_call (ea_cons (ee_var rfl) (ea_cons (ee_dict (em_disp (ds := [("more", _)]) ⟨ee_str, ee_var rfl, trivial⟩ (show List.Nodup (["more"] : List Str) by decide +kernel) (Nat.le_of_ble_eq_true rfl))) ea_nil)) (s4_0 N)) ea_nil)) (Nat.le_of_ble_eq_true rfl))) (Nat.le_of_ble_eq_true rfl)) rfl) (fun m hm => by rw [List.mem_singleton.mp hm]; show (2 : Nat) ≠ 1; decide) (by show 1 < 12; decide))) ?_
        refine go_weak (env1 := [some (nD q), none, none, some (.int 0), some (.tuple []), none, none, some (.tuple []), some (.tuple []), some (.tuple []), none, none]) (go_swap (go_freeze (go_asgN (en_is (en_cat (ee_var rfl) (ee_of (en_lst (ea_cons (ee_chain (ee_int) (ee_var rfl) rd_lt (fun _ => ee_int) (fun _ => rd_lt)) (ea_cons (ee_op (ee_var rfl) (ee_int) rd_lt) (ea_cons (ee_chain (ee_int) (ee_var rfl) rd_lt (fun _ => ee_int) (fun _ => rd_lt)) (ea_cons (ee_op (ee_var rfl) (ee_int) rd_lt) ea_nil)))) (Nat.le_of_ble_eq_true rfl))) (Nat.le_of_ble_eq_true rfl)) rfl) (fun m hm => by rw [List.mem_singleton.mp hm]; show (1 : Nat) ≠ 2; decide) (by show 2 < 12; decide)))) rfl ?_
        exact wkS
      | 1, hk =>
        cases hk
        show GoE K _ [some (nD q), none, none, some (.int 1), none, none, none, none, none, none, none, none] [(2, [.bool false, .bool true, .bool false, .bool true]), (1, [.bool false, .bool true, .bool false, .bool true])] [some (nD q), none, none, none, none, none, none, none, none, none, none, none] [(2, [.bool false, .bool true, .bool false, .bool true, .bool true, .bool true, .bool true, .bool true]), (1, [.bool false, .bool true, .bool false, .bool true, .bool true, .bool true, .bool true, .bool true])]
        refine go_seq (env1 := [some (nD q), none, none, some (.int 1), none, none, none, some (.tuple [.str q.n1]), some (.tuple [.tuple [.str q.n2, .tuple [.tuple [.str q.n1, .str q.n0]]]]), none, none, none]) (M1 := [(2, [.bool false, .bool true, .bool false, .bool true]), (1, [.bool false, .bool true, .bool false, .bool true])]) (go_par (ea_cons (ee_is (ee_tupleL (ee_of (en_slL (ee_var rfl) (eo_some (ee_int)) (eo_some (ee_op (ee_int) (ee_var rfl) rd_add))))) rfl) (ea_cons (ee_is (ee_tupleL (ee_of (en_map _ (ei_list (ee_of (en_slL (ee_var rfl) (eo_some (ee_int)) (eo_some (ee_op (ee_int) (ee_var rfl) rd_add))))) (Nat.le_of_ble_eq_true rfl) (fun _ _ => ee_tup (ea_cons (ee_var rfl) (ea_cons (ee_tup (ea_cons (ee_tup (ea_cons (ee_op (ee_var rfl) (ee_int) (rd_ix rfl)) (ea_cons (ee_op (ee_var rfl) (ee_int) (rd_ix rfl)) ea_nil)) (Nat.le_of_ble_eq_true rfl)) ea_nil) (Nat.le_of_ble_eq_true rfl)) ea_nil)) (Nat.le_of_ble_eq_true rfl))))) rfl) (ea_nil))) (two_ne (by decide) (by decide)) (two_ne (by decide) (by decide))) ?_
        refine go_seq (env1 := [some (nD q), none, none, some (.int 1), none, none, none, some (.tuple [.str q.n1]), some (.tuple [.tuple [.str q.n2, .tuple [.tuple [.str q.n1, .str q.n0]]]]), some (.tuple [.tuple [.str q.n1, .str q.n0]]), none, none]) (M1 := [(2, [.bool false, .bool true, .bool false, .bool true]), (1, [.bool false, .bool true, .bool false, .bool true])]) (go_asg (ee_is (ee_tupleL (ee_of (en_map _ (ei_list (ee_of (en_slL (ee_var rfl) (eo_some (ee_int)) (eo_some (ee_op (ee_int) (ee_var rfl) rd_add))))) (Nat.le_of_ble_eq_true rfl) (fun _ _ => ee_tup (ea_cons (ee_var rfl) (ea_cons (ee_op (ee_var rfl) (ee_int) (rd_ix rfl)) ea_nil)) (Nat.le_of_ble_eq_true rfl))))) rfl) (two_ne (by decide) (by decide))) ?_
        refine go_seq (env1 := [some (nD q), none, none, some (.int 1), some (.tuple [.tuple [.str q.n1, .tuple [.str "a"], .tuple [], .tuple [.str "packed"], .int 9000]]), none, none, some (.tuple [.str q.n1]), some (.tuple [.tuple [.str q.n2, .tuple [.tuple [.str q.n1, .str q.n0]]]]), some (.tuple [.tuple [.str q.n1, .str q.n0]]), none, none]) (M1 := [(2, [.bool false, .bool true, .bool false, .bool true]), (1, [.bool false, .bool true, .bool false, .bool true])]) (go_asg (ee_is (ee_tupleL (ee_of (en_map _ (ei_list (ee_of (en_slL (ee_var rfl) (eo_some (ee_int)) (eo_some (ee_op (ee_int) (ee_var rfl) rd_add))))) (Nat.le_of_ble_eq_true rfl) (fun _ _ => ee_call (ea_cons (ee_var rfl) ea_nil) rfl)))) rfl) (two_ne (by decide) (by decide))) ?_
        refine go_seq (env1 := [some (nD q), none, none, some (.int 1), some (.tuple [.tuple [.str q.n1, .tuple [.str "a"], .tuple [], .tuple [.str "packed"], .int 9000]]), none, none, some (.tuple [.str q.n1]), some (.tuple [.tuple [.str q.n2, .tuple [.tuple [.str q.n1, .str q.n0]]]]), some (.tuple [.tuple [.str q.n1, .str q.n0]]), none, none]) (M1 := [(1, [.bool false, .bool true, .bool false, .bool true, .bool true, .bool true]), (2, [.bool false, .bool true, .bool false, .bool true])]) (go_swap (go_freeze (go_asgN (en_is (en_cat (ee_var rfl) (ee_of (en_lst (ea_cons (ee_call (ea_cons (ee_var rfl) (ea_cons (ee_dict (em_disp (ds := [("folk", _)]) ⟨ee_str, ee_var rfl, trivial⟩ (show List.Nodup (["folk"] : List Str) by decide +kernel) (Nat.le_of_ble_eq_true rfl))) ea_nil)) (s1_1 N)) (ea_cons (ee_call (ea_cons (ee_var rfl) (ea_cons (ee_dict (em_disp (ds := [("lists", _)]) ⟨ee_str, ee_var rfl, trivial⟩ (show List.Nodup (["lists"] : List Str) by decide +kernel) (Nat.le_of_ble_eq_true rfl))) ea_nil)) (s2_1 N)) ea_nil)) (Nat.le_of_ble_eq_true rfl))) (Nat.le_of_ble_eq_true rfl)) rfl) (fun m hm => by rw [List.mem_singleton.mp hm]; show (2 : Nat) ≠ 1; decide) (by show 1 < 12; decide)))) ?_
        refine go_seq (env1 := [some (nD q), none, none, some (.int 1), some (.tuple [.tuple [.str q.n1, .tuple [.str "a"], .tuple [], .tuple [.str "packed"], .int 9000]]), none, none, some (.tuple [.str q.n1]), some (.tuple [.tuple [.str q.n2, .tuple [.tuple [.str q.n1, .str q.n0]]]]), some (.tuple [.tuple [.str q.n1, .str q.n0]]), none, none]) (M1 := [(1, [.bool false, .bool true, .bool false, .bool true, .bool true, .bool true, .bool true, .bool true]), (2, [.bool false, .bool true, .bool false, .bool true])]) (go_freeze (go_asgN (en_is (en_cat (ee_var rfl) (ee_of (en_lst (ea_cons (ee_call (ea_cons (ee_var rfl) (ea_cons (ee_dict (em_disp (ds := [("lists", _)]) ⟨ee_str, ee_tup (ea_cons (ee_tup (ea_cons (ee_op (ee_var rfl) (ee_int) (rd_ix rfl)) (ea_cons (ee_var rfl) ea_nil)) (Nat.le_of_ble_eq_true rfl)) ea_nil) (Nat.le_of_ble_eq_true rfl), trivial⟩ (show List.Nodup (["lists"] : List Str) by decide +kernel) (Nat.le_of_ble_eq_true rfl))) ea_nil)) (s3_1 N)) (ea_cons (ee_call (ea_cons (ee_var rfl) (ea_cons (ee_dict (em_disp (ds := [("more", _)]) ⟨ee_str, ee_var rfl, trivial⟩ (show List.Nodup (["more"] : List Str) by decide +kernel) (Nat.le_of_ble_eq_true rfl))) ea_nil)) (s4_1 N)) ea_nil)) (Nat.le_of_ble_eq_true rfl))) (Nat.le_of_ble_eq_true rfl)) rfl) (fun m hm => by rw [List.mem_singleton.mp hm]; show (2 : Nat) ≠ 1; decide) (by show 1 < 12; decide))) ?_
        refine go_weak (env1 := [some (nD q), none, none, some (.int 1), some (.tuple [.tuple [.str q.n1, .tuple [.str "a"], .tuple [], .tuple [.str "packed"], .int 9000]]), none, none, some (.tuple [.str q.n1]), some (.tuple [.tuple [.str q.n2, .tuple [.tuple [.str q.n1, .str q.n0]]]]), some (.tuple [.tuple [.str q.n1, .str q.n0]]), none, none]) (go_swap (go_freeze (go_asgN (en_is (en_cat (ee_var rfl) (ee_of (en_lst (ea_cons (ee_chain (ee_int) (ee_var rfl) rd_lt (fun _ => ee_int) (fun _ => rd_lt)) (ea_cons (ee_op (ee_var rfl) (ee_int) rd_lt) (ea_cons (ee_chain (ee_int) (ee_var rfl) rd_lt (fun _ => ee_int) (fun _ => rd_lt)) (ea_cons (ee_op (ee_var rfl) (ee_int) rd_lt) ea_nil)))) (Nat.le_of_ble_eq_true rfl))) (Nat.le_of_ble_eq_true rfl)) rfl) (fun m hm => by rw [List.mem_singleton.mp hm]; show (1 : Nat) ≠ 2; decide) (by show 2 < 12; decide)))) rfl ?_
        exact wkS
      | 2, hk =>
        cases hk
        show GoE K _ [some (nD q), none, none, some (.int 2), none, none, none, none, none, none, none, none] [(2, [.bool false, .bool true, .bool false, .bool true, .bool true, .bool true, .bool true, .bool true]), (1, [.bool false, .bool true, .bool false, .bool true, .bool true, .bool true, .bool true, .bool true])] [some (nD q), none, none, none, none, none, none, none, none, none, none, none] [(2, [.bool false, .bool true, .bool false, .bool true, .bool true, .bool true, .bool true, .bool true, .bool true, .bool true, .bool true, .bool true]), (1, [.bool false, .bool true, .bool false, .bool true, .bool true, .bool true, .bool true, .bool true, .bool true, .bool true, .bool true, .bool true])]
        refine go_seq (env1 := [some (nD q), none, none, some (.int 2), none, none, none, some (.tuple [.str q.n1, .str q.n2]), some (.tuple [.tuple [.str q.n2, .tuple [.tuple [.str q.n1, .str q.n0]]], .tuple [.str q.n3, .tuple [.tuple [.str q.n1, .str q.n0]]]]), none, none, none]) (M1 := [(2, [.bool false, .bool true, .bool false, .bool true, .bool true, .bool true, .bool true, .bool true]), (1, [.bool false, .bool true, .bool false, .bool true, .bool true, .bool true, .bool true, .bool true])]) (go_par (ea_cons (ee_is (ee_tupleL (ee_of (en_slL (ee_var rfl) (eo_some (ee_int)) (eo_some (ee_op (ee_int) (ee_var rfl) rd_add))))) rfl) (ea_cons (ee_is (ee_tupleL (ee_of (en_map _ (ei_list (ee_of (en_slL (ee_var rfl) (eo_some (ee_int)) (eo_some (ee_op (ee_int) (ee_var rfl) rd_add))))) (Nat.le_of_ble_eq_true rfl) (fun _ _ => ee_tup (ea_cons (ee_var rfl) (ea_cons (ee_tup (ea_cons (ee_tup (ea_cons (ee_op (ee_var rfl) (ee_int) (rd_ix rfl)) (ea_cons (ee_op (ee_var rfl) (ee_int) (rd_ix rfl)) ea_nil)) (Nat.le_of_ble_eq_true rfl)) ea_nil) (Nat.le_of_ble_eq_true rfl)) ea_nil)) (Nat.le_of_ble_eq_true rfl))))) rfl) (ea_nil))) (two_ne (by decide) (by decide)) (two_ne (by decide) (by decide))) ?_
        refine go_seq (env1 := [some (nD q), none, none, some (.int 2), none, none, none, some (.tuple [.str q.n1, .str q.n2]), some (.tuple [.tuple [.str q.n2, .tuple [.tuple [.str q.n1, .str q.n0]]], .tuple [.str q.n3, .tuple [.tuple [.str q.n1, .str q.n0]]]]), some (.tuple [.tuple [.str q.n1, .str q.n0], .tuple [.str q.n2, .str q.n0]]), none, none]) (M1 := [(2, [.bool false, .bool true, .bool false, .bool true, .bool true, .bool true, .bool true, .bool true]), (1, [.bool false, .bool true, .bool false, .bool true, .bool true, .bool true, .bool true, .bool true])]) (go_asg (ee_is (ee_tupleL (ee_of (en_map _ (ei_list (ee_of (en_slL (ee_var rfl) (eo_some (ee_int)) (eo_some (ee_op (ee_int) (ee_var rfl) rd_add))))) (Nat.le_of_ble_eq_true rfl) (fun _ _ => ee_tup (ea_cons (ee_var rfl) (ea_cons (ee_op (ee_var rfl) (ee_int) (rd_ix rfl)) ea_nil)) (Nat.le_of_ble_eq_true rfl))))) rfl) (two_ne (by decide) (by decide))) ?_
        refine go_seq (env1 := [some (nD q), none, none, some (.int 2), some (.tuple [.tuple [.str q.n1, .tuple [.str "a"], .tuple [], .tuple [.str "packed"], .int 9000], .tuple [.str q.n2, .tuple [.str "a"], .tuple [], .tuple [.str "packed"], .int 9000]]), none, none, some (.tuple [.str q.n1, .str q.n2]), some (.tuple [.tuple [.str q.n2, .tuple [.tuple [.str q.n1, .str q.n0]]], .tuple [.str q.n3, .tuple [.tuple [.str q.n1, .str q.n0]]]]), some (.tuple [.tuple [.str q.n1, .str q.n0], .tuple [.str q.n2, .str q.n0]]), none, none]) (M1 := [(2, [.bool false, .bool true, .bool false, .bool true, .bool true, .bool true, .bool true, .bool true]), (1, [.bool false, .bool true, .bool false, .bool true, .bool true, .bool true, .bool true, .bool true])]) (go_asg (ee_is (ee_tupleL (ee_of (en_map _ (ei_list (ee_of (en_slL (ee_var rfl) (eo_some (ee_int)) (eo_some (ee_op (ee_int) (ee_var rfl) rd_add))))) (Nat.le_of_ble_eq_true rfl) (fun _ _ => ee_call (ea_cons (ee_var rfl) ea_nil) rfl)))) rfl) (two_ne (by decide) (by decide))) ?_
        refine go_seq (env1 := [some (nD q), none, none, some (.int 2), some (.tuple [.tuple [.str q.n1, .tuple [.str "a"], .tuple [], .tuple [.str "packed"], .int 9000], .tuple [.str q.n2, .tuple [.str "a"], .tuple [], .tuple [.str "packed"], .int 9000]]), none, none, some (.tuple [.str q.n1, .str q.n2]), some (.tuple [.tuple [.str q.n2, .tuple [.tuple [.str q.n1, .str q.n0]]], .tuple [.str q.n3, .tuple [.tuple [.str q.n1, .str q.n0]]]]), some (.tuple [.tuple [.str q.n1, .str q.n0], .tuple [.str q.n2, .str q.n0]]), none, none]) (M1 := [(1, [.bool false, .bool true, .bool false, .bool true, .bool true, .bool true, .bool true, .bool true, .bool true, .bool true]), (2, [.bool false, .bool true, .bool false, .bool true, .bool true, .bool true, .bool true, .bool true])]) (go_swap (go_freeze (go_asgN (en_is (en_cat (ee_var rfl) (ee_of (en_lst (ea_cons (ee_call (ea_cons (ee_var rfl) (ea_cons (ee_dict (em_disp (ds := [("folk", _)]) ⟨ee_str, ee_var rfl, trivial⟩ (show List.Nodup (["folk"] : List Str) by decide +kernel) (Nat.le_of_ble_eq_true rfl))) ea_nil)) (s1_2 N)) (ea_cons (ee_call (ea_cons (ee_var rfl) (ea_cons (ee_dict (em_disp (ds := [("lists", _)]) ⟨ee_str, ee_var rfl, trivial⟩ (show List.Nodup (["lists"] : List Str) by decide +kernel) (Nat.le_of_ble_eq_true rfl))) ea_nil)) (s2_2 N)) ea_nil)) (Nat.le_of_ble_eq_true rfl))) (Nat.le_of_ble_eq_true rfl)) rfl) (fun m hm => by rw [List.mem_singleton.mp hm]; show (2 : Nat) ≠ 1; decide) (by show 1 < 12; decide)))) ?_
        refine go_seq (env1 := [some (nD q), none, none, some (.int 2), some (.tuple [.tuple [.str q.n1, .tuple [.str "a"], .tuple [], .tuple [.str "packed"], .int 9000], .tuple [.str q.n2, .tuple [.str "a"], .tuple [], .tuple [.str "packed"], .int 9000]]), none, none, some (.tuple [.str q.n1, .str q.n2]), some (.tuple [.tuple [.str q.n2, .tuple [.tuple [.str q.n1, .str q.n0]]], .tuple [.str q.n3, .tuple [.tuple [.str q.n1, .str q.n0]]]]), some (.tuple [.tuple [.str q.n1, .str q.n0], .tuple [.str q.n2, .str q.n0]]), none, none]) (M1 := [(1, [.bool false, .bool true, .bool false, .bool true, .bool true, .bool true, .bool true, .bool true, .bool true, .bool true, .bool true, .bool true]), (2, [.bool false, .bool true, .bool false, .bool true, .bool true, .bool true, .bool true, .bool true])]) (go_freeze (go_asgN (en_is (en_cat (ee_var rfl) (ee_of (en_lst (ea_cons (ee_call (ea_cons (ee_var rfl) (ea_cons (ee_dict (em_disp (ds := [("lists", _)]) ⟨ee_str, ee_tup (ea_cons (ee_tup (ea_cons (ee_op (ee_var rfl) (ee_int) (rd_ix rfl)) (ea_cons (ee_var rfl) ea_nil)) (Nat.le_of_ble_eq_true rfl)) ea_nil) (Nat.le_of_ble_eq_true rfl), trivial⟩ (show List.Nodup (["lists"] : List Str) by decide +kernel) (Nat.le_of_ble_eq_true rfl))) ea_nil)) (s3_2 N)) (ea_cons (ee_call (ea_cons (ee_var rfl) (ea_cons (ee_dict (em_disp (ds := [("more", _)]) ⟨ee_str, ee_var rfl, trivial⟩ (show List.Nodup (["more"] : List Str) by decide +kernel) (Nat.le_of_ble_eq_true rfl))) ea_nil)) (s4_2 N)) ea_nil)) (Nat.le_of_ble_eq_true rfl))) (Nat.le_of_ble_eq_true rfl)) rfl) (fun m hm => by rw [List.mem_singleton.mp hm]; show (2 : Nat) ≠ 1; decide) (by show 1 < 12; decide))) ?_
        refine go_weak (env1 := [some (nD q), none, none, some (.int 2), some (.tuple [.tuple [.str q.n1, .tuple [.str "a"], .tuple [], .tuple [.str "packed"], .int 9000], .tuple [.str q.n2, .tuple [.str "a"], .tuple [], .tuple [.str "packed"], .int 9000]]), none, none, some (.tuple [.str q.n1, .str q.n2]), some (.tuple [.tuple [.str q.n2, .tuple [.tuple [.str q.n1, .str q.n0]]], .tuple [.str q.n3, .tuple [.tuple [.str q.n1, .str q.n0]]]]), some (.tuple [.tuple [.str q.n1, .str q.n0], .tuple [.str q.n2, .str q.n0]]), none, none]) (go_swap (go_freeze (go_asgN (en_is (en_cat (ee_var rfl) (ee_of (en_lst (ea_cons (ee_chain (ee_int) (ee_var rfl) rd_lt (fun _ => ee_int) (fun _ => rd_lt)) (ea_cons (ee_op (ee_var rfl) (ee_int) rd_lt) (ea_cons (ee_chain (ee_int) (ee_var rfl) rd_lt (fun _ => ee_int) (fun _ => rd_lt)) (ea_cons (ee_op (ee_var rfl) (ee_int) rd_lt) ea_nil)))) (Nat.le_of_ble_eq_true rfl))) (Nat.le_of_ble_eq_true rfl)) rfl) (fun m hm => by rw [List.mem_singleton.mp hm]; show (1 : Nat) ≠ 2; decide) (by show 2 < 12; decide)))) rfl ?_
        exact wkS
      | 3, hk =>
        cases hk
        show GoE K _ [some (nD q), none, none, some (.int 3), none, none, none, none, none, none, none, none] [(2, [.bool false, .bool true, .bool false, .bool true, .bool true, .bool true, .bool true, .bool true, .bool true, .bool true, .bool true, .bool true]), (1, [.bool false, .bool true, .bool false, .bool true, .bool true, .bool true, .bool true, .bool true, .bool true, .bool true, .bool true, .bool true])] [some (nD q), none, none, none, none, none, none, none, none, none, none, none] [(2, [.bool false, .bool true, .bool false, .bool true, .bool true, .bool true, .bool true, .bool true, .bool true, .bool true, .bool true, .bool true, .bool true, .bool true, .bool true, .bool true]), (1, [.bool false, .bool true, .bool false, .bool true, .bool true, .bool true, .bool true, .bool true, .bool true, .bool true, .bool true, .bool true, .bool true, .bool true, .bool true, .bool true])]
        refine go_seq (env1 := [some (nD q), none, none, some (.int 3), none, none, none, some (.tuple [.str q.n1, .str q.n2, .str q.n3]), some (.tuple [.tuple [.str q.n2, .tuple [.tuple [.str q.n1, .str q.n0]]], .tuple [.str q.n3, .tuple [.tuple [.str q.n1, .str q.n0]]], .tuple [.str q.n4, .tuple [.tuple [.str q.n1, .str q.n0]]]]), none, none, none]) (M1 := [(2, [.bool false, .bool true, .bool false, .bool true, .bool true, .bool true, .bool true, .bool true, .bool true, .bool true, .bool true, .bool true]), (1, [.bool false, .bool true, .bool false, .bool true, .bool true, .bool true, .bool true, .bool true, .bool true, .bool true, .bool true, .bool true])]) (go_par (ea_cons (ee_is (ee_tupleL (ee_of (en_slL (ee_var rfl) (eo_some (ee_int)) (eo_some (ee_op (ee_int) (ee_var rfl) rd_add))))) rfl) (ea_cons (ee_is (ee_tupleL (ee_of (en_map _ (ei_list (ee_of (en_slL (ee_var rfl) (eo_some (ee_int)) (eo_some (ee_op (ee_int) (ee_var rfl) rd_add))))) (Nat.le_of_ble_eq_true rfl) (fun _ _ => ee_tup (ea_cons (ee_var rfl) (ea_cons (ee_tup (ea_cons (ee_tup (ea_cons (ee_op (ee_var rfl) (ee_int) (rd_ix rfl)) (ea_cons (ee_op (ee_var rfl) (ee_int) (rd_ix rfl)) ea_nil)) (Nat.le_of_ble_eq_true rfl)) ea_nil) (Nat.le_of_ble_eq_true rfl)) ea_nil)) (Nat.le_of_ble_eq_true rfl))))) rfl) (ea_nil))) (two_ne (by decide) (by decide)) (two_ne (by decide) (by decide))) ?_
        refine go_seq (env1 := [some (nD q), none, none, some (.int 3), none, none, none, some (.tuple [.str q.n1, .str q.n2, .str q.n3]), some (.tuple [.tuple [.str q.n2, .tuple [.tuple [.str q.n1, .str q.n0]]], .tuple [.str q.n3, .tuple [.tuple [.str q.n1, .str q.n0]]], .tuple [.str q.n4, .tuple [.tuple [.str q.n1, .str q.n0]]]]), some (.tuple [.tuple [.str q.n1, .str q.n0], .tuple [.str q.n2, .str q.n0], .tuple [.str q.n3, .str q.n0]]), none, none]) (M1 := [(2, [.bool false, .bool true, .bool false, .bool true, .bool true, .bool true, .bool true, .bool true, .bool true, .bool true, .bool true, .bool true]), (1, [.bool false, .bool true, .bool false, .bool true, .bool true, .bool true, .bool true, .bool true, .bool true, .bool true, .bool true, .bool true])]) (go_asg (ee_is (ee_tupleL (ee_of (en_map _ (ei_list (ee_of (en_slL (ee_var rfl) (eo_some (ee_int)) (eo_some (ee_op (ee_int) (ee_var rfl) rd_add))))) (Nat.le_of_ble_eq_true rfl) (fun _ _ => ee_tup (ea_cons (ee_var rfl) (ea_cons (ee_op (ee_var rfl) (ee_int) (rd_ix rfl)) ea_nil)) (Nat.le_of_ble_eq_true rfl))))) rfl) (two_ne (by decide) (by decide))) ?_
        refine go_seq (env1 := [some (nD q), none, none, some (.int 3), some (.tuple [.tuple [.str q.n1, .tuple [.str "a"], .tuple [], .tuple [.str "packed"], .int 9000], .tuple [.str q.n2, .tuple [.str "a"], .tuple [], .tuple [.str "packed"], .int 9000], .tuple [.str q.n3, .tuple [.str "a"], .tuple [], .tuple [.str "packed"], .int 9000]]), none, none, some (.tuple [.str q.n1, .str q.n2, .str q.n3]), some (.tuple [.tuple [.str q.n2, .tuple [.tuple [.str q.n1, .str q.n0]]], .tuple [.str q.n3, .tuple [.tuple [.str q.n1, .str q.n0]]], .tuple [.str q.n4, .tuple [.tuple [.str q.n1, .str q.n0]]]]), some (.tuple [.tuple [.str q.n1, .str q.n0], .tuple [.str q.n2, .str q.n0], .tuple [.str q.n3, .str q.n0]]), none, none]) (M1 := [(2, [.bool false, .bool true, .bool false, .bool true, .bool true, .bool true, .bool true, .bool true, .bool true, .bool true, .bool true, .bool true]), (1, [.bool false, .bool true, .bool false, .bool true, .bool true, .bool true, .bool true, .bool true, .bool true, .bool true, .bool true, .bool true])]) (go_asg (ee_is (ee_tupleL (ee_of (en_map _ (ei_list (ee_of (en_slL (ee_var rfl) (eo_some (ee_int)) (eo_some (ee_op (ee_int) (ee_var rfl) rd_add))))) (Nat.le_of_ble_eq_true rfl) (fun _ _ => ee_call (ea_cons (ee_var rfl) ea_nil) rfl)))) rfl) (two_ne (by decide) (by decide))) ?_
        refine go_seq (env1 := [some (nD q), none, none, some (.int 3), some (.tuple [.tuple [.str q.n1, .tuple [.str "a"], .tuple [], .tuple [.str "packed"], .int 9000], .tuple [.str q.n2, .tuple [.str "a"], .tuple [], .tuple [.str "packed"], .int 9000], .tuple [.str q.n3, .tuple [.str "a"], .tuple [], .tuple [.str "packed"], .int 9000]]), none, none, some (.tuple [.str q.n1, .str q.n2, .str q.n3]), some (.tuple [.tuple [.str q.n2, .tuple [.tuple [.str q.n1, .str q.n0]]], .tuple [.str q.n3, .tuple [.tuple [.str q.n1, .str q.n0]]], .tuple [.str q.n4, .tuple [.tuple [.str q.n1, .str q.n0]]]]), some (.tuple [.tuple [.str q.n1, .str q.n0], .tuple [.str q.n2, .str q.n0], .tuple [.str q.n3, .str q.n0]]), none, none]) (M1 := [(1, [.bool false, .bool true, .bool false, .bool true, .bool true, .bool true, .bool true, .bool true, .bool true, .bool true, .bool true, .bool true, .bool true, .bool true]), (2, [.bool false, .bool true, .bool false, .bool true, .bool true, .bool true, .bool true, .bool true, .bool true, .bool true, .bool true, .bool true])]) (go_swap (go_freeze (go_asgN (en_is (en_cat (ee_var rfl) (ee_of (en_lst (ea_cons (ee_call (ea_cons (ee_var rfl) (ea_cons (ee_dict (em_disp (ds := [("folk", _)]) ⟨ee_str, ee_var rfl, trivial⟩ (show List.Nodup (["folk"] : List Str) by decide +kernel) (Nat.le_of_ble_eq_true rfl))) ea_nil)) (s1_3 N)) (ea_cons (ee_call (ea_cons (ee_var rfl) (ea_cons (ee_dict (em_disp (ds := [("lists", _)]) ⟨ee_str, ee_var rfl, trivial⟩ (show List.Nodup (["lists"] : List Str) by decide +kernel) (Nat.le_of_ble_eq_true rfl))) ea_nil)) (s2_3 N)) ea_nil)) (Nat.le_of_ble_eq_true rfl))) (Nat.le_of_ble_eq_true rfl)) rfl) (fun m hm => by rw [List.mem_singleton.mp hm]; show (2 : Nat) ≠ 1; decide) (by show 1 < 12; decide)))) ?_
        refine go_seq (env1 := [some (nD q), none, none, some (.int 3), some (.tuple [.tuple [.str q.n1, .tuple [.str "a"], .tuple [], .tuple [.str "packed"], .int 9000], .tuple [.str q.n2, .tuple [.str "a"], .tuple [], .tuple [.str "packed"], .int 9000], .tuple [.str q.n3, .tuple [.str "a"], .tuple [], .tuple [.str "packed"], .int 9000]]), none, none, some (.tuple [.str q.n1, .str q.n2, .str q.n3]), some (.tuple [.tuple [.str q.n2, .tuple [.tuple [.str q.n1, .str q.n0]]], .tuple [.str q.n3, .tuple [.tuple [.str q.n1, .str q.n0]]], .tuple [.str q.n4, .tuple [.tuple [.str q.n1, .str q.n0]]]]), some (.tuple [.tuple [.str q.n1, .str q.n0], .tuple [.str q.n2, .str q.n0], .tuple [.str q.n3, .str q.n0]]), none, none]) (M1 := [(1, [.bool false, .bool true, .bool false, .bool true, .bool true, .bool true, .bool true, .bool true, .bool true, .bool true, .bool true, .bool true, .bool true, .bool true, .bool true, .bool true]), (2, [.bool false, .bool true, .bool false, .bool true, .bool true, .bool true, .bool true, .bool true, .bool true, .bool true, .bool true, .bool true])]) (go_freeze (go_asgN (en_is (en_cat (ee_var rfl) (ee_of (en_lst (ea_cons (ee_call (ea_cons (ee_var rfl) (ea_cons (ee_dict (em_disp (ds := [("lists", _)]) ⟨ee_str, ee_tup (ea_cons (ee_tup (ea_cons (ee_op (ee_var rfl) (ee_int) (rd_ix rfl)) (ea_cons (ee_var rfl) ea_nil)) (Nat.le_of_ble_eq_true rfl)) ea_nil) (Nat.le_of_ble_eq_true rfl), trivial⟩ (show List.Nodup (["lists"] : List Str) by decide +kernel) (Nat.le_of_ble_eq_true rfl))) ea_nil)) (s3_3 N)) (ea_cons (ee_call (ea_cons (ee_var rfl) (ea_cons (ee_dict (em_disp (ds := [("more", _)]) ⟨ee_str, ee_var rfl, trivial⟩ (show List.Nodup (["more"] : List Str) by decide +kernel) (Nat.le_of_ble_eq_true rfl))) ea_nil)) (s4_3 N)) ea_nil)) (Nat.le_of_ble_eq_true rfl))) (Nat.le_of_ble_eq_true rfl)) rfl) (fun m hm => by rw [List.mem_singleton.mp hm]; show (2 : Nat) ≠ 1; decide) (by show 1 < 12; decide))) ?_
        refine go_weak (env1 := [some (nD q), none, none, some (.int 3), some (.tuple [.tuple [.str q.n1, .tuple [.str "a"], .tuple [], .tuple [.str "packed"], .int 9000], .tuple [.str q.n2, .tuple [.str "a"], .tuple [], .tuple [.str "packed"], .int 9000], .tuple [.str q.n3, .tuple [.str "a"], .tuple [], .tuple [.str "packed"], .int 9000]]), none, none, some (.tuple [.str q.n1, .str q.n2, .str q.n3]), some (.tuple [.tuple [.str q.n2, .tuple [.tuple [.str q.n1, .str q.n0]]], .tuple [.str q.n3, .tuple [.tuple [.str q.n1, .str q.n0]]], .tuple [.str q.n4, .tuple [.tuple [.str q.n1, .str q.n0]]]]), some (.tuple [.tuple [.str q.n1, .str q.n0], .tuple [.str q.n2, .str q.n0], .tuple [.str q.n3, .str q.n0]]), none, none]) (go_swap (go_freeze (go_asgN (en_is (en_cat (ee_var rfl) (ee_of (en_lst (ea_cons (ee_chain (ee_int) (ee_var rfl) rd_lt (fun _ => ee_int) (fun _ => rd_lt)) (ea_cons (ee_op (ee_var rfl) (ee_int) rd_lt) (ea_cons (ee_chain (ee_int) (ee_var rfl) rd_lt (fun _ => ee_int) (fun _ => rd_lt)) (ea_cons (ee_op (ee_var rfl) (ee_int) rd_lt) ea_nil)))) (Nat.le_of_ble_eq_true rfl))) (Nat.le_of_ble_eq_true rfl)) rfl) (fun m hm => by rw [List.mem_singleton.mp hm]; show (1 : Nat) ≠ 2; decide) (by show 2 < 12; decide)))) rfl ?_
        exact wkS
      | 4, hk =>
        cases hk
        show GoE K _ [some (nD q), none, none, some (.int 4), none, none, none, none, none, none, none, none] [(2, [.bool false, .bool true, .bool false, .bool true, .bool true, .bool true, .bool true, .bool true, .bool true, .bool true, .bool true, .bool true, .bool true, .bool true, .bool true, .bool true]), (1, [.bool false, .bool true, .bool false, .bool true, .bool true, .bool true, .bool true, .bool true, .bool true, .bool true, .bool true, .bool true, .bool true, .bool true, .bool true, .bool true])] [some (nD q), none, none, none, none, none, none, none, none, none, none, none] [(2, [.bool false, .bool true, .bool false, .bool true, .bool true, .bool true, .bool true, .bool true, .bool true, .bool true, .bool true, .bool true, .bool true, .bool true, .bool true, .bool true, .bool true, .bool false, .bool true, .bool true]), (1, [.bool false, .bool true, .bool false, .bool true, .bool true, .bool true, .bool true, .bool true, .bool true, .bool true, .bool true, .bool true, .bool true, .bool true, .bool true, .bool true, .bool true, .bool false, .bool true, .bool true])]
        refine go_seq (env1 := [some (nD q), none, none, some (.int 4), none, none, none, some (.tuple [.str q.n1, .str q.n2, .str q.n3, .str q.n4]), some (.tuple [.tuple [.str q.n2, .tuple [.tuple [.str q.n1, .str q.n0]]], .tuple [.str q.n3, .tuple [.tuple [.str q.n1, .str q.n0]]], .tuple [.str q.n4, .tuple [.tuple [.str q.n1, .str q.n0]]], .tuple [.str q.n5, .tuple [.tuple [.str q.n1, .str q.n0]]]]), none, none, none]) (M1 := [(2, [.bool false, .bool true, .bool false, .bool true, .bool true, .bool true, .bool true, .bool true, .bool true, .bool true, .bool true, .bool true, .bool true, .bool true, .bool true, .bool true]), (1, [.bool false, .bool true, .bool false, .bool true, .bool true, .bool true, .bool true, .bool true, .bool true, .bool true, .bool true, .bool true, .bool true, .bool true, .bool true, .bool true])]) (go_par (ea_cons (ee_is (ee_tupleL (ee_of (en_slL (ee_var rfl) (eo_some (ee_int)) (eo_some (ee_op (ee_int) (ee_var rfl) rd_add))))) rfl) (ea_cons (ee_is (ee_tupleL (ee_of (en_map _ (ei_list (ee_of (en_slL (ee_var rfl) (eo_some (ee_int)) (eo_some (ee_op (ee_int) (ee_var rfl) rd_add))))) (Nat.le_of_ble_eq_true rfl) (fun _ _ => ee_tup (ea_cons (ee_var rfl) (ea_cons (ee_tup (ea_cons (ee_tup (ea_cons (ee_op (ee_var rfl) (ee_int) (rd_ix rfl)) (ea_cons (ee_op (ee_var rfl) (ee_int) (rd_ix rfl)) ea_nil)) (Nat.le_of_ble_eq_true rfl)) ea_nil) (Nat.le_of_ble_eq_true rfl)) ea_nil)) (Nat.le_of_ble_eq_true rfl))))) rfl) (ea_nil))) (two_ne (by decide) (by decide)) (two_ne (by decide) (by decide))) ?_
        refine go_seq (env1 := [some (nD q), none, none, some (.int 4), none, none, none, some (.tuple [.str q.n1, .str q.n2, .str q.n3, .str q.n4]), some (.tuple [.tuple [.str q.n2, .tuple [.tuple [.str q.n1, .str q.n0]]], .tuple [.str q.n3, .tuple [.tuple [.str q.n1, .str q.n0]]], .tuple [.str q.n4, .tuple [.tuple [.str q.n1, .str q.n0]]], .tuple [.str q.n5, .tuple [.tuple [.str q.n1, .str q.n0]]]]), some (.tuple [.tuple [.str q.n1, .str q.n0], .tuple [.str q.n2, .str q.n0], .tuple [.str q.n3, .str q.n0], .tuple [.str q.n4, .str q.n0]]), none, none]) (M1 := [(2, [.bool false, .bool true, .bool false, .bool true, .bool true, .bool true, .bool true, .bool true, .bool true, .bool true, .bool true, .bool true, .bool true, .bool true, .bool true, .bool true]), (1, [.bool false, .bool true, .bool false, .bool true, .bool true, .bool true, .bool true, .bool true, .bool true, .bool true, .bool true, .bool true, .bool true, .bool true, .bool true, .bool true])]) (go_asg (ee_is (ee_tupleL (ee_of (en_map _ (ei_list (ee_of (en_slL (ee_var rfl) (eo_some (ee_int)) (eo_some (ee_op (ee_int) (ee_var rfl) rd_add))))) (Nat.le_of_ble_eq_true rfl) (fun _ _ => ee_tup (ea_cons (ee_var rfl) (ea_cons (ee_op (ee_var rfl) (ee_int) (rd_ix rfl)) ea_nil)) (Nat.le_of_ble_eq_true rfl))))) rfl) (two_ne (by decide) (by decide))) ?_
        refine go_seq (env1 := [some (nD q), none, none, some (.int 4), some (.tuple [.tuple [.str q.n1, .tuple [.str "a"], .tuple [], .tuple [.str "packed"], .int 9000], .tuple [.str q.n2, .tuple [.str "a"], .tuple [], .tuple [.str "packed"], .int 9000], .tuple [.str q.n3, .tuple [.str "a"], .tuple [], .tuple [.str "packed"], .int 9000], .tuple [.str q.n4, .tuple [.str "a"], .tuple [], .tuple [.str "packed"], .int 9000]]), none, none, some (.tuple [.str q.n1, .str q.n2, .str q.n3, .str q.n4]), some (.tuple [.tuple [.str q.n2, .tuple [.tuple [.str q.n1, .str q.n0]]], .tuple [.str q.n3, .tuple [.tuple [.str q.n1, .str q.n0]]], .tuple [.str q.n4, .tuple [.tuple [.str q.n1, .str q.n0]]], .tuple [.str q.n5, .tuple [.tuple [.str q.n1, .str q.n0]]]]), some (.tuple [.tuple [.str q.n1, .str q.n0], .tuple [.str q.n2, .str q.n0], .tuple [.str q.n3, .str q.n0], .tuple [.str q.n4, .str q.n0]]), none, none]) (M1 := [(2, [.bool false, .bool true, .bool false, .bool true, .bool true, .bool true, .bool true, .bool true, .bool true, .bool true, .bool true, .bool true, .bool true, .bool true, .bool true, .bool true]), (1, [.bool false, .bool true, .bool false, .bool true, .bool true, .bool true, .bool true, .bool true, .bool true, .bool true, .bool true, .bool true, .bool true, .bool true, .bool true, .bool true])]) (go_asg (ee_is (ee_tupleL (ee_of (en_map _ (ei_list (ee_of (en_slL (ee_var rfl) (eo_some (ee_int)) (eo_some (ee_op (ee_int) (ee_var rfl) rd_add))))) (Nat.le_of_ble_eq_true rfl) (fun _ _ => ee_call (ea_cons (ee_var rfl) ea_nil) rfl)))) rfl) (two_ne (by decide) (by decide))) ?_
        refine go_seq (env1 := [some (nD q), none, none, some (.int 4), some (.tuple [.tuple [.str q.n1, .tuple [.str "a"], .tuple [], .tuple [.str "packed"], .int 9000], .tuple [.str q.n2, .tuple [.str "a"], .tuple [], .tuple [.str "packed"], .int 9000], .tuple [.str q.n3, .tuple [.str "a"], .tuple [], .tuple [.str "packed"], .int 9000], .tuple [.str q.n4, .tuple [.str "a"], .tuple [], .tuple [.str "packed"], .int 9000]]), none, none, some (.tuple [.str q.n1, .str q.n2, .str q.n3, .str q.n4]), some (.tuple [.tuple [.str q.n2, .tuple [.tuple [.str q.n1, .str q.n0]]], .tuple [.str q.n3, .tuple [.tuple [.str q.n1, .str q.n0]]], .tuple [.str q.n4, .tuple [.tuple [.str q.n1, .str q.n0]]], .tuple [.str q.n5, .tuple [.tuple [.str q.n1, .str q.n0]]]]), some (.tuple [.tuple [.str q.n1, .str q.n0], .tuple [.str q.n2, .str q.n0], .tuple [.str q.n3, .str q.n0], .tuple [.str q.n4, .str q.n0]]), none, none]) (M1 := [(1, [.bool false, .bool true, .bool false, .bool true, .bool true, .bool true, .bool true, .bool true, .bool true, .bool true, .bool true, .bool true, .bool true, .bool true, .bool true, .bool true, .bool true, .bool false]), (2, [.bool false, .bool true, .bool false, .bool true, .bool true, .bool true, .bool true, .bool true, .bool true, .bool true, .bool true, .bool true, .bool true, .bool true, .bool true, .bool true])]) (go_swap (go_freeze (go_asgN (en_is (en_cat (ee_var rfl) (ee_of (en_lst (ea_cons (ee_call (ea_cons (ee_var rfl) (ea_cons (ee_dict (em_disp (ds := [("folk", _)]) ⟨ee_str, ee_var rfl, trivial⟩ (show List.Nodup (["folk"] : List Str) by decide +kernel) (Nat.le_of_ble_eq_true rfl))) ea_nil)) (s1_4 N)) (ea_cons (ee_call (ea_cons (ee_var rfl) (ea_cons (ee_dict (em_disp (ds := [("lists", _)]) ⟨ee_str, ee_var rfl, trivial⟩ (show List.Nodup (["lists"] : List Str) by decide +kernel) (Nat.le_of_ble_eq_true rfl))) ea_nil)) (s2_4 N)) ea_nil)) (Nat.le_of_ble_eq_true rfl))) (Nat.le_of_ble_eq_true rfl)) rfl) (fun m hm => by rw [List.mem_singleton.mp hm]; show (2 : Nat) ≠ 1; decide) (by show 1 < 12; decide)))) ?_
        refine go_seq (env1 := [some (nD q), none, none, some (.int 4), some (.tuple [.tuple [.str q.n1, .tuple [.str "a"], .tuple [], .tuple [.str "packed"], .int 9000], .tuple [.str q.n2, .tuple [.str "a"], .tuple [], .tuple [.str "packed"], .int 9000], .tuple [.str q.n3, .tuple [.str "a"], .tuple [], .tuple [.str "packed"], .int 9000], .tuple [.str q.n4, .tuple [.str "a"], .tuple [], .tuple [.str "packed"], .int 9000]]), none, none, some (.tuple [.str q.n1, .str q.n2, .str q.n3, .str q.n4]), some (.tuple [.tuple [.str q.n2, .tuple [.tuple [.str q.n1, .str q.n0]]], .tuple [.str q.n3, .tuple [.tuple [.str q.n1, .str q.n0]]], .tuple [.str q.n4, .tuple [.tuple [.str q.n1, .str q.n0]]], .tuple [.str q.n5, .tuple [.tuple [.str q.n1, .str q.n0]]]]), some (.tuple [.tuple [.str q.n1, .str q.n0], .tuple [.str q.n2, .str q.n0], .tuple [.str q.n3, .str q.n0], .tuple [.str q.n4, .str q.n0]]), none, none]) (M1 := [(1, [.bool false, .bool true, .bool false, .bool true, .bool true, .bool true, .bool true, .bool true, .bool true, .bool true, .bool true, .bool true, .bool true, .bool true, .bool true, .bool true, .bool true, .bool false, .bool true, .bool true]), (2, [.bool false, .bool true, .bool false, .bool true, .bool true, .bool true, .bool true, .bool true, .bool true, .bool true, .bool true, .bool true, .bool true, .bool true, .bool true, .bool true])]) (go_freeze (go_asgN (en_is (en_cat (ee_var rfl) (ee_of (en_lst (ea_cons (ee_call (ea_cons (ee_var rfl) (ea_cons (ee_dict (em_disp (ds := [("lists", _)]) ⟨ee_str, ee_tup (ea_cons (ee_tup (ea_cons (ee_op (ee_var rfl) (ee_int) (rd_ix rfl)) (ea_cons (ee_var rfl) ea_nil)) (Nat.le_of_ble_eq_true rfl)) ea_nil) (Nat.le_of_ble_eq_true rfl), trivial⟩ (show List.Nodup (["lists"] : List Str) by decide +kernel) (Nat.le_of_ble_eq_true rfl))) ea_nil)) (s3_4 N)) (ea_cons (ee_call (ea_cons (ee_var rfl) (ea_cons (ee_dict (em_disp (ds := [("more", _)]) ⟨ee_str, ee_var rfl, trivial⟩ (show List.Nodup (["more"] : List Str) by decide +kernel) (Nat.le_of_ble_eq_true rfl))) ea_nil)) (s4_4 N)) ea_nil)) (Nat.le_of_ble_eq_true rfl))) (Nat.le_of_ble_eq_true rfl)) rfl) (fun m hm => by rw [List.mem_singleton.mp hm]; show (2 : Nat) ≠ 1; decide) (by show 1 < 12; decide))) ?_
        refine go_weak (env1 := [some (nD q), none, none, some (.int 4), some (.tuple [.tuple [.str q.n1, .tuple [.str "a"], .tuple [], .tuple [.str "packed"], .int 9000], .tuple [.str q.n2, .tuple [.str "a"], .tuple [], .tuple [.str "packed"], .int 9000], .tuple [.str q.n3, .tuple [.str "a"], .tuple [], .tuple [.str "packed"], .int 9000], .tuple [.str q.n4, .tuple [.str "a"], .tuple [], .tuple [.str "packed"], .int 9000]]), none, none, some (.tuple [.str q.n1, .str q.n2, .str q.n3, .str q.n4]), some (.tuple [.tuple [.str q.n2, .tuple [.tuple [.str q.n1, .str q.n0]]], .tuple [.str q.n3, .tuple [.tuple [.str q.n1, .str q.n0]]], .tuple [.str q.n4, .tuple [.tuple [.str q.n1, .str q.n0]]], .tuple [.str q.n5, .tuple [.tuple [.str q.n1, .str q.n0]]]]), some (.tuple [.tuple [.str q.n1, .str q.n0], .tuple [.str q.n2, .str q.n0], .tuple [.str q.n3, .str q.n0], .tuple [.str q.n4, .str q.n0]]), none, none]) (go_swap (go_freeze (go_asgN (en_is (en_cat (ee_var rfl) (ee_of (en_lst (ea_cons (ee_chain (ee_int) (ee_var rfl) rd_lt (fun _ => ee_int) (fun _ => rd_lt)) (ea_cons (ee_op (ee_var rfl) (ee_int) rd_lt) (ea_cons (ee_chain (ee_int) (ee_var rfl) rd_lt (fun _ => ee_int) (fun _ => rd_lt)) (ea_cons (ee_op (ee_var rfl) (ee_int) rd_lt) ea_nil)))) (Nat.le_of_ble_eq_true rfl))) (Nat.le_of_ble_eq_true rfl)) rfl) (fun m hm => by rw [List.mem_singleton.mp hm]; show (1 : Nat) ≠ 2; decide) (by show 2 < 12; decide)))) rfl ?_
        exact wkS
      | 5, hk =>
        cases hk
        show GoE K _ [some (nD q), none, none, some (.int 5), none, none, none, none, none, none, none, none] [(2, [.bool false, .bool true, .bool false, .bool true, .bool true, .bool true, .bool true, .bool true, .bool true, .bool true, .bool true, .bool true, .bool true, .bool true, .bool true, .bool true, .bool true, .bool false, .bool true, .bool true]), (1, [.bool false, .bool true, .bool false, .bool true, .bool true, .bool true, .bool true, .bool true, .bool true, .bool true, .bool true, .bool true, .bool true, .bool true, .bool true, .bool true, .bool true, .bool false, .bool true, .bool true])] [some (nD q), none, none, none, none, none, none, none, none, none, none, none] [(2, [.bool false, .bool true, .bool false, .bool true, .bool true, .bool true, .bool true, .bool true, .bool true, .bool true, .bool true, .bool true, .bool true, .bool true, .bool true, .bool true, .bool true, .bool false, .bool true, .bool true, .bool false, .bool false, .bool false, .bool false]), (1, [.bool false, .bool true, .bool false, .bool true, .bool true, .bool true, .bool true, .bool true, .bool true, .bool true, .bool true, .bool true, .bool true, .bool true, .bool true, .bool true, .bool true, .bool false, .bool true, .bool true, .bool false, .bool false, .bool false, .bool false])]
        refine go_seq (env1 := [some (nD q), none, none, some (.int 5), none, none, none, some (.tuple [.str q.n1, .str q.n2, .str q.n3, .str q.n4, .str q.n5]), some (.tuple [.tuple [.str q.n2, .tuple [.tuple [.str q.n1, .str q.n0]]], .tuple [.str q.n3, .tuple [.tuple [.str q.n1, .str q.n0]]], .tuple [.str q.n4, .tuple [.tuple [.str q.n1, .str q.n0]]], .tuple [.str q.n5, .tuple [.tuple [.str q.n1, .str q.n0]]], .tuple [.str q.n6, .tuple [.tuple [.str q.n1, .str q.n0]]]]), none, none, none]) (M1 := [(2, [.bool false, .bool true, .bool false, .bool true, .bool true, .bool true, .bool true, .bool true, .bool true, .bool true, .bool true, .bool true, .bool true, .bool true, .bool true, .bool true, .bool true, .bool false, .bool true, .bool true]), (1, [.bool false, .bool true, .bool false, .bool true, .bool true, .bool true, .bool true, .bool true, .bool true, .bool true, .bool true, .bool true, .bool true, .bool true, .bool true, .bool true, .bool true, .bool false, .bool true, .bool true])]) (go_par (ea_cons (ee_is (ee_tupleL (ee_of (en_slL (ee_var rfl) (eo_some (ee_int)) (eo_some (ee_op (ee_int) (ee_var rfl) rd_add))))) rfl) (ea_cons (ee_is (ee_tupleL (ee_of (en_map _ (ei_list (ee_of (en_slL (ee_var rfl) (eo_some (ee_int)) (eo_some (ee_op (ee_int) (ee_var rfl) rd_add))))) (Nat.le_of_ble_eq_true rfl) (fun _ _ => ee_tup (ea_cons (ee_var rfl) (ea_cons (ee_tup (ea_cons (ee_tup (ea_cons (ee_op (ee_var rfl) (ee_int) (rd_ix rfl)) (ea_cons (ee_op (ee_var rfl) (ee_int) (rd_ix rfl)) ea_nil)) (Nat.le_of_ble_eq_true rfl)) ea_nil) (Nat.le_of_ble_eq_true rfl)) ea_nil)) (Nat.le_of_ble_eq_true rfl))))) rfl) (ea_nil))) (two_ne (by decide) (by decide)) (two_ne (by decide) (by decide))) ?_
        refine go_seq (env1 := [some (nD q), none, none, some (.int 5), none, none, none, some (.tuple [.str q.n1, .str q.n2, .str q.n3, .str q.n4, .str q.n5]), some (.tuple [.tuple [.str q.n2, .tuple [.tuple [.str q.n1, .str q.n0]]], .tuple [.str q.n3, .tuple [.tuple [.str q.n1, .str q.n0]]], .tuple [.str q.n4, .tuple [.tuple [.str q.n1, .str q.n0]]], .tuple [.str q.n5, .tuple [.tuple [.str q.n1, .str q.n0]]], .tuple [.str q.n6, .tuple [.tuple [.str q.n1, .str q.n0]]]]), some (.tuple [.tuple [.str q.n1, .str q.n0], .tuple [.str q.n2, .str q.n0], .tuple [.str q.n3, .str q.n0], .tuple [.str q.n4, .str q.n0], .tuple [.str q.n5, .str q.n0]]), none, none]) (M1 := [(2, [.bool false, .bool true, .bool false, .bool true, .bool true, .bool true, .bool true, .bool true, .bool true, .bool true, .bool true, .bool true, .bool true, .bool true, .bool true, .bool true, .bool true, .bool false, .bool true, .bool true]), (1, [.bool false, .bool true, .bool false, .bool true, .bool true, .bool true, .bool true, .bool true, .bool true, .bool true, .bool true, .bool true, .bool true, .bool true, .bool true, .bool true, .bool true, .bool false, .bool true, .bool true])]) (go_asg (ee_is (ee_tupleL (ee_of (en_map _ (ei_list (ee_of (en_slL (ee_var rfl) (eo_some (ee_int)) (eo_some (ee_op (ee_int) (ee_var rfl) rd_add))))) (Nat.le_of_ble_eq_true rfl) (fun _ _ => ee_tup (ea_cons (ee_var rfl) (ea_cons (ee_op (ee_var rfl) (ee_int) (rd_ix rfl)) ea_nil)) (Nat.le_of_ble_eq_true rfl))))) rfl) (two_ne (by decide) (by decide))) ?_
        refine go_seq (env1 := [some (nD q), none, none, some (.int 5), some (.tuple [.tuple [.str q.n1, .tuple [.str "a"], .tuple [], .tuple [.str "packed"], .int 9000], .tuple [.str q.n2, .tuple [.str "a"], .tuple [], .tuple [.str "packed"], .int 9000], .tuple [.str q.n3, .tuple [.str "a"], .tuple [], .tuple [.str "packed"], .int 9000], .tuple [.str q.n4, .tuple [.str "a"], .tuple [], .tuple [.str "packed"], .int 9000], .tuple [.str q.n5, .tuple [.str "a"], .tuple [], .tuple [.str "packed"], .int 9000]]), none, none, some (.tuple [.str q.n1, .str q.n2, .str q.n3, .str q.n4, .str q.n5]), some (.tuple [.tuple [.str q.n2, .tuple [.tuple [.str q.n1, .str q.n0]]], .tuple [.str q.n3, .tuple [.tuple [.str q.n1, .str q.n0]]], .tuple [.str q.n4, .tuple [.tuple [.str q.n1, .str q.n0]]], .tuple [.str q.n5, .tuple [.tuple [.str q.n1, .str q.n0]]], .tuple [.str q.n6, .tuple [.tuple [.str q.n1, .str q.n0]]]]), some (.tuple [.tuple [.str q.n1, .str q.n0], .tuple [.str q.n2, .str q.n0], .tuple [.str q.n3, .str q.n0], .tuple [.str q.n4, .str q.n0], .tuple [.str q.n5, .str q.n0]]), none, none]) (M1 := [(2, [.bool false, .bool true, .bool false, .bool true, .bool true, .bool true, .bool true, .bool true, .bool true, .bool true, .bool true, .bool true, .bool true, .bool true, .bool true, .bool true, .bool true, .bool false, .bool true, .bool true]), (1, [.bool false, .bool true, .bool false, .bool true, .bool true, .bool true, .bool true, .bool true, .bool true, .bool true, .bool true, .bool true, .bool true, .bool true, .bool true, .bool true, .bool true, .bool false, .bool true, .bool true])]) (go_asg (ee_is (ee_tupleL (ee_of (en_map _ (ei_list (ee_of (en_slL (ee_var rfl) (eo_some (ee_int)) (eo_some (ee_op (ee_int) (ee_var rfl) rd_add))))) (Nat.le_of_ble_eq_true rfl) (fun _ _ => ee_call (ea_cons (ee_var rfl) ea_nil) rfl)))) rfl) (two_ne (by decide) (by decide))) ?_
        refine go_seq (env1 := [some (nD q), none, none, some (.int 5), some (.tuple [.tuple [.str q.n1, .tuple [.str "a"], .tuple [], .tuple [.str "packed"], .int 9000], .tuple [.str q.n2, .tuple [.str "a"], .tuple [], .tuple [.str "packed"], .int 9000], .tuple [.str q.n3, .tuple [.str "a"], .tuple [], .tuple [.str "packed"], .int 9000], .tuple [.str q.n4, .tuple [.str "a"], .tuple [], .tuple [.str "packed"], .int 9000], .tuple [.str q.n5, .tuple [.str "a"], .tuple [], .tuple [.str "packed"], .int 9000]]), none, none, some (.tuple [.str q.n1, .str q.n2, .str q.n3, .str q.n4, .str q.n5]), some (.tuple [.tuple [.str q.n2, .tuple [.tuple [.str q.n1, .str q.n0]]], .tuple [.str q.n3, .tuple [.tuple [.str q.n1, .str q.n0]]], .tuple [.str q.n4, .tuple [.tuple [.str q.n1, .str q.n0]]], .tuple [.str q.n5, .tuple [.tuple [.str q.n1, .str q.n0]]], .tuple [.str q.n6, .tuple [.tuple [.str q.n1, .str q.n0]]]]), some (.tuple [.tuple [.str q.n1, .str q.n0], .tuple [.str q.n2, .str q.n0], .tuple [.str q.n3, .str q.n0], .tuple [.str q.n4, .str q.n0], .tuple [.str q.n5, .str q.n0]]), none, none]) (M1 := [(1, [.bool false, .bool true, .bool false, .bool true, .bool true, .bool true, .bool true, .bool true, .bool true, .bool true, .bool true, .bool true, .bool true, .bool true, .bool true, .bool true, .bool true, .bool false, .bool true, .bool true, .bool false, .bool false]), (2, [.bool false, .bool true, .bool false, .bool true, .bool true, .bool true, .bool true, .bool true, .bool true, .bool true, .bool true, .bool true, .bool true, .bool true, .bool true, .bool true, .bool true, .bool false, .bool true, .bool true])]) (go_swap (go_freeze (go_asgN (en_is (en_cat (ee_var rfl) (ee_of (en_lst (ea_cons (ee_call (ea_cons (ee_var rfl) (ea_cons (ee_dict (em_disp (ds := [("folk", _)]) ⟨ee_str, ee_var rfl, trivial⟩ (show List.Nodup (["folk"] : List Str) by decide +kernel) (Nat.le_of_ble_eq_true rfl))) ea_nil)) (s1_5 N)) (ea_cons (ee_call (ea_cons (ee_var rfl) (ea_cons (ee_dict (em_disp (ds := [("lists", _)]) ⟨ee_str, ee_var rfl, trivial⟩ (show List.Nodup (["lists"] : List Str) by decide +kernel) (Nat.le_of_ble_eq_true rfl))) ea_nil)) (s2_5 N)) ea_nil)) (Nat.le_of_ble_eq_true rfl))) (Nat.le_of_ble_eq_true rfl)) rfl) (fun m hm => by rw [List.mem_singleton.mp hm]; show (2 : Nat) ≠ 1; decide) (by show 1 < 12; decide)))) ?_
        refine go_seq (env1 := [some (nD q), none, none, some (.int 5), some (.tuple [.tuple [.str q.n1, .tuple [.str "a"], .tuple [], .tuple [.str "packed"], .int 9000], .tuple [.str q.n2, .tuple [.str "a"], .tuple [], .tuple [.str "packed"], .int 9000], .tuple [.str q.n3, .tuple [.str "a"], .tuple [], .tuple [.str "packed"], .int 9000], .tuple [.str q.n4, .tuple [.str "a"], .tuple [], .tuple [.str "packed"], .int 9000], .tuple [.str q.n5, .tuple [.str "a"], .tuple [], .tuple [.str "packed"], .int 9000]]), none, none, some (.tuple [.str q.n1, .str q.n2, .str q.n3, .str q.n4, .str q.n5]), some (.tuple [.tuple [.str q.n2, .tuple [.tuple [.str q.n1, .str q.n0]]], .tuple [.str q.n3, .tuple [.tuple [.str q.n1, .str q.n0]]], .tuple [.str q.n4, .tuple [.tuple [.str q.n1, .str q.n0]]], .tuple [.str q.n5, .tuple [.tuple [.str q.n1, .str q.n0]]], .tuple [.str q.n6, .tuple [.tuple [.str q.n1, .str q.n0]]]]), some (.tuple [.tuple [.str q.n1, .str q.n0], .tuple [.str q.n2, .str q.n0], .tuple [.str q.n3, .str q.n0], .tuple [.str q.n4, .str q.n0], .tuple [.str q.n5, .str q.n0]]), none, none]) (M1 := [(1, [.bool false, .bool true, .bool false, .bool true, .bool true, .bool true, .bool true, .bool true, .bool true, .bool true, .bool true, .bool true, .bool true, .bool true, .bool true, .bool true, .bool true, .bool false, .bool true, .bool true, .bool false, .bool false, .bool false, .bool false]), (2, [.bool false, .bool true, .bool false, .bool true, .bool true, .bool true, .bool true, .bool true, .bool true, .bool true, .bool true, .bool true, .bool true, .bool true, .bool true, .bool true, .bool true, .bool false, .bool true, .bool true])]) (go_freeze (go_asgN (en_is (en_cat (ee_var rfl) (ee_of (en_lst (ea_cons (ee_call (ea_cons (ee_var rfl) (ea_cons (ee_dict (em_disp (ds := [("lists", _)]) ⟨ee_str, ee_tup (ea_cons (ee_tup (ea_cons (ee_op (ee_var rfl) (ee_int) (rd_ix rfl)) (ea_cons (ee_var rfl) ea_nil)) (Nat.le_of_ble_eq_true rfl)) ea_nil) (Nat.le_of_ble_eq_true rfl), trivial⟩ (show List.Nodup (["lists"] : List Str) by decide +kernel) (Nat.le_of_ble_eq_true rfl))) ea_nil)) (s3_5 N)) (ea_cons (ee_call (ea_cons (ee_var rfl) (ea_cons (ee_dict (em_disp (ds := [("more", _)]) ⟨ee_str, ee_var rfl, trivial⟩ (show List.Nodup (["more"] : List Str) by decide +kernel) (Nat.le_of_ble_eq_true rfl))) ea_nil)) (s4_5 N)) ea_nil)) (Nat.le_of_ble_eq_true rfl))) (Nat.le_of_ble_eq_true rfl)) rfl) (fun m hm => by rw [List.mem_singleton.mp hm]; show (2 : Nat) ≠ 1; decide) (by show 1 < 12; decide))) ?_
        refine go_weak (env1 := [some (nD q), none, none, some (.int 5), some (.tuple [.tuple [.str q.n1, .tuple [.str "a"], .tuple [], .tuple [.str "packed"], .int 9000], .tuple [.str q.n2, .tuple [.str "a"], .tuple [], .tuple [.str "packed"], .int 9000], .tuple [.str q.n3, .tuple [.str "a"], .tuple [], .tuple [.str "packed"], .int 9000], .tuple [.str q.n4, .tuple [.str "a"], .tuple [], .tuple [.str "packed"], .int 9000], .tuple [.str q.n5, .tuple [.str "a"], .tuple [], .tuple [.str "packed"], .int 9000]]), none, none, some (.tuple [.str q.n1, .str q.n2, .str q.n3, .str q.n4, .str q.n5]), some (.tuple [.tuple [.str q.n2, .tuple [.tuple [.str q.n1, .str q.n0]]], .tuple [.str q.n3, .tuple [.tuple [.str q.n1, .str q.n0]]], .tuple [.str q.n4, .tuple [.tuple [.str q.n1, .str q.n0]]], .tuple [.str q.n5, .tuple [.tuple [.str q.n1, .str q.n0]]], .tuple [.str q.n6, .tuple [.tuple [.str q.n1, .str q.n0]]]]), some (.tuple [.tuple [.str q.n1, .str q.n0], .tuple [.str q.n2, .str q.n0], .tuple [.str q.n3, .str q.n0], .tuple [.str q.n4, .str q.n0], .tuple [.str q.n5, .str q.n0]]), none, none]) (go_swap (go_freeze (go_asgN (en_is (en_cat (ee_var rfl) (ee_of (en_lst (ea_cons (ee_chain (ee_int) (ee_var rfl) rd_lt (fun _ => ee_int) (fun _ => rd_lt)) (ea_cons (ee_op (ee_var rfl) (ee_int) rd_lt) (ea_cons (ee_chain (ee_int) (ee_var rfl) rd_lt (fun _ => ee_int) (fun _ => rd_lt)) (ea_cons (ee_op (ee_var rfl) (ee_int) rd_lt) ea_nil)))) (Nat.le_of_ble_eq_true rfl))) (Nat.le_of_ble_eq_true rfl)) rfl) (fun m hm => by rw [List.mem_singleton.mp hm]; show (1 : Nat) ≠ 2; decide) (by show 2 < 12; decide)))) rfl ?_
        exact wkS
      | 6, hk =>
        cases hk
        show GoE K _ [some (nD q), none, none, some (.int 6), none, none, none, none, none, none, none, none] [(2, [.bool false, .bool true, .bool false, .bool true, .bool true, .bool true, .bool true, .bool true, .bool true, .bool true, .bool true, .bool true, .bool true, .bool true, .bool true, .bool true, .bool true, .bool false, .bool true, .bool true, .bool false, .bool false, .bool false, .bool false]), (1, [.bool false, .bool true, .bool false, .bool true, .bool true, .bool true, .bool true, .bool true, .bool true, .bool true, .bool true, .bool true, .bool true, .bool true, .bool true, .bool true, .bool true, .bool false, .bool true, .bool true, .bool false, .bool false, .bool false, .bool false])] [some (nD q), none, none, none, none, none, none, none, none, none, none, none] [(2, [.bool false, .bool true, .bool false, .bool true, .bool true, .bool true, .bool true, .bool true, .bool true, .bool true, .bool true, .bool true, .bool true, .bool true, .bool true, .bool true, .bool true, .bool false, .bool true, .bool true, .bool false, .bool false, .bool false, .bool false, .bool false, .bool false, .bool false, .bool false]), (1, [.bool false, .bool true, .bool false, .bool true, .bool true, .bool true, .bool true, .bool true, .bool true, .bool true, .bool true, .bool true, .bool true, .bool true, .bool true, .bool true, .bool true, .bool false, .bool true, .bool true, .bool false, .bool false, .bool false, .bool false, .bool false, .bool false, .bool false, .bool false])]
        refine go_seq (env1 := [some (nD q), none, none, some (.int 6), none, none, none, some (.tuple [.str q.n1, .str q.n2, .str q.n3, .str q.n4, .str q.n5, .str q.n6]), some (.tuple [.tuple [.str q.n2, .tuple [.tuple [.str q.n1, .str q.n0]]], .tuple [.str q.n3, .tuple [.tuple [.str q.n1, .str q.n0]]], .tuple [.str q.n4, .tuple [.tuple [.str q.n1, .str q.n0]]], .tuple [.str q.n5, .tuple [.tuple [.str q.n1, .str q.n0]]], .tuple [.str q.n6, .tuple [.tuple [.str q.n1, .str q.n0]]], .tuple [.str q.n7, .tuple [.tuple [.str q.n1, .str q.n0]]]]), none, none, none]) (M1 := [(2, [.bool false, .bool true, .bool false, .bool true, .bool true, .bool true, .bool true, .bool true, .bool true, .bool true, .bool true, .bool true, .bool true, .bool true, .bool true, .bool true, .bool true, .bool false, .bool true, .bool true, .bool false, .bool false, .bool false, .bool false]), (1, [.bool false, .bool true, .bool false, .bool true, .bool true, .bool true, .bool true, .bool true, .bool true, .bool true, .bool true, .bool true, .bool true, .bool true, .bool true, .bool true, .bool true, .bool false, .bool true, .bool true, .bool false, .bool false, .bool false, .bool false])]) (go_par (ea_cons (ee_is (ee_tupleL (ee_of (en_slL (ee_var rfl) (eo_some (ee_int)) (eo_some (ee_op (ee_int) (ee_var rfl) rd_add))))) rfl) (ea_cons (ee_is (ee_tupleL (ee_of (en_map _ (ei_list (ee_of (en_slL (ee_var rfl) (eo_some (ee_int)) (eo_some (ee_op (ee_int) (ee_var rfl) rd_add))))) (Nat.le_of_ble_eq_true rfl) (fun _ _ => ee_tup (ea_cons (ee_var rfl) (ea_cons (ee_tup (ea_cons (ee_tup (ea_cons (ee_op (ee_var rfl) (ee_int) (rd_ix rfl)) (ea_cons (ee_op (ee_var rfl) (ee_int) (rd_ix rfl)) ea_nil)) (Nat.le_of_ble_eq_true rfl)) ea_nil) (Nat.le_of_ble_eq_true rfl)) ea_nil)) (Nat.le_of_ble_eq_true rfl))))) rfl) (ea_nil))) (two_ne (by decide) (by decide)) (two_ne (by decide) (by decide))) ?_
        refine go_seq (env1 := [some (nD q), none, none, some (.int 6), none, none, none, some (.tuple [.str q.n1, .str q.n2, .str q.n3, .str q.n4, .str q.n5, .str q.n6]), some (.tuple [.tuple [.str q.n2, .tuple [.tuple [.str q.n1, .str q.n0]]], .tuple [.str q.n3, .tuple [.tuple [.str q.n1, .str q.n0]]], .tuple [.str q.n4, .tuple [.tuple [.str q.n1, .str q.n0]]], .tuple [.str q.n5, .tuple [.tuple [.str q.n1, .str q.n0]]], .tuple [.str q.n6, .tuple [.tuple [.str q.n1, .str q.n0]]], .tuple [.str q.n7, .tuple [.tuple [.str q.n1, .str q.n0]]]]), some (.tuple [.tuple [.str q.n1, .str q.n0], .tuple [.str q.n2, .str q.n0], .tuple [.str q.n3, .str q.n0], .tuple [.str q.n4, .str q.n0], .tuple [.str q.n5, .str q.n0], .tuple [.str q.n6, .str q.n0]]), none, none]) (M1 := [(2, [.bool false, .bool true, .bool false, .bool true, .bool true, .bool true, .bool true, .bool true, .bool true, .bool true, .bool true, .bool true, .bool true, .bool true, .bool true, .bool true, .bool true, .bool false, .bool true, .bool true, .bool false, .bool false, .bool false, .bool false]), (1, [.bool false, .bool true, .bool false, .bool true, .bool true, .bool true, .bool true, .bool true, .bool true, .bool true, .bool true, .bool true, .bool true, .bool true, .bool true, .bool true, .bool true, .bool false, .bool true, .bool true, .bool false, .bool false, .bool false, .bool false])]) (go_asg (ee_is (ee_tupleL (ee_of (en_map _ (ei_list (ee_of (en_slL (ee_var rfl) (eo_some (ee_int)) (eo_some (ee_op (ee_int) (ee_var rfl) rd_add))))) (Nat.le_of_ble_eq_true rfl) (fun _ _ => ee_tup (ea_cons (ee_var rfl) (ea_cons (ee_op (ee_var rfl) (ee_int) (rd_ix rfl)) ea_nil)) (Nat.le_of_ble_eq_true rfl))))) rfl) (two_ne (by decide) (by decide))) ?_
        refine go_seq (env1 := [some (nD q), none, none, some (.int 6), some (.tuple [.tuple [.str q.n1, .tuple [.str "a"], .tuple [], .tuple [.str "packed"], .int 9000], .tuple [.str q.n2, .tuple [.str "a"], .tuple [], .tuple [.str "packed"], .int 9000], .tuple [.str q.n3, .tuple [.str "a"], .tuple [], .tuple [.str "packed"], .int 9000], .tuple [.str q.n4, .tuple [.str "a"], .tuple [], .tuple [.str "packed"], .int 9000], .tuple [.str q.n5, .tuple [.str "a"], .tuple [], .tuple [.str "packed"], .int 9000], .tuple [.str q.n6, .tuple [.str "a"], .tuple [], .tuple [.str "packed"], .int 9000]]), none, none, some (.tuple [.str q.n1, .str q.n2, .str q.n3, .str q.n4, .str q.n5, .str q.n6]), some (.tuple [.tuple [.str q.n2, .tuple [.tuple [.str q.n1, .str q.n0]]], .tuple [.str q.n3, .tuple [.tuple [.str q.n1, .str q.n0]]], .tuple [.str q.n4, .tuple [.tuple [.str q.n1, .str q.n0]]], .tuple [.str q.n5, .tuple [.tuple [.str q.n1, .str q.n0]]], .tuple [.str q.n6, .tuple [.tuple [.str q.n1, .str q.n0]]], .tuple [.str q.n7, .tuple [.tuple [.str q.n1, .str q.n0]]]]), some (.tuple [.tuple [.str q.n1, .str q.n0], .tuple [.str q.n2, .str q.n0], .tuple [.str q.n3, .str q.n0], .tuple [.str q.n4, .str q.n0], .tuple [.str q.n5, .str q.n0], .tuple [.str q.n6, .str q.n0]]), none, none]) (M1 := [(2, [.bool false, .bool true, .bool false, .bool true, .bool true, .bool true, .bool true, .bool true, .bool true, .bool true, .bool true, .bool true, .bool true, .bool true, .bool true, .bool true, .bool true, .bool false, .bool true, .bool true, .bool false, .bool false, .bool false, .bool false]), (1, [.bool false, .bool true, .bool false, .bool true, .bool true, .bool true, .bool true, .bool true, .bool true, .bool true, .bool true, .bool true, .bool true, .bool true, .bool true, .bool true, .bool true, .bool false, .bool true, .bool true, .bool false, .bool false, .bool false, .bool false])]) (go_asg (ee_is (ee_tupleL (ee_of (en_map _ (ei_list (ee_of (en_slL (ee_var rfl) (eo_some (ee_int)) (eo_some (ee_op (ee_int) (ee_var rfl) rd_add))))) (Nat.le_of_ble_eq_true rfl) (fun _ _ => ee_call (ea_cons (ee_var rfl) ea_nil) rfl)))) rfl) (two_ne (by decide) (by decide))) ?_
        refine go_seq (env1 := [some (nD q), none, none, some (.int 6), some (.tuple [.tuple [.str q.n1, .tuple [.str "a"], .tuple [], .tuple [.str "packed"], .int 9000], .tuple [.str q.n2, .tuple [.str "a"], .tuple [], .tuple [.str "packed"], .int 9000], .tuple [.str q.n3, .tuple [.str "a"], .tuple [], .tuple [.str "packed"], .int 9000], .tuple [.str q.n4, .tuple [.str "a"], .tuple [], .tuple [.str "packed"], .int 9000], .tuple [.str q.n5, .tuple [.str "a"], .tuple [], .tuple [.str "packed"], .int 9000], .tuple [.str q.n6, .tuple [.str "a"], .tuple [], .tuple [.str "packed"], .int 9000]]), none, none, some (.tuple [.str q.n1, .str q.n2, .str q.n3, .str q.n4, .str q.n5, .str q.n6]), some (.tuple [.tuple [.str q.n2, .tuple [.tuple [.str q.n1, .str q.n0]]], .tuple [.str q.n3, .tuple [.tuple [.str q.n1, .str q.n0]]], .tuple [.str q.n4, .tuple [.tuple [.str q.n1, .str q.n0]]], .tuple [.str q.n5, .tuple [.tuple [.str q.n1, .str q.n0]]], .tuple [.str q.n6, .tuple [.tuple [.str q.n1, .str q.n0]]], .tuple [.str q.n7, .tuple [.tuple [.str q.n1, .str q.n0]]]]), some (.tuple [.tuple [.str q.n1, .str q.n0], .tuple [.str q.n2, .str q.n0], .tuple [.str q.n3, .str q.n0], .tuple [.str q.n4, .str q.n0], .tuple [.str q.n5, .str q.n0], .tuple [.str q.n6, .str q.n0]]), none, none]) (M1 := [(1, [.bool false, .bool true, .bool false, .bool true, .bool true, .bool true, .bool true, .bool true, .bool true, .bool true, .bool true, .bool true, .bool true, .bool true, .bool true, .bool true, .bool true, .bool false, .bool true, .bool true, .bool false, .bool false, .bool false, .bool false, .bool false, .bool false]), (2, [.bool false, .bool true, .bool false, .bool true, .bool true, .bool true, .bool true, .bool true, .bool true, .bool true, .bool true, .bool true, .bool true, .bool true, .bool true, .bool true, .bool true, .bool false, .bool true, .bool true, .bool false, .bool false, .bool false, .bool false])]) (go_swap (go_freeze (go_asgN (en_is (en_cat (ee_var rfl) (ee_of (en_lst (ea_cons (ee_call (ea_cons (ee_var rfl) (ea_cons (ee_dict (em_disp (ds := [("folk", _)]) ⟨ee_str, ee_var rfl, trivial⟩ (show List.Nodup (["folk"] : List Str) by decide +kernel) (Nat.le_of_ble_eq_true rfl))) ea_nil)) (s1_6 N)) (ea_cons (ee_call (ea_cons (ee_var rfl) (ea_cons (ee_dict (em_disp (ds := [("lists", _)]) ⟨ee_str, ee_var rfl, trivial⟩ (show List.Nodup (["lists"] : List Str) by decide +kernel) (Nat.le_of_ble_eq_true rfl))) ea_nil)) (s2_6 N)) ea_nil)) (Nat.le_of_ble_eq_true rfl))) (Nat.le_of_ble_eq_true rfl)) rfl) (fun m hm => by rw [List.mem_singleton.mp hm]; show (2 : Nat) ≠ 1; decide) (by show 1 < 12; decide)))) ?_
        refine go_seq (env1 := [some (nD q), none, none, some (.int 6), some (.tuple [.tuple [.str q.n1, .tuple [.str "a"], .tuple [], .tuple [.str "packed"], .int 9000], .tuple [.str q.n2, .tuple [.str "a"], .tuple [], .tuple [.str "packed"], .int 9000], .tuple [.str q.n3, .tuple [.str "a"], .tuple [], .tuple [.str "packed"], .int 9000], .tuple [.str q.n4, .tuple [.str "a"], .tuple [], .tuple [.str "packed"], .int 9000], .tuple [.str q.n5, .tuple [.str "a"], .tuple [], .tuple [.str "packed"], .int 9000], .tuple [.str q.n6, .tuple [.str "a"], .tuple [], .tuple [.str "packed"], .int 9000]]), none, none, some (.tuple [.str q.n1, .str q.n2, .str q.n3, .str q.n4, .str q.n5, .str q.n6]), some (.tuple [.tuple [.str q.n2, .tuple [.tuple [.str q.n1, .str q.n0]]], .tuple [.str q.n3, .tuple [.tuple [.str q.n1, .str q.n0]]], .tuple [.str q.n4, .tuple [.tuple [.str q.n1, .str q.n0]]], .tuple [.str q.n5, .tuple [.tuple [.str q.n1, .str q.n0]]], .tuple [.str q.n6, .tuple [.tuple [.str q.n1, .str q.n0]]], .tuple [.str q.n7, .tuple [.tuple [.str q.n1, .str q.n0]]]]), some (.tuple [.tuple [.str q.n1, .str q.n0], .tuple [.str q.n2, .str q.n0], .tuple [.str q.n3, .str q.n0], .tuple [.str q.n4, .str q.n0], .tuple [.str q.n5, .str q.n0], .tuple [.str q.n6, .str q.n0]]), none, none]) (M1 := [(1, [.bool false, .bool true, .bool false, .bool true, .bool true, .bool true, .bool true, .bool true, .bool true, .bool true, .bool true, .bool true, .bool true, .bool true, .bool true, .bool true, .bool true, .bool false, .bool true, .bool true, .bool false, .bool false, .bool false, .bool false, .bool false, .bool false, .bool false, .bool false]), (2, [.bool false, .bool true, .bool false, .bool true, .bool true, .bool true, .bool true, .bool true, .bool true, .bool true, .bool true, .bool true, .bool true, .bool true, .bool true, .bool true, .bool true, .bool false, .bool true, .bool true, .bool false, .bool false, .bool false, .bool false])]) (go_freeze (go_asgN (en_is (en_cat (ee_var rfl) (ee_of (en_lst (ea_cons (ee_call (ea_cons (ee_var rfl) (ea_cons (ee_dict (em_disp (ds := [("lists", _)]) ⟨ee_str, ee_tup (ea_cons (ee_tup (ea_cons (ee_op (ee_var rfl) (ee_int) (rd_ix rfl)) (ea_cons (ee_var rfl) ea_nil)) (Nat.le_of_ble_eq_true rfl)) ea_nil) (Nat.le_of_ble_eq_true rfl), trivial⟩ (show List.Nodup (["lists"] : List Str) by decide +kernel) (Nat.le_of_ble_eq_true rfl))) ea_nil)) (s3_6 N)) (ea_cons (ee_call (ea_cons (ee_var rfl) (ea_cons (ee_dict (em_disp (ds := [("more", _)]) ⟨ee_str, ee_var rfl, trivial⟩ (show List.Nodup (["more"] : List Str) by decide +kernel) (Nat.le_of_ble_eq_true rfl))) ea_nil)) (s4_6 N)) ea_nil)) (Nat.le_of_ble_eq_true rfl))) (Nat.le_of_ble_eq_true rfl)) rfl) (fun m hm => by rw [List.mem_singleton.mp hm]; show (2 : Nat) ≠ 1; decide) (by show 1 < 12; decide))) ?_
        refine go_weak (env1 := [some (nD q), none, none, some (.int 6), some (.tuple [.tuple [.str q.n1, .tuple [.str "a"], .tuple [], .tuple [.str "packed"], .int 9000], .tuple [.str q.n2, .tuple [.str "a"], .tuple [], .tuple [.str "packed"], .int 9000], .tuple [.str q.n3, .tuple [.str "a"], .tuple [], .tuple [.str "packed"], .int 9000], .tuple [.str q.n4, .tuple [.str "a"], .tuple [], .tuple [.str "packed"], .int 9000], .tuple [.str q.n5, .tuple [.str "a"], .tuple [], .tuple [.str "packed"], .int 9000], .tuple [.str q.n6, .tuple [.str "a"], .tuple [], .tuple [.str "packed"], .int 9000]]), none, none, some (.tuple [.str q.n1, .str q.n2, .str q.n3, .str q.n4, .str q.n5, .str q.n6]), some (.tuple [.tuple [.str q.n2, .tuple [.tuple [.str q.n1, .str q.n0]]], .tuple [.str q.n3, .tuple [.tuple [.str q.n1, .str q.n0]]], .tuple [.str q.n4, .tuple [.tuple [.str q.n1, .str q.n0]]], .tuple [.str q.n5, .tuple [.tuple [.str q.n1, .str q.n0]]], .tuple [.str q.n6, .tuple [.tuple [.str q.n1, .str q.n0]]], .tuple [.str q.n7, .tuple [.tuple [.str q.n1, .str q.n0]]]]), some (.tuple [.tuple [.str q.n1, .str q.n0], .tuple [.str q.n2, .str q.n0], .tuple [.str q.n3, .str q.n0], .tuple [.str q.n4, .str q.n0], .tuple [.str q.n5, .str q.n0], .tuple [.str q.n6, .str q.n0]]), none, none]) (go_swap (go_freeze (go_asgN (en_is (en_cat (ee_var rfl) (ee_of (en_lst (ea_cons (ee_chain (ee_int) (ee_var rfl) rd_lt (fun _ => ee_int) (fun _ => rd_lt)) (ea_cons (ee_op (ee_var rfl) (ee_int) rd_lt) (ea_cons (ee_chain (ee_int) (ee_var rfl) rd_lt (fun _ => ee_int) (fun _ => rd_lt)) (ea_cons (ee_op (ee_var rfl) (ee_int) rd_lt) ea_nil)))) (Nat.le_of_ble_eq_true rfl))) (Nat.le_of_ble_eq_true rfl)) rfl) (fun m hm => by rw [List.mem_singleton.mp hm]; show (1 : Nat) ≠ 2; decide) (by show 2 < 12; decide)))) rfl ?_
        exact wkS
      | 7, hk =>
        cases hk
        show GoE K _ [some (nD q), none, none, some (.int 7), none, none, none, none, none, none, none, none] [(2, [.bool false, .bool true, .bool false, .bool true, .bool true, .bool true, .bool true, .bool true, .bool true, .bool true, .bool true, .bool true, .bool true, .bool true, .bool true, .bool true, .bool true, .bool false, .bool true, .bool true, .bool false, .bool false, .bool false, .bool false, .bool false, .bool false, .bool false, .bool false]), (1, [.bool false, .bool true, .bool false, .bool true, .bool true, .bool true, .bool true, .bool true, .bool true, .bool true, .bool true, .bool true, .bool true, .bool true, .bool true, .bool true, .bool true, .bool false, .bool true, .bool true, .bool false, .bool false, .bool false, .bool false, .bool false, .bool false, .bool false, .bool false])] [some (nD q), none, none, none, none, none, none, none, none, none, none, none] [(2, [.bool false, .bool true, .bool false, .bool true, .bool true, .bool true, .bool true, .bool true, .bool true, .bool true, .bool true, .bool true, .bool true, .bool true, .bool true, .bool true, .bool true, .bool false, .bool true, .bool true, .bool false, .bool false, .bool false, .bool false, .bool false, .bool false, .bool false, .bool false, .bool false, .bool false, .bool false, .bool false]), (1, [.bool false, .bool true, .bool false, .bool true, .bool true, .bool true, .bool true, .bool true, .bool true, .bool true, .bool true, .bool true, .bool true, .bool true, .bool true, .bool true, .bool true, .bool false, .bool true, .bool true, .bool false, .bool false, .bool false, .bool false, .bool false, .bool false, .bool false, .bool false, .bool false, .bool false, .bool false, .bool false])]
        refine go_seq (env1 := [some (nD q), none, none, some (.int 7), none, none, none, some (.tuple [.str q.n1, .str q.n2, .str q.n3, .str q.n4, .str q.n5, .str q.n6, .str q.n7]), some (.tuple [.tuple [.str q.n2, .tuple [.tuple [.str q.n1, .str q.n0]]], .tuple [.str q.n3, .tuple [.tuple [.str q.n1, .str q.n0]]], .tuple [.str q.n4, .tuple [.tuple [.str q.n1, .str q.n0]]], .tuple [.str q.n5, .tuple [.tuple [.str q.n1, .str q.n0]]], .tuple [.str q.n6, .tuple [.tuple [.str q.n1, .str q.n0]]], .tuple [.str q.n7, .tuple [.tuple [.str q.n1, .str q.n0]]], .tuple [.str q.n8, .tuple [.tuple [.str q.n1, .str q.n0]]]]), none, none, none]) (M1 := [(2, [.bool false, .bool true, .bool false, .bool true, .bool true, .bool true, .bool true, .bool true, .bool true, .bool true, .bool true, .bool true, .bool true, .bool true, .bool true, .bool true, .bool true, .bool false, .bool true, .bool true, .bool false, .bool false, .bool false, .bool false, .bool false, .bool false, .bool false, .bool false]), (1, [.bool false, .bool true, .bool false, .bool true, .bool true, .bool true, .bool true, .bool true, .bool true, .bool true, .bool true, .bool true, .bool true, .bool true, .bool true, .bool true, .bool true, .bool false, .bool true, .bool true, .bool false, .bool false, .bool false, .bool false, .bool false, .bool false, .bool false, .bool false])]) (go_par (ea_cons (ee_is (ee_tupleL (ee_of (en_slL (ee_var rfl) (eo_some (ee_int)) (eo_some (ee_op (ee_int) (ee_var rfl) rd_add))))) rfl) (ea_cons (ee_is (ee_tupleL (ee_of (en_map _ (ei_list (ee_of (en_slL (ee_var rfl) (eo_some (ee_int)) (eo_some (ee_op (ee_int) (ee_var rfl) rd_add))))) (Nat.le_of_ble_eq_true rfl) (fun _ _ => ee_tup (ea_cons (ee_var rfl) (ea_cons (ee_tup (ea_cons (ee_tup (ea_cons (ee_op (ee_var rfl) (ee_int) (rd_ix rfl)) (ea_cons (ee_op (ee_var rfl) (ee_int) (rd_ix rfl)) ea_nil)) (Nat.le_of_ble_eq_true rfl)) ea_nil) (Nat.le_of_ble_eq_true rfl)) ea_nil)) (Nat.le_of_ble_eq_true rfl))))) rfl) (ea_nil))) (two_ne (by decide) (by decide)) (two_ne (by decide) (by decide))) ?_
        refine go_seq (env1 := [some (nD q), none, none, some (.int 7), none, none, none, some (.tuple [.str q.n1, .str q.n2, .str q.n3, .str q.n4, .str q.n5, .str q.n6, .str q.n7]), some (.tuple [.tuple [.str q.n2, .tuple [.tuple [.str q.n1, .str q.n0]]], .tuple [.str q.n3, .tuple [.tuple [.str q.n1, .str q.n0]]], .tuple [.str q.n4, .tuple [.tuple [.str q.n1, .str q.n0]]], .tuple [.str q.n5, .tuple [.tuple [.str q.n1, .str q.n0]]], .tuple [.str q.n6, .tuple [.tuple [.str q.n1, .str q.n0]]], .tuple [.str q.n7, .tuple [.tuple [.str q.n1, .str q.n0]]], .tuple [.str q.n8, .tuple [.tuple [.str q.n1, .str q.n0]]]]), some (.tuple [.tuple [.str q.n1, .str q.n0], .tuple [.str q.n2, .str q.n0], .tuple [.str q.n3, .str q.n0], .tuple [.str q.n4, .str q.n0], .tuple [.str q.n5, .str q.n0], .tuple [.str q.n6, .str q.n0], .tuple [.str q.n7, .str q.n0]]), none, none]) (M1 := [(2, [.bool false, .bool true, .bool false, .bool true, .bool true, .bool true, .bool true, .bool true, .bool true, .bool true, .bool true, .bool true, .bool true, .bool true, .bool true, .bool true, .bool true, .bool false, .bool true, .bool true, .bool false, .bool false, .bool false, .bool false, .bool false, .bool false, .bool false, .bool false]), (1, [.bool false, .bool true, .bool false, .bool true, .bool true, .bool true, .bool true, .bool true, .bool true, .bool true, .bool true, .bool true, .bool true, .bool true, .bool true, .bool true, .bool true, .bool false, .bool true, .bool true, .bool false, .bool false, .bool false, .bool false, .bool false, .bool false, .bool false, .bool false])]) (go_asg (ee_is (ee_tupleL (ee_of (en_map _ (ei_list (ee_of (en_slL (ee_var rfl) (eo_some (ee_int)) (eo_some (ee_op (ee_int) (ee_var rfl) rd_add))))) (Nat.le_of_ble_eq_true rfl) (fun _ _ => ee_tup (ea_cons (ee_var rfl) (ea_cons (ee_op (ee_var rfl) (ee_int) (rd_ix rfl)) ea_nil)) (Nat.le_of_ble_eq_true rfl))))) rfl) (two_ne (by decide) (by decide))) ?_
        refine go_seq (env1 := [some (nD q), none, none, some (.int 7), some (.tuple [.tuple [.str q.n1, .tuple [.str "a"], .tuple [], .tuple [.str "packed"], .int 9000], .tuple [.str q.n2, .tuple [.str "a"], .tuple [], .tuple [.str "packed"], .int 9000], .tuple [.str q.n3, .tuple [.str "a"], .tuple [], .tuple [.str "packed"], .int 9000], .tuple [.str q.n4, .tuple [.str "a"], .tuple [], .tuple [.str "packed"], .int 9000], .tuple [.str q.n5, .tuple [.str "a"], .tuple [], .tuple [.str "packed"], .int 9000], .tuple [.str q.n6, .tuple [.str "a"], .tuple [], .tuple [.str "packed"], .int 9000], .tuple [.str q.n7, .tuple [.str "a"], .tuple [], .tuple [.str "packed"], .int 9000]]), none, none, some (.tuple [.str q.n1, .str q.n2, .str q.n3, .str q.n4, .str q.n5, .str q.n6, .str q.n7]), some (.tuple [.tuple [.str q.n2, .tuple [.tuple [.str q.n1, .str q.n0]]], .tuple [.str q.n3, .tuple [.tuple [.str q.n1, .str q.n0]]], .tuple [.str q.n4, .tuple [.tuple [.str q.n1, .str q.n0]]], .tuple [.str q.n5, .tuple [.tuple [.str q.n1, .str q.n0]]], .tuple [.str q.n6, .tuple [.tuple [.str q.n1, .str q.n0]]], .tuple [.str q.n7, .tuple [.tuple [.str q.n1, .str q.n0]]], .tuple [.str q.n8, .tuple [.tuple [.str q.n1, .str q.n0]]]]), some (.tuple [.tuple [.str q.n1, .str q.n0], .tuple [.str q.n2, .str q.n0], .tuple [.str q.n3, .str q.n0], .tuple [.str q.n4, .str q.n0], .tuple [.str q.n5, .str q.n0], .tuple [.str q.n6, .str q.n0], .tuple [.str q.n7, .str q.n0]]), none, none]) (M1 := [(2, [.bool false, .bool true, .bool false, .bool true, .bool true, .bool true, .bool true, .bool true, .bool true, .bool true, .bool true, .bool true, .bool true, .bool true, .bool true, .bool true, .bool true, .bool false, .bool true, .bool true, .bool false, .bool false, .bool false, .bool false, .bool false, .bool false, .bool false, .bool false]), (1, [.bool false, .bool true, .bool false, .bool true, .bool true, .bool true, .bool true, .bool true, .bool true, .bool true, .bool true, .bool true, .bool true, .bool true, .bool true, .bool true, .bool true, .bool false, .bool true, .bool true, .bool false, .bool false, .bool false, .bool false, .bool false, .bool false, .bool false, .bool false])]) (go_asg (ee_is (ee_tupleL (ee_of (en_map _ (ei_list (ee_of (en_slL (ee_var rfl) (eo_some (ee_int)) (eo_some (ee_op (ee_int) (ee_var rfl) rd_add))))) (Nat.le_of_ble_eq_true rfl) (fun _ _ => ee_call (ea_cons (ee_var rfl) ea_nil) rfl)))) rfl) (two_ne (by decide) (by decide))) ?_
        refine go_seq (env1 := [some (nD q), none, none, some (.int 7), some (.tuple [.tuple [.str q.n1, .tuple [.str "a"], .tuple [], .tuple [.str "packed"], .int 9000], .tuple [.str q.n2, .tuple [.str "a"], .tuple [], .tuple [.str "packed"], .int 9000], .tuple [.str q.n3, .tuple [.str "a"], .tuple [], .tuple [.str "packed"], .int 9000], .tuple [.str q.n4, .tuple [.str "a"], .tuple [], .tuple [.str "packed"], .int 9000], .tuple [.str q.n5, .tuple [.str "a"], .tuple [], .tuple [.str "packed"], .int 9000], .tuple [.str q.n6, .tuple [.str "a"], .tuple [], .tuple [.str "packed"], .int 9000], .tuple [.str q.n7, .tuple [.str "a"], .tuple [], .tuple [.str "packed"], .int 9000]]), none, none, some (.tuple [.str q.n1, .str q.n2, .str q.n3, .str q.n4, .str q.n5, .str q.n6, .str q.n7]), some (.tuple [.tuple [.str q.n2, .tuple [.tuple [.str q.n1, .str q.n0]]], .tuple [.str q.n3, .tuple [.tuple [.str q.n1, .str q.n0]]], .tuple [.str q.n4, .tuple [.tuple [.str q.n1, .str q.n0]]], .tuple [.str q.n5, .tuple [.tuple [.str q.n1, .str q.n0]]], .tuple [.str q.n6, .tuple [.tuple [.str q.n1, .str q.n0]]], .tuple [.str q.n7, .tuple [.tuple [.str q.n1, .str q.n0]]], .tuple [.str q.n8, .tuple [.tuple [.str q.n1, .str q.n0]]]]), some (.tuple [.tuple [.str q.n1, .str q.n0], .tuple [.str q.n2, .str q.n0], .tuple [.str q.n3, .str q.n0], .tuple [.str q.n4, .str q.n0], .tuple [.str q.n5, .str q.n0], .tuple [.str q.n6, .str q.n0], .tuple [.str q.n7, .str q.n0]]), none, none]) (M1 := [(1, [.bool false, .bool true, .bool false, .bool true, .bool true, .bool true, .bool true, .bool true, .bool true, .bool true, .bool true, .bool true, .bool true, .bool true, .bool true, .bool true, .bool true, .bool false, .bool true, .bool true, .bool false, .bool false, .bool false, .bool false, .bool false, .bool false, .bool false, .bool false, .bool false, .bool false]), (2, [.bool false, .bool true, .bool false, .bool true, .bool true, .bool true, .bool true, .bool true, .bool true, .bool true, .bool true, .bool true, .bool true, .bool true, .bool true, .bool true, .bool true, .bool false, .bool true, .bool true, .bool false, .bool false, .bool false, .bool false, .bool false, .bool false, .bool false, .bool false])]) (go_swap (go_freeze (go_asgN (en_is (en_cat (ee_var rfl) (ee_of (en_lst (ea_cons (ee_call (ea_cons (ee_var rfl) (ea_cons (ee_dict (em_disp (ds := [("folk", _)]) ⟨ee_str, ee_var rfl, trivial⟩ (show List.Nodup (["folk"] : List Str) by decide +kernel) (Nat.le_of_ble_eq_true rfl))) ea_nil)) (s1_7 N)) (ea_cons (ee_call (ea_cons (ee_var rfl) (ea_cons (ee_dict (em_disp (ds := [("lists", _)]) ⟨ee_str, ee_var rfl, trivial⟩ (show List.Nodup (["lists"] : List Str) by decide +kernel) (Nat.le_of_ble_eq_true rfl))) ea_nil)) (s2_7 N)) ea_nil)) (Nat.le_of_ble_eq_true rfl))) (Nat.le_of_ble_eq_true rfl)) rfl) (fun m hm => by rw [List.mem_singleton.mp hm]; show (2 : Nat) ≠ 1; decide) (by show 1 < 12; decide)))) ?_
        refine go_seq (env1 := [some (nD q), none, none, some (.int 7), some (.tuple [.tuple [.str q.n1, .tuple [.str "a"], .tuple [], .tuple [.str "packed"], .int 9000], .tuple [.str q.n2, .tuple [.str "a"], .tuple [], .tuple [.str "packed"], .int 9000], .tuple [.str q.n3, .tuple [.str "a"], .tuple [], .tuple [.str "packed"], .int 9000], .tuple [.str q.n4, .tuple [.str "a"], .tuple [], .tuple [.str "packed"], .int 9000], .tuple [.str q.n5, .tuple [.str "a"], .tuple [], .tuple [.str "packed"], .int 9000], .tuple [.str q.n6, .tuple [.str "a"], .tuple [], .tuple [.str "packed"], .int 9000], .tuple [.str q.n7, .tuple [.str "a"], .tuple [], .tuple [.str "packed"], .int 9000]]), none, none, some (.tuple [.str q.n1, .str q.n2, .str q.n3, .str q.n4, .str q.n5, .str q.n6, .str q.n7]), some (.tuple [.tuple [.str q.n2, .tuple [.tuple [.str q.n1, .str q.n0]]], .tuple [.str q.n3, .tuple [.tuple [.str q.n1, .str q.n0]]], .tuple [.str q.n4, .tuple [.tuple [.str q.n1, .str q.n0]]], .tuple [.str q.n5, .tuple [.tuple [.str q.n1, .str q.n0]]], .tuple [.str q.n6, .tuple [.tuple [.str q.n1, .str q.n0]]], .tuple [.str q.n7, .tuple [.tuple [.str q.n1, .str q.n0]]], .tuple [.str q.n8, .tuple [.tuple [.str q.n1, .str q.n0]]]]), some (.tuple [.tuple [.str q.n1, .str q.n0], .tuple [.str q.n2, .str q.n0], .tuple [.str q.n3, .str q.n0], .tuple [.str q.n4, .str q.n0], .tuple [.str q.n5, .str q.n0], .tuple [.str q.n6, .str q.n0], .tuple [.str q.n7, .str q.n0]]), none, none]) (M1 := [(1, [.bool false, .bool true, .bool false, .bool true, .bool true, .bool true, .bool true, .bool true, .bool true, .bool true, .bool true, .bool true, .bool true, .bool true, .bool true, .bool true, .bool true, .bool false, .bool true, .bool true, .bool false, .bool false, .bool false, .bool false, .bool false, .bool false, .bool false, .bool false, .bool false, .bool false, .bool false, .bool false]), (2, [.bool false, .bool true, .bool false, .bool true, .bool true, .bool true, .bool true, .bool true, .bool true, .bool true, .bool true, .bool true, .bool true, .bool true, .bool true, .bool true, .bool true, .bool false, .bool true, .bool true, .bool false, .bool false, .bool false, .bool false, .bool false, .bool false, .bool false, .bool false])]) (go_freeze (go_asgN (en_is (en_cat (ee_var rfl) (ee_of (en_lst (ea_cons (ee_call (ea_cons (ee_var rfl) (ea_cons (ee_dict (em_disp (ds := [("lists", _)]) ⟨ee_str, ee_tup (ea_cons (ee_tup (ea_cons (ee_op (ee_var rfl) (ee_int) (rd_ix rfl)) (ea_cons (ee_var rfl) ea_nil)) (Nat.le_of_ble_eq_true rfl)) ea_nil) (Nat.le_of_ble_eq_true rfl), trivial⟩ (show List.Nodup (["lists"] : List Str) by decide +kernel) (Nat.le_of_ble_eq_true rfl))) ea_nil)) (s3_7 N)) (ea_cons (ee_call (ea_cons (ee_var rfl) (ea_cons (ee_dict (em_disp (ds := [("more", _)]) ⟨ee_str, ee_var rfl, trivial⟩ (show List.Nodup (["more"] : List Str) by decide +kernel) (Nat.le_of_ble_eq_true rfl))) ea_nil)) (s4_7 N)) ea_nil)) (Nat.le_of_ble_eq_true rfl))) (Nat.le_of_ble_eq_true rfl)) rfl) (fun m hm => by rw [List.mem_singleton.mp hm]; show (2 : Nat) ≠ 1; decide) (by show 1 < 12; decide))) ?_
        refine go_weak (env1 := [some (nD q), none, none, some (.int 7), some (.tuple [.tuple [.str q.n1, .tuple [.str "a"], .tuple [], .tuple [.str "packed"], .int 9000], .tuple [.str q.n2, .tuple [.str "a"], .tuple [], .tuple [.str "packed"], .int 9000], .tuple [.str q.n3, .tuple [.str "a"], .tuple [], .tuple [.str "packed"], .int 9000], .tuple [.str q.n4, .tuple [.str "a"], .tuple [], .tuple [.str "packed"], .int 9000], .tuple [.str q.n5, .tuple [.str "a"], .tuple [], .tuple [.str "packed"], .int 9000], .tuple [.str q.n6, .tuple [.str "a"], .tuple [], .tuple [.str "packed"], .int 9000], .tuple [.str q.n7, .tuple [.str "a"], .tuple [], .tuple [.str "packed"], .int 9000]]), none, none, some (.tuple [.str q.n1, .str q.n2, .str q.n3, .str q.n4, .str q.n5, .str q.n6, .str q.n7]), some (.tuple [.tuple [.str q.n2, .tuple [.tuple [.str q.n1, .str q.n0]]], .tuple [.str q.n3, .tuple [.tuple [.str q.n1, .str q.n0]]], .tuple [.str q.n4, .tuple [.tuple [.str q.n1, .str q.n0]]], .tuple [.str q.n5, .tuple [.tuple [.str q.n1, .str q.n0]]], .tuple [.str q.n6, .tuple [.tuple [.str q.n1, .str q.n0]]], .tuple [.str q.n7, .tuple [.tuple [.str q.n1, .str q.n0]]], .tuple [.str q.n8, .tuple [.tuple [.str q.n1, .str q.n0]]]]), some (.tuple [.tuple [.str q.n1, .str q.n0], .tuple [.str q.n2, .str q.n0], .tuple [.str q.n3, .str q.n0], .tuple [.str q.n4, .str q.n0], .tuple [.str q.n5, .str q.n0], .tuple [.str q.n6, .str q.n0], .tuple [.str q.n7, .str q.n0]]), none, none]) (go_swap (go_freeze (go_asgN (en_is (en_cat (ee_var rfl) (ee_of (en_lst (ea_cons (ee_chain (ee_int) (ee_var rfl) rd_lt (fun _ => ee_int) (fun _ => rd_lt)) (ea_cons (ee_op (ee_var rfl) (ee_int) rd_lt) (ea_cons (ee_chain (ee_int) (ee_var rfl) rd_lt (fun _ => ee_int) (fun _ => rd_lt)) (ea_cons (ee_op (ee_var rfl) (ee_int) rd_lt) ea_nil)))) (Nat.le_of_ble_eq_true rfl))) (Nat.le_of_ble_eq_true rfl)) rfl) (fun m hm => by rw [List.mem_singleton.mp hm]; show (1 : Nat) ≠ 2; decide) (by show 2 < 12; decide)))) rfl ?_
        exact wkS
      | k + 8, hk => cases hk
    show RtE K _ [some (nD q), none, none, none, none, none, none, none, none, none, none, none] [(2, [.bool false, .bool true, .bool false, .bool true, .bool true, .bool true, .bool true, .bool true, .bool true, .bool true, .bool true, .bool true, .bool true, .bool true, .bool true, .bool true, .bool true, .bool false, .bool true, .bool true, .bool false, .bool false, .bool false, .bool false, .bool false, .bool false, .bool false, .bool false, .bool false, .bool false, .bool false, .bool false]), (1, [.bool false, .bool true, .bool false, .bool true, .bool true, .bool true, .bool true, .bool true, .bool true, .bool true, .bool true, .bool true, .bool true, .bool true, .bool true, .bool true, .bool true, .bool false, .bool true, .bool true, .bool false, .bool false, .bool false, .bool false, .bool false, .bool false, .bool false, .bool false, .bool false, .bool false, .bool false, .bool false])] (.bool true)
    refine rt_seq (go_par (ea_cons (ee_tupleL (ee_of (en_map _ (ei_list (ee_of (en_slL (ee_var rfl) (eo_some (ee_int)) (eo_some (ee_int))))) (Nat.le_of_ble_eq_true rfl) (fun _ _ => ee_call (ea_cons (ee_var rfl) ea_nil) rfl)))) (ea_cons (ee_of (en_lst (ea_nil) (Nat.le_of_ble_eq_true rfl))) ea_nil)) (two_ne (by decide) (by decide)) (two_ne (by decide) (by decide))) ?_
    show RtE K _ [some (nD q), none, none, none, some (houQ q), some (.list (pkQ q 0)), none, none, none, none, none, none] [(2, [.bool false, .bool true, .bool false, .bool true, .bool true, .bool true, .bool true, .bool true, .bool true, .bool true, .bool true, .bool true, .bool true, .bool true, .bool true, .bool true, .bool true, .bool false, .bool true, .bool true, .bool false, .bool false, .bool false, .bool false, .bool false, .bool false, .bool false, .bool false, .bool false, .bool false, .bool false, .bool false]), (1, [.bool false, .bool true, .bool false, .bool true, .bool true, .bool true, .bool true, .bool true, .bool true, .bool true, .bool true, .bool true, .bool true, .bool true, .bool true, .bool true, .bool true, .bool false, .bool true, .bool true, .bool false, .bool false, .bool false, .bool false, .bool false, .bool false, .bool false, .bool false, .bool false, .bool false, .bool false, .bool false])] (.bool true)
    refine rt_seq (go_for (ds := [.int 0, .int 1, .int 2, .int 3, .int 4]) (ei_range1 (n := 5) (ea_cons ee_int ea_nil) (by decide)) (fun k => [some (nD q), none, none, none, some (houQ q), some (.list (pkQ q k)), none, none, none, none, none, none]) (fun _ => [(2, [.bool false, .bool true, .bool false, .bool true, .bool true, .bool true, .bool true, .bool true, .bool true, .bool true, .bool true, .bool true, .bool true, .bool true, .bool true, .bool true, .bool true, .bool false, .bool true, .bool true, .bool false, .bool false, .bool false, .bool false, .bool false, .bool false, .bool false, .bool false, .bool false, .bool false, .bool false, .bool false]), (1, [.bool false, .bool true, .bool false, .bool true, .bool true, .bool true, .bool true, .bool true, .bool true, .bool true, .bool true, .bool true, .bool true, .bool true, .bool true, .bool true, .bool true, .bool false, .bool true, .bool true, .bool false, .bool false, .bool false, .bool false, .bool false, .bool false, .bool false, .bool false, .bool false, .bool false, .bool false, .bool false])]) rfl rfl ?_ (fun k => two_ne (by decide) (by decide))) ?_
    · intro k d hk
      match k, hk with
      | 0, hk =>
        cases hk
        show GoE K _ [some (nD q), none, none, none, some (houQ q), some (.list (pkQ q 0)), some (.int 0), none, none, none, none, none] [(2, [.bool false, .bool true, .bool false, .bool true, .bool true, .bool true, .bool true, .bool true, .bool true, .bool true, .bool true, .bool true, .bool true, .bool true, .bool true, .bool true, .bool true, .bool false, .bool true, .bool true, .bool false, .bool false, .bool false, .bool false, .bool false, .bool false, .bool false, .bool false, .bool false, .bool false, .bool false, .bool false]), (1, [.bool false, .bool true, .bool false, .bool true, .bool true, .bool true, .bool true, .bool true, .bool true, .bool true, .bool true, .bool true, .bool true, .bool true, .bool true, .bool true, .bool true, .bool false, .bool true, .bool true, .bool false, .bool false, .bool false, .bool false, .bool false, .bool false, .bool false, .bool false, .bool false, .bool false, .bool false, .bool false])] [some (nD q), none, none, none, some (houQ q), some (.list (pkQ q 1)), none, none, none, none, none, none] [(2, [.bool false, .bool true, .bool false, .bool true, .bool true, .bool true, .bool true, .bool true, .bool true, .bool true, .bool true, .bool true, .bool true, .bool true, .bool true, .bool true, .bool true, .bool false, .bool true, .bool true, .bool false, .bool false, .bool false, .bool false, .bool false, .bool false, .bool false, .bool false, .bool false, .bool false, .bool false, .bool false]), (1, [.bool false, .bool true, .bool false, .bool true, .bool true, .bool true, .bool true, .bool true, .bool true, .bool true, .bool true, .bool true, .bool true, .bool true, .bool true, .bool true, .bool true, .bool false, .bool true, .bool true, .bool false, .bool false, .bool false, .bool false, .bool false, .bool false, .bool false, .bool false, .bool false, .bool false, .bool false, .bool false])]
        refine go_weak (env1 := [some (nD q), none, none, none, some (houQ q), some (.list (pkQ q 1)), some (.int 0), none, none, none, none, none]) (go_asg (d := .list (pkQ q 1)) (ee_is (ee_of (en_cat (ee_var rfl) (ee_of (en_map _ (ei_list (ee_of (en_slL (ee_var rfl) (eo_some (ee_op (ee_var rfl) (ee_int) rd_add)) (eo_some (ee_int))))) (Nat.le_of_ble_eq_true rfl) (fun _ _ => ee_tup (ea_cons (ee_var rfl) (ea_cons (ee_op (ee_var rfl) (ee_var rfl) (rd_ix rfl)) (ea_cons (ee_int) ea_nil))) (Nat.le_of_ble_eq_true rfl)))) (Nat.le_of_ble_eq_true rfl))) rfl) (two_ne (by decide) (by decide))) rfl ?_
        exact wkP
      | 1, hk =>
        cases hk
        show GoE K _ [some (nD q), none, none, none, some (houQ q), some (.list (pkQ q 1)), some (.int 1), none, none, none, none, none] [(2, [.bool false, .bool true, .bool false, .bool true, .bool true, .bool true, .bool true, .bool true, .bool true, .bool true, .bool true, .bool true, .bool true, .bool true, .bool true, .bool true, .bool true, .bool false, .bool true, .bool true, .bool false, .bool false, .bool false, .bool false, .bool false, .bool false, .bool false, .bool false, .bool false, .bool false, .bool false, .bool false]), (1, [.bool false, .bool true, .bool false, .bool true, .bool true, .bool true, .bool true, .bool true, .bool true, .bool true, .bool true, .bool true, .bool true, .bool true, .bool true, .bool true, .bool true, .bool false, .bool true, .bool true, .bool false, .bool false, .bool false, .bool false, .bool false, .bool false, .bool false, .bool false, .bool false, .bool false, .bool false, .bool false])] [some (nD q), none, none, none, some (houQ q), some (.list (pkQ q 2)), none, none, none, none, none, none] [(2, [.bool false, .bool true, .bool false, .bool true, .bool true, .bool true, .bool true, .bool true, .bool true, .bool true, .bool true, .bool true, .bool true, .bool true, .bool true, .bool true, .bool true, .bool false, .bool true, .bool true, .bool false, .bool false, .bool false, .bool false, .bool false, .bool false, .bool false, .bool false, .bool false, .bool false, .bool false, .bool false]), (1, [.bool false, .bool true, .bool false, .bool true, .bool true, .bool true, .bool true, .bool true, .bool true, .bool true, .bool true, .bool true, .bool true, .bool true, .bool true, .bool true, .bool true, .bool false, .bool true, .bool true, .bool false, .bool false, .bool false, .bool false, .bool false, .bool false, .bool false, .bool false, .bool false, .bool false, .bool false, .bool false])]
        refine go_weak (env1 := [some (nD q), none, none, none, some (houQ q), some (.list (pkQ q 2)), some (.int 1), none, none, none, none, none]) (go_asg (d := .list (pkQ q 2)) (ee_is (ee_of (en_cat (ee_var rfl) (ee_of (en_map _ (ei_list (ee_of (en_slL (ee_var rfl) (eo_some (ee_op (ee_var rfl) (ee_int) rd_add)) (eo_some (ee_int))))) (Nat.le_of_ble_eq_true rfl) (fun _ _ => ee_tup (ea_cons (ee_var rfl) (ea_cons (ee_op (ee_var rfl) (ee_var rfl) (rd_ix rfl)) (ea_cons (ee_int) ea_nil))) (Nat.le_of_ble_eq_true rfl)))) (Nat.le_of_ble_eq_true rfl))) rfl) (two_ne (by decide) (by decide))) rfl ?_
        exact wkP
      | 2, hk =>
        cases hk
        show GoE K _ [some (nD q), none, none, none, some (houQ q), some (.list (pkQ q 2)), some (.int 2), none, none, none, none, none] [(2, [.bool false, .bool true, .bool false, .bool true, .bool true, .bool true, .bool true, .bool true, .bool true, .bool true, .bool true, .bool true, .bool true, .bool true, .bool true, .bool true, .bool true, .bool false, .bool true, .bool true, .bool false, .bool false, .bool false, .bool false, .bool false, .bool false, .bool false, .bool false, .bool false, .bool false, .bool false, .bool false]), (1, [.bool false, .bool true, .bool false, .bool true, .bool true, .bool true, .bool true, .bool true, .bool true, .bool true, .bool true, .bool true, .bool true, .bool true, .bool true, .bool true, .bool true, .bool false, .bool true, .bool true, .bool false, .bool false, .bool false, .bool false, .bool false, .bool false, .bool false, .bool false, .bool false, .bool false, .bool false, .bool false])] [some (nD q), none, none, none, some (houQ q), some (.list (pkQ q 3)), none, none, none, none, none, none] [(2, [.bool false, .bool true, .bool false, .bool true, .bool true, .bool true, .bool true, .bool true, .bool true, .bool true, .bool true, .bool true, .bool true, .bool true, .bool true, .bool true, .bool true, .bool false, .bool true, .bool true, .bool false, .bool false, .bool false, .bool false, .bool false, .bool false, .bool false, .bool false, .bool false, .bool false, .bool false, .bool false]), (1, [.bool false, .bool true, .bool false, .bool true, .bool true, .bool true, .bool true, .bool true, .bool true, .bool true, .bool true, .bool true, .bool true, .bool true, .bool true, .bool true, .bool true, .bool false, .bool true, .bool true, .bool false, .bool false, .bool false, .bool false, .bool false, .bool false, .bool false, .bool false, .bool false, .bool false, .bool false, .bool false])]
        refine go_weak (env1 := [some (nD q), none, none, none, some (houQ q), some (.list (pkQ q 3)), some (.int 2), none, none, none, none, none]) (go_asg (d := .list (pkQ q 3)) (ee_is (ee_of (en_cat (ee_var rfl) (ee_of (en_map _ (ei_list (ee_of (en_slL (ee_var rfl) (eo_some (ee_op (ee_var rfl) (ee_int) rd_add)) (eo_some (ee_int))))) (Nat.le_of_ble_eq_true rfl) (fun _ _ => ee_tup (ea_cons (ee_var rfl) (ea_cons (ee_op (ee_var rfl) (ee_var rfl) (rd_ix rfl)) (ea_cons (ee_int) ea_nil))) (Nat.le_of_ble_eq_true rfl)))) (Nat.le_of_ble_eq_true rfl))) rfl) (two_ne (by decide) (by decide))) rfl ?_
        exact wkP
      | 3, hk =>
        cases hk
        show GoE K _ [some (nD q), none, none, none, some (houQ q), some (.list (pkQ q 3)), some (.int 3), none, none, none, none, none] [(2, [.bool false, .bool true, .bool false, .bool true, .bool true, .bool true, .bool true, .bool true, .bool true, .bool true, .bool true, .bool true, .bool true, .bool true, .bool true, .bool true, .bool true, .bool false, .bool true, .bool true, .bool false, .bool false, .bool false, .bool false, .bool false, .bool false, .bool false, .bool false, .bool false, .bool false, .bool false, .bool false]), (1, [.bool false, .bool true, .bool false, .bool true, .bool true, .bool true, .bool true, .bool true, .bool true, .bool true, .bool true, .bool true, .bool true, .bool true, .bool true, .bool true, .bool true, .bool false, .bool true, .bool true, .bool false, .bool false, .bool false, .bool false, .bool false, .bool false, .bool false, .bool false, .bool false, .bool false, .bool false, .bool false])] [some (nD q), none, none, none, some (houQ q), some (.list (pkQ q 4)), none, none, none, none, none, none] [(2, [.bool false, .bool true, .bool false, .bool true, .bool true, .bool true, .bool true, .bool true, .bool true, .bool true, .bool true, .bool true, .bool true, .bool true, .bool true, .bool true, .bool true, .bool false, .bool true, .bool true, .bool false, .bool false, .bool false, .bool false, .bool false, .bool false, .bool false, .bool false, .bool false, .bool false, .bool false, .bool false]), (1, [.bool false, .bool true, .bool false, .bool true, .bool true, .bool true, .bool true, .bool true, .bool true, .bool true, .bool true, .bool true, .bool true, .bool true, .bool true, .bool true, .bool true, .bool false, .bool true, .bool true, .bool false, .bool false, .bool false, .bool false, .bool false, .bool false, .bool false, .bool false, .bool false, .bool false, .bool false, .bool false])]
        refine go_weak (env1 := [some (nD q), none, none, none, some (houQ q), some (.list (pkQ q 4)), some (.int 3), none, none, none, none, none]) (go_asg (d := .list (pkQ q 4)) (ee_is (ee_of (en_cat (ee_var rfl) (ee_of (en_map _ (ei_list (ee_of (en_slL (ee_var rfl) (eo_some (ee_op (ee_var rfl) (ee_int) rd_add)) (eo_some (ee_int))))) (Nat.le_of_ble_eq_true rfl) (fun _ _ => ee_tup (ea_cons (ee_var rfl) (ea_cons (ee_op (ee_var rfl) (ee_var rfl) (rd_ix rfl)) (ea_cons (ee_int) ea_nil))) (Nat.le_of_ble_eq_true rfl)))) (Nat.le_of_ble_eq_true rfl))) rfl) (two_ne (by decide) (by decide))) rfl ?_
        exact wkP
      | 4, hk =>
        cases hk
        show GoE K _ [some (nD q), none, none, none, some (houQ q), some (.list (pkQ q 4)), some (.int 4), none, none, none, none, none] [(2, [.bool false, .bool true, .bool false, .bool true, .bool true, .bool true, .bool true, .bool true, .bool true, .bool true, .bool true, .bool true, .bool true, .bool true, .bool true, .bool true, .bool true, .bool false, .bool true, .bool true, .bool false, .bool false, .bool false, .bool false, .bool false, .bool false, .bool false, .bool false, .bool false, .bool false, .bool false, .bool false]), (1, [.bool false, .bool true, .bool false, .bool true, .bool true, .bool true, .bool true, .bool true, .bool true, .bool true, .bool true, .bool true, .bool true, .bool true, .bool true, .bool true, .bool true, .bool false, .bool true, .bool true, .bool false, .bool false, .bool false, .bool false, .bool false, .bool false, .bool false, .bool false, .bool false, .bool false, .bool false, .bool false])] [some (nD q), none, none, none, some (houQ q), some (.list (pkQ q 5)), none, none, none, none, none, none] [(2, [.bool false, .bool true, .bool false, .bool true, .bool true, .bool true, .bool true, .bool true, .bool true, .bool true, .bool true, .bool true, .bool true, .bool true, .bool true, .bool true, .bool true, .bool false, .bool true, .bool true, .bool false, .bool false, .bool false, .bool false, .bool false, .bool false, .bool false, .bool false, .bool false, .bool false, .bool false, .bool false]), (1, [.bool false, .bool true, .bool false, .bool true, .bool true, .bool true, .bool true, .bool true, .bool true, .bool true, .bool true, .bool true, .bool true, .bool true, .bool true, .bool true, .bool true, .bool false, .bool true, .bool true, .bool false, .bool false, .bool false, .bool false, .bool false, .bool false, .bool false, .bool false, .bool false, .bool false, .bool false, .bool false])]
        refine go_weak (env1 := [some (nD q), none, none, none, some (houQ q), some (.list (pkQ q 5)), some (.int 4), none, none, none, none, none]) (go_asg (d := .list (pkQ q 5)) (ee_is (ee_of (en_cat (ee_var rfl) (ee_of (en_map _ (ei_list (ee_of (en_slL (ee_var rfl) (eo_some (ee_op (ee_var rfl) (ee_int) rd_add)) (eo_some (ee_int))))) (Nat.le_of_ble_eq_true rfl) (fun _ _ => ee_tup (ea_cons (ee_var rfl) (ea_cons (ee_op (ee_var rfl) (ee_var rfl) (rd_ix rfl)) (ea_cons (ee_int) ea_nil))) (Nat.le_of_ble_eq_true rfl)))) (Nat.le_of_ble_eq_true rfl))) rfl) (two_ne (by decide) (by decide))) rfl ?_
        exact wkP
      | k + 5, hk => cases hk
    show RtE K _ [some (nD q), none, none, none, some (houQ q), some (.list (pkQ q 5)), none, none, none, none, none, none] [(2, [.bool false, .bool true, .bool false, .bool true, .bool true, .bool true, .bool true, .bool true, .bool true, .bool true, .bool true, .bool true, .bool true, .bool true, .bool true, .bool true, .bool true, .bool false, .bool true, .bool true, .bool false, .bool false, .bool false, .bool false, .bool false, .bool false, .bool false, .bool false, .bool false, .bool false, .bool false, .bool false]), (1, [.bool false, .bool true, .bool false, .bool true, .bool true, .bool true, .bool true, .bool true, .bool true, .bool true, .bool true, .bool true, .bool true, .bool true, .bool true, .bool true, .bool true, .bool false, .bool true, .bool true, .bool false, .bool false, .bool false, .bool false, .bool false, .bool false, .bool false, .bool false, .bool false, .bool false, .bool false, .bool false])] (.bool true)
    refine rt_seq (go_for (ds := [.int 0, .int 1, .int 2, .int 3, .int 4, .int 5, .int 6, .int 7, .int 8, .int 9, .int 10]) (ei_range1 (n := 11) (ea_cons ee_int ea_nil) (by decide)) (fun k => [some (nD q), none, none, none, some (houQ q), some (.list (pkQ q 5)), none, none, none, none, none, none]) (fun k => [(2, allS.take (32 + k)), (1, allS.take (32 + k))]) rfl rfl ?_ (fun k => two_ne (by decide) (by decide))) ?_
    · intro k d hk
      match k, hk with
      | 0, hk =>
        cases hk
        show GoE K _ [some (nD q), none, none, some (.int 0), some (houQ q), some (.list (pkQ q 5)), none, none, none, none, none, none] [(2, [.bool false, .bool true, .bool false, .bool true, .bool true, .bool true, .bool true, .bool true, .bool true, .bool true, .bool true, .bool true, .bool true, .bool true, .bool true, .bool true, .bool true, .bool false, .bool true, .bool true, .bool false, .bool false, .bool false, .bool false, .bool false, .bool false, .bool false, .bool false, .bool false, .bool false, .bool false, .bool false]), (1, [.bool false, .bool true, .bool false, .bool true, .bool true, .bool true, .bool true, .bool true, .bool true, .bool true, .bool true, .bool true, .bool true, .bool true, .bool true, .bool true, .bool true, .bool false, .bool true, .bool true, .bool false, .bool false, .bool false, .bool false, .bool false, .bool false, .bool false, .bool false, .bool false, .bool false, .bool false, .bool false])] [some (nD q), none, none, none, some (houQ q), some (.list (pkQ q 5)), none, none, none, none, none, none] [(2, [.bool false, .bool true, .bool false, .bool true, .bool true, .bool true, .bool true, .bool true, .bool true, .bool true, .bool true, .bool true, .bool true, .bool true, .bool true, .bool true, .bool true, .bool false, .bool true, .bool true, .bool false, .bool false, .bool false, .bool false, .bool false, .bool false, .bool false, .bool false, .bool false, .bool false, .bool false, .bool false, .bool true]), (1, [.bool false, .bool true, .bool false, .bool true, .bool true, .bool true, .bool true, .bool true, .bool true, .bool true, .bool true, .bool true, .bool true, .bool true, .bool true, .bool true, .bool true, .bool false, .bool true, .bool true, .bool false, .bool false, .bool false, .bool false, .bool false, .bool false, .bool false, .bool false, .bool false, .bool false, .bool false, .bool false, .bool true])]
        refine go_weak (env1 := [some (nD q), none, none, some (.int 0), some (houQ q), some (.list (pkQ q 5)), none, none, none, none, none, none]) (go_swap (go_seq (go_app (ee_call (ea_cons (ee_var rfl) (ea_cons (ee_dict (em_disp (ds := [("more", _), ("links", _)]) ⟨ee_str, ee_var rfl, ee_str, ee_tupleL (ee_of (en_slL (ee_var rfl) eo_none (eo_some (ee_var rfl)))), trivial⟩ (show List.Nodup (["more", "links"] : List Str) by decide +kernel) (Nat.le_of_ble_eq_true rfl))) ea_nil)) (s5_0 N)) (Nat.lt_of_lt_of_le (Nat.lt_succ_self _) (Nat.le_of_ble_eq_true rfl))) (go_swap (go_app (ee_is (ee_op (ee_var rfl) (ee_int) rd_lt) rfl) (Nat.lt_of_lt_of_le (Nat.lt_succ_self _) (Nat.le_of_ble_eq_true rfl)))))) rfl ?_
        exact wkT
      | 1, hk =>
        cases hk
        show GoE K _ [some (nD q), none, none, some (.int 1), some (houQ q), some (.list (pkQ q 5)), none, none, none, none, none, none] [(2, [.bool false, .bool true, .bool false, .bool true, .bool true, .bool true, .bool true, .bool true, .bool true, .bool true, .bool true, .bool true, .bool true, .bool true, .bool true, .bool true, .bool true, .bool false, .bool true, .bool true, .bool false, .bool false, .bool false, .bool false, .bool false, .bool false, .bool false, .bool false, .bool false, .bool false, .bool false, .bool false, .bool true]), (1, [.bool false, .bool true, .bool false, .bool true, .bool true, .bool true, .bool true, .bool true, .bool true, .bool true, .bool true, .bool true, .bool true, .bool true, .bool true, .bool true, .bool true, .bool false, .bool true, .bool true, .bool false, .bool false, .bool false, .bool false, .bool false, .bool false, .bool false, .bool false, .bool false, .bool false, .bool false, .bool false, .bool true])] [some (nD q), none, none, none, some (houQ q), some (.list (pkQ q 5)), none, none, none, none, none, none] [(2, [.bool false, .bool true, .bool false, .bool true, .bool true, .bool true, .bool true, .bool true, .bool true, .bool true, .bool true, .bool true, .bool true, .bool true, .bool true, .bool true, .bool true, .bool false, .bool true, .bool true, .bool false, .bool false, .bool false, .bool false, .bool false, .bool false, .bool false, .bool false, .bool false, .bool false, .bool false, .bool false, .bool true, .bool true]), (1, [.bool false, .bool true, .bool false, .bool true, .bool true, .bool true, .bool true, .bool true, .bool true, .bool true, .bool true, .bool true, .bool true, .bool true, .bool true, .bool true, .bool true, .bool false, .bool true, .bool true, .bool false, .bool false, .bool false, .bool false, .bool false, .bool false, .bool false, .bool false, .bool false, .bool false, .bool false, .bool false, .bool true, .bool true])]
        refine go_weak (env1 := [some (nD q), none, none, some (.int 1), some (houQ q), some (.list (pkQ q 5)), none, none, none, none, none, none]) (go_swap (go_seq (go_app (ee_call (ea_cons (ee_var rfl) (ea_cons (ee_dict (em_disp (ds := [("more", _), ("links", _)]) ⟨ee_str, ee_var rfl, ee_str, ee_tupleL (ee_of (en_slL (ee_var rfl) eo_none (eo_some (ee_var rfl)))), trivial⟩ (show List.Nodup (["more", "links"] : List Str) by decide +kernel) (Nat.le_of_ble_eq_true rfl))) ea_nil)) (s5_1 N)) (Nat.lt_of_lt_of_le (Nat.lt_succ_self _) (Nat.le_of_ble_eq_true rfl))) (go_swap (go_app (ee_is (ee_op (ee_var rfl) (ee_int) rd_lt) rfl) (Nat.lt_of_lt_of_le (Nat.lt_succ_self _) (Nat.le_of_ble_eq_true rfl)))))) rfl ?_
        exact wkT
      | 2, hk =>
        cases hk
        show GoE K _ [some (nD q), none, none, some (.int 2), some (houQ q), some (.list (pkQ q 5)), none, none, none, none, none, none] [(2, [.bool false, .bool true, .bool false, .bool true, .bool true, .bool true, .bool true, .bool true, .bool true, .bool true, .bool true, .bool true, .bool true, .bool true, .bool true, .bool true, .bool true, .bool false, .bool true, .bool true, .bool false, .bool false, .bool false, .bool false, .bool false, .bool false, .bool false, .bool false, .bool false, .bool false, .bool false, .bool false, .bool true, .bool true]), (1, [.bool false, .bool true, .bool false, .bool true, .bool true, .bool true, .bool true, .bool true, .bool true, .bool true, .bool true, .bool true, .bool true, .bool true, .bool true, .bool true, .bool true, .bool false, .bool true, .bool true, .bool false, .bool false, .bool false, .bool false, .bool false, .bool false, .bool false, .bool false, .bool false, .bool false, .bool false, .bool false, .bool true, .bool true])] [some (nD q), none, none, none, some (houQ q), some (.list (pkQ q 5)), none, none, none, none, none, none] [(2, [.bool false, .bool true, .bool false, .bool true, .bool true, .bool true, .bool true, .bool true, .bool true, .bool true, .bool true, .bool true, .bool true, .bool true, .bool true, .bool true, .bool true, .bool false, .bool true, .bool true, .bool false, .bool false, .bool false, .bool false, .bool false, .bool false, .bool false, .bool false, .bool false, .bool false, .bool false, .bool false, .bool true, .bool true, .bool true]), (1, [.bool false, .bool true, .bool false, .bool true, .bool true, .bool true, .bool true, .bool true, .bool true, .bool true, .bool true, .bool true, .bool true, .bool true, .bool true, .bool true, .bool true, .bool false, .bool true, .bool true, .bool false, .bool false, .bool false, .bool false, .bool false, .bool false, .bool false, .bool false, .bool false, .bool false, .bool false, .bool false, .bool true, .bool true, .bool true])]
        refine go_weak (env1 := [some (nD q), none, none, some (.int 2), some (houQ q), some (.list (pkQ q 5)), none, none, none, none, none, none]) (go_swap (go_seq (go_app (ee_call (ea_cons (ee_var rfl) (ea_cons (ee_dict (em_disp (ds := [("more", _), ("links", _)]) ⟨ee_str, ee_var rfl, ee_str, ee_tupleL (ee_of (en_slL (ee_var rfl) eo_none (eo_some (ee_var rfl)))), trivial⟩ (show List.Nodup (["more", "links"] : List Str) by decide +kernel) (Nat.le_of_ble_eq_true rfl))) ea_nil)) (s5_2 N)) (Nat.lt_of_lt_of_le (Nat.lt_succ_self _) (Nat.le_of_ble_eq_true rfl))) (go_swap (go_app (ee_is (ee_op (ee_var rfl) (ee_int) rd_lt) rfl) (Nat.lt_of_lt_of_le (Nat.lt_succ_self _) (Nat.le_of_ble_eq_true rfl)))))) rfl ?_
        exact wkT
      | 3, hk =>
        cases hk
        show GoE K _ [some (nD q), none, none, some (.int 3), some (houQ q), some (.list (pkQ q 5)), none, none, none, none, none, none] [(2, [.bool false, .bool true, .bool false, .bool true, .bool true, .bool true, .bool true, .bool true, .bool true, .bool true, .bool true, .bool true, .bool true, .bool true, .bool true, .bool true, .bool true, .bool false, .bool true, .bool true, .bool false, .bool false, .bool false, .bool false, .bool false, .bool false, .bool false, .bool false, .bool false, .bool false, .bool false, .bool false, .bool true, .bool true, .bool true]), (1, [.bool false, .bool true, .bool false, .bool true, .bool true, .bool true, .bool true, .bool true, .bool true, .bool true, .bool true, .bool true, .bool true, .bool true, .bool true, .bool true, .bool true, .bool false, .bool true, .bool true, .bool false, .bool false, .bool false, .bool false, .bool false, .bool false, .bool false, .bool false, .bool false, .bool false, .bool false, .bool false, .bool true, .bool true, .bool true])] [some (nD q), none, none, none, some (houQ q), some (.list (pkQ q 5)), none, none, none, none, none, none] [(2, [.bool false, .bool true, .bool false, .bool true, .bool true, .bool true, .bool true, .bool true, .bool true, .bool true, .bool true, .bool true, .bool true, .bool true, .bool true, .bool true, .bool true, .bool false, .bool true, .bool true, .bool false, .bool false, .bool false, .bool false, .bool false, .bool false, .bool false, .bool false, .bool false, .bool false, .bool false, .bool false, .bool true, .bool true, .bool true, .bool true]), (1, [.bool false, .bool true, .bool false, .bool true, .bool true, .bool true, .bool true, .bool true, .bool true, .bool true, .bool true, .bool true, .bool true, .bool true, .bool true, .bool true, .bool true, .bool false, .bool true, .bool true, .bool false, .bool false, .bool false, .bool false, .bool false, .bool false, .bool false, .bool false, .bool false, .bool false, .bool false, .bool false, .bool true, .bool true, .bool true, .bool true])]
        refine go_weak (env1 := [some (nD q), none, none, some (.int 3), some (houQ q), some (.list (pkQ q 5)), none, none, none, none, none, none]) (go_swap (go_seq (go_app (ee_call (ea_cons (ee_var rfl) (ea_cons (ee_dict (em_disp (ds := [("more", _), ("links", _)]) ⟨ee_str, ee_var rfl, ee_str, ee_tupleL (ee_of (en_slL (ee_var rfl) eo_none (eo_some (ee_var rfl)))), trivial⟩ (show List.Nodup (["more", "links"] : List Str) by decide +kernel) (Nat.le_of_ble_eq_true rfl))) ea_nil)) (s5_3 N)) (Nat.lt_of_lt_of_le (Nat.lt_succ_self _) (Nat.le_of_ble_eq_true rfl))) (go_swap (go_app (ee_is (ee_op (ee_var rfl) (ee_int) rd_lt) rfl) (Nat.lt_of_lt_of_le (Nat.lt_succ_self _) (Nat.le_of_ble_eq_true rfl)))))) rfl ?_
        exact wkT
      | 4, hk =>
        cases hk
        show GoE K _ [some (nD q), none, none, some (.int 4), some (houQ q), some (.list (pkQ q 5)), none, none, none, none, none, none] [(2, [.bool false, .bool true, .bool false, .bool true, .bool true, .bool true, .bool true, .bool true, .bool true, .bool true, .bool true, .bool true, .bool true, .bool true, .bool true, .bool true, .bool true, .bool false, .bool true, .bool true, .bool false, .bool false, .bool false, .bool false, .bool false, .bool false, .bool false, .bool false, .bool false, .bool false, .bool false, .bool false, .bool true, .bool true, .bool true, .bool true]), (1, [.bool false, .bool true, .bool false, .bool true, .bool true, .bool true, .bool true, .bool true, .bool true, .bool true, .bool true, .bool true, .bool true, .bool true, .bool true, .bool true, .bool true, .bool false, .bool true, .bool true, .bool false, .bool false, .bool false, .bool false, .bool false, .bool false, .bool false, .bool false, .bool false, .bool false, .bool false, .bool false, .bool true, .bool true, .bool true, .bool true])] [some (nD q), none, none, none, some (houQ q), some (.list (pkQ q 5)), none, none, none, none, none, none] [(2, [.bool false, .bool true, .bool false, .bool true, .bool true, .bool true, .bool true, .bool true, .bool true, .bool true, .bool true, .bool true, .bool true, .bool true, .bool true, .bool true, .bool true, .bool false, .bool true, .bool true, .bool false, .bool false, .bool false, .bool false, .bool false, .bool false, .bool false, .bool false, .bool false, .bool false, .bool false, .bool false, .bool true, .bool true, .bool true, .bool true, .bool true]), (1, [.bool false, .bool true, .bool false, .bool true, .bool true, .bool true, .bool true, .bool true, .bool true, .bool true, .bool true, .bool true, .bool true, .bool true, .bool true, .bool true, .bool true, .bool false, .bool true, .bool true, .bool false, .bool false, .bool false, .bool false, .bool false, .bool false, .bool false, .bool false, .bool false, .bool false, .bool false, .bool false, .bool true, .bool true, .bool true, .bool true, .bool true])]
        refine go_weak (env1 := [some (nD q), none, none, some (.int 4), some (houQ q), some (.list (pkQ q 5)), none, none, none, none, none, none]) (go_swap (go_seq (go_app (ee_call (ea_cons (ee_var rfl) (ea_cons (ee_dict (em_disp (ds := [("more", _), ("links", _)]) ⟨ee_str, ee_var rfl, ee_str, ee_tupleL (ee_of (en_slL (ee_var rfl) eo_none (eo_some (ee_var rfl)))), trivial⟩ (show List.Nodup (["more", "links"] : List Str) by decide +kernel) (Nat.le_of_ble_eq_true rfl))) ea_nil)) (s5_4 N)) (Nat.lt_of_lt_of_le (Nat.lt_succ_self _) (Nat.le_of_ble_eq_true rfl))) (go_swap (go_app (ee_is (ee_op (ee_var rfl) (ee_int) rd_lt) rfl) (Nat.lt_of_lt_of_le (Nat.lt_succ_self _) (Nat.le_of_ble_eq_true rfl)))))) rfl ?_
        exact wkT
      | 5, hk =>
        cases hk
        show GoE K _ [some (nD q), none, none, some (.int 5), some (houQ q), some (.list (pkQ q 5)), none, none, none, none, none, none] [(2, [.bool false, .bool true, .bool false, .bool true, .bool true, .bool true, .bool true, .bool true, .bool true, .bool true, .bool true, .bool true, .bool true, .bool true, .bool true, .bool true, .bool true, .bool false, .bool true, .bool true, .bool false, .bool false, .bool false, .bool false, .bool false, .bool false, .bool false, .bool false, .bool false, .bool false, .bool false, .bool false, .bool true, .bool true, .bool true, .bool true, .bool true]), (1, [.bool false, .bool true, .bool false, .bool true, .bool true, .bool true, .bool true, .bool true, .bool true, .bool true, .bool true, .bool true, .bool true, .bool true, .bool true, .bool true, .bool true, .bool false, .bool true, .bool true, .bool false, .bool false, .bool false, .bool false, .bool false, .bool false, .bool false, .bool false, .bool false, .bool false, .bool false, .bool false, .bool true, .bool true, .bool true, .bool true, .bool true])] [some (nD q), none, none, none, some (houQ q), some (.list (pkQ q 5)), none, none, none, none, none, none] [(2, [.bool false, .bool true, .bool false, .bool true, .bool true, .bool true, .bool true, .bool true, .bool true, .bool true, .bool true, .bool true, .bool true, .bool true, .bool true, .bool true, .bool true, .bool false, .bool true, .bool true, .bool false, .bool false, .bool false, .bool false, .bool false, .bool false, .bool false, .bool false, .bool false, .bool false, .bool false, .bool false, .bool true, .bool true, .bool true, .bool true, .bool true, .bool true]), (1, [.bool false, .bool true, .bool false, .bool true, .bool true, .bool true, .bool true, .bool true, .bool true, .bool true, .bool true, .bool true, .bool true, .bool true, .bool true, .bool true, .bool true, .bool false, .bool true, .bool true, .bool false, .bool false, .bool false, .bool false, .bool false, .bool false, .bool false, .bool false, .bool false, .bool false, .bool false, .bool false, .bool true, .bool true, .bool true, .bool true, .bool true, .bool true])]
        refine go_weak (env1 := [some (nD q), none, none, some (.int 5), some (houQ q), some (.list (pkQ q 5)), none, none, none, none, none, none]) (go_swap (go_seq (go_app (ee_call (ea_cons (ee_var rfl) (ea_cons (ee_dict (em_disp (ds := [("more", _), ("links", _)]) ⟨ee_str, ee_var rfl, ee_str, ee_tupleL (ee_of (en_slL (ee_var rfl) eo_none (eo_some (ee_var rfl)))), trivial⟩ (show List.Nodup (["more", "links"] : List Str) by decide +kernel) (Nat.le_of_ble_eq_true rfl))) ea_nil)) (s5_5 N)) (Nat.lt_of_lt_of_le (Nat.lt_succ_self _) (Nat.le_of_ble_eq_true rfl))) (go_swap (go_app (ee_is (ee_op (ee_var rfl) (ee_int) rd_lt) rfl) (Nat.lt_of_lt_of_le (Nat.lt_succ_self _) (Nat.le_of_ble_eq_true rfl)))))) rfl ?_
        exact wkT
      | 6, hk =>
        cases hk
        show GoE K _ [some (nD q), none, none, some (.int 6), some (houQ q), some (.list (pkQ q 5)), none, none, none, none, none, none] [(2, [.bool false, .bool true, .bool false, .bool true, .bool true, .bool true, .bool true, .bool true, .bool true, .bool true, .bool true, .bool true, .bool true, .bool true, .bool true, .bool true, .bool true, .bool false, .bool true, .bool true, .bool false, .bool false, .bool false, .bool false, .bool false, .bool false, .bool false, .bool false, .bool false, .bool false, .bool false, .bool false, .bool true, .bool true, .bool true, .bool true, .bool true, .bool true]), (1, [.bool false, .bool true, .bool false, .bool true, .bool true, .bool true, .bool true, .bool true, .bool true, .bool true, .bool true, .bool true, .bool true, .bool true, .bool true, .bool true, .bool true, .bool false, .bool true, .bool true, .bool false, .bool false, .bool false, .bool false, .bool false, .bool false, .bool false, .bool false, .bool false, .bool false, .bool false, .bool false, .bool true, .bool true, .bool true, .bool true, .bool true, .bool true])] [some (nD q), none, none, none, some (houQ q), some (.list (pkQ q 5)), none, none, none, none, none, none] [(2, [.bool false, .bool true, .bool false, .bool true, .bool true, .bool true, .bool true, .bool true, .bool true, .bool true, .bool true, .bool true, .bool true, .bool true, .bool true, .bool true, .bool true, .bool false, .bool true, .bool true, .bool false, .bool false, .bool false, .bool false, .bool false, .bool false, .bool false, .bool false, .bool false, .bool false, .bool false, .bool false, .bool true, .bool true, .bool true, .bool true, .bool true, .bool true, .bool true]), (1, [.bool false, .bool true, .bool false, .bool true, .bool true, .bool true, .bool true, .bool true, .bool true, .bool true, .bool true, .bool true, .bool true, .bool true, .bool true, .bool true, .bool true, .bool false, .bool true, .bool true, .bool false, .bool false, .bool false, .bool false, .bool false, .bool false, .bool false, .bool false, .bool false, .bool false, .bool false, .bool false, .bool true, .bool true, .bool true, .bool true, .bool true, .bool true, .bool true])]
        refine go_weak (env1 := [some (nD q), none, none, some (.int 6), some (houQ q), some (.list (pkQ q 5)), none, none, none, none, none, none]) (go_swap (go_seq (go_app (ee_call (ea_cons (ee_var rfl) (ea_cons (ee_dict (em_disp (ds := [("more", _), ("links", _)]) ⟨ee_str, ee_var rfl, ee_str, ee_tupleL (ee_of (en_slL (ee_var rfl) eo_none (eo_some (ee_var rfl)))), trivial⟩ (show List.Nodup (["more", "links"] : List Str) by decide +kernel) (Nat.le_of_ble_eq_true rfl))) ea_nil)) (s5_6 N)) (Nat.lt_of_lt_of_le (Nat.lt_succ_self _) (Nat.le_of_ble_eq_true rfl))) (go_swap (go_app (ee_is (ee_op (ee_var rfl) (ee_int) rd_lt) rfl) (Nat.lt_of_lt_of_le (Nat.lt_succ_self _) (Nat.le_of_ble_eq_true rfl)))))) rfl ?_
        exact wkT
      | 7, hk =>
        cases hk
        show GoE K _ [some (nD q), none, none, some (.int 7), some (houQ q), some (.list (pkQ q 5)), none, none, none, none, none, none] [(2, [.bool false, .bool true, .bool false, .bool true, .bool true, .bool true, .bool true, .bool true, .bool true, .bool true, .bool true, .bool true, .bool true, .bool true, .bool true, .bool true, .bool true, .bool false, .bool true, .bool true, .bool false, .bool false, .bool false, .bool false, .bool false, .bool false, .bool false, .bool false, .bool false, .bool false, .bool false, .bool false, .bool true, .bool true, .bool true, .bool true, .bool true, .bool true, .bool true]), (1, [.bool false, .bool true, .bool false, .bool true, .bool true, .bool true, .bool true, .bool true, .bool true, .bool true, .bool true, .bool true, .bool true, .bool true, .bool true, .bool true, .bool true, .bool false, .bool true, .bool true, .bool false, .bool false, .bool false, .bool false, .bool false, .bool false, .bool false, .bool false, .bool false, .bool false, .bool false, .bool false, .bool true, .bool true, .bool true, .bool true, .bool true, .bool true, .bool true])] [some (nD q), none, none, none, some (houQ q), some (.list (pkQ q 5)), none, none, none, none, none, none] [(2, [.bool false, .bool true, .bool false, .bool true, .bool true, .bool true, .bool true, .bool true, .bool true, .bool true, .bool true, .bool true, .bool true, .bool true, .bool true, .bool true, .bool true, .bool false, .bool true, .bool true, .bool false, .bool false, .bool false, .bool false, .bool false, .bool false, .bool false, .bool false, .bool false, .bool false, .bool false, .bool false, .bool true, .bool true, .bool true, .bool true, .bool true, .bool true, .bool true, .bool true]), (1, [.bool false, .bool true, .bool false, .bool true, .bool true, .bool true, .bool true, .bool true, .bool true, .bool true, .bool true, .bool true, .bool true, .bool true, .bool true, .bool true, .bool true, .bool false, .bool true, .bool true, .bool false, .bool false, .bool false, .bool false, .bool false, .bool false, .bool false, .bool false, .bool false, .bool false, .bool false, .bool false, .bool true, .bool true, .bool true, .bool true, .bool true, .bool true, .bool true, .bool true])]
        refine go_weak (env1 := [some (nD q), none, none, some (.int 7), some (houQ q), some (.list (pkQ q 5)), none, none, none, none, none, none]) (go_swap (go_seq (go_app (ee_call (ea_cons (ee_var rfl) (ea_cons (ee_dict (em_disp (ds := [("more", _), ("links", _)]) ⟨ee_str, ee_var rfl, ee_str, ee_tupleL (ee_of (en_slL (ee_var rfl) eo_none (eo_some (ee_var rfl)))), trivial⟩ (show List.Nodup (["more", "links"] : List Str) by decide +kernel) (Nat.le_of_ble_eq_true rfl))) ea_nil)) (s5_7 N)) (Nat.lt_of_lt_of_le (Nat.lt_succ_self _) (Nat.le_of_ble_eq_true rfl))) (go_swap (go_app (ee_is (ee_op (ee_var rfl) (ee_int) rd_lt) rfl) (Nat.lt_of_lt_of_le (Nat.lt_succ_self _) (Nat.le_of_ble_eq_true rfl)))))) rfl ?_
        exact wkT
      | 8, hk =>
        cases hk
        show GoE K _ [some (nD q), none, none, some (.int 8), some (houQ q), some (.list (pkQ q 5)), none, none, none, none, none, none] [(2, [.bool false, .bool true, .bool false, .bool true, .bool true, .bool true, .bool true, .bool true, .bool true, .bool true, .bool true, .bool true, .bool true, .bool true, .bool true, .bool true, .bool true, .bool false, .bool true, .bool true, .bool false, .bool false, .bool false, .bool false, .bool false, .bool false, .bool false, .bool false, .bool false, .bool false, .bool false, .bool false, .bool true, .bool true, .bool true, .bool true, .bool true, .bool true, .bool true, .bool true]), (1, [.bool false, .bool true, .bool false, .bool true, .bool true, .bool true, .bool true, .bool true, .bool true, .bool true, .bool true, .bool true, .bool true, .bool true, .bool true, .bool true, .bool true, .bool false, .bool true, .bool true, .bool false, .bool false, .bool false, .bool false, .bool false, .bool false, .bool false, .bool false, .bool false, .bool false, .bool false, .bool false, .bool true, .bool true, .bool true, .bool true, .bool true, .bool true, .bool true, .bool true])] [some (nD q), none, none, none, some (houQ q), some (.list (pkQ q 5)), none, none, none, none, none, none] [(2, [.bool false, .bool true, .bool false, .bool true, .bool true, .bool true, .bool true, .bool true, .bool true, .bool true, .bool true, .bool true, .bool true, .bool true, .bool true, .bool true, .bool true, .bool false, .bool true, .bool true, .bool false, .bool false, .bool false, .bool false, .bool false, .bool false, .bool false, .bool false, .bool false, .bool false, .bool false, .bool false, .bool true, .bool true, .bool true, .bool true, .bool true, .bool true, .bool true, .bool true, .bool true]), (1, [.bool false, .bool true, .bool false, .bool true, .bool true, .bool true, .bool true, .bool true, .bool true, .bool true, .bool true, .bool true, .bool true, .bool true, .bool true, .bool true, .bool true, .bool false, .bool true, .bool true, .bool false, .bool false, .bool false, .bool false, .bool false, .bool false, .bool false, .bool false, .bool false, .bool false, .bool false, .bool false, .bool true, .bool true, .bool true, .bool true, .bool true, .bool true, .bool true, .bool true, .bool true])]
        refine go_weak (env1 := [some (nD q), none, none, some (.int 8), some (houQ q), some (.list (pkQ q 5)), none, none, none, none, none, none]) (go_swap (go_seq (go_app (ee_call (ea_cons (ee_var rfl) (ea_cons (ee_dict (em_disp (ds := [("more", _), ("links", _)]) ⟨ee_str, ee_var rfl, ee_str, ee_tupleL (ee_of (en_slL (ee_var rfl) eo_none (eo_some (ee_var rfl)))), trivial⟩ (show List.Nodup (["more", "links"] : List Str) by decide +kernel) (Nat.le_of_ble_eq_true rfl))) ea_nil)) (s5_8 N)) (Nat.lt_of_lt_of_le (Nat.lt_succ_self _) (Nat.le_of_ble_eq_true rfl))) (go_swap (go_app (ee_is (ee_op (ee_var rfl) (ee_int) rd_lt) rfl) (Nat.lt_of_lt_of_le (Nat.lt_succ_self _) (Nat.le_of_ble_eq_true rfl)))))) rfl ?_
        exact wkT
      | 9, hk =>
        cases hk
        show GoE K _ [some (nD q), none, none, some (.int 9), some (houQ q), some (.list (pkQ q 5)), none, none, none, none, none, none] [(2, [.bool false, .bool true, .bool false, .bool true, .bool true, .bool true, .bool true, .bool true, .bool true, .bool true, .bool true, .bool true, .bool true, .bool true, .bool true, .bool true, .bool true, .bool false, .bool true, .bool true, .bool false, .bool false, .bool false, .bool false, .bool false, .bool false, .bool false, .bool false, .bool false, .bool false, .bool false, .bool false, .bool true, .bool true, .bool true, .bool true, .bool true, .bool true, .bool true, .bool true, .bool true]), (1, [.bool false, .bool true, .bool false, .bool true, .bool true, .bool true, .bool true, .bool true, .bool true, .bool true, .bool true, .bool true, .bool true, .bool true, .bool true, .bool true, .bool true, .bool false, .bool true, .bool true, .bool false, .bool false, .bool false, .bool false, .bool false, .bool false, .bool false, .bool false, .bool false, .bool false, .bool false, .bool false, .bool true, .bool true, .bool true, .bool true, .bool true, .bool true, .bool true, .bool true, .bool true])] [some (nD q), none, none, none, some (houQ q), some (.list (pkQ q 5)), none, none, none, none, none, none] [(2, [.bool false, .bool true, .bool false, .bool true, .bool true, .bool true, .bool true, .bool true, .bool true, .bool true, .bool true, .bool true, .bool true, .bool true, .bool true, .bool true, .bool true, .bool false, .bool true, .bool true, .bool false, .bool false, .bool false, .bool false, .bool false, .bool false, .bool false, .bool false, .bool false, .bool false, .bool false, .bool false, .bool true, .bool true, .bool true, .bool true, .bool true, .bool true, .bool true, .bool true, .bool true, .bool false]), (1, [.bool false, .bool true, .bool false, .bool true, .bool true, .bool true, .bool true, .bool true, .bool true, .bool true, .bool true, .bool true, .bool true, .bool true, .bool true, .bool true, .bool true, .bool false, .bool true, .bool true, .bool false, .bool false, .bool false, .bool false, .bool false, .bool false, .bool false, .bool false, .bool false, .bool false, .bool false, .bool false, .bool true, .bool true, .bool true, .bool true, .bool true, .bool true, .bool true, .bool true, .bool true, .bool false])]
        refine go_weak (env1 := [some (nD q), none, none, some (.int 9), some (houQ q), some (.list (pkQ q 5)), none, none, none, none, none, none]) (go_swap (go_seq (go_app (ee_call (ea_cons (ee_var rfl) (ea_cons (ee_dict (em_disp (ds := [("more", _), ("links", _)]) ⟨ee_str, ee_var rfl, ee_str, ee_tupleL (ee_of (en_slL (ee_var rfl) eo_none (eo_some (ee_var rfl)))), trivial⟩ (show List.Nodup (["more", "links"] : List Str) by decide +kernel) (Nat.le_of_ble_eq_true rfl))) ea_nil)) (s5_9 N)) (Nat.lt_of_lt_of_le (Nat.lt_succ_self _) (Nat.le_of_ble_eq_true rfl))) (go_swap (go_app (ee_is (ee_op (ee_var rfl) (ee_int) rd_lt) rfl) (Nat.lt_of_lt_of_le (Nat.lt_succ_self _) (Nat.le_of_ble_eq_true rfl)))))) rfl ?_
        exact wkT
      | 10, hk =>
        cases hk
        show GoE K _ [some (nD q), none, none, some (.int 10), some (houQ q), some (.list (pkQ q 5)), none, none, none, none, none, none] [(2, [.bool false, .bool true, .bool false, .bool true, .bool true, .bool true, .bool true, .bool true, .bool true, .bool true, .bool true, .bool true, .bool true, .bool true, .bool true, .bool true, .bool true, .bool false, .bool true, .bool true, .bool false, .bool false, .bool false, .bool false, .bool false, .bool false, .bool false, .bool false, .bool false, .bool false, .bool false, .bool false, .bool true, .bool true, .bool true, .bool true, .bool true, .bool true, .bool true, .bool true, .bool true, .bool false]), (1, [.bool false, .bool true, .bool false, .bool true, .bool true, .bool true, .bool true, .bool true, .bool true, .bool true, .bool true, .bool true, .bool true, .bool true, .bool true, .bool true, .bool true, .bool false, .bool true, .bool true, .bool false, .bool false, .bool false, .bool false, .bool false, .bool false, .bool false, .bool false, .bool false, .bool false, .bool false, .bool false, .bool true, .bool true, .bool true, .bool true, .bool true, .bool true, .bool true, .bool true, .bool true, .bool false])] [some (nD q), none, none, none, some (houQ q), some (.list (pkQ q 5)), none, none, none, none, none, none] [(2, [.bool false, .bool true, .bool false, .bool true, .bool true, .bool true, .bool true, .bool true, .bool true, .bool true, .bool true, .bool true, .bool true, .bool true, .bool true, .bool true, .bool true, .bool false, .bool true, .bool true, .bool false, .bool false, .bool false, .bool false, .bool false, .bool false, .bool false, .bool false, .bool false, .bool false, .bool false, .bool false, .bool true, .bool true, .bool true, .bool true, .bool true, .bool true, .bool true, .bool true, .bool true, .bool false, .bool false]), (1, [.bool false, .bool true, .bool false, .bool true, .bool true, .bool true, .bool true, .bool true, .bool true, .bool true, .bool true, .bool true, .bool true, .bool true, .bool true, .bool true, .bool true, .bool false, .bool true, .bool true, .bool false, .bool false, .bool false, .bool false, .bool false, .bool false, .bool false, .bool false, .bool false, .bool false, .bool false, .bool false, .bool true, .bool true, .bool true, .bool true, .bool true, .bool true, .bool true, .bool true, .bool true, .bool false, .bool false])]
        refine go_weak (env1 := [some (nD q), none, none, some (.int 10), some (houQ q), some (.list (pkQ q 5)), none, none, none, none, none, none]) (go_swap (go_seq (go_app (ee_call (ea_cons (ee_var rfl) (ea_cons (ee_dict (em_disp (ds := [("more", _), ("links", _)]) ⟨ee_str, ee_var rfl, ee_str, ee_tupleL (ee_of (en_slL (ee_var rfl) eo_none (eo_some (ee_var rfl)))), trivial⟩ (show List.Nodup (["more", "links"] : List Str) by decide +kernel) (Nat.le_of_ble_eq_true rfl))) ea_nil)) (s5_10 N)) (Nat.lt_of_lt_of_le (Nat.lt_succ_self _) (Nat.le_of_ble_eq_true rfl))) (go_swap (go_app (ee_is (ee_op (ee_var rfl) (ee_int) rd_lt) rfl) (Nat.lt_of_lt_of_le (Nat.lt_succ_self _) (Nat.le_of_ble_eq_true rfl)))))) rfl ?_
        exact wkT
      | k + 11, hk => cases hk
    refine rt_freeze (rt_freeze ?_)
    show RtE K _ [some (nD q), some (.list [.bool false, .bool true, .bool false, .bool true, .bool true, .bool true, .bool true, .bool true, .bool true, .bool true, .bool true, .bool true, .bool true, .bool true, .bool true, .bool true, .bool true, .bool false, .bool true, .bool true, .bool false, .bool false, .bool false, .bool false, .bool false, .bool false, .bool false, .bool false, .bool false, .bool false, .bool false, .bool false, .bool true, .bool true, .bool true, .bool true, .bool true, .bool true, .bool true, .bool true, .bool true, .bool false, .bool false]), some (.list [.bool false, .bool true, .bool false, .bool true, .bool true, .bool true, .bool true, .bool true, .bool true, .bool true, .bool true, .bool true, .bool true, .bool true, .bool true, .bool true, .bool true, .bool false, .bool true, .bool true, .bool false, .bool false, .bool false, .bool false, .bool false, .bool false, .bool false, .bool false, .bool false, .bool false, .bool false, .bool false, .bool true, .bool true, .bool true, .bool true, .bool true, .bool true, .bool true, .bool true, .bool true, .bool false, .bool false]), none, some (houQ q), some (.list (pkQ q 5)), none, none, none, none, none, none] [] (.bool true)
    refine rt_ret (ee_is (ee_op (ee_var rfl) (ee_var rfl) (rd_eqD (by decide +kernel) (by decide +kernel))) ?_)
    exact congrArg PyData.bool (by decide +kernel)
end
end K13

namespace K13
open PySem PySem.Spec PyProof.Rows L2 LH C8
abbrev s_l_begin : Stmt := topS 30
abbrev n_l_begin : List Str := ["_law_script", "_law_handed"]
theorem sc_l_begin : FnScope n_l_begin ["_law_script"] (defScope s_l_begin) := ⟨rfl, rfl, rfl, by decide +kernel, rfl, by decide +kernel, by decide +kernel⟩
abbrev s_law : Stmt := topS 38
abbrev n_law : List Str := ["_law_script", "_law_state", "_law_turn", "_law_n"]
theorem sc_law : FnScope n_law ["_law_script"] (defScope s_law) := ⟨rfl, rfl, rfl, by decide +kernel, rfl, by decide +kernel, by decide +kernel⟩
structure Tb (mg : Str → Option Value) : Prop where
  m_list : mg "list" = none
  m_range : mg "range" = none
def spLaw (K : PySem.W.Frag) : Sp :=
  fun vs H Q _ => ∃ (a : Addr) (ns : List Int), vs = [.ref a] ∧ SqL K H a (ns.map V.int) ∧ ns.length ≤ 63 ∧ ∀ H', Q (.bl true) H'
def spBegin (K : PySem.W.Frag) : Sp := fun vs H Q _ => ∃ (a : Addr) (ns : List Int), vs = [.ref a] ∧ SqL K H a (ns.map V.int) ∧ ns.length ≤ 63 ∧
  ∀ (sd ca : Addr) (cs : List Int) (H' : Hp), StAt H' sd ca cs 0 → Q (.ref sd) H'
theorem cutV_ints (ns : List Int) (lo hi : Option Int) : ∃ ms : List Int, cutV (ns.map V.int) lo hi = ms.map V.int ∧ ms.length ≤ ns.length := by
  refine ⟨(ns.drop (HT.sIx (ns.map V.int).length 0 lo)).take (HT.sIx (ns.map V.int).length (ns.map V.int).length hi - HT.sIx (ns.map V.int).length 0 lo), ?_, ?_⟩
  · unfold cutV
    rw [← List.map_drop, ← List.map_take]
  · rw [List.length_take, List.length_drop]
    omega
theorem dp_ints {K : PySem.W.Frag} {H : Hp} : ∀ ns : List Int, DpAll K H (ns.map V.int) (ns.map PyData.int)
  | [] => .nil
  | n :: ns => .cons (.int n) (dp_ints ns)
theorem ints_lay : ∀ ns : List Int, PyData.canLayAll0 (ns.map PyData.int) = true
  | [] => rfl
  | n :: ns => by
    have h := ints_lay ns
    simp [PyData.canLayAll0, PyData.canLay0, h]
theorem ints_deep : ∀ ns : List Int, PyData.depthAll (ns.map PyData.int) ≤ 1
  | [] => by (simp [PyData.depthAll])
  | n :: ns => by
    have h := ints_deep ns
    (simp only [List.map_cons, PyData.depthAll, PyData.depth])
    omega
theorem ints_shaped (ns : List Int) : SeqAt.shaped (.list (ns.map PyData.int)) = true := by
  unfold SeqAt.shaped
  have h := ints_deep ns
  have h2 : PyData.depth (.list (ns.map PyData.int)) ≤ 64 := by
    simp only [PyData.depth]
    omega
  rw [decide_eq_true h2, Bool.and_true]
  simp only [PyData.canLay0]
  exact ints_lay ns
theorem ints_eqv (ns : List Int) : PyData.eqv (.list (ns.map PyData.int)) (.list []) = decide (ns = []) := by
  cases ns with
  | nil => rfl
  | cons n ns =>
    rw [decide_eq_false (fun z => nomatch z)]
    simp [PyData.eqv, PyData.eqvAll]
theorem with_at {ns : List Str} (N : Nm ns) : mWith [.list (ns.map PyData.str), .dict []] = some (.bool true) := by
  have hl := N.len
  match ns, hl with
  | [n0, n1, n2, n3, n4, n5, n6, n7, n8, n9, na, nb], _ => exact b_0 N
theorem ee_dnew {K : PySem.W.Frag} {env : Env0'} : EvE K tDNewK env (.dict []) := fun σ G H gh s Q q p np => q _ _ _ (Gw.new gh np) (.dct upd_same .nil)
theorem rd_isnot {K : PySem.W.Frag} {a b : Bool} : RD K (fun x y H Q => ∃ a b, x = .bl a ∧ y = .bl b ∧ Q (.bl (!decide (a = b))) H) (.bool a) (.bool b) (.bool (!decide (a = b))) := fun x y G H gh da db Q q => by
  cases da
  cases db
  exact ⟨a, b, rfl, rfl, q _ G H (Gw.refl gh) (.bl _)⟩
section
variable {P : Program} {w : World} {K : PySem.W.Frag} {mg : Str → Option Value} {base : Heap} {aW : Addr}
theorem c_l_begin (T : Tb mg) (F : Dfn K mg "_law_begin" s_l_begin ["_law_script"]) : Cal P w K mg base 1 "_law_begin" (spBegin K) [] := by
  obtain ⟨f, fd, F, hm, b⟩ := F.ex
  refine ⟨f, fd, ["_law_script"], [], F.ok sc_l_begin (fun vs H Q E h => ?_) (fun cdv A outer s H vs Q E hr h => ?_), hm, F.kp, b, .nil⟩
  · obtain ⟨_, _, rfl, _⟩ := h
    rfl
  · obtain ⟨a, ns, rfl, hS, hl, q⟩ := h
    refine ⟨_, (pss_cons (ps_set (i := 1) sc_l_begin.nd rfl (Or.inl rfl) (pe_callTy call_list_of (by rfl) T.m_list (by decide +kernel) (pa_cons (pe_slice sl_list (pv 0) po_none (po_some (pe_int))) pa_nil))) (pss_cons (ps_if (pt_cmpR (op_eqD hr.units) (pv 1) (pe_lst (pa_nil)) (nomark _)) (pss_one (ps_set (i := 1) sc_l_begin.nd rfl (Or.inl rfl) (pe_lst (pa_cons (pe_int) pa_nil)))) (pss_nil)) (pss_one (ps_ret (pe_disp (pps_cons (pe_str) (pv 1) (pps_cons (pe_str) (pe_int) (pps_nil))) (by rfl) (by rfl) (fun z => by cases z) (by decide)))))), ?_⟩
    obtain ⟨ms, em, ml⟩ := cutV_ints ns none (some 63)
    refine ⟨.ref a, rfl, 63, rfl, a, _, rfl, hS, fun p np => ?_⟩
    rw [em]
    refine ⟨p, _, rfl, .inl (.inl (.inl upd_same)), fun l nl => ?_⟩
    generalize upd H p (.lst (ms.map V.int)) = H1 at nl
    have hl1 : (upd H1 l (.lst (ms.map V.int))) l = some (.lst (ms.map V.int)) := upd_same
    generalize upd H1 l (.lst (ms.map V.int)) = H2 at hl1
    have fin : ∀ (l : Addr) (cs : List Int) (H2 : Hp) (D : Ends) (σ : L2.St), (∀ v H', Q v H' → D.rt v H') → σ[1]? = some (some (.ref l)) → H2 l = some (.lst (cs.map V.int)) → 0 < cs.length → cs.length ≤ 63 → tRet (tDisp [(tC (.str "cells"), tVar 1), (tC (.str "turn"), tC (.int 0))]) D σ H2 := fun l cs H2 D σ hq h1 h2 h3 h4 p np => by
      have npl : p ≠ l := fun z => by rw [z, h2] at np; cases np
      refine ⟨.ref l, h1, upd_same, [(Sum.inr "cells", .ref l), (Sum.inr "turn", .int 0)], rfl, (by show 2 ≤ 15; decide), ?_⟩
      refine hq _ _ (q p l cs _ ⟨?_, ?_, h3, h4, by decide⟩)
      · rw [upd_same]
        rfl
      · rw [upd_ne npl.symm, upd_ne npl.symm]
        exact h2
    refine ⟨.ref l, rfl, (by show 0 ≤ sizeLine; decide), fun e ne => ?_⟩
    have nel : e ≠ l := fun z => by rw [z, hl1] at ne; cases ne
    have hl3 : (upd H2 e (.lst [])) l = some (.lst (ms.map V.int)) := by rw [upd_ne nel.symm]; exact hl1
    have he3 : (upd H2 e (.lst [])) e = some (.lst []) := upd_same
    generalize upd H2 e (.lst []) = H3 at hl3 he3
    refine ⟨.list (ms.map PyData.int), .list [], .lst (.inl (.inl hl3)) (dp_ints ms), .lst (.inl (.inl he3)) .nil, ints_shaped ms, rfl, ?_⟩
    rw [ints_eqv]
    refine ⟨_, rfl, ite2 (fun z => ?_) (fun z => ?_)⟩
    · refine ⟨(by show 1 ≤ sizeLine; decide), fun c nc => ?_⟩
      exact fin c [17] _ _ _ (fun v H' h => h) rfl upd_same (by decide) (by decide)
    · refine fin l ms _ _ _ (fun v H' h => h) rfl hl3 ?_ (Nat.le_trans ml hl)
      cases ms with
      | nil => exact absurd rfl z
      | cons m ms => exact Nat.succ_pos _
theorem if_seq {t : TT} {a u : TS} {D : Ends} {σ : L2.St} {G H : Hp} {env : Env0'} (e : EvB K t env false) (gh : Same G H) (sd : Sd K G σ env) (h : ∀ G2 H2, Gw G H G2 H2 → u D σ H2) : tSeq (tIfS t a tNext) u D σ H :=
  e σ G H gh sd _ fun G2 H2 w => h G2 H2 w
theorem if_end {t : TT} {a : TS} {D : Ends} {σ : L2.St} {G H : Hp} {env : Env0'} (e : EvB K t env false) (gh : Same G H) (sd : Sd K G σ env) (h : ∀ G2 H2, Gw G H G2 H2 → D.nx σ H2) : tIfS t a tNext D σ H :=
  e σ G H gh sd _ fun G2 H2 w => h G2 H2 w
theorem ok_law {f : Addr} {fd : FuncData} (T : Tb mg) (F : L2.Fun K "law" "law" s_law f fd) (C_l_begin : Cal P w K mg base 1 "_law_begin" (spBegin K) []) (C_l_names : Cal P w K mg base 2 "_law_names" (spNames K) [])
    (C_l_sizes_right : Cal P w K mg base 9 "_law_sizes_right" (spF K mRight) []) (C_l_numbers_right : Cal P w K mg base 9 "_law_numbers_right" (spF K mRight) []) (C_l_alike_right : Cal P w K mg base 9 "_law_alike_right" (spF K mRight) []) (C_l_with : Cal P w K mg base 8 "_law_with" (spF K mWith) []) : FnOk P w K mg base L2.CX0 12 f fd ["_law_script"] (spLaw K) := by
  refine F.ok sc_law (fun vs H Q E h => ?_) (fun cdv A outer s H vs Q E hr h => ?_)
  · obtain ⟨_, _, rfl, _⟩ := h
    rfl
  · obtain ⟨a, ns, rfl, hS, hl, q⟩ := h
    refine ⟨_, (pss_cons (ps_set (i := 1) sc_law.nd rfl (Or.inl rfl) (pe_c C_l_begin hr (by decide) (by rfl) (pa_cons (pv 0) pa_nil))) (pss_cons (ps_for PassesOwn.never rfl (pi_range1 (by rfl) T.m_range (pa_cons (pe_int) pa_nil)) (pg_name (i := 2) sc_law.nd rfl (Or.inl rfl)) (pss_cons (ps_set (i := 3) sc_law.nd rfl (Or.inl rfl) (pe_c C_l_names hr (by decide) (by rfl) (pa_cons (pv 1) (pa_cons (pe_int) pa_nil)))) (pss_cons (ps_if (PW.pt (pw_or (pt_not (pt_val (pe_c C_l_sizes_right hr (by decide) (by rfl) (pa_cons (pv 3) pa_nil)))) (pw_or (pt_not (pt_val (pe_c C_l_numbers_right hr (by decide) (by rfl) (pa_cons (pv 3) pa_nil)))) (pw_or1 (pt_not (pt_val (pe_c C_l_alike_right hr (by decide) (by rfl) (pa_cons (pv 3) pa_nil)))))))) (pss_one (ps_ret (pe_bl))) (pss_nil)) (pss_one (ps_if (pt_cmpR op_isnot_bl (pe_c C_l_with hr (by decide) (by rfl) (pa_cons (pv 3) (pa_cons (pe_dnewK) pa_nil))) (pe_bl) (nomark _)) (pss_one (ps_ret (pe_bl))) (pss_nil)))))) (pss_one (ps_ret (pe_bl))))), ?_⟩
    refine ⟨.ref a, rfl, a, ns, rfl, hS, hl, fun sd ca cs H1 S => ?_⟩
    refine ⟨2, rfl, by decide, by decide, ?_⟩
    refine for_range (lo := 0) (n := 2) (fun i σ H => ∃ cs t x2 x3, σ = [some (.ref a), some (.ref sd), x2, x3] ∧ StAt H sd ca cs t ∧ t ≤ 20 * (i : Int)) ⟨cs, 0, _, _, rfl, S, by decide⟩ ?_ ?_
    · rintro i σ H2 hi ⟨cs, t, x2, x3, rfl, S, ht⟩
      refine g_name ?_
      refine ⟨.ref sd, rfl, sd, ca, cs, t, rfl, S, by omega, fun ns v cs' t' G' H' N dv gh n1 n2 S' ht' => ?_⟩
      refine g_name ?_
      dsimp only
      have sd' : Sd K G' [some (.ref a), some (.ref sd), some (.int (0 + (i : Int))), some v] [none, none, none, some (.list (ns.map PyData.str))] := (SdL.any (.any (.any (.val dv .nil)))).sd
      refine if_seq (env := [none, none, none, some (.list (ns.map PyData.str))]) ?e1 gh sd' fun G3 H3 w3 => ?_
      case e1 => exact eb_or (a := false) (b := false) (eb_not (a := true) (eb_B (ee_call (ea_cons (ee_var (i := 3) rfl) ea_nil) (right_at N)))) fun _ => eb_or (a := false) (b := false) (eb_not (a := true) (eb_B (ee_call (ea_cons (ee_var (i := 3) rfl) ea_nil) (right_at N)))) fun _ => eb_not (a := true) (eb_B (ee_call (ea_cons (ee_var (i := 3) rfl) ea_nil) (right_at N)))
      refine if_end (env := [none, none, none, some (.list (ns.map PyData.str))]) ?e2 w3.gh (sd'.mono w3.gg) fun G4 H4 w4 => ?_
      case e2 => exact eb_test (ee_op (ee_call (ea_cons (ee_var (i := 3) rfl) (ea_cons ee_dnew ea_nil)) (with_at N)) ee_bl rd_isnot)
      exact ⟨cs', t', _, _, rfl, S'.same (w3.trans w4).hh, by omega⟩
    · rintro σ H2 _
      exact q _
end
end K13

namespace K13
open PySem PySem.Spec PyProof.Rows L2 LH C8

theorem all_mk {l : PySem.W.OpenLaw} {w : World} {K : PySem.W.Frag} {h : Heap} {mg : Str → Option Value} {fa : Addr} (X : K.In h) (G : h.Ns mainGlobals mg) (hfa : mg "law" = some (.ref fa))
    {f0 : Addr} {od0 an0 : Option Addr} {sl0 : Array (Option Value)} {oc0 kV0 dc0 pm0 cd0 ct0 : Value}
    {f1 : Addr} {od1 an1 : Option Addr} {sl1 : Array (Option Value)} {oc1 kV1 dc1 pm1 cd1 ct1 : Value}
    {f2 : Addr} {od2 an2 : Option Addr} {sl2 : Array (Option Value)} {oc2 kV2 dc2 pm2 cd2 ct2 : Value}
    {f3 : Addr} {od3 an3 : Option Addr} {sl3 : Array (Option Value)} {oc3 kV3 dc3 pm3 cd3 ct3 : Value}
    {f4 : Addr} {od4 an4 : Option Addr} {sl4 : Array (Option Value)} {oc4 kV4 dc4 pm4 cd4 ct4 : Value}
    {f5 : Addr} {od5 an5 : Option Addr} {sl5 : Array (Option Value)} {oc5 kV5 dc5 pm5 cd5 ct5 : Value}
    {f6 : Addr} {od6 an6 : Option Addr} {sl6 : Array (Option Value)} {oc6 kV6 dc6 pm6 cd6 ct6 : Value}
    {f7 : Addr} {od7 an7 : Option Addr} {sl7 : Array (Option Value)} {oc7 kV7 dc7 pm7 cd7 ct7 : Value}
    {f8 : Addr} {od8 an8 : Option Addr} {sl8 : Array (Option Value)} {oc8 kV8 dc8 pm8 cd8 ct8 : Value}
    {f9 : Addr} {od9 an9 : Option Addr} {sl9 : Array (Option Value)} {oc9 kV9 dc9 pm9 cd9 ct9 : Value}
    {f10 : Addr} {od10 an10 : Option Addr} {sl10 : Array (Option Value)} {oc10 kV10 dc10 pm10 cd10 ct10 : Value}
    {f11 : Addr} {od11 an11 : Option Addr} {sl11 : Array (Option Value)} {oc11 kV11 dc11 pm11 cd11 ct11 : Value}
    {f12 : Addr} {od12 an12 : Option Addr} {sl12 : Array (Option Value)} {oc12 kV12 dc12 pm12 cd12 ct12 : Value}
    {f13 : Addr} {od13 an13 : Option Addr} {sl13 : Array (Option Value)} {oc13 kV13 dc13 pm13 cd13 ct13 : Value}
    {f14 : Addr} {od14 an14 : Option Addr} {sl14 : Array (Option Value)} {oc14 kV14 dc14 pm14 cd14 ct14 : Value}
    {f15 : Addr} {od15 an15 : Option Addr} {sl15 : Array (Option Value)} {oc15 kV15 dc15 pm15 cd15 ct15 : Value}
    {f16 : Addr} {od16 an16 : Option Addr} {sl16 : Array (Option Value)} {oc16 kV16 dc16 pm16 cd16 ct16 : Value}
    {f17 : Addr} {od17 an17 : Option Addr} {sl17 : Array (Option Value)} {oc17 kV17 dc17 pm17 cd17 ct17 : Value}
    {f18 : Addr} {od18 an18 : Option Addr} {sl18 : Array (Option Value)} {oc18 kV18 dc18 pm18 cd18 ct18 : Value}
    {f19 : Addr} {od19 an19 : Option Addr} {sl19 : Array (Option Value)} {oc19 kV19 dc19 pm19 cd19 ct19 : Value}
    {f20 : Addr} {od20 an20 : Option Addr} {sl20 : Array (Option Value)} {oc20 kV20 dc20 pm20 cd20 ct20 : Value}
    {f21 : Addr} {od21 an21 : Option Addr} {sl21 : Array (Option Value)} {oc21 kV21 dc21 pm21 cd21 ct21 : Value}
    {f22 : Addr} {od22 an22 : Option Addr} {sl22 : Array (Option Value)} {oc22 kV22 dc22 pm22 cd22 ct22 : Value}
    {f23 : Addr} {od23 an23 : Option Addr} {sl23 : Array (Option Value)} {oc23 kV23 dc23 pm23 cd23 ct23 : Value}
    {tMOST_NAME : Tok}
    {tMOST_PEOPLE : Tok}
    {tMOST_ADDRESSES : Tok}
    {tMOST_LISTS : Tok}
    {tMOST_HOUSES : Tok}
    {tMOST_LINKS : Tok}
    {tMOST_DELAY : Tok}
    {tLEAST_MOST : Tok}
    {tGREATEST_MOST : Tok}
    {tSMALL_LETTERS : Tok}
    {tNOBODYS_NAME : Tok}
    {aW : Addr} {odW : Option Addr} {slW : Array (Option Value)} {nW : Nat} {tw1 tw2 tw3 : Tok}
    (a0 : PySem.W.nsIn K mainGlobals "is_number" = some (some (.ref f0)))
    (l0 : K.lookup f0 = some ⟨oc0, od0, .func (PySem.W.fnOf "is_number" "is_number" (defArgs s_is_number) (defBody s_is_number) (defScope s_is_number) .none kV0 dc0 pm0 an0 cd0 ct0), sl0⟩)
    (c0 : PySem.W.codeIn K cd0 "is_number" = true)
    (k0 : PySem.W.keepIn K (.ref f0) = true)
    (a1 : PySem.W.nsIn K mainGlobals "is_within" = some (some (.ref f1)))
    (l1 : K.lookup f1 = some ⟨oc1, od1, .func (PySem.W.fnOf "is_within" "is_within" (defArgs s_is_within) (defBody s_is_within) (defScope s_is_within) .none kV1 dc1 pm1 an1 cd1 ct1), sl1⟩)
    (c1 : PySem.W.codeIn K cd1 "is_within" = true)
    (k1 : PySem.W.keepIn K (.ref f1) = true)
    (a2 : PySem.W.nsIn K mainGlobals "is_name" = some (some (.ref f2)))
    (l2 : K.lookup f2 = some ⟨oc2, od2, .func (PySem.W.fnOf "is_name" "is_name" (defArgs s_is_name) (defBody s_is_name) (defScope s_is_name) .none kV2 dc2 pm2 an2 cd2 ct2), sl2⟩)
    (c2 : PySem.W.codeIn K cd2 "is_name" = true)
    (k2 : PySem.W.keepIn K (.ref f2) = true)
    (a3 : PySem.W.nsIn K mainGlobals "is_tuple" = some (some (.ref f3)))
    (l3 : K.lookup f3 = some ⟨oc3, od3, .func (PySem.W.fnOf "is_tuple" "is_tuple" (defArgs s_is_tuple) (defBody s_is_tuple) (defScope s_is_tuple) .none kV3 dc3 pm3 an3 cd3 ct3), sl3⟩)
    (c3 : PySem.W.codeIn K cd3 "is_tuple" = true)
    (k3 : PySem.W.keepIn K (.ref f3) = true)
    (a4 : PySem.W.nsIn K mainGlobals "all_unlike" = some (some (.ref f4)))
    (l4 : K.lookup f4 = some ⟨oc4, od4, .func (PySem.W.fnOf "all_unlike" "all_unlike" (defArgs s_all_unlike) (defBody s_all_unlike) (defScope s_all_unlike) .none kV4 dc4 pm4 an4 cd4 ct4), sl4⟩)
    (c4 : PySem.W.codeIn K cd4 "all_unlike" = true)
    (k4 : PySem.W.keepIn K (.ref f4) = true)
    (a5 : PySem.W.nsIn K mainGlobals "is_address" = some (some (.ref f5)))
    (l5 : K.lookup f5 = some ⟨oc5, od5, .func (PySem.W.fnOf "is_address" "is_address" (defArgs s_is_address) (defBody s_is_address) (defScope s_is_address) .none kV5 dc5 pm5 an5 cd5 ct5), sl5⟩)
    (c5 : PySem.W.codeIn K cd5 "is_address" = true)
    (k5 : PySem.W.keepIn K (.ref f5) = true)
    (a6 : PySem.W.nsIn K mainGlobals "is_people" = some (some (.ref f6)))
    (l6 : K.lookup f6 = some ⟨oc6, od6, .func (PySem.W.fnOf "is_people" "is_people" (defArgs s_is_people) (defBody s_is_people) (defScope s_is_people) .none kV6 dc6 pm6 an6 cd6 ct6), sl6⟩)
    (c6 : PySem.W.codeIn K cd6 "is_people" = true)
    (k6 : PySem.W.keepIn K (.ref f6) = true)
    (a7 : PySem.W.nsIn K mainGlobals "is_list_of_house" = some (some (.ref f7)))
    (l7 : K.lookup f7 = some ⟨oc7, od7, .func (PySem.W.fnOf "is_list_of_house" "is_list_of_house" (defArgs s_is_list_of_house) (defBody s_is_list_of_house) (defScope s_is_list_of_house) .none kV7 dc7 pm7 an7 cd7 ct7), sl7⟩)
    (c7 : PySem.W.codeIn K cd7 "is_list_of_house" = true)
    (k7 : PySem.W.keepIn K (.ref f7) = true)
    (a8 : PySem.W.nsIn K mainGlobals "is_lists" = some (some (.ref f8)))
    (l8 : K.lookup f8 = some ⟨oc8, od8, .func (PySem.W.fnOf "is_lists" "is_lists" (defArgs s_is_lists) (defBody s_is_lists) (defScope s_is_lists) .none kV8 dc8 pm8 an8 cd8 ct8), sl8⟩)
    (c8 : PySem.W.codeIn K cd8 "is_lists" = true)
    (k8 : PySem.W.keepIn K (.ref f8) = true)
    (a9 : PySem.W.nsIn K mainGlobals "is_ways" = some (some (.ref f9)))
    (l9 : K.lookup f9 = some ⟨oc9, od9, .func (PySem.W.fnOf "is_ways" "is_ways" (defArgs s_is_ways) (defBody s_is_ways) (defScope s_is_ways) .none kV9 dc9 pm9 an9 cd9 ct9), sl9⟩)
    (c9 : PySem.W.codeIn K cd9 "is_ways" = true)
    (k9 : PySem.W.keepIn K (.ref f9) = true)
    (a10 : PySem.W.nsIn K mainGlobals "is_house" = some (some (.ref f10)))
    (l10 : K.lookup f10 = some ⟨oc10, od10, .func (PySem.W.fnOf "is_house" "is_house" (defArgs s_is_house) (defBody s_is_house) (defScope s_is_house) .none kV10 dc10 pm10 an10 cd10 ct10), sl10⟩)
    (c10 : PySem.W.codeIn K cd10 "is_house" = true)
    (k10 : PySem.W.keepIn K (.ref f10) = true)
    (a11 : PySem.W.nsIn K mainGlobals "is_houses" = some (some (.ref f11)))
    (l11 : K.lookup f11 = some ⟨oc11, od11, .func (PySem.W.fnOf "is_houses" "is_houses" (defArgs s_is_houses) (defBody s_is_houses) (defScope s_is_houses) .none kV11 dc11 pm11 an11 cd11 ct11), sl11⟩)
    (c11 : PySem.W.codeIn K cd11 "is_houses" = true)
    (k11 : PySem.W.keepIn K (.ref f11) = true)
    (a12 : PySem.W.nsIn K mainGlobals "is_link" = some (some (.ref f12)))
    (l12 : K.lookup f12 = some ⟨oc12, od12, .func (PySem.W.fnOf "is_link" "is_link" (defArgs s_is_link) (defBody s_is_link) (defScope s_is_link) .none kV12 dc12 pm12 an12 cd12 ct12), sl12⟩)
    (c12 : PySem.W.codeIn K cd12 "is_link" = true)
    (k12 : PySem.W.keepIn K (.ref f12) = true)
    (a13 : PySem.W.nsIn K mainGlobals "is_links" = some (some (.ref f13)))
    (l13 : K.lookup f13 = some ⟨oc13, od13, .func (PySem.W.fnOf "is_links" "is_links" (defArgs s_is_links) (defBody s_is_links) (defScope s_is_links) .none kV13 dc13 pm13 an13 cd13 ct13), sl13⟩)
    (c13 : PySem.W.codeIn K cd13 "is_links" = true)
    (k13 : PySem.W.keepIn K (.ref f13) = true)
    (a14 : PySem.W.nsIn K mainGlobals "is_plan" = some (some (.ref f14)))
    (l14 : K.lookup f14 = some ⟨oc14, od14, .func (PySem.W.fnOf "is_plan" "is_plan" (defArgs s_is_plan) (defBody s_is_plan) (defScope s_is_plan) .none kV14 dc14 pm14 an14 cd14 ct14), sl14⟩)
    (c14 : PySem.W.codeIn K cd14 "is_plan" = true)
    (k14 : PySem.W.keepIn K (.ref f14) = true)
    (a15 : PySem.W.nsIn K mainGlobals "_law_begin" = some (some (.ref f15)))
    (l15 : K.lookup f15 = some ⟨oc15, od15, .func (PySem.W.fnOf "_law_begin" "_law_begin" (defArgs s_l_begin) (defBody s_l_begin) (defScope s_l_begin) .none kV15 dc15 pm15 an15 cd15 ct15), sl15⟩)
    (c15 : PySem.W.codeIn K cd15 "_law_begin" = true)
    (k15 : PySem.W.keepIn K (.ref f15) = true)
    (a16 : PySem.W.nsIn K mainGlobals "_law_take" = some (some (.ref f16)))
    (l16 : K.lookup f16 = some ⟨oc16, od16, .func (PySem.W.fnOf "_law_take" "_law_take" (defArgs s_l_take) (defBody s_l_take) (defScope s_l_take) .none kV16 dc16 pm16 an16 cd16 ct16), sl16⟩)
    (c16 : PySem.W.codeIn K cd16 "_law_take" = true)
    (k16 : PySem.W.keepIn K (.ref f16) = true)
    (a17 : PySem.W.nsIn K mainGlobals "_law_names" = some (some (.ref f17)))
    (l17 : K.lookup f17 = some ⟨oc17, od17, .func (PySem.W.fnOf "_law_names" "_law_names" (defArgs s_l_names) (defBody s_l_names) (defScope s_l_names) .none kV17 dc17 pm17 an17 cd17 ct17), sl17⟩)
    (c17 : PySem.W.codeIn K cd17 "_law_names" = true)
    (k17 : PySem.W.keepIn K (.ref f17) = true)
    (a18 : PySem.W.nsIn K mainGlobals "_law_with" = some (some (.ref f18)))
    (l18 : K.lookup f18 = some ⟨oc18, od18, .func (PySem.W.fnOf "_law_with" "_law_with" (defArgs s_l_with) (defBody s_l_with) (defScope s_l_with) .none kV18 dc18 pm18 an18 cd18 ct18), sl18⟩)
    (c18 : PySem.W.codeIn K cd18 "_law_with" = true)
    (k18 : PySem.W.keepIn K (.ref f18) = true)
    (a19 : PySem.W.nsIn K mainGlobals "_law_house" = some (some (.ref f19)))
    (l19 : K.lookup f19 = some ⟨oc19, od19, .func (PySem.W.fnOf "_law_house" "_law_house" (defArgs s_l_house) (defBody s_l_house) (defScope s_l_house) .none kV19 dc19 pm19 an19 cd19 ct19), sl19⟩)
    (c19 : PySem.W.codeIn K cd19 "_law_house" = true)
    (k19 : PySem.W.keepIn K (.ref f19) = true)
    (a20 : PySem.W.nsIn K mainGlobals "_law_sizes_right" = some (some (.ref f20)))
    (l20 : K.lookup f20 = some ⟨oc20, od20, .func (PySem.W.fnOf "_law_sizes_right" "_law_sizes_right" (defArgs s_l_sizes_right) (defBody s_l_sizes_right) (defScope s_l_sizes_right) .none kV20 dc20 pm20 an20 cd20 ct20), sl20⟩)
    (c20 : PySem.W.codeIn K cd20 "_law_sizes_right" = true)
    (k20 : PySem.W.keepIn K (.ref f20) = true)
    (a21 : PySem.W.nsIn K mainGlobals "_law_numbers_right" = some (some (.ref f21)))
    (l21 : K.lookup f21 = some ⟨oc21, od21, .func (PySem.W.fnOf "_law_numbers_right" "_law_numbers_right" (defArgs s_l_numbers_right) (defBody s_l_numbers_right) (defScope s_l_numbers_right) .none kV21 dc21 pm21 an21 cd21 ct21), sl21⟩)
    (c21 : PySem.W.codeIn K cd21 "_law_numbers_right" = true)
    (k21 : PySem.W.keepIn K (.ref f21) = true)
    (a22 : PySem.W.nsIn K mainGlobals "_law_alike_right" = some (some (.ref f22)))
    (l22 : K.lookup f22 = some ⟨oc22, od22, .func (PySem.W.fnOf "_law_alike_right" "_law_alike_right" (defArgs s_l_alike_right) (defBody s_l_alike_right) (defScope s_l_alike_right) .none kV22 dc22 pm22 an22 cd22 ct22), sl22⟩)
    (c22 : PySem.W.codeIn K cd22 "_law_alike_right" = true)
    (k22 : PySem.W.keepIn K (.ref f22) = true)
    (a23 : PySem.W.nsIn K mainGlobals "law" = some (some (.ref f23)))
    (l23 : K.lookup f23 = some ⟨oc23, od23, .func (PySem.W.fnOf "law" "law" (defArgs s_law) (defBody s_law) (defScope s_law) .none kV23 dc23 pm23 an23 cd23 ct23), sl23⟩)
    (c23 : PySem.W.codeIn K cd23 "law" = true)
    (k23 : PySem.W.keepIn K (.ref f23) = true)
    (gMOST_NAME : PySem.W.nsIn K mainGlobals "MOST_NAME" = some (some (.int 8 tMOST_NAME)))
    (gMOST_PEOPLE : PySem.W.nsIn K mainGlobals "MOST_PEOPLE" = some (some (.int 4 tMOST_PEOPLE)))
    (gMOST_ADDRESSES : PySem.W.nsIn K mainGlobals "MOST_ADDRESSES" = some (some (.int 4 tMOST_ADDRESSES)))
    (gMOST_LISTS : PySem.W.nsIn K mainGlobals "MOST_LISTS" = some (some (.int 3 tMOST_LISTS)))
    (gMOST_HOUSES : PySem.W.nsIn K mainGlobals "MOST_HOUSES" = some (some (.int 5 tMOST_HOUSES)))
    (gMOST_LINKS : PySem.W.nsIn K mainGlobals "MOST_LINKS" = some (some (.int 8 tMOST_LINKS)))
    (gMOST_DELAY : PySem.W.nsIn K mainGlobals "MOST_DELAY" = some (some (.int 4 tMOST_DELAY)))
    (gLEAST_MOST : PySem.W.nsIn K mainGlobals "LEAST_MOST" = some (some (.int 400 tLEAST_MOST)))
    (gGREATEST_MOST : PySem.W.nsIn K mainGlobals "GREATEST_MOST" = some (some (.int 9000 tGREATEST_MOST)))
    (gSMALL_LETTERS : PySem.W.nsIn K mainGlobals "SMALL_LETTERS" = some (some (.str "abcdefghijklmnopqrstuvwxyz" tSMALL_LETTERS)))
    (gNOBODYS_NAME : PySem.W.nsIn K mainGlobals "NOBODYS_NAME" = some (some (.str "post" tNOBODYS_NAME)))
    (gWAYS : PySem.W.nsIn K mainGlobals "WAYS" = some (some (.ref aW)))
    (lW : K.lookup aW = some ⟨.type "tuple", odW, .seq #[.str "plain" tw1, .str "marked" tw2, .str "packed" tw3] nW, slW⟩)
    (z_isinstance : PySem.W.nsIn K mainGlobals "isinstance" = some none)
    (z_int : PySem.W.nsIn K mainGlobals "int" = some none)
    (z_bool : PySem.W.nsIn K mainGlobals "bool" = some none)
    (z_str : PySem.W.nsIn K mainGlobals "str" = some none)
    (z_tuple : PySem.W.nsIn K mainGlobals "tuple" = some none)
    (z_list : PySem.W.nsIn K mainGlobals "list" = some none)
    (z_len : PySem.W.nsIn K mainGlobals "len" = some none)
    (z_all : PySem.W.nsIn K mainGlobals "all" = some none)
    (z_set : PySem.W.nsIn K mainGlobals "set" = some none)
    (z_sorted : PySem.W.nsIn K mainGlobals "sorted" = some none)
    (z_range : PySem.W.nsIn K mainGlobals "range" = some none)
    (z_divmod : PySem.W.nsIn K mainGlobals "divmod" = some none) :
    ∃ fd : FuncData, (∀ (s : Shared) (v : Value), BindsTo s fd ⟨[v], []⟩ [("_law_script", v)]) ∧ ∀ base : Heap, K.In base → base.Ns mainGlobals mg → FnOk l.prog w K mg base L2.CX0 12 fa fd ["_law_script"] (spLaw K) := by
  have e := hfa.symm.trans (PySem.W.mg_of X G a23)
  cases e
  have T : Tx K mg aW := ⟨PySem.W.mg_none_of X G z_isinstance, PySem.W.mg_none_of X G z_int, PySem.W.mg_none_of X G z_bool, PySem.W.mg_none_of X G z_str, PySem.W.mg_none_of X G z_tuple, PySem.W.mg_none_of X G z_list, PySem.W.mg_none_of X G z_len, PySem.W.mg_none_of X G z_all, PySem.W.mg_none_of X G z_set, PySem.W.mg_none_of X G z_sorted, ⟨_, PySem.W.mg_of X G gMOST_NAME, ⟨_, rfl⟩⟩, ⟨_, PySem.W.mg_of X G gSMALL_LETTERS, ⟨_, rfl⟩⟩, ⟨_, PySem.W.mg_of X G gMOST_PEOPLE, ⟨_, rfl⟩⟩, ⟨_, PySem.W.mg_of X G gMOST_ADDRESSES, ⟨_, rfl⟩⟩, ⟨_, PySem.W.mg_of X G gMOST_LISTS, ⟨_, rfl⟩⟩, ⟨_, PySem.W.mg_of X G gMOST_HOUSES, ⟨_, rfl⟩⟩, ⟨_, PySem.W.mg_of X G gMOST_LINKS, ⟨_, rfl⟩⟩, ⟨_, PySem.W.mg_of X G gMOST_DELAY, ⟨_, rfl⟩⟩, ⟨_, PySem.W.mg_of X G gLEAST_MOST, ⟨_, rfl⟩⟩, ⟨_, PySem.W.mg_of X G gGREATEST_MOST, ⟨_, rfl⟩⟩, ⟨_, PySem.W.mg_of X G gNOBODYS_NAME, ⟨_, rfl⟩⟩, ⟨_, PySem.W.mg_of X G gWAYS, rfl⟩, fun H => .tup (xs := [V.str "plain", V.str "marked", V.str "packed"]) (.inr ⟨_, _, _, lW, rfl, rfl, (by show 3 ≤ sizeLine; decide), .cons ⟨_, rfl⟩ (.cons ⟨_, rfl⟩ (.cons ⟨_, rfl⟩ .nil))⟩) (.cons (.str _) (.cons (.str _) (.cons (.str _) .nil)))⟩
  have D0 : Dfn K mg "is_number" s_is_number ["thing"] := ⟨f0, _, fun_mk (st := s_is_number) l0 c0 k0, PySem.W.mg_of X G a0, (fun_mk (st := s_is_number) l0 c0 k0).binds (ps := ["thing"]) fun _ _ _ _ _ _ us hl => match us, hl with | [_], _ => rfl⟩
  have D1 : Dfn K mg "is_within" s_is_within ["thing", "least", "most"] := ⟨f1, _, fun_mk (st := s_is_within) l1 c1 k1, PySem.W.mg_of X G a1, (fun_mk (st := s_is_within) l1 c1 k1).binds (ps := ["thing", "least", "most"]) fun _ _ _ _ _ _ us hl => match us, hl with | [_, _, _], _ => rfl⟩
  have D2 : Dfn K mg "is_name" s_is_name ["thing"] := ⟨f2, _, fun_mk (st := s_is_name) l2 c2 k2, PySem.W.mg_of X G a2, (fun_mk (st := s_is_name) l2 c2 k2).binds (ps := ["thing"]) fun _ _ _ _ _ _ us hl => match us, hl with | [_], _ => rfl⟩
  have D3 : Dfn K mg "is_tuple" s_is_tuple ["thing", "least", "most"] := ⟨f3, _, fun_mk (st := s_is_tuple) l3 c3 k3, PySem.W.mg_of X G a3, (fun_mk (st := s_is_tuple) l3 c3 k3).binds (ps := ["thing", "least", "most"]) fun _ _ _ _ _ _ us hl => match us, hl with | [_, _, _], _ => rfl⟩
  have D4 : Dfn K mg "all_unlike" s_all_unlike ["things"] := ⟨f4, _, fun_mk (st := s_all_unlike) l4 c4 k4, PySem.W.mg_of X G a4, (fun_mk (st := s_all_unlike) l4 c4 k4).binds (ps := ["things"]) fun _ _ _ _ _ _ us hl => match us, hl with | [_], _ => rfl⟩
  have D5 : Dfn K mg "is_address" s_is_address ["thing"] := ⟨f5, _, fun_mk (st := s_is_address) l5 c5 k5, PySem.W.mg_of X G a5, (fun_mk (st := s_is_address) l5 c5 k5).binds (ps := ["thing"]) fun _ _ _ _ _ _ us hl => match us, hl with | [_], _ => rfl⟩
  have D6 : Dfn K mg "is_people" s_is_people ["thing"] := ⟨f6, _, fun_mk (st := s_is_people) l6 c6 k6, PySem.W.mg_of X G a6, (fun_mk (st := s_is_people) l6 c6 k6).binds (ps := ["thing"]) fun _ _ _ _ _ _ us hl => match us, hl with | [_], _ => rfl⟩
  have D7 : Dfn K mg "is_list_of_house" s_is_list_of_house ["thing"] := ⟨f7, _, fun_mk (st := s_is_list_of_house) l7 c7 k7, PySem.W.mg_of X G a7, (fun_mk (st := s_is_list_of_house) l7 c7 k7).binds (ps := ["thing"]) fun _ _ _ _ _ _ us hl => match us, hl with | [_], _ => rfl⟩
  have D8 : Dfn K mg "is_lists" s_is_lists ["thing"] := ⟨f8, _, fun_mk (st := s_is_lists) l8 c8 k8, PySem.W.mg_of X G a8, (fun_mk (st := s_is_lists) l8 c8 k8).binds (ps := ["thing"]) fun _ _ _ _ _ _ us hl => match us, hl with | [_], _ => rfl⟩
  have D9 : Dfn K mg "is_ways" s_is_ways ["thing"] := ⟨f9, _, fun_mk (st := s_is_ways) l9 c9 k9, PySem.W.mg_of X G a9, (fun_mk (st := s_is_ways) l9 c9 k9).binds (ps := ["thing"]) fun _ _ _ _ _ _ us hl => match us, hl with | [_], _ => rfl⟩
  have D10 : Dfn K mg "is_house" s_is_house ["thing"] := ⟨f10, _, fun_mk (st := s_is_house) l10 c10 k10, PySem.W.mg_of X G a10, (fun_mk (st := s_is_house) l10 c10 k10).binds (ps := ["thing"]) fun _ _ _ _ _ _ us hl => match us, hl with | [_], _ => rfl⟩
  have D11 : Dfn K mg "is_houses" s_is_houses ["thing"] := ⟨f11, _, fun_mk (st := s_is_houses) l11 c11 k11, PySem.W.mg_of X G a11, (fun_mk (st := s_is_houses) l11 c11 k11).binds (ps := ["thing"]) fun _ _ _ _ _ _ us hl => match us, hl with | [_], _ => rfl⟩
  have D12 : Dfn K mg "is_link" s_is_link ["thing", "names"] := ⟨f12, _, fun_mk (st := s_is_link) l12 c12 k12, PySem.W.mg_of X G a12, (fun_mk (st := s_is_link) l12 c12 k12).binds (ps := ["thing", "names"]) fun _ _ _ _ _ _ us hl => match us, hl with | [_, _], _ => rfl⟩
  have D13 : Dfn K mg "is_links" s_is_links ["thing", "names"] := ⟨f13, _, fun_mk (st := s_is_links) l13 c13 k13, PySem.W.mg_of X G a13, (fun_mk (st := s_is_links) l13 c13 k13).binds (ps := ["thing", "names"]) fun _ _ _ _ _ _ us hl => match us, hl with | [_, _], _ => rfl⟩
  have D14 : Dfn K mg "is_plan" s_is_plan ["thing"] := ⟨f14, _, fun_mk (st := s_is_plan) l14 c14 k14, PySem.W.mg_of X G a14, (fun_mk (st := s_is_plan) l14 c14 k14).binds (ps := ["thing"]) fun _ _ _ _ _ _ us hl => match us, hl with | [_], _ => rfl⟩
  have D15 : Dfn K mg "_law_begin" s_l_begin ["_law_script"] := ⟨f15, _, fun_mk (st := s_l_begin) l15 c15 k15, PySem.W.mg_of X G a15, (fun_mk (st := s_l_begin) l15 c15 k15).binds (ps := ["_law_script"]) fun _ _ _ _ _ _ us hl => match us, hl with | [_], _ => rfl⟩
  have D16 : Dfn K mg "_law_take" s_l_take ["_law_state", "_law_size"] := ⟨f16, _, fun_mk (st := s_l_take) l16 c16 k16, PySem.W.mg_of X G a16, (fun_mk (st := s_l_take) l16 c16 k16).binds (ps := ["_law_state", "_law_size"]) fun _ _ _ _ _ _ us hl => match us, hl with | [_, _], _ => rfl⟩
  have D17 : Dfn K mg "_law_names" s_l_names ["_law_state", "_law_count"] := ⟨f17, _, fun_mk (st := s_l_names) l17 c17 k17, PySem.W.mg_of X G a17, (fun_mk (st := s_l_names) l17 c17 k17).binds (ps := ["_law_state", "_law_count"]) fun _ _ _ _ _ _ us hl => match us, hl with | [_, _], _ => rfl⟩
  have D18 : Dfn K mg "_law_with" s_l_with ["_law_n", "_law_changes"] := ⟨f18, _, fun_mk (st := s_l_with) l18 c18 k18, PySem.W.mg_of X G a18, (fun_mk (st := s_l_with) l18 c18 k18).binds (ps := ["_law_n", "_law_changes"]) fun _ _ _ _ _ _ us hl => match us, hl with | [_, _], _ => rfl⟩
  have D19 : Dfn K mg "_law_house" s_l_house ["_law_name"] := ⟨f19, _, fun_mk (st := s_l_house) l19 c19 k19, PySem.W.mg_of X G a19, (fun_mk (st := s_l_house) l19 c19 k19).binds (ps := ["_law_name"]) fun _ _ _ _ _ _ us hl => match us, hl with | [_], _ => rfl⟩
  have D20 : Dfn K mg "_law_sizes_right" s_l_sizes_right ["_law_n"] := ⟨f20, _, fun_mk (st := s_l_sizes_right) l20 c20 k20, PySem.W.mg_of X G a20, (fun_mk (st := s_l_sizes_right) l20 c20 k20).binds (ps := ["_law_n"]) fun _ _ _ _ _ _ us hl => match us, hl with | [_], _ => rfl⟩
  have D21 : Dfn K mg "_law_numbers_right" s_l_numbers_right ["_law_n"] := ⟨f21, _, fun_mk (st := s_l_numbers_right) l21 c21 k21, PySem.W.mg_of X G a21, (fun_mk (st := s_l_numbers_right) l21 c21 k21).binds (ps := ["_law_n"]) fun _ _ _ _ _ _ us hl => match us, hl with | [_], _ => rfl⟩
  have D22 : Dfn K mg "_law_alike_right" s_l_alike_right ["_law_n"] := ⟨f22, _, fun_mk (st := s_l_alike_right) l22 c22 k22, PySem.W.mg_of X G a22, (fun_mk (st := s_l_alike_right) l22 c22 k22).binds (ps := ["_law_n"]) fun _ _ _ _ _ _ us hl => match us, hl with | [_], _ => rfl⟩
  refine ⟨PySem.W.fnOf "law" "law" (defArgs s_law) (defBody s_law) (defScope s_law) .none kV23 dc23 pm23 an23 cd23 ct23, fun s v => .of_eq rfl, fun base _ _ => ?_⟩
  have Ty' : Ty mg := ⟨PySem.W.mg_none_of X G z_len, PySem.W.mg_none_of X G z_divmod⟩
  have Tn' : Tn mg := ⟨PySem.W.mg_none_of X G z_len, PySem.W.mg_none_of X G z_range⟩
  have Tr' : Tr mg := ⟨PySem.W.mg_none_of X G z_len, PySem.W.mg_none_of X G z_range, PySem.W.mg_none_of X G z_tuple, PySem.W.mg_none_of X G z_isinstance, PySem.W.mg_none_of X G z_bool⟩
  have Tb' : Tb mg := ⟨PySem.W.mg_none_of X G z_list, PySem.W.mg_none_of X G z_range⟩
  have C_is_number := c_is_number (P := l.prog) (w := w) (base := base) T D0 
  have C_is_within := c_is_within (P := l.prog) (w := w) (base := base) T D1 C_is_number
  have C_is_tuple := c_is_tuple (P := l.prog) (w := w) (base := base) T D3 
  have C_is_name := c_is_name (P := l.prog) (w := w) (base := base) T D2 
  have C_all_unlike := c_all_unlike (P := l.prog) (w := w) (base := base) T D4 
  have C_is_address := c_is_address (P := l.prog) (w := w) (base := base) T D5 C_is_tuple C_is_name
  have C_is_people := c_is_people (P := l.prog) (w := w) (base := base) T D6 C_is_tuple C_is_name
  have C_is_list_of_house := c_is_list_of_house (P := l.prog) (w := w) (base := base) T D7 C_is_tuple C_is_name C_is_address C_all_unlike
  have C_is_lists := c_is_lists (P := l.prog) (w := w) (base := base) T D8 C_is_tuple C_is_list_of_house
  have C_is_ways := c_is_ways (P := l.prog) (w := w) (base := base) T D9 C_is_tuple
  have C_is_link := c_is_link (P := l.prog) (w := w) (base := base) T D12 C_is_tuple C_is_within
  have C_is_house := c_is_house (P := l.prog) (w := w) (base := base) T D10 C_is_tuple C_is_name C_is_people C_is_lists C_all_unlike C_is_ways C_is_within
  have C_is_houses := c_is_houses (P := l.prog) (w := w) (base := base) T D11 C_is_tuple C_is_house C_all_unlike
  have C_is_links := c_is_links (P := l.prog) (w := w) (base := base) T D13 C_is_tuple C_is_link C_all_unlike
  have C_is_plan := c_is_plan (P := l.prog) (w := w) (base := base) T D14 C_is_tuple C_is_houses C_is_links
  have C_l_house := c_l_house (P := l.prog) (w := w) (base := base) T D19 
  have C_l_with := c_l_with (P := l.prog) (w := w) (base := base) T D18 C_is_plan
  have C_l_take := c_l_take (P := l.prog) (w := w) (base := base) Ty' D16 
  have C_l_names := c_l_names (P := l.prog) (w := w) (base := base) Tn' D17 C_l_take
  have C_l_alike_right := c_l_alike_right (P := l.prog) (w := w) (base := base) Tr' D22 C_l_house C_l_with
  have C_l_numbers_right := c_l_numbers_right (P := l.prog) (w := w) (base := base) Tr' D21 C_l_house C_l_with
  have C_l_sizes_right := c_l_sizes_right (P := l.prog) (w := w) (base := base) Tr' D20 C_l_house C_l_with
  have C_l_begin := c_l_begin (P := l.prog) (w := w) (base := base) Tb' D15 
  exact ok_law Tb' (fun_mk (st := s_law) l23 c23 k23) C_l_begin C_l_names C_l_sizes_right C_l_numbers_right C_l_alike_right C_l_with

end K13
open PySem PyProof.Rows PySem.W
set_option maxRecDepth 120000 in
set_option maxHeartbeats 0 in
theorem PySem.Challenge.cw_letterhall_k13_plans_at_their_bounds_holds : PySem.Challenge.rw_letterhall_k13_plans_at_their_bounds.Holds := by
  w_on
  o_law
  k_head
  (case hw => w_witness2)
  k_fill
  refine L2.walk_of (l := PySem.Challenge.rw_letterhall_k13_plans_at_their_bounds) (n := 63) (k := 12) (x := "_law_script") (CX := fun _ => L2.CX0) (sp := fun w => K13.spLaw _) rfl (by decide) rfl ⟨rfl, by decide, by decide⟩ (fun w h Y => PySem.W.kIn_of Y) ?F (fun _ _ a ns hl _ hS => ⟨a, ns, rfl, hS, hl, fun _ => rfl⟩) (fun _ _ _ _ _ h => h)
  case F =>
    intro w mg fa h KX G hmg
    refine' K13.all_mk KX G hmg ?a0 ?l0 ?c0 ?k0 ?a1 ?l1 ?c1 ?k1 ?a2 ?l2 ?c2 ?k2 ?a3 ?l3 ?c3 ?k3 ?a4 ?l4 ?c4 ?k4 ?a5 ?l5 ?c5 ?k5 ?a6 ?l6 ?c6 ?k6 ?a7 ?l7 ?c7 ?k7 ?a8 ?l8 ?c8 ?k8 ?a9 ?l9 ?c9 ?k9 ?a10 ?l10 ?c10 ?k10 ?a11 ?l11 ?c11 ?k11 ?a12 ?l12 ?c12 ?k12 ?a13 ?l13 ?c13 ?k13 ?a14 ?l14 ?c14 ?k14 ?a15 ?l15 ?c15 ?k15 ?a16 ?l16 ?c16 ?k16 ?a17 ?l17 ?c17 ?k17 ?a18 ?l18 ?c18 ?k18 ?a19 ?l19 ?c19 ?k19 ?a20 ?l20 ?c20 ?k20 ?a21 ?l21 ?c21 ?k21 ?a22 ?l22 ?c22 ?k22 ?a23 ?l23 ?c23 ?k23 ?gMOST_NAME ?gMOST_PEOPLE ?gMOST_ADDRESSES ?gMOST_LISTS ?gMOST_HOUSES ?gMOST_LINKS ?gMOST_DELAY ?gLEAST_MOST ?gGREATEST_MOST ?gSMALL_LETTERS ?gNOBODYS_NAME ?gWAYS ?lW ?z_isinstance ?z_int ?z_bool ?z_str ?z_tuple ?z_list ?z_len ?z_all ?z_set ?z_sorted ?z_range ?z_divmod
    (case a0 => k_is)
    (case l0 => k_is)
    (case c0 => k_is)
    (case k0 => k_is)
    (case a1 => k_is)
    (case l1 => k_is)
    (case c1 => k_is)
    (case k1 => k_is)
    (case a2 => k_is)
    (case l2 => k_is)
    (case c2 => k_is)
    (case k2 => k_is)
    (case a3 => k_is)
    (case l3 => k_is)
    (case c3 => k_is)
    (case k3 => k_is)
    (case a4 => k_is)
    (case l4 => k_is)
    (case c4 => k_is)
    (case k4 => k_is)
    (case a5 => k_is)
    (case l5 => k_is)
    (case c5 => k_is)
    (case k5 => k_is)
    (case a6 => k_is)
    (case l6 => k_is)
    (case c6 => k_is)
    (case k6 => k_is)
    (case a7 => k_is)
    (case l7 => k_is)
    (case c7 => k_is)
    (case k7 => k_is)
    (case a8 => k_is)
    (case l8 => k_is)
    (case c8 => k_is)
    (case k8 => k_is)
    (case a9 => k_is)
    (case l9 => k_is)
    (case c9 => k_is)
    (case k9 => k_is)
    (case a10 => k_is)
    (case l10 => k_is)
    (case c10 => k_is)
    (case k10 => k_is)
    (case a11 => k_is)
    (case l11 => k_is)
    (case c11 => k_is)
    (case k11 => k_is)
    (case a12 => k_is)
    (case l12 => k_is)
    (case c12 => k_is)
    (case k12 => k_is)
    (case a13 => k_is)
    (case l13 => k_is)
    (case c13 => k_is)
    (case k13 => k_is)
    (case a14 => k_is)
    (case l14 => k_is)
    (case c14 => k_is)
    (case k14 => k_is)
    (case a15 => k_is)
    (case l15 => k_is)
    (case c15 => k_is)
    (case k15 => k_is)
    (case a16 => k_is)
    (case l16 => k_is)
    (case c16 => k_is)
    (case k16 => k_is)
    (case a17 => k_is)
    (case l17 => k_is)
    (case c17 => k_is)
    (case k17 => k_is)
    (case a18 => k_is)
    (case l18 => k_is)
    (case c18 => k_is)
    (case k18 => k_is)
    (case a19 => k_is)
    (case l19 => k_is)
    (case c19 => k_is)
    (case k19 => k_is)
    (case a20 => k_is)
    (case l20 => k_is)
    (case c20 => k_is)
    (case k20 => k_is)
    (case a21 => k_is)
    (case l21 => k_is)
    (case c21 => k_is)
    (case k21 => k_is)
    (case a22 => k_is)
    (case l22 => k_is)
    (case c22 => k_is)
    (case k22 => k_is)
    (case a23 => k_is)
    (case l23 => k_is)
    (case c23 => k_is)
    (case k23 => k_is)
    (case gMOST_NAME => k_is)
    (case gMOST_PEOPLE => k_is)
    (case gMOST_ADDRESSES => k_is)
    (case gMOST_LISTS => k_is)
    (case gMOST_HOUSES => k_is)
    (case gMOST_LINKS => k_is)
    (case gMOST_DELAY => k_is)
    (case gLEAST_MOST => k_is)
    (case gGREATEST_MOST => k_is)
    (case gSMALL_LETTERS => k_is)
    (case gNOBODYS_NAME => k_is)
    (case gWAYS => k_is)
    (case lW => k_is)
    (case z_isinstance => k_is)
    (case z_int => k_is)
    (case z_bool => k_is)
    (case z_str => k_is)
    (case z_tuple => k_is)
    (case z_list => k_is)
    (case z_len => k_is)
    (case z_all => k_is)
    (case z_set => k_is)
    (case z_sorted => k_is)
    (case z_range => k_is)
    (case z_divmod => k_is)


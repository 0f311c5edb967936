import PyProof.Rows.All
import Wide.All
import OpenK.AllK
import Wide.FinOn
import HandS.ForMost
import HandS.IsInst
import HandS.Walk
import HandS.Conv
import HandS.TupAny
import HandS.Codes
import HandS.More
import HandS.Deep
import PyProof.ReprRoads
import HandS.TupSets
import HandS.Strs
import PyProof.DictUpdate
import HandS.TupMul
import HandS.Style
import PyProof.StrLawsRepr
import PyProof.FitsInt
import HandS.Flow
import PySem.Challenge.RW_letterhall_k04_what_bodies_and_letters_a
import PyProof.Rows.IntBool
import PyProof.CallStr
import PyProof.ListMulRoad
import PyProof.AutoListH
import HandS.Wide
import HandS.StrMore
import OpenK.KMore
import PyProof.Rows.StrCut
import PyProof.FactsAll.bool_2
import HandS.TupLe
set_option Elab.async false
set_option linter.all false
set_option autoImplicit false
set_option maxRecDepth 100000
set_option maxHeartbeats 8000000
/-! A layer of data over the hand layer: an expression that only makes new objects is worth a datum. -/
namespace LH
open PySem PySem.Spec L2 PyProof.Rows
abbrev Dt := PyData
abbrev Env0' := List (Option Dt)
section
variable {K : PySem.W.Frag} {H H' : Hp}
theorem sameT {a : Addr} {xs : List V} (e : Same H H') (h : SqT K H a xs) : SqT K H' a xs := by
  (rcases h with (h | ⟨o, h⟩) | h)
  · exact .inl (.inl (e _ _ h))
  · (exact .inl (.inr ⟨o, e _ _ h⟩))
  · exact .inr h
/-! data, dicts with whole numbers and texts as keys too -/
def keyD : Key → Dt
  | .inl i => .int i
  | .inr x => .str x
mutual
inductive Dq (K : PySem.W.Frag) (H : Hp) : V → PyData → Prop
  | non : Dq K H .non .none
  | bl (b : Bool) : Dq K H (.bl b) (.bool b)
  | int (i : Int) : Dq K H (.int i) (.int i)
  | str (x : Str) : Dq K H (.str x) (.str x)
  | lst {a : Addr} {xs : List V} {ds : List PyData} : SqL K H a xs → DqAll K H xs ds → Dq K H (.ref a) (.list ds)
  | tup {a : Addr} {xs : List V} {ds : List PyData} : SqT K H a xs → DqAll K H xs ds → Dq K H (.ref a) (.tuple ds)
  | dct {a : Addr} {kvs : List (Key × V)} {ds : List (PyData × PyData)} : H a = some (.dK kvs) → DqKv K H kvs ds → Dq K H (.ref a) (.dict ds)
inductive DqAll (K : PySem.W.Frag) (H : Hp) : List V → List PyData → Prop
  | nil : DqAll K H [] []
  | cons {v : V} {vs : List V} {d : PyData} {ds : List PyData} : Dq K H v d → DqAll K H vs ds → DqAll K H (v :: vs) (d :: ds)
inductive DqKv (K : PySem.W.Frag) (H : Hp) : List (Key × V) → List (PyData × PyData) → Prop
  | nil : DqKv K H [] []
  | cons {k : Key} {v : V} {vs : List (Key × V)} {d : PyData} {ds : List (PyData × PyData)} : Dq K H v d → DqKv K H vs ds → DqKv K H ((k, v) :: vs) ((keyD k, d) :: ds)
end
mutual
theorem dqDp : ∀ {v : V} {d : Dt}, PyData.canLay0 d = true → Dq K H v d → Dp K H v d
  | _, _, _, .non => .non
  | _, _, _, .bl b => .bl b
  | _, _, _, .int i => .int i
  | _, _, _, .str x => .str x
  | _, _, h, .lst s a => .lst s (dqDps h a)
  | _, _, h, .tup s a => .tup s (dqDps h a)
  | _, _, h, .dct _ _ => absurd h Bool.false_ne_true
theorem dqDps : ∀ {vs : List V} {ds : List Dt}, PyData.canLayAll0 ds = true → DqAll K H vs ds → DpAll K H vs ds
  | _, _, _, .nil => .nil
  | _, _, h, .cons a t => .cons (dqDp (Bool.and_eq_true_iff.mp h).1 a) (dqDps (Bool.and_eq_true_iff.mp h).2 t)
end
mutual
theorem dpM (e : Same H H') : ∀ {v : V} {d : Dt}, Dq K H v d → Dq K H' v d
  | _, _, .non => .non
  | _, _, .bl b => .bl b
  | _, _, .int i => .int i
  | _, _, .str x => .str x
  | _, _, .lst h a => .lst (e.seq h) (dpsM e a)
  | _, _, .tup h a => .tup (sameT e h) (dpsM e a)
  | _, _, .dct h a => .dct (e _ _ h) (dpkM e a)
theorem dpsM (e : Same H H') : ∀ {vs : List V} {ds : List Dt}, DqAll K H vs ds → DqAll K H' vs ds
  | _, _, .nil => .nil
  | _, _, .cons h t => .cons (dpM e h) (dpsM e t)
theorem dpkM (e : Same H H') : ∀ {vs : List (Key × V)} {ds : List (Dt × Dt)}, DqKv K H vs ds → DqKv K H' vs ds
  | _, _, .nil => .nil
  | _, _, .cons h t => .cons (dpM e h) (dpkM e t)
end
theorem sameU {p : Addr} {o : HO} (h : H p = none) : Same H (upd H p o) := fun b x e => by
  rw [upd_ne (ne_of_none e h)]
  exact e
theorem dpsLen : ∀ {vs : List V} {ds : List Dt}, DqAll K H vs ds → vs.length = ds.length
  | _, _, .nil => rfl
  | _, _, .cons _ t => congrArg (· + 1) (dpsLen t)
theorem dpsGet : ∀ {vs : List V} {ds : List Dt} {i : Nat} {d : Dt}, DqAll K H vs ds → ds[i]? = some d → ∃ v, vs[i]? = some v ∧ Dq K H v d
  | _, _, _, _, .nil, h => by simp at h
  | _, _, 0, _, .cons (v := v) a _, h => ⟨v, rfl, by cases h; exact a⟩
  | _, _, i + 1, _, .cons _ t, h => dpsGet (i := i) t h
theorem dpsGet' : ∀ {vs : List V} {ds : List Dt} {i : Nat} {v : V}, DqAll K H vs ds → vs[i]? = some v → ∃ d, ds[i]? = some d ∧ Dq K H v d
  | _, _, _, _, .nil, h => by simp at h
  | _, _, 0, _, .cons (d := d) a _, h => ⟨d, rfl, by cases h; exact a⟩
  | _, _, i + 1, _, .cons _ t, h => dpsGet' (i := i) t h
theorem dpsApp : ∀ {vs us : List V} {ds es : List Dt}, DqAll K H vs ds → DqAll K H us es → DqAll K H (vs ++ us) (ds ++ es)
  | _, _, _, _, .nil, h => h
  | _, _, _, _, .cons a t, h => .cons a (dpsApp t h)
theorem dpsDrop : ∀ {vs : List V} {ds : List Dt} (n : Nat), DqAll K H vs ds → DqAll K H (vs.drop n) (ds.drop n)
  | _, _, 0, h => h
  | _, _, _ + 1, .nil => .nil
  | _, _, n + 1, .cons _ t => dpsDrop n t
theorem dpsTake : ∀ {vs : List V} {ds : List Dt} (n : Nat), DqAll K H vs ds → DqAll K H (vs.take n) (ds.take n)
  | _, _, 0, h => .nil
  | _, _, _ + 1, .nil => .nil
  | _, _, n + 1, .cons a t => .cons a (dpsTake n t)
/-- the slots, as far as data is told of them -/
structure Sd (K : PySem.W.Frag) (H : Hp) (σ : L2.St) (env : Env0') : Prop where
  len : σ.length = env.length
  at' : ∀ (i : Nat) (d : Dt), env[i]? = some (some d) → ∃ v, σ[i]? = some (some v) ∧ Dq K H v d
variable {σ : L2.St} {env : Env0'}
theorem Sd.mono (h : Sd K H σ env) (e : Same H H') : Sd K H' σ env := ⟨h.len, fun i d z => by
  obtain ⟨v, a, b⟩ := h.at' i d z
  exact ⟨v, a, dpM e b⟩⟩
theorem Sd.set {v : V} {d : Dt} (h : Sd K H σ env) (i : Nat) (hv : Dq K H v d) : Sd K H (σ.set i (some v)) (env.set i (some d)) := ⟨by rw [List.length_set, List.length_set, h.len], fun j e z => by
  rw [List.getElem?_set] at z ⊢
  by_cases hij : i = j
  · rw [if_pos hij] at z ⊢
    rw [← h.len] at z
    by_cases hl : i < σ.length
    · rw [if_pos hl] at z ⊢
      cases z
      exact ⟨v, rfl, hv⟩
    · rw [if_neg hl] at z
      cases z
  · rw [if_neg hij] at z ⊢
    exact h.at' j e z⟩
theorem Sd.drop (h : Sd K H σ env) (i : Nat) : Sd K H (σ.set i none) (env.set i none) := ⟨by rw [List.length_set, List.length_set, h.len], fun j e z => by
  rw [List.getElem?_set] at z ⊢
  by_cases hij : i = j
  · rw [if_pos hij] at z
    split at z <;> cases z
  · rw [if_neg hij] at z ⊢
    exact h.at' j e z⟩
def startD (n : Nat) (ds : List Dt) : Env0' := ds.map some ++ List.replicate (n - ds.length) none
theorem sdStart {N : List Str} {vs : List V} {ds : List Dt} (h : DqAll K H vs ds) : Sd K H (L2.start N vs) (startD N.length ds) := by
  have hl := dpsLen h
  refine ⟨?_, fun i d z => ?_⟩
  · unfold L2.start startD
    rw [List.length_append, List.length_append, List.length_map, List.length_map, List.length_replicate, List.length_replicate, hl]
  · unfold L2.start startD at *
    rw [List.getElem?_append, List.length_map] at z ⊢
    rw [hl]
    by_cases hi : i < ds.length
    · rw [if_pos hi] at z ⊢
      rw [List.getElem?_map] at z ⊢
      cases q : ds[i]? with
      | none => rw [q] at z; cases z
      | some e =>
        rw [q] at z
        cases z
        obtain ⟨v, a, b⟩ := dpsGet h q
        exact ⟨v, by rw [a]; rfl, b⟩
    · rw [if_neg hi] at z
      rw [List.getElem?_replicate] at z
      split at z <;> cases z
end
/-! ### the data's heap G within the whole heap H; both grow, what wasn't data stays none -/
structure Gw (G H G' H' : Hp) : Prop where
  gg : Same G G'
  hh : Same H H'
  gh : Same G' H'
  nw : ∀ a, H a ≠ none → G a = none → G' a = none
section
variable {G H G' H' G2 H2 : Hp}
theorem Gw.refl (h : Same G H) : Gw G H G H := ⟨Same.refl G, Same.refl H, h, fun _ _ e => e⟩
theorem Gw.trans (a : Gw G H G' H') (b : Gw G' H' G2 H2) : Gw G H G2 H2 := ⟨a.gg.trans b.gg, a.hh.trans b.hh, b.gh, fun c h e => by
  refine b.nw c ?_ (a.nw c h e)
  cases q : H c with
  | none => exact absurd q h
  | some o =>
    rw [a.hh c o q]
    exact fun z => nomatch z⟩
theorem Gw.new {p : Addr} {o : HO} (h : Same G H) (np : H p = none) : Gw G H (upd G p o) (upd H p o) := by
  have ng : G p = none := h.free np
  refine ⟨sameU ng, sameU np, fun b x e => ?_, fun a ha e => ?_⟩
  · by_cases hb : b = p
    · subst hb
      rw [upd_same] at e ⊢
      exact e
    · rw [upd_ne hb] at e ⊢
      exact h b x e
  · have hb : a ≠ p := fun z => ha (by rw [z]; exact np)
    rw [upd_ne hb]
    exact e
/-- a new object that is no datum -/
theorem Gw.out {p : Addr} {o : HO} (h : Same G H) (np : H p = none) : Gw G H G (upd H p o) := ⟨Same.refl G, sameU np, fun b x e => by
  have hb : b ≠ p := fun z => by
    rw [z] at e
    exact nomatch (h.free np).symm.trans e
  rw [upd_ne hb]
  exact h b x e, fun _ _ e => e⟩
/-- a new object becomes a datum -/
theorem Gw.put {p : Addr} {o : HO} (a : Gw G H G' H') (np : H p = none) (hp : H' p = some o) (ng : G' p = none) : Gw G H (upd G' p o) H' := ⟨a.gg.trans (sameU ng), a.hh, fun b x e => by
  by_cases hb : b = p
  · subst hb
    rw [upd_same] at e
    rw [hp]
    exact e
  · rw [upd_ne hb] at e
    exact a.gh b x e, fun c hc e => by
  have hb : c ≠ p := fun z => hc (by rw [z]; exact np)
  rw [upd_ne hb]
  exact a.nw c hc e⟩
end
/-! ### what an expression is worth -/
def EvE (K : PySem.W.Frag) (te : TE) (env : Env0') (d : Dt) : Prop := ∀ σ G H, Same G H → Sd K G σ env → ∀ Q : VK, (∀ v G' H', Gw G H G' H' → Dq K G' v d → Q v H') → te σ H Q
/-- a new list, no datum yet -/
def EvN (K : PySem.W.Frag) (te : TE) (env : Env0') (ds : List Dt) : Prop := ∀ σ G H, Same G H → Sd K G σ env → ∀ Q : VK, (∀ p xs G' H', Gw G H G' H' → H p = none → G' p = none → H' p = some (.lst xs) → DqAll K G' xs ds → Q (.ref p) H') → te σ H Q
def EvB (K : PySem.W.Frag) (tt : TT) (env : Env0') (b : Bool) : Prop := ∀ σ G H, Same G H → Sd K G σ env → ∀ Q : Bool → Hp → Prop, (∀ G' H', Gw G H G' H' → Q b H') → tt σ H Q
def EvAs (K : PySem.W.Frag) (ta : TA) (env : Env0') (ds : List Dt) : Prop := ∀ σ G H, Same G H → Sd K G σ env → ∀ Q : List V → Hp → Prop, (∀ vs G' H', Gw G H G' H' → DqAll K G' vs ds → Q vs H') → ta σ H Q
def EvO (K : PySem.W.Frag) (to : TO) (env : Env0') (o : Option Int) : Prop := ∀ σ G H, Same G H → Sd K G σ env → ∀ Q : Option Int → Hp → Prop, (∀ G' H', Gw G H G' H' → Q o H') → to σ H Q
/-- an operation on two data, on some data -/
def RD (K : PySem.W.Frag) (r : R2) (x y z : Dt) : Prop := ∀ a b G H, Same G H → Dq K G a x → Dq K G b y → ∀ Q : VK, (∀ v G' H', Gw G H G' H' → Dq K G' v z → Q v H') → r a b H Q
def RCd (K : PySem.W.Frag) (r : List V → Hp → VK → Prop) (ds : List Dt) (z : Dt) : Prop := ∀ vs G H, Same G H → DqAll K G vs ds → ∀ Q : VK, (∀ v G' H', Gw G H G' H' → Dq K G' v z → Q v H') → r vs H Q
def RCn (K : PySem.W.Frag) (r : List V → Hp → VK → Prop) (ds : List Dt) (zs : List Dt) : Prop := ∀ vs G H, Same G H → DqAll K G vs ds → ∀ Q : VK, (∀ p xs G' H', Gw G H G' H' → H p = none → G' p = none → H' p = some (.lst xs) → DqAll K G' xs zs → Q (.ref p) H') → r vs H Q
/-- a def's promise over data -/
def spF (K : PySem.W.Frag) (f : List Dt → Option Dt) : Sp := fun vs H Q _ => ∃ G ds d, Same G H ∧ DqAll K G vs ds ∧ f ds = some d ∧ ∀ v G' H', Gw G H G' H' → Dq K G' v d → Q v H'
section
variable {K : PySem.W.Frag} {env : Env0'} {ta tb tc te : TE} {t u : TT} {x y z d : Dt} {r r' : R2}
theorem ee_is {d' : Dt} (h : EvE K te env d) (e : d = d') : EvE K te env d' := e ▸ h
theorem eb_is {b b' : Bool} (h : EvB K t env b) (e : b = b') : EvB K t env b' := e ▸ h
theorem en_is {b b' : List Dt} (h : EvN K te env b) (e : b = b') : EvN K te env b' := e ▸ h
theorem ee_of {ds : List Dt} (h : EvN K te env ds) : EvE K te env (.list ds) := fun σ G H gh s Q q => h σ G H gh s Q fun p xs G' H' w np ng hp dx =>
  q _ _ H' (w.put np hp ng) (.lst (.inl (.inl upd_same)) (dpsM (sameU ng) dx))
theorem ee_var {i : Nat} (h : env[i]? = some (some d)) : EvE K (tVar i) env d := fun σ G H gh s Q q => by
  obtain ⟨v, a, b⟩ := s.at' i d h
  exact ⟨v, a, q v G H (Gw.refl gh) b⟩
theorem ee_c {v : V} (h : ∀ H, Dq K H v d) : EvE K (tC v) env d := fun _ G H gh _ _ q => q v G H (Gw.refl gh) (h G)
theorem ee_int {i : Int} : EvE K (tC (.int i)) env (.int i) := ee_c fun _ => .int i
theorem ee_str {i : Str} : EvE K (tC (.str i)) env (.str i) := ee_c fun _ => .str i
theorem ee_bl {i : Bool} : EvE K (tC (.bl i)) env (.bool i) := ee_c fun _ => .bl i
theorem ee_non : EvE K (tC .non) env .none := ee_c fun _ => .non
theorem ee_and {a b : Bool} (h1 : EvE K ta env (.bool a)) (h2 : a = true → EvE K tb env (.bool b)) : EvE K (tAndV ta tb) env (.bool (a && b)) := fun σ G H gh s Q q => h1 σ G H gh s _ fun v G2 H2 e dv => by
  cases dv
  refine ⟨a, rfl, ?_⟩
  cases a with
  | true => exact h2 rfl σ G2 H2 e.gh (s.mono e.gg) Q fun v G3 H3 e3 dv => q v G3 H3 (e.trans e3) dv
  | false => exact q _ G2 H2 e (.bl false)
theorem ee_or {a b : Bool} (h1 : EvE K ta env (.bool a)) (h2 : a = false → EvE K tb env (.bool b)) : EvE K (tOrV ta tb) env (.bool (a || b)) := fun σ G H gh s Q q => h1 σ G H gh s _ fun v G2 H2 e dv => by
  cases dv
  refine ⟨a, rfl, ?_⟩
  cases a with
  | true => exact q _ G2 H2 e (.bl true)
  | false => exact h2 rfl σ G2 H2 e.gh (s.mono e.gg) Q fun v G3 H3 e3 dv => q v G3 H3 (e.trans e3) dv
theorem ee_not {a : Bool} (h1 : EvE K ta env (.bool a)) : EvE K (tNotV ta) env (.bool (!a)) := fun σ G H gh s Q q => h1 σ G H gh s _ fun v G2 H2 e dv => by
  cases dv
  exact ⟨a, rfl, q _ G2 H2 e (.bl _)⟩
theorem eb_test {b : Bool} (h : EvE K te env (.bool b)) : EvB K (tTest te) env b := fun σ G H gh s Q q => h σ G H gh s _ fun v G2 H2 e dv => by
  cases dv
  exact ⟨b, rfl, q G2 H2 e⟩
theorem eb_B {b : Bool} (h : EvE K te env (.bool b)) : EvB K (tB te) env b := fun σ G H gh s Q q => h σ G H gh s _ fun v G2 H2 e dv => by
  cases dv
  exact ⟨b, rfl, q G2 H2 e⟩
theorem eb_and {a b : Bool} (h1 : EvB K t env a) (h2 : a = true → EvB K u env b) : EvB K (tAnd t u) env (a && b) := fun σ G H gh s Q q => h1 σ G H gh s _ fun G2 H2 e => by
  cases a with
  | true => exact h2 rfl σ G2 H2 e.gh (s.mono e.gg) Q fun G3 H3 e3 => q G3 H3 (e.trans e3)
  | false => exact q G2 H2 e
theorem eb_or {a b : Bool} (h1 : EvB K t env a) (h2 : a = false → EvB K u env b) : EvB K (tOr t u) env (a || b) := fun σ G H gh s Q q => h1 σ G H gh s _ fun G2 H2 e => by
  cases a with
  | true => exact q G2 H2 e
  | false => exact h2 rfl σ G2 H2 e.gh (s.mono e.gg) Q fun G3 H3 e3 => q G3 H3 (e.trans e3)
theorem eb_not {a : Bool} (h1 : EvB K t env a) : EvB K (tNot t) env (!a) := fun σ G H gh s Q q => h1 σ G H gh s _ fun G2 H2 e => q G2 H2 e
theorem eb_yes : EvB K tYes env true := fun _ G H gh _ _ q => q G H (Gw.refl gh)
theorem ee_if {b : Bool} (h : EvB K t env b) (h1 : b = true → EvE K ta env d) (h2 : b = false → EvE K tb env d) : EvE K (tIf t ta tb) env d := fun σ G H gh s Q q => h σ G H gh s _ fun G2 H2 e => by
  cases b with
  | true => exact h1 rfl σ G2 H2 e.gh (s.mono e.gg) Q fun v G3 H3 e3 => q v G3 H3 (e.trans e3)
  | false => exact h2 rfl σ G2 H2 e.gh (s.mono e.gg) Q fun v G3 H3 e3 => q v G3 H3 (e.trans e3)
theorem ee_op (ha : EvE K ta env x) (hb : EvE K tb env y) (hr : RD K r x y z) : EvE K (tOp r ta tb) env z := fun σ G H gh s Q q =>
  ha σ G H gh s _ fun v G2 H2 e dv => hb σ G2 H2 e.gh (s.mono e.gg) _ fun u G3 H3 e3 du => hr v u G3 H3 e3.gh (dpM e3.gg dv) du Q fun w G4 H4 e4 dw => q w G4 H4 ((e.trans e3).trans e4) dw
theorem ee_chain {a b : Bool} {c : Dt} (ha : EvE K ta env x) (hb : EvE K tb env y) (hr : RD K r x y (.bool a)) (hc : a = true → EvE K tc env c) (hr' : a = true → RD K r' y c (.bool b)) : EvE K (tChain r r' ta tb tc) env (.bool (a && b)) := fun σ G H gh s Q q =>
  ha σ G H gh s _ fun v G2 H2 e dv => hb σ G2 H2 e.gh (s.mono e.gg) _ fun u G3 H3 e3 du => hr v u G3 H3 e3.gh (dpM e3.gg dv) du _ fun w G4 H4 e4 dw => by
    cases dw
    refine ⟨a, rfl, ?_⟩
    cases a with
    | true => exact hc rfl σ G4 H4 e4.gh (s.mono ((e.trans e3).trans e4).gg) _ fun k G5 H5 e5 dk => hr' rfl u k G5 H5 e5.gh (dpM (e4.trans e5).gg du) dk Q fun w G6 H6 e6 dw => q w G6 H6 ((((e.trans e3).trans e4).trans e5).trans e6) dw
    | false => exact q _ G4 H4 ((e.trans e3).trans e4) (.bl false)
theorem ea_nil : EvAs K tNil env [] := fun _ G H gh _ _ q => q [] G H (Gw.refl gh) .nil
theorem ea_cons {tr : TA} {ds : List Dt} (h : EvE K ta env d) (hr : EvAs K tr env ds) : EvAs K (tCons ta tr) env (d :: ds) := fun σ G H gh s Q q =>
  h σ G H gh s _ fun v G2 H2 e dv => hr σ G2 H2 e.gh (s.mono e.gg) _ fun vs G3 H3 e3 dvs => q _ G3 H3 (e.trans e3) (.cons (dpM e3.gg dv) dvs)
theorem ee_tup {tr : TA} {ds : List Dt} (h : EvAs K tr env ds) (hl : ds.length ≤ 100000) : EvE K (tTup tr) env (.tuple ds) := fun σ G H gh s Q q =>
  h σ G H gh s _ fun vs G2 H2 e dvs => ⟨by rw [dpsLen dvs]; exact Nat.le_trans hl (by decide), fun p np => q _ _ _ (e.trans (Gw.new e.gh np)) (.tup (.inl (.inl upd_same)) (dpsM (sameU (e.gh.free np)) dvs))⟩
theorem en_lst {tr : TA} {ds : List Dt} (h : EvAs K tr env ds) (hl : ds.length ≤ 100000) : EvN K (tLst tr) env ds := fun σ G H gh s Q q =>
  h σ G H gh s _ fun vs G2 H2 e dvs => ⟨by rw [dpsLen dvs]; exact Nat.le_trans hl (by decide), fun p np => q p vs G2 _ (e.trans (Gw.out e.gh np)) (e.hh.free np) (e.gh.free np) upd_same dvs⟩
theorem ee_lst {tr : TA} {ds : List Dt} (h : EvAs K tr env ds) (hl : ds.length ≤ 100000) : EvE K (tLst tr) env (.list ds) := ee_of (en_lst h hl)
theorem ee_cb {r : List V → Hp → VK → Prop} {ta : TA} {ds : List Dt} (h : EvAs K ta env ds) (hr : RCd K r ds z) : EvE K (tCB r ta) env z := fun σ G H gh s Q q =>
  h σ G H gh s _ fun vs G2 H2 e dvs => hr vs G2 H2 e.gh dvs Q fun v G3 H3 e3 dv => q v G3 H3 (e.trans e3) dv
theorem en_cb {r : List V → Hp → VK → Prop} {ta : TA} {ds zs : List Dt} (h : EvAs K ta env ds) (hr : RCn K r ds zs) : EvN K (tCB r ta) env zs := fun σ G H gh s Q q =>
  h σ G H gh s _ fun vs G2 H2 e dvs => hr vs G2 H2 e.gh dvs Q fun p xs G3 H3 e3 np ng hp dx => q p xs G3 H3 (e.trans e3) (e.hh.free np) ng hp dx
theorem ee_call {f : List Dt → Option Dt} {E : XK} {ta : TA} {ds : List Dt} (h : EvAs K ta env ds) (hf : f ds = some z) : EvE K (tCall (spF K f) [] E ta) env z := fun σ G H gh s Q q =>
  h σ G H gh s _ fun vs G2 H2 e dvs => ⟨G2, ds, z, e.gh, by rw [List.append_nil]; exact dvs, hf, fun v G3 H3 e3 dv => q v G3 H3 (e.trans e3) dv⟩
theorem eo_none : EvO K tNoPart env none := fun _ G H gh _ _ q => q G H (Gw.refl gh)
theorem eo_some {i : Int} (h : EvE K te env (.int i)) : EvO K (tPart te) env (some i) := fun σ G H gh s _ q => h σ G H gh s _ fun v G2 H2 e dv => by
  cases dv
  exact ⟨i, rfl, q G2 H2 e⟩
end
/-! ### operations -/
section
variable {K : PySem.W.Frag}
theorem rd_eqD {x y : Dt} (hx : SeqAt.shaped x = true) (hy : SeqAt.shaped y = true) : RD K (rEqD K) x y (.bool (PyData.eqv x y)) := fun a b G H gh da db Q q => ⟨x, y, dqDp (SeqAt.canLay_of_shaped hx) (dpM gh da), dqDp (SeqAt.canLay_of_shaped hy) (dpM gh db), hx, hy, q _ G H (Gw.refl gh) (.bl _)⟩
theorem rd_neD {x y : Dt} (hx : SeqAt.shaped x = true) (hy : SeqAt.shaped y = true) : RD K (rNeD K) x y (.bool (!PyData.eqv x y)) := fun a b G H gh da db Q q => ⟨x, y, dqDp (SeqAt.canLay_of_shaped hx) (dpM gh da), dqDp (SeqAt.canLay_of_shaped hy) (dpM gh db), hx, hy, q _ G H (Gw.refl gh) (.bl _)⟩
theorem rd_I0b {g : Int → Int → Bool} {i j : Int} : RD K (rI0 fun i j => .bl (g i j)) (.int i) (.int j) (.bool (g i j)) := fun a b G H gh da db Q q => by
  cases da
  cases db
  exact ⟨i, j, rfl, rfl, q _ G H (Gw.refl gh) (.bl _)⟩
theorem rd_I0i {g : Int → Int → Int} {i j : Int} : RD K (rI0 fun i j => .int (g i j)) (.int i) (.int j) (.int (g i j)) := fun a b G H gh da db Q q => by
  cases da
  cases db
  exact ⟨i, j, rfl, rfl, q _ G H (Gw.refl gh) (.int _)⟩
theorem dpsAt {H : Hp} {xs : List V} {ds : List Dt} {i : Int} {d : Dt} (hd : DqAll K H xs ds) (h : atI ds i = some d) : ∃ v, atI xs i = some v ∧ Dq K H v d := by
  unfold atI at *
  rw [dpsLen hd]
  cases e : ixN ds.length i with
  | none => (rw [e] at h; cases h)
  | some j =>
    rw [e] at h
    exact dpsGet hd h
theorem rd_ixT {ds : List Dt} {i : Int} {d : Dt} (h : atI ds i = some d) : RD K (rIxT K) (.tuple ds) (.int i) d := fun a b G H gh da db Q q => by
  cases db
  cases da with
  | @tup p xs _ hs hd =>
    obtain ⟨v, hv, dv⟩ := dpsAt hd h
    exact ⟨p, xs, i, v, rfl, rfl, sameT gh hs, hv, q v G H (Gw.refl gh) dv⟩
theorem rd_ixL {ds : List Dt} {i : Int} {d : Dt} (h : atI ds i = some d) : RD K (rIxL K) (.list ds) (.int i) d := fun a b G H gh da db Q q => by
  cases db
  cases da with
  | @lst p xs _ hs hd =>
    obtain ⟨v, hv, dv⟩ := dpsAt hd h
    exact ⟨p, xs, i, v, rfl, rfl, gh.seq hs, hv, q v G H (Gw.refl gh) dv⟩
/-! the type of a datum -/
def tyN : Dt → String
  | .none => "NoneType"
  | .bool _ => "bool"
  | .int _ => "int"
  | .str _ => "str"
  | .list _ => "list"
  | .tuple _ => "tuple"
  | .dict _ => "dict"
theorem tyXL {H : Hp} {a : Addr} {xs : List V} (h : SqL K H a xs) : TyX K H (.ref a) (.type "list") := by
  rcases h with (h | ⟨o, h⟩) | ⟨o, its, n, h, hc, _⟩
  · exact .base (.lst h)
  · exact .base (.frz h)
  · exact .kList h hc
theorem tyXT {H : Hp} {a : Addr} {xs : List V} (h : SqT K H a xs) : TyX K H (.ref a) (.type "tuple") := by
  rcases h with (h | ⟨o, h⟩) | ⟨o, its, n, h, hc, _⟩
  · exact .base (.tup h)
  · exact .fTuple h
  · exact .kTuple h hc
theorem tyX {H : Hp} {v : V} {d : Dt} (h : Dq K H v d) : TyX K H v (.type (tyN d)) := by
  cases h with
  | non => exact .base .non
  | bl b => exact .base (.bl b)
  | int i => exact .base (.int i)
  | str x => exact .base (.str x)
  | lst h _ => exact tyXL h
  | tup h _ => exact tyXT h
  | dct h _ => exact .base (.dK h)
/-- isinstance(x, T), T a built-in class -/
theorem ee_isi {env : Env0'} {ta : TE} {d : Dt} {T : String} {b : Bool} (h : EvE K ta env d) (hb : kitB (tyN d) T = some b) : EvE K (tCB (rIsi K) (tCons ta (tCons (tC (.ty T)) tNil))) env (.bool b) := fun σ G H gh s Q q =>
  h σ G H gh s _ fun v G2 H2 e dv => ⟨v, .ty T, .type (tyN d), .type T, b, rfl, .ty T, tyX (dpM e.gh dv), kit_ty hb, q _ G2 H2 e (.bl b)⟩
/-- len -/
theorem rc_lenT {ds : List Dt} : RCd K (fun xs H Q => ∃ p ys, xs = [.ref p] ∧ (SqL K H p ys ∨ SqT K H p ys) ∧ Q (.int ys.length) H) [.tuple ds] (.int (ds.length : Int)) := fun vs G H gh dvs Q q => by
  cases dvs with
  | cons h t =>
    cases t
    cases h with
    | @tup p xs _ hs hd =>
      refine ⟨p, xs, rfl, .inr (sameT gh hs), ?_⟩
      rw [dpsLen hd]
      exact q _ G H (Gw.refl gh) (.int _)
theorem rc_lenL {ds : List Dt} : RCd K (fun xs H Q => ∃ p ys, xs = [.ref p] ∧ (SqL K H p ys ∨ SqT K H p ys) ∧ Q (.int ys.length) H) [.list ds] (.int (ds.length : Int)) := fun vs G H gh dvs Q q => by
  cases dvs with
  | cons h t =>
    cases t
    cases h with
    | @lst p xs _ hs hd =>
      refine ⟨p, xs, rfl, .inl (gh.seq hs), ?_⟩
      rw [dpsLen hd]
      exact q _ G H (Gw.refl gh) (.int _)
theorem rc_lenS {z : Str} (hz : z.length ≤ sizeLine) : RCd K (fun xs H Q => ∃ z, xs = [.str z] ∧ z.length ≤ sizeLine ∧ Q (.int z.length) H) [.str z] (.int (z.length : Int)) := fun vs G H gh dvs Q q => by
  cases dvs with
  | cons h t =>
    cases t
    cases h
    exact ⟨z, rfl, hz, q _ G H (Gw.refl gh) (.int _)⟩
theorem dpsBls : ∀ {H : Hp} {xs : List V} {bs : List Bool}, DqAll K H xs (bs.map PyData.bool) → xs = bs.map V.bl
  | _, _, [], .nil => rfl
  | _, _, _ :: bs, .cons h t => by
    cases h
    rw [dpsBls t]
    rfl
theorem dpsStrs : ∀ {H : Hp} {xs : List V} {bs : List Str}, DqAll K H xs (bs.map PyData.str) → xs = bs.map V.str
  | _, _, [], .nil => rfl
  | _, _, _ :: bs, .cons h t => by
    cases h
    rw [dpsStrs t]
    rfl
theorem dpsOfStrs {H : Hp} : ∀ (bs : List Str), DqAll K H (bs.map V.str) (bs.map PyData.str)
  | [] => .nil
  | b :: bs => .cons (.str b) (dpsOfStrs bs)
/-- all(a list of truths) -/
theorem rc_all {bs : List Bool} : RCd K (rAll K) [.list (bs.map PyData.bool)] (.bool (bs.all id)) := fun vs G H gh dvs Q q => by
  cases dvs with
  | cons h t =>
    cases t
    cases h with
    | @lst p xs _ hs hd =>
      have e := dpsBls hd
      subst e
      exact ⟨p, bs, rfl, gh.seq hs, q _ G H (Gw.refl gh) (.bl _)⟩
/-- list(x) of a list or a tuple -/
theorem rc_listT {ds : List Dt} : RCn K (fun xs H Q => ∃ p ys, xs = [.ref p] ∧ (SqL K H p ys ∨ SqT K H p ys) ∧ ∀ l, H l = none → Q (.ref l) (upd H l (.lst ys))) [.tuple ds] ds := fun vs G H gh dvs Q q => by
  cases dvs with
  | cons h t =>
    cases t
    cases h with
    | @tup p xs _ hs hd => exact ⟨p, xs, rfl, .inr (sameT gh hs), fun l nl => q l xs G _ (Gw.out gh nl) nl (gh.free nl) upd_same hd⟩
theorem rc_listL {ds : List Dt} : RCn K (fun xs H Q => ∃ p ys, xs = [.ref p] ∧ (SqL K H p ys ∨ SqT K H p ys) ∧ ∀ l, H l = none → Q (.ref l) (upd H l (.lst ys))) [.list ds] ds := fun vs G H gh dvs Q q => by
  cases dvs with
  | cons h t =>
    cases t
    cases h with
    | @lst p xs _ hs hd => exact ⟨p, xs, rfl, .inl (gh.seq hs), fun l nl => q l xs G _ (Gw.out gh nl) nl (gh.free nl) upd_same hd⟩
/-- tuple(x) of a list -/
theorem ee_tupleL {env : Env0'} {ta : TE} {ds : List Dt} (h : EvE K ta env (.list ds)) : EvE K (tThen ta (kTup K)) env (.tuple ds) := fun σ G H gh s Q q =>
  h σ G H gh s _ fun v G2 H2 e dv => by
    cases dv with
    | @lst p xs _ hs hd => exact .inl ⟨p, xs, rfl, e.gh.seq hs, fun l nl => q _ _ _ (e.trans (Gw.new e.gh nl)) (.tup (.inl (.inl upd_same)) (dpsM (sameU (e.gh.free nl)) hd))⟩
/-- x in a list or tuple of flat data -/
def flatD : Dt → Bool
  | .none => true
  | .bool _ => true
  | .int _ => true
  | .str _ => true
  | _ => false
theorem flat_of {H : Hp} {v : V} {d : Dt} (h : Dq K H v d) (f : flatD d = true) : flatV v = true := by
  cases h <;> first | rfl | exact nomatch f
theorem eqV_of {H : Hp} {v u : V} {d e : Dt} (h : Dq K H v d) (g : Dq K H u e) (f : flatD d = true) : eqV v u = PyData.eqv d e := by
  cases h <;> first | exact absurd f Bool.false_ne_true | (cases g <;> first | rfl | simp [eqV, PyData.eqv])
theorem inV_of {H : Hp} {v : V} {d : Dt} : ∀ {xs : List V} {ds : List Dt}, DqAll K H xs ds → Dq K H v d → ds.all flatD = true → xs.all flatV = true ∧ inV v xs = ds.any fun z => PyData.eqv z d
  | _, _, .nil, _, _ => ⟨rfl, rfl⟩
  | _, _, .cons (v := x) (d := y) h t, hv, f => by
    (rw [List.all_cons, Bool.and_eq_true] at f)
    obtain ⟨a, b⟩ := inV_of t hv f.2
    unfold inV at *
    exact ⟨by rw [List.all_cons, flat_of h f.1, a]; rfl, by rw [List.any_cons, List.any_cons, eqV_of h hv f.1, b]⟩
theorem rd_inT {neg : Bool} {d : Dt} {ds : List Dt} (hd : flatD d = true) (f : ds.all flatD = true) : RD K (rIn K neg) d (.tuple ds) (.bool (if neg then !(ds.any fun z => PyData.eqv z d) else ds.any fun z => PyData.eqv z d)) := fun a b G H gh da db Q q => by
  cases db with
  | @tup p xs _ hs hx =>
    obtain ⟨e1, e2⟩ := inV_of hx da f
    refine ⟨p, xs, rfl, .inr (sameT gh hs), flat_of da hd, e1, ?_⟩
    rw [e2]
    exact q _ G H (Gw.refl gh) (.bl _)
theorem rd_inL {neg : Bool} {d : Dt} {ds : List Dt} (hd : flatD d = true) (f : ds.all flatD = true) : RD K (rIn K neg) d (.list ds) (.bool (if neg then !(ds.any fun z => PyData.eqv z d) else ds.any fun z => PyData.eqv z d)) := fun a b G H gh da db Q q => by
  cases db with
  | @lst p xs _ hs hx =>
    obtain ⟨e1, e2⟩ := inV_of hx da f
    refine ⟨p, xs, rfl, .inl (gh.seq hs), flat_of da hd, e1, ?_⟩
    rw [e2]
    exact q _ G H (Gw.refl gh) (.bl _)
end
end LH

namespace LH
open PySem PySem.Spec L2 PyProof.Rows
/-! ### what is walked -/
def WkD (K : PySem.W.Frag) (J : It) (G : Hp) (ds : List Dt) : Prop := Walk J ds.length (fun H => Same G H) (fun i H x H' => H' = H ∧ ∃ d, ds[i]? = some d ∧ Dq K G x d)
def EvI (K : PySem.W.Frag) (wi : TI) (env : Env0') (ds : List Dt) : Prop := ∀ σ G H, Same G H → Sd K G σ env → ∀ R : It → Hp → Prop, (∀ J G' H', Gw G H G' H' → WkD K J G' ds → R J H') → wi σ H R
section
variable {K : PySem.W.Frag} {env : Env0'} {ta tb tc te tl : TE} {t u : TT} {x y z d : Dt} {r r' : R2} {ds : List Dt}
theorem wk_list {G : Hp} {a : Addr} {xs : List V} (hs : SqL K G a xs) (hd : DqAll K G xs ds) : WkD K (Itl K a) G ds := by
  unfold WkD
  rw [← dpsLen hd]
  refine walk_list.mono (fun H h => h.seq hs) fun i H v H' hi _ y => ?_
  obtain ⟨e, g⟩ := y
  obtain ⟨d, a, b⟩ := dpsGet' hd g
  exact ⟨e, d, a, b⟩
theorem wk_tup {G : Hp} {a : Addr} {xs : List V} (hs : SqT K G a xs) (hd : DqAll K G xs ds) : WkD K (Itt K a) G ds := by
  unfold WkD
  rw [← dpsLen hd]
  refine walk_tup.mono (fun H h => sameT h hs) fun i H v H' hi _ y => ?_
  obtain ⟨e, g⟩ := y
  obtain ⟨d, a, b⟩ := dpsGet' hd g
  exact ⟨e, d, a, b⟩
theorem ei_list (h : EvE K tl env (.list ds)) : EvI K (iList K tl) env ds := fun σ G H gh s R q => h σ G H gh s _ fun v G2 H2 e dv => by
  cases dv with
  | @lst p xs _ hs hd => exact ⟨p, rfl, ⟨xs, e.gh.seq hs⟩, q _ G2 H2 e (wk_list hs hd)⟩
theorem ei_tup (h : EvE K tl env (.tuple ds)) : EvI K (iTup K tl) env ds := fun σ G H gh s R q => h σ G H gh s _ fun v G2 H2 e dv => by
  cases dv with
  | @tup p xs _ hs hd => exact ⟨p, rfl, ⟨xs, sameT e.gh hs⟩, q _ G2 H2 e (wk_tup hs hd)⟩
/-- the signs of a text, each a text -/
def signsD (z : Str) : List Dt := z.cps.toList.map fun c => .str ⟨#[c]⟩
theorem ei_str {z : Str} (h : EvE K te env (.str z)) : EvI K (iStr te) env (signsD z) := fun σ G H gh s R q => h σ G H gh s _ fun v G2 H2 e dv => by
  cases dv
  refine ⟨z, rfl, q _ G2 H2 e ?_⟩
  unfold WkD signsD
  (rw [List.length_map, Array.length_toList])
  refine walk_str.mono (fun _ _ => trivial) fun i H v H' hi _ y => ?_
  obtain ⟨e, c, hc, rfl⟩ := y
  exact ⟨e, .str ⟨#[c]⟩, by rw [List.getElem?_map, Array.getElem?_toList, hc]; rfl, .str _⟩
theorem ei_range1 {ta : TA} {n : Nat} (h : EvAs K ta env [.int (n : Int)]) (hn : n ≤ 100000) : EvI K (iRng1 ta) env ((List.range n).map fun (i : Nat) => PyData.int (i : Int)) := fun σ G H gh s R q => h σ G H gh s _ fun vs G2 H2 e dv => by
  cases dv with
  | cons a b =>
    cases b
    cases a
    refine ⟨(n : Int), rfl, ?_, ?_, q _ G2 H2 e ?_⟩
    · have : (0 : Int) ≤ (n : Int) := Int.natCast_nonneg n
      exact Int.le_trans (by decide) this
    · exact Int.lt_of_le_of_lt (Int.ofNat_le.mpr hn) (by decide)
    · unfold WkD
      rw [List.length_map, List.length_range, Int.toNat_natCast]
      refine walk_range.mono (fun _ _ => trivial) fun i H v H' hi _ y => ?_
      obtain ⟨e, rfl⟩ := y
      exact ⟨e, .int (i : Int), by rw [List.getElem?_map, List.getElem?_range hi]; rfl, by
        show Dq K G2 (V.int (0 + (i : Int))) _
        rw [Int.zero_add]
        exact .int _⟩
/-! ### comprehensions -/
theorem Gw.mut {G H G' H' : Hp} {p : Addr} {o : HO} (a : Gw G H G' H') (np : H p = none) (ng : G' p = none) : Gw G H G' (upd H' p o) := ⟨a.gg, fun b x e => by
  rw [upd_ne (ne_of_none e np)]
  exact a.hh b x e, fun b x e => by
  rw [upd_ne (ne_of_none e ng)]
  exact a.gh b x e, a.nw⟩
theorem Gw.keeps {G H G' H' : Hp} {p : Addr} {o : HO} (a : Gw G H G' H') (hp : H p = some o) (ng : G p = none) : G' p = none := a.nw p (by rw [hp]; exact fun z => nomatch z) ng
theorem take_next' {α : Type} {l : List α} {i : Nat} {x : α} (h : l[i]? = some x) : l.take (i + 1) = l.take i ++ [x] := by
  (rw [List.take_succ, h] <;> rfl)
theorem en_lc {wi : TI} {j : Nat} (f : Dt → Bool) (g : Dt → Dt) (h : EvI K wi env ds) (hl : ds.length ≤ 100000) (ht : ∀ d ∈ ds, EvB K t (env.set j (some d)) (f d)) (he : ∀ d ∈ ds, f d = true → EvE K te (env.set j (some d)) (g d)) :
    EvN K (tLc wi (gName j) t te [j]) env ((ds.filter f).map g) := fun σ G H gh s Q q => h σ G H gh s _ fun J G1 H1 e1 wk D nD => by
  have ng1 : G1 D = none := e1.gh.free nD
  refine lc_it (n := ds.length) wk (fun i H' => ∃ G2 xs, Gw G1 H1 G2 H' ∧ G2 D = none ∧ H' D = some (.lst xs) ∧ DqAll K G2 xs (((ds.take i).filter f).map g)) ⟨G1, [], (Gw.refl e1.gh).mut nD ng1, ng1, upd_same, .nil⟩ (fun i H' _ ⟨G2, _, w2, _⟩ => w2.gg.trans w2.gh) ?_ ?_
  · rintro i x H2 H2' hi ⟨G2, xs, w2, ng2, hD, dx⟩ ⟨rfl, d, hd, dd⟩
    have hm : d ∈ ds := List.mem_of_getElem? hd
    have hset : ∀ (y : V), (wipe σ [j]).set j (some y) = σ.set j (some y) := fun y => by
      show (σ.set j none).set j (some y) = _
      rw [List.set_set]
    have s2 : Sd K G2 ((wipe σ [j]).set j (some x)) (env.set j (some d)) := by
      rw [hset]
      exact (s.mono (e1.gg.trans w2.gg)).set j (dpM w2.gg dd)
    refine ⟨by rw [hset]; show (σ.set j (some x)).set j none = σ.set j none; rw [List.set_set], ?_⟩
    refine ht d hm _ G2 H2' w2.gh s2 _ fun G3 H3 w3 => ?_
    cases hf : f d with
    | true =>
      refine iteT ?_
      refine he d hm hf _ G3 H3 w3.gh (s2.mono w3.gg) _ fun y G4 H4 w4 dy => ?_
      have ng3 := w3.keeps hD ng2
      have hD3 := w3.hh _ _ hD
      have ng4 := w4.keeps hD3 ng3
      have hD4 := w4.hh _ _ hD3
      refine ⟨xs, hD4, ?_, G4, xs ++ [y], ((w2.trans w3).trans w4).mut nD ng4, ng4, upd_same, ?_⟩
      · rw [dpsLen dx, List.length_map]
        refine Nat.lt_of_le_of_lt (List.length_filter_le _ _) ?_
        rw [List.length_take]
        exact Nat.lt_of_le_of_lt (Nat.le_trans (Nat.min_le_right _ _) hl) (by decide)
      · rw [take_next' hd, List.filter_append, List.map_append]
        refine dpsApp (dpsM (w3.gg.trans w4.gg) dx) ?_
        rw [show [d].filter f = [d] by simp [hf]]
        exact .cons dy .nil
    | false =>
      refine iteF ?_
      refine ⟨G3, xs, w2.trans w3, w3.keeps hD ng2, w3.hh _ _ hD, ?_⟩
      rw [take_next' hd, List.filter_append, List.map_append, show [d].filter f = [] by simp [hf]]
      rw [List.map_nil, List.append_nil]
      exact dpsM w3.gg dx
  · rintro H2 ⟨G2, xs, w2, ng2, hD, dx⟩
    rw [List.take_length] at dx
    exact q D xs G2 H2 (e1.trans w2) (e1.hh.free nD) ng2 hD dx
/-- without an if -/
theorem en_map {wi : TI} {j : Nat} (g : Dt → Dt) (h : EvI K wi env ds) (hl : ds.length ≤ 100000) (he : ∀ d ∈ ds, EvE K te (env.set j (some d)) (g d)) :
    EvN K (tLc wi (gName j) tYes te [j]) env (ds.map g) := by
  have q := en_lc (j := j) (fun _ => true) g h hl (fun _ _ => eb_yes) fun d hd _ => he d hd
  rw [List.filter_eq_self.mpr fun _ _ => rfl] at q
  exact q
/-! ### slices -/
def cutD {α : Type} (xs : List α) (lo hi : Option Int) : List α := (xs.drop (HT.sIx xs.length 0 lo)).take (HT.sIx xs.length xs.length hi - HT.sIx xs.length 0 lo)
theorem dpsCut {H : Hp} {xs : List V} (h : DqAll K H xs ds) (lo hi : Option Int) : DqAll K H (cutV xs lo hi) (cutD ds lo hi) := by
  unfold cutV cutD
  rw [dpsLen h]
  exact dpsTake _ (dpsDrop _ h)
theorem en_slL {tl' th : TO} {lo hi : Option Int} (h : EvE K te env (.list ds)) (h1 : EvO K tl' env lo) (h2 : EvO K th env hi) : EvN K (tSl (rSlL K) te tl' th) env (cutD ds lo hi) := fun σ G H gh s Q q =>
  h σ G H gh s _ fun v G2 H2 e dv => h1 σ G2 H2 e.gh (s.mono e.gg) _ fun G3 H3 e3 => h2 σ G3 H3 e3.gh (s.mono (e.trans e3).gg) _ fun G4 H4 e4 => by
    cases dv with
    | @lst p xs _ hs hd =>
      have w := (e.trans e3).trans e4
      have m := (e3.trans e4).gg
      exact ⟨p, xs, rfl, (m.trans w.gh).seq hs, fun l nl => q l _ G4 _ (w.trans (Gw.out w.gh nl)) (w.hh.free nl) (w.gh.free nl) upd_same (dpsM m (dpsCut hd lo hi))⟩
theorem cutD_whole {xs : List V} {lo hi : Option Int} (h : HT.sIx xs.length 0 lo = 0 ∧ HT.sIx xs.length xs.length hi = xs.length) : cutV xs lo hi = xs := by
  unfold cutV
  rw [h.1, h.2]
  simp
theorem ee_slT {tl' th : TO} {lo hi : Option Int} (h : EvE K te env (.tuple ds)) (h1 : EvO K tl' env lo) (h2 : EvO K th env hi) : EvE K (tSl (rSlA K) te tl' th) env (.tuple (cutD ds lo hi)) := fun σ G H gh s Q q =>
  h σ G H gh s _ fun v G2 H2 e dv => h1 σ G2 H2 e.gh (s.mono e.gg) _ fun G3 H3 e3 => h2 σ G3 H3 e3.gh (s.mono (e.trans e3).gg) _ fun G4 H4 e4 => by
    cases dv with
    | @tup p xs _ hs hd =>
      have w := (e.trans e3).trans e4
      have m := (e3.trans e4).gg
      refine ⟨p, xs, rfl, sameT (m.trans w.gh) hs, fun hw => ?_, fun _ l nl => ?_⟩
      · refine q _ G4 H4 w (.tup (sameT m hs) ?_)
        have c := dpsM m (dpsCut hd lo hi)
        rw [cutD_whole hw] at c
        exact c
      · exact q _ _ _ (w.trans (Gw.new w.gh nl)) (.tup (.inl (.inl upd_same)) (dpsM (sameU (w.gh.free nl)) (dpsM m (dpsCut hd lo hi))))
/-! ### tuples put together, lists put together -/
theorem rd_catT {ds es : List Dt} (hl : ds.length + es.length ≤ 100000) : RD K (rCatA K) (.tuple ds) (.tuple es) (.tuple (ds ++ es)) := fun a b G H gh da db Q q => by
  cases da with
  | @tup p xs _ hs hd =>
    cases db with
    | @tup p' ys _ hs' hd' =>
      refine ⟨p, p', xs, ys, rfl, rfl, sameT gh hs, sameT gh hs', by rw [dpsLen hd, dpsLen hd']; exact Nat.le_trans hl (by decide), fun e => ?_, fun _ e => ?_, fun _ _ l nl => ?_⟩
      · subst e
        cases hd
        exact q _ G H (Gw.refl gh) (.tup hs' hd')
      · subst e
        cases hd'
        rw [List.append_nil] at q
        exact q _ G H (Gw.refl gh) (.tup hs hd)
      · exact q _ _ _ (Gw.new gh nl) (.tup (.inl (.inl upd_same)) (dpsM (sameU (gh.free nl)) (dpsApp hd hd')))
end
section
variable {X : Cx}
/-- list + list, whatever they are -/
def rCatL (K : PySem.W.Frag) : R2 := fun x y H Q => ∃ l b xs zs, x = .ref l ∧ y = .ref b ∧ SqL K H l xs ∧ SqL K H b zs ∧ xs.length + zs.length ≤ sizeLine ∧ ∀ p, H p = none → Q (.ref p) (upd H p (.lst (xs ++ zs)))
theorem op_catL : OpR X (binaryOp .Add) (rCatL X.K) := by
  (intro pins s σ H x y v u Q I rx ry h)
  obtain ⟨l, b, xs, zs, rfl, rfl, hl, hb, hz, q⟩ := h
  cases rx
  cases ry
  obtain ⟨its, r1, p1, z1⟩ := I.list hl
  obtain ⟨jts, r2, p2, z2⟩ := I.list hb
  have k1 := r1.length
  have k2 := r2.length
  obtain ⟨⟨c1, d1, a1, l1⟩, n1, o1, e1, e2, e3⟩ := p1
  obtain ⟨⟨c2, d2, a2, l2⟩, n2, o2, f1, f2, f3⟩ := p2
  simp only at e1 e2 e3 f1 f2 f3
  subst e1 e2 e3 f1 f2 f3
  have ht : (its ++ jts).length ≤ sizeLine := by
    rw [List.length_append, ← k1, ← k2]
    exact hz
  refine concat_meets ⟨_, o1, rfl⟩ ⟨_, o2, rfl⟩ noFill_list_add seq_list_add PySem.F.slot_list_add PySem.F.entry_list_add (PySem.F.args_list_add_2 _ _)
    (list_addW l b its.toArray jts.toArray n1 n2 none none l1 l2 (by rw [List.length_append] at ht; simpa using ht)) ⟨o1, o2, ?_⟩
  rw [show its.toArray ++ jts.toArray = (its ++ jts).toArray by simp]
  exact ⟨.ref _, _, I.lnew (t' := s.toks) (r1.append r2) (by rw [List.length_append]; exact hz), rfl, q _ I.fresh⟩
theorem en_cat {K : PySem.W.Frag} {env : Env0'} {ta tb : TE} {ds es : List Dt} (ha : EvE K ta env (.list ds)) (hb : EvE K tb env (.list es)) (hl : ds.length + es.length ≤ 100000) : EvN K (tOp (rCatL K) ta tb) env (ds ++ es) := fun σ G H gh s Q q =>
  ha σ G H gh s _ fun v G2 H2 e dv => hb σ G2 H2 e.gh (s.mono e.gg) _ fun u G3 H3 e3 du => by
    cases dv with
    | @lst p xs _ hs hd =>
      cases du with
      | @lst p' ys _ hs' hd' =>
        have w := e.trans e3
        exact ⟨p, p', xs, ys, rfl, rfl, (e3.gg.trans w.gh).seq hs, w.gh.seq hs', by rw [dpsLen hd, dpsLen hd']; exact Nat.le_trans hl (by decide), fun l nl => q l _ G3 _ (w.trans (Gw.out w.gh nl)) (w.hh.free nl) (w.gh.free nl) upd_same (dpsApp (dpsM e3.gg hd) hd')⟩
end
end LH

namespace LH
open PySem PySem.Spec L2 PyProof.Rows
/-! ### statements: data by slots (env), lists of one's own by slots (M: they may still grow) -/
abbrev MuL := List (Nat × List Dt)
/-- the lists of one's own: new since H0, no data, no two one -/
inductive Mu (K : PySem.W.Frag) (H0 G H : Hp) (σ : L2.St) : MuL → List Addr → Prop
  | nil : Mu K H0 G H σ [] []
  | cons {i : Nat} {p : Addr} {xs : List V} {ds : List Dt} {M : MuL} {ps : List Addr} : σ[i]? = some (some (.ref p)) → H0 p = none → G p = none → H p = some (.lst xs) → DqAll K G xs ds → p ∉ ps → Mu K H0 G H σ M ps → Mu K H0 G H σ ((i, ds) :: M) (p :: ps)
section
variable {K : PySem.W.Frag} {H0 G H G' H' : Hp} {σ : L2.St}
theorem Mu.grow (w : Gw G H G' H') : ∀ {M : MuL} {ps : List Addr}, Mu K H0 G H σ M ps → Mu K H0 G' H' σ M ps
  | _, _, .nil => .nil
  | _, _, .cons a b c d e f g => .cons a b (w.keeps d c) (w.hh _ _ d) (dpsM w.gg e) f (g.grow w)
theorem Mu.set {j : Nat} {o : Option V} : ∀ {M : MuL} {ps : List Addr}, Mu K H0 G H σ M ps → (∀ m ∈ M, m.1 ≠ j) → Mu K H0 G H (σ.set j o) M ps
  | _, _, .nil, _ => .nil
  | _, _, .cons a b c d e f g, h => .cons (by rw [List.getElem?_set_ne (fun z => h _ List.mem_cons_self z.symm)]; exact a) b c d e f (g.set fun m hm => h m (List.mem_cons_of_mem _ hm))
/-- an address that is none of them may change -/
theorem Mu.other {p : Addr} {o : HO} : ∀ {M : MuL} {ps : List Addr}, Mu K H0 G H σ M ps → p ∉ ps → Mu K H0 G (upd H p o) σ M ps
  | _, _, .nil, _ => .nil
  | _, _, .cons a b c d e f g, h => .cons a b c (by rw [upd_ne (fun z => h (by rw [z]; exact List.mem_cons_self))]; exact d) e f (g.other fun z => h (List.mem_cons_of_mem _ z))
theorem Mu.more {p : Addr} {o : HO} (ng : G p = none) : ∀ {M : MuL} {ps : List Addr}, Mu K H0 G H σ M ps → p ∉ ps → Mu K H0 (upd G p o) H σ M ps
  | _, _, .nil, _ => .nil
  | _, _, .cons a b c d e f g, h => .cons a b (by rw [upd_ne (fun z => h (by rw [z]; exact List.mem_cons_self))]; exact c) d (dpsM (sameU ng) e) f (g.more ng fun z => h (List.mem_cons_of_mem _ z))
theorem Mu.notin {p : Addr} : ∀ {M : MuL} {ps : List Addr}, Mu K H0 G H σ M ps → H p = none → p ∉ ps
  | _, _, .nil, _ => fun z => nomatch z
  | _, _, .cons (p := q) a b c d e f g, h => fun z => by
    (rcases List.mem_cons.mp z with z | z)
    · rw [z, d] at h
      cases h
    · exact g.notin h z
end
structure Fra (K : PySem.W.Frag) (H0 : Hp) (env : Env0') (M : MuL) (σ : L2.St) (G H : Hp) : Prop where
  gh : Same G H
  sd : Sd K G σ env
  mu : ∃ ps, Mu K H0 G H σ M ps
/-- a block that goes on; one that hands back -/
def GoE (K : PySem.W.Frag) (ts : TS) (env : Env0') (M : MuL) (env' : Env0') (M' : MuL) : Prop := ∀ H0 G0 σ G H (D : Ends), Gw G0 H0 G H → Fra K H0 env M σ G H → (∀ σ' G' H', Same G G' → Gw G0 H0 G' H' → Fra K H0 env' M' σ' G' H' → D.nx σ' H') → ts D σ H
def RtE (K : PySem.W.Frag) (ts : TS) (env : Env0') (M : MuL) (d : Dt) : Prop := ∀ H0 G0 σ G H (D : Ends), Gw G0 H0 G H → Fra K H0 env M σ G H → (∀ v G' H', Gw G0 H0 G' H' → Dq K G' v d → D.rt v H') → ts D σ H
section
variable {K : PySem.W.Frag} {env env1 env2 : Env0'} {M M1 M2 : MuL} {ta tb tc te : TE} {t u : TT} {a b c : TS} {d : Dt} {ds : List Dt} {i j : Nat}
theorem go_seq (h1 : GoE K a env M env1 M1) (h2 : GoE K b env1 M1 env2 M2) : GoE K (tSeq a b) env M env2 M2 := fun H0 G0 σ G H D w f q => h1 H0 G0 σ G H _ w f fun σ' G' H' g' w' f' => h2 H0 G0 σ' G' H' D w' f' fun σ2 G2 H2 g2 => q σ2 G2 H2 (g'.trans g2)
theorem rt_seq (h1 : GoE K a env M env1 M1) (h2 : RtE K b env1 M1 d) : RtE K (tSeq a b) env M d := fun H0 G0 σ G H D w f q => h1 H0 G0 σ G H _ w f fun σ' G' H' _ w' f' => h2 H0 G0 σ' G' H' D w' f' q
theorem rt_first (h1 : RtE K a env M d) : RtE K (tSeq a b) env M d := fun H0 G0 σ G H D w f q => h1 H0 G0 σ G H _ w f q
theorem rt_ret (h : EvE K te env d) : RtE K (tRet te) env M d := fun H0 G0 σ G H D w f q => h σ G H f.gh f.sd _ fun v G' H' w' dv => q v G' H' (w.trans w') dv
theorem go_next : GoE K tNext env M env M := fun H0 G0 σ G H D w f q => q σ G H (Same.refl G) w f
theorem go_if {bb : Bool} (h : EvB K t env bb) (h1 : bb = true → GoE K a env M env1 M1) (h2 : bb = false → GoE K b env M env1 M1) : GoE K (tIfS t a b) env M env1 M1 := fun H0 G0 σ G H D w f q => h σ G H f.gh f.sd _ fun G' H' w' => by
  obtain ⟨ps, m⟩ := f.mu
  have f' : Fra K H0 env M σ G' H' := ⟨w'.gh, f.sd.mono w'.gg, ps, m.grow w'⟩
  cases bb with
  | true => exact h1 rfl H0 G0 σ G' H' D (w.trans w') f' fun σ2 G2 H2 g2 => q σ2 G2 H2 (w'.gg.trans g2)
  | false => exact h2 rfl H0 G0 σ G' H' D (w.trans w') f' fun σ2 G2 H2 g2 => q σ2 G2 H2 (w'.gg.trans g2)
theorem rt_if {bb : Bool} (h : EvB K t env bb) (h1 : bb = true → RtE K a env M d) (h2 : bb = false → RtE K b env M d) : RtE K (tIfS t a b) env M d := fun H0 G0 σ G H D w f q => h σ G H f.gh f.sd _ fun G' H' w' => by
  obtain ⟨ps, m⟩ := f.mu
  have f' : Fra K H0 env M σ G' H' := ⟨w'.gh, f.sd.mono w'.gg, ps, m.grow w'⟩
  cases bb with
  | true => exact h1 rfl H0 G0 σ G' H' D (w.trans w') f' q
  | false => exact h2 rfl H0 G0 σ G' H' D (w.trans w') f' q
/-- if .. : return x, then the rest -/
theorem rt_ifs {bb : Bool} (h : EvB K t env bb) (h1 : bb = true → RtE K a env M d) (h2 : bb = false → RtE K b env M d) : RtE K (tSeq (tIfS t a tNext) b) env M d := fun H0 G0 σ G H D w f q => h σ G H f.gh f.sd _ fun G' H' w' => by
  obtain ⟨ps, m⟩ := f.mu
  have f' : Fra K H0 env M σ G' H' := ⟨w'.gh, f.sd.mono w'.gg, ps, m.grow w'⟩
  cases bb with
  | true => exact h1 rfl H0 G0 σ G' H' _ (w.trans w') f' q
  | false => exact h2 rfl H0 G0 σ G' H' D (w.trans w') f' q
theorem go_asg (h : EvE K te env d) (hi : ∀ m ∈ M, m.1 ≠ i) : GoE K (tAsg te (gName i)) env M (env.set i (some d)) M := fun H0 G0 σ G H D w f q => h σ G H f.gh f.sd _ fun v G' H' w' dv => by
  obtain ⟨ps, m⟩ := f.mu
  exact q _ G' H' w'.gg (w.trans w') ⟨w'.gh, (f.sd.mono w'.gg).set i dv, ps, (m.grow w').set hi⟩
theorem go_asgN (h : EvN K te env ds) (hi : ∀ m ∈ M, m.1 ≠ i) (hl : i < env.length) : GoE K (tAsg te (gName i)) env M (env.set i none) ((i, ds) :: M) := fun H0 G0 σ G H D w f q => h σ G H f.gh f.sd _ fun p xs G' H' w' np ng hp dx => by
  obtain ⟨ps, m⟩ := f.mu
  refine q _ G' H' w'.gg (w.trans w') ⟨w'.gh, ?_, p :: ps, .cons ?_ (w.hh.free np) ng hp dx (m.notin np) ((m.grow w').set hi)⟩
  · refine ⟨by rw [List.length_set, List.length_set, f.sd.len], fun k e z => ?_⟩
    rw [List.getElem?_set] at z ⊢
    by_cases hk : i = k
    · rw [if_pos hk] at z
      split at z <;> cases z
    · rw [if_neg hk] at z ⊢
      exact (f.sd.mono w'.gg).at' k e z
  · rw [List.getElem?_set, if_pos rfl, if_pos (by rw [f.sd.len]; exact hl)]
/-- from now on it's a datum -/
theorem Fra.freeze {H0 G0 : Hp} {σ : L2.St} {G H : Hp} (w : Gw G0 H0 G H) (f : Fra K H0 env ((i, ds) :: M) σ G H) : ∃ G', Same G G' ∧ Gw G0 H0 G' H ∧ Fra K H0 (env.set i (some (.list ds))) M σ G' H := by
  obtain ⟨ps, m⟩ := f.mu
  cases m with
  | @cons _ p xs _ _ ps a b c e g n m =>
    have w' := w.put b e c
    refine ⟨upd G p (.lst xs), sameU c, w', w'.gh, ?_, ps, m.more c n⟩
    have s := (f.sd.mono (sameU (o := HO.lst xs) c)).set (v := .ref p) (d := .list ds) i (.lst (.inl (.inl upd_same)) (dpsM (sameU c) g))
    have e2 : σ.set i (some (V.ref p)) = σ := by
      apply List.ext_getElem?
      intro k
      rw [List.getElem?_set]
      by_cases hk : i = k
      · rw [if_pos hk, ← hk, a, if_pos (List.getElem?_eq_some_iff.mp a).1]
      · rw [if_neg hk]
    rw [e2] at s
    exact s
theorem go_freeze (h : GoE K a (env.set i (some (.list ds))) M env1 M1) : GoE K a env ((i, ds) :: M) env1 M1 := fun H0 G0 σ G H D w f q => by
  obtain ⟨G', g', w', f'⟩ := f.freeze w
  exact h H0 G0 σ G' H D w' f' fun σ2 G2 H2 g2 => q σ2 G2 H2 (g'.trans g2)
theorem rt_freeze (h : RtE K a (env.set i (some (.list ds))) M d) : RtE K a env ((i, ds) :: M) d := fun H0 G0 σ G H D w f q => by
  obtain ⟨G', g', w', f'⟩ := f.freeze w
  exact h H0 G0 σ G' H D w' f' q
theorem mu_swap {H0 G H : Hp} {σ : L2.St} {x y : Nat × List Dt} {ps : List Addr} (h : Mu K H0 G H σ (x :: y :: M) ps) : ∃ qs, Mu K H0 G H σ (y :: x :: M) qs := by
  cases h with
  | @cons _ p _ _ _ _ a b c d e f h =>
    cases h with
    | @cons _ q _ _ _ ps a' b' c' d' e' f' g =>
      refine ⟨q :: p :: ps, .cons a' b' c' d' e' (fun z => ?_) (.cons a b c d e (fun z => f (List.mem_cons_of_mem _ z)) g)⟩
      (rcases List.mem_cons.mp z with z | z)
      · exact f (by rw [z]; exact List.mem_cons_self)
      · exact f' z
theorem Fra.swap {H0 : Hp} {σ : L2.St} {G H : Hp} {x y : Nat × List Dt} (f : Fra K H0 env (x :: y :: M) σ G H) : Fra K H0 env (y :: x :: M) σ G H := by
  obtain ⟨ps, m⟩ := f.mu
  exact ⟨f.gh, f.sd, mu_swap m⟩
theorem go_swap {x y : Nat × List Dt} (h : GoE K a env (y :: x :: M) env1 M1) : GoE K a env (x :: y :: M) env1 M1 := fun H0 G0 σ G H D w f q => h H0 G0 σ G H D w f.swap q
theorem go_swap' {x y : Nat × List Dt} (h : GoE K a env M env1 (y :: x :: M1)) : GoE K a env M env1 (x :: y :: M1) := fun H0 G0 σ G H D w f q => h H0 G0 σ G H D w f fun σ' G' H' g' w' f' => q σ' G' H' g' w' f'.swap
/-- a name forgotten -/
theorem Fra.weak {H0 : Hp} {σ : L2.St} {G H : Hp} (f : Fra K H0 env M σ G H) (hl : env1.length = env.length) (h : ∀ (k : Nat) (e : Dt), env1[k]? = some (some e) → env[k]? = some (some e)) : Fra K H0 env1 M σ G H := ⟨f.gh, ⟨f.sd.len.trans hl.symm, fun k e z => f.sd.at' k e (h k e z)⟩, f.mu⟩
theorem go_weak (h : GoE K a env M env1 M1) (hl : env2.length = env1.length) (hk : ∀ (k : Nat) (e : Dt), env2[k]? = some (some e) → env1[k]? = some (some e)) : GoE K a env M env2 M1 := fun H0 G0 σ G H D w f q => h H0 G0 σ G H D w f fun σ' G' H' g' w' f' => q σ' G' H' g' w' (f'.weak hl hk)
/-- x.append(e), x a list of one's own -/
theorem go_app (h : EvE K te env d) (hl : ds.length < 100000) : GoE K (tDrop (tBM K "list" rAppend (tVar i) (tCons te tNil))) env ((i, ds) :: M) env ((i, ds ++ [d]) :: M) := fun H0 G0 σ G H D w f q => by
  obtain ⟨ps, m⟩ := f.mu
  cases m with
  | @cons _ p xs _ _ ps a b c e g n m =>
    refine ⟨.ref p, a, .inl ⟨rfl, xs, .inl (.inl e)⟩, ?_⟩
    refine h σ G H f.gh f.sd _ fun v G' H' w' dv => ?_
    have hp := w'.hh _ _ e
    have ng := w'.keeps e c
    have w2 := (w.trans w').mut (o := HO.lst (xs ++ [v])) b ng
    exact ⟨p, xs, v, rfl, rfl, hp, by rw [dpsLen g]; exact Nat.lt_of_lt_of_le hl (by decide), q σ G' _ w'.gg w2 ⟨w2.gh, f.sd.mono w'.gg, p :: ps, .cons a b ng upd_same (dpsApp (dpsM w'.gg g) (.cons dv .nil)) n ((m.grow w').other n)⟩⟩
/-- for x in ..: the env and the lists by turns -/
theorem go_for {wi : TI} (h : EvI K wi env ds) (ev : Nat → Env0') (mv : Nat → MuL) (h0 : ev 0 = env) (m0 : mv 0 = M) (hb : ∀ (k : Nat) (d : Dt), ds[k]? = some d → GoE K a ((ev k).set j (some d)) (mv k) (ev (k + 1)) (mv (k + 1))) (hj : ∀ k, ∀ m ∈ mv k, m.1 ≠ j) :
    GoE K (tFor wi (gName j) a) env M (ev ds.length) (mv ds.length) := fun H0 G0 σ G H D w f q => by
  refine h σ G H f.gh f.sd _ fun J G1 H1 w1 wk => ?_
  obtain ⟨ps, m⟩ := f.mu
  refine for_it (n := ds.length) wk (fun k σ' H' => ∃ G2, Gw G0 H0 G2 H' ∧ Same G1 G2 ∧ Fra K H0 (ev k) (mv k) σ' G2 H') ⟨G1, w.trans w1, Same.refl _, by rw [h0, m0]; exact ⟨w1.gh, f.sd.mono w1.gg, ps, m.grow w1⟩⟩ (fun k σ' H' _ ⟨G2, w2, g2, f2⟩ => g2.trans f2.gh) ?_ ?_
  · rintro k x σ' H' H'' hk ⟨G2, w2, g2, f2⟩ ⟨rfl, d, hd, dd⟩
    obtain ⟨qs, m2⟩ := f2.mu
    exact hb k d hd H0 G0 _ G2 H'' _ w2 ⟨f2.gh, f2.sd.set j (dpM g2 dd), qs, m2.set (hj k)⟩ fun σ3 G3 H3 g3 w3 f3 => ⟨G3, w3, g2.trans g3, f3⟩
  · rintro σ' H' ⟨G2, w2, g2, f2⟩
    exact q σ' G2 H' (w1.gg.trans g2) w2 f2
end
end LH

namespace LH
open PySem PySem.Spec L2 PyProof.Rows
/-! ### more operations; a def by its mirror -/
theorem pe_tyN {X : Cx} {x : Str} {pos : Pos} (T : String) (hg : Gl X x) (hm : X.mg x = none) (hv : bootBuiltins x = some (.type T)) (hn : x ≠ "__name__" := by decide) (hdb : (x == ("__debug__" : Str)) = false := by decide) : PE X (.Name x pos) (tC (.ty T)) := pe_bltn hg hm hv (r := rfl) (hn := hn) (hd := hdb)
section
variable {K : PySem.W.Frag} {env : Env0'}
/-- len -/
def lenD : Dt → Option Nat
  | .str z => if z.length ≤ 100000 then some z.length else none
  | .list ds => some ds.length
  | .tuple ds => some ds.length
  | _ => none
theorem call_lenA {X : Cx} : CallR X (.builtin "len") (rLen X.K) := call_len
theorem ee_len {ta : TE} {d : Dt} {n : Nat} (h : EvE K ta env d) (hn : lenD d = some n) : EvE K (tCB (rLen K) (tCons ta tNil)) env (.int (n : Int)) := fun σ G H gh s Q q => h σ G H gh s _ fun v G2 H2 e dv => by
  refine ⟨v, n, rfl, ?_, q _ G2 H2 e (.int _)⟩
  cases dv with
  | str z =>
    have hn' : (if z.length ≤ 100000 then some z.length else none) = some n := hn
    by_cases hz : z.length ≤ 100000
    · rw [if_pos hz] at hn'
      exact ⟨Nat.le_trans hz (by decide), (Option.some.inj hn').symm⟩
    · rw [if_neg hz] at hn'
      cases hn'
  | lst hs hd =>
    cases hn
    exact .inl ⟨_, e.gh.seq hs, (dpsLen hd).symm⟩
  | tup hs hd =>
    cases hn
    exact .inr ⟨_, sameT e.gh hs, (dpsLen hd).symm⟩
  | non => cases hn
  | dct => cases hn
  | bl => cases hn
  | int => cases hn
/-- x[i] -/
def ixD : Dt → Int → Option Dt
  | .list ds, i => atI ds i
  | .tuple ds, i => atI ds i
  | .str z, i => if z.length ≤ 100000 then (atI z.cps.toList i).map fun c => .str ⟨#[c]⟩ else none
  | _, _ => none
theorem rd_ix {x d : Dt} {i : Int} (h : ixD x i = some d) : RD K (rIx K) x (.int i) d := fun a b G H gh da db Q q => by
  cases x with
  | list ds => exact .inl (rd_ixL h a b G H gh da db Q q)
  | tuple ds => exact .inr (.inl (rd_ixT h a b G H gh da db Q q))
  | str z =>
    refine .inr (.inr ?_)
    cases da
    cases db
    have h' : (if z.length ≤ 100000 then (atI z.cps.toList i).map (fun c => PyData.str ⟨#[c]⟩) else none) = some d := h
    by_cases hz : z.length ≤ 100000
    · rw [if_pos hz] at h'
      cases e : atI z.cps.toList i with
      | none => (rw [e] at h'; cases h')
      | some c =>
        rw [e] at h'
        cases h'
        exact ⟨z, i, c, rfl, rfl, Nat.le_trans hz (by decide), e, q _ G H (Gw.refl gh) (.str _)⟩
    · rw [if_neg hz] at h'
      cases h'
  | _ => cases h
/-- a sign in a text -/
theorem rd_sign {c : Nat} {z : Str} : RD K (fun x y H Q => ∃ (c : Nat) (z : Str), x = .str ⟨#[c]⟩ ∧ y = .str z ∧ Q (.bl (decide (c ∈ z.cps.toList))) H) (.str ⟨#[c]⟩) (.str z) (.bool (decide (c ∈ z.cps.toList))) := fun a b G H gh da db Q q => by
  cases da
  cases db
  exact ⟨c, z, rfl, rfl, q _ G H (Gw.refl gh) (.bl _)⟩
theorem rd_le {i j : Int} : RD K (rI0 fun i j => .bl (decide (i ≤ j))) (.int i) (.int j) (.bool (decide (i ≤ j))) := rd_I0b (g := fun i j => decide (i ≤ j))
theorem rd_lt {i j : Int} : RD K (rI0 fun i j => .bl (decide (i < j))) (.int i) (.int j) (.bool (decide (i < j))) := rd_I0b (g := fun i j => decide (i < j))
theorem rd_ge {i j : Int} : RD K (rI0 fun i j => .bl (decide (j ≤ i))) (.int i) (.int j) (.bool (decide (j ≤ i))) := rd_I0b (g := fun i j => decide (j ≤ i))
theorem rd_gt {i j : Int} : RD K (rI0 fun i j => .bl (decide (j < i))) (.int i) (.int j) (.bool (decide (j < i))) := rd_I0b (g := fun i j => decide (j < i))
theorem rd_add {i j : Int} : RD K (rI0 fun i j => .int (i + j)) (.int i) (.int j) (.int (i + j)) := rd_I0i (g := fun i j => i + j)
theorem rd_sub {i j : Int} : RD K (rI0 fun i j => .int (i - j)) (.int i) (.int j) (.int (i - j)) := rd_I0i (g := fun i j => i - j)
/-- all([.. for ..]) -/
theorem ee_all {ta : TE} {bs : List Bool} (h : EvE K ta env (.list (bs.map PyData.bool))) : EvE K (tCB (rAll K) (tCons ta tNil)) env (.bool (bs.all id)) := ee_cb (ea_cons h ea_nil) rc_all
theorem ee_allc {ta : TE} {ds : List Dt} {g : Dt → Bool} (h : EvN K ta env (ds.map fun d => .bool (g d))) : EvE K (tCB (rAll K) (tCons ta tNil)) env (.bool (ds.all g)) := by
  have e : (ds.map fun d => PyData.bool (g d)) = (ds.map g).map PyData.bool := by rw [List.map_map]; rfl
  rw [e] at h
  have r := ee_all (ee_of h)
  rw [List.all_map] at r
  exact r
/-! isinstance -/
def isIntD : Dt → Bool
  | .int _ => true
  | .bool _ => true
  | _ => false
def isBoolD : Dt → Bool
  | .bool _ => true
  | _ => false
def isStrD : Dt → Bool
  | .str _ => true
  | _ => false
def isTupleD : Dt → Bool
  | .tuple _ => true
  | _ => false
def isListD : Dt → Bool
  | .list _ => true
  | _ => false
theorem ee_isT {ta : TE} {d : Dt} {T : String} (f : Dt → Bool) (hf : ∀ d, kitB (tyN d) T = some (f d)) (h : EvE K ta env d) : EvE K (tCB (rIsi K) (tCons ta (tCons (tC (.ty T)) tNil))) env (.bool (f d)) := fun σ G H gh s Q q =>
  h σ G H gh s _ fun v G2 H2 e dv => ⟨v, .ty T, .type (tyN d), .type T, f d, rfl, .ty T, tyX (dpM e.gh dv), kit_ty (hf d), q _ G2 H2 e (.bl _)⟩
theorem ee_isInt {ta : TE} {d : Dt} (h : EvE K ta env d) : EvE K (tCB (rIsi K) (tCons ta (tCons (tC (.ty "int")) tNil))) env (.bool (isIntD d)) := ee_isT isIntD (fun d => match d with
  | .none => (by decide +kernel : kitB "NoneType" "int" = some false)
  | .bool _ => (by decide +kernel : kitB "bool" "int" = some true)
  | .int _ => (by decide +kernel : kitB "int" "int" = some true)
  | .str _ => (by decide +kernel : kitB "str" "int" = some false)
  | .list _ => (by decide +kernel : kitB "list" "int" = some false)
  | .tuple _ => (by decide +kernel : kitB "tuple" "int" = some false)
  | .dict _ => (by decide +kernel : kitB "dict" "int" = some false)) h
theorem ee_isBool {ta : TE} {d : Dt} (h : EvE K ta env d) : EvE K (tCB (rIsi K) (tCons ta (tCons (tC (.ty "bool")) tNil))) env (.bool (isBoolD d)) := ee_isT isBoolD (fun d => match d with
  | .none => (by decide +kernel : kitB "NoneType" "bool" = some false)
  | .bool _ => (by decide +kernel : kitB "bool" "bool" = some true)
  | .int _ => (by decide +kernel : kitB "int" "bool" = some false)
  | .str _ => (by decide +kernel : kitB "str" "bool" = some false)
  | .list _ => (by decide +kernel : kitB "list" "bool" = some false)
  | .tuple _ => (by decide +kernel : kitB "tuple" "bool" = some false)
  | .dict _ => (by decide +kernel : kitB "dict" "bool" = some false)) h
theorem ee_isStr {ta : TE} {d : Dt} (h : EvE K ta env d) : EvE K (tCB (rIsi K) (tCons ta (tCons (tC (.ty "str")) tNil))) env (.bool (isStrD d)) := ee_isT isStrD (fun d => match d with
  | .none => (by decide +kernel : kitB "NoneType" "str" = some false)
  | .bool _ => (by decide +kernel : kitB "bool" "str" = some false)
  | .int _ => (by decide +kernel : kitB "int" "str" = some false)
  | .str _ => (by decide +kernel : kitB "str" "str" = some true)
  | .list _ => (by decide +kernel : kitB "list" "str" = some false)
  | .tuple _ => (by decide +kernel : kitB "tuple" "str" = some false)
  | .dict _ => (by decide +kernel : kitB "dict" "str" = some false)) h
theorem ee_isTuple {ta : TE} {d : Dt} (h : EvE K ta env d) : EvE K (tCB (rIsi K) (tCons ta (tCons (tC (.ty "tuple")) tNil))) env (.bool (isTupleD d)) := ee_isT isTupleD (fun d => match d with
  | .none => (by decide +kernel : kitB "NoneType" "tuple" = some false)
  | .bool _ => (by decide +kernel : kitB "bool" "tuple" = some false)
  | .int _ => (by decide +kernel : kitB "int" "tuple" = some false)
  | .str _ => (by decide +kernel : kitB "str" "tuple" = some false)
  | .list _ => (by decide +kernel : kitB "list" "tuple" = some false)
  | .tuple _ => (by decide +kernel : kitB "tuple" "tuple" = some true)
  | .dict _ => (by decide +kernel : kitB "dict" "tuple" = some false)) h
theorem ee_isList {ta : TE} {d : Dt} (h : EvE K ta env d) : EvE K (tCB (rIsi K) (tCons ta (tCons (tC (.ty "list")) tNil))) env (.bool (isListD d)) := ee_isT isListD (fun d => match d with
  | .none => (by decide +kernel : kitB "NoneType" "list" = some false)
  | .bool _ => (by decide +kernel : kitB "bool" "list" = some false)
  | .int _ => (by decide +kernel : kitB "int" "list" = some false)
  | .str _ => (by decide +kernel : kitB "str" "list" = some false)
  | .list _ => (by decide +kernel : kitB "list" "list" = some true)
  | .tuple _ => (by decide +kernel : kitB "tuple" "list" = some false)
  | .dict _ => (by decide +kernel : kitB "dict" "list" = some false)) h
/-- a, b, .. = a tuple -/
def setsD (env : Env0') : List Nat → List Dt → Env0'
  | i :: is, d :: ds => setsD (env.set i (some d)) is ds
  | _, _ => env
def gNames : List Nat → TGs
  | [] => gNil
  | i :: is => gCons (gName i) (gNames is)
theorem gs_names {G H : Hp} : ∀ {is : List Nat} {σ : L2.St} {env : Env0'} {xs : List V} {ds : List Dt} {Q : L2.St → Hp → Prop}, is.length = ds.length → DqAll K G xs ds → Sd K G σ env → (∀ σ', Sd K G σ' (setsD env is ds) → (∀ j, j ∉ is → σ'[j]? = σ[j]?) → Q σ' H) → gNames is xs σ H Q
  | [], _, _, _, _, _, hl, .nil, s, q => ⟨rfl, q _ s fun _ _ => rfl⟩
  | [], _, _, _, _, _, hl, .cons _ _, _, _ => nomatch hl
  | i :: is, _, _, _, _, _, hl, .nil, _, _ => nomatch hl
  | i :: is, _, _, _, _, _, hl, .cons (v := v) h t, s, q => ⟨v, _, rfl, gs_names (is := is) (Nat.succ.inj hl) t (s.set i h) fun σ' s' k => q σ' s' fun j hj => by
      rw [k j fun z => hj (List.mem_cons_of_mem _ z), List.getElem?_set_ne fun z => hj (by rw [z]; exact List.mem_cons_self)]⟩
theorem Mu.keepσ {H0 G H : Hp} {σ σ' : L2.St} {is : List Nat} (k : ∀ j, j ∉ is → σ'[j]? = σ[j]?) : ∀ {M : MuL} {ps : List Addr}, Mu K H0 G H σ M ps → (∀ m ∈ M, m.1 ∉ is) → Mu K H0 G H σ' M ps
  | _, _, .nil, _ => .nil
  | _, _, .cons a b c d e f g, h => .cons ((k _ (h _ List.mem_cons_self)).trans a) b c d e f (g.keepσ k fun m hm => h m (List.mem_cons_of_mem _ hm))
theorem go_unpack {te : TE} {is : List Nat} {ds : List Dt} {M : MuL} {n : Nat} (h : EvE K te env (.tuple ds)) (hl : is.length = ds.length) (hn : ds.length = n) (hi : ∀ m ∈ M, m.1 ∉ is) : GoE K (tAsg te (gTup K n (gNames is))) env M (setsD env is ds) M := fun H0 G0 σ G H D w f q => h σ G H f.gh f.sd _ fun v G' H' w' dv => by
  obtain ⟨ps, m⟩ := f.mu
  cases dv with
  | @tup p xs _ hs hd =>
    exact ⟨p, xs, rfl, sameT w'.gh hs, (dpsLen hd).trans hn, gs_names hl hd (f.sd.mono w'.gg) fun σ' s' k => q σ' G' H' w'.gg (w.trans w') ⟨w'.gh, s', ps, (m.grow w').keepσ k hi⟩⟩
end
section
variable {w : World} {P : Program} {K : PySem.W.Frag} {mg : Str → Option Value} {base : Heap}
/-- a def that stands by its name -/
structure Dfn (K : PySem.W.Frag) (mg : Str → Option Value) (x : Str) (st : Stmt) (ps : List Str) : Prop where
  ex : ∃ (f : Addr) (fd : FuncData), Fun K x x st f fd ∧ mg x = some (.ref f) ∧ Binds K fd ps []
/-- THE RULE: a def keeps its mirror -/
theorem calF {x : Str} {st : Stmt} {N ps : List Str} {k : Nat} (m : List Dt → Option Dt) (F : Dfn K mg x st ps) (S : FnScope N ps (defScope st)) (hlen : ∀ ds d, m ds = some d → ds.length = ps.length)
    (hbody : ∀ (f : Addr) (cdv : Value) (A : Around) (outer : List Env) (s : Shared) (H : Hp) (E : XK), Room k (A.deeper (envOfC x (defScope st) s.heap.objs.size f cdv)) → ∀ ds d, m ds = some d →
      ∃ t, PSs (cxOf CX0 P w K mg base N x (defScope st) f cdv A outer s H E).nox (defBody st) t ∧ RtE K t (startD N.length ds) [] d) : C8.Cal P w K mg base (k + 1) x (spF K m) [] := by
  obtain ⟨f, fd, F, hm, b⟩ := F.ex
  refine ⟨f, fd, ps, [], F.ok S (fun vs H Q E h => ?_) (fun cdv A outer s H vs Q E hr h => ?_), hm, F.kp, b, .nil⟩
  · obtain ⟨G, ds, d, gh, hd, hf, _⟩ := h
    rw [dpsLen hd]
    exact hlen ds d hf
  · obtain ⟨G, ds, d, gh, hd, hf, q⟩ := h
    obtain ⟨t, ht, hv⟩ := hbody f cdv A outer s H E hr ds d hf
    exact ⟨t, ht, hv H G _ G H _ (Gw.refl gh) ⟨gh, sdStart hd, [], .nil⟩ q⟩
end
end LH

namespace LH
open PySem PySem.Spec L2 PyProof.Rows
/-! ### defs that are called where no repr is under way -/
def Clr (A : Around) : Prop := A.guards = some []
theorem Clr.deeper {A : Around} (h : Clr A) (env : Env) : Clr (A.deeper env) := h
structure FnG (P : Program) (w : World) (K : PySem.W.Frag) (mg : Str → Option Value) (base : Heap) (k : Nat) (f : Addr) (fd : FuncData) (ps : List Str) (sp : Sp) : Prop where
  cnt : ∀ vs H Q E, sp vs H Q E → vs.length = ps.length
  go : ∀ (A : Around) (outer : List Env) (s : Shared) (H : Hp) (args : Args) (us : List Value) (vs : List V) (Q : VK) (E : XK), Clr A → Room k A → Env0 P w K mg base A outer s H → BindsTo s fd args (ps.zip us) → Vals vs us → sp vs H Q E → codeAny (model P w) A (.call (.ref f) args) (CR L2.CX0 outer P w H s Q E) s
section
variable {w : World} {P : Program} {K : PySem.W.Frag} {mg : Str → Option Value} {base : Heap}
theorem FnG.of {x qual : Str} {st : Stmt} {f : Addr} {fd : FuncData} {N ps : List Str} {k : Nat} {sp : Sp} (F : L2.Fun K x qual st f fd) (S : FnScope N ps (defScope st)) (cnt : ∀ vs H Q E, sp vs H Q E → vs.length = ps.length)
    (body : ∀ (cdv : Value) (A : Around) (outer : List Env) (s : Shared) (H : Hp) (vs : List V) (Q : VK) (E : XK), Clr A → Room k (A.deeper (envOfC qual (defScope st) s.heap.objs.size f cdv)) → sp vs H Q E →
      ∃ t, PSs (cxOf L2.CX0 P w K mg base N qual (defScope st) f cdv A outer s H E).nox (defBody st) t ∧ t { nx := fun _ H' => Q .non H', rt := Q } (L2.start N vs) H) : FnG P w K mg base (k + 1) f fd ps sp := by
  (obtain ⟨oc, od, kV, doc, pm, an, cdv, ct, osl, rfl, lk, hcd⟩ := F.ex)
  refine ⟨cnt, fun A outer s H args us vs Q E hc hr e0 hb r hsp => ?_⟩
  have hin : K.In s.heap := e0.mod.kin.keeps fun b o e => (e0.bs b o e).1
  have hlim : s.heap.NoLimit := e0.mod.nolimit.keeps fun b o e => (e0.bs b o e).1
  have kinds : ∀ y ∈ ps.zip us, (defScope st).names.lookup y.1 = some .local ∨ ((defScope st).names.lookup y.1 = some .cell ∧ ((cellsFrom (s.heap.objs.size + 1) (defScope st).names []).lookup y.1).isSome = true) := by
    rintro ⟨n, v⟩ hy
    exact (S.par n (List.of_mem_zip hy).1).imp id fun q => ⟨q, PySem.W.cellsFrom_some _ _ _ (.inl q)⟩
  refine codeAny_call_function hr.depth (hin _ _ lk) rfl S.co S.gen rfl (PySem.W.codeRec_of hin hcd) (hb _ _ _ _ (wpAny_newFunctionEnv_cells S.kind kinds fun env he s1 z => ?_))
  subst he
  refine ⟨hlim.keeps z.toInCall.keep, codeAny_func ?_⟩
  obtain ⟨t, ht, hq⟩ := body cdv A outer s H vs Q E hc (hr.deeper _) hsp
  have I : Inv (cxOf L2.CX0 P w K mg base N qual (defScope st) f cdv A outer s H E) [] (L2.start N vs) H s1 := inv_start S hr.hd e0 (cnt _ _ _ _ hsp) r z
  refine wpAny_mono (ht.nox.run [] s1 (L2.start N vs) H _ I hq) (fun fl s' hs => ?_) fun _ _ h => h
  match fl, hs with
  | .ret u, ⟨v, σ', H', J, rv, q⟩ => exact ⟨v, H', J.os, J.bare, J.base, J.hok, rv, q⟩
  | .next, ⟨σ', H', J, q⟩ => exact ⟨V.non, H', J.os, J.bare, J.base, J.hok, rfl, q⟩
  | .brk, ⟨_, _, _, q⟩ => exact q.elim
  | .cont, ⟨_, _, _, q⟩ => exact q.elim
/-- such a def by its name -/
structure CalG (P : Program) (w : World) (K : PySem.W.Frag) (mg : Str → Option Value) (base : Heap) (k : Nat) (x : Str) (sp : Sp) : Prop where
  ex : ∃ (f : Addr) (fd : FuncData) (ps : List Str), FnG P w K mg base k f fd ps sp ∧ mg x = some (.ref f) ∧ PySem.W.keepIn K (.ref f) = true ∧ Binds K fd ps []
end
section
variable {X : Cx} {k j : Nat} {x : Str} {sp : Sp} {p pos : Pos} {e : Expr} {es : List Expr} {t : TA}
theorem pe_cG (c : CalG X.prog X.w X.K X.mg X.base k x sp) (hc : Clr X.A) (hr : Room j X.A) (hk : k ≤ j) (hg : Gl X x) (ha : PA X (e :: es) t)
    (hdb : (x == ("__debug__" : Str)) = false := by decide) (hs : starEach (e :: es) X.env = (false, eval e X.env) :: starEach es X.env := by rfl) (hpl : (backTo pos (starEach es X.env)).any (·.1) = false := by rfl) :
    PE X (.Call (.Name x p) (e :: es) [] pos) (tCall sp [] L2.E0 t) := by
  obtain ⟨f, fd, ps, F, hm, kp, b⟩ := c.ex
  refine ⟨fun pins s σ H Q I h => wpAny_Call_Name_kw (ld_glob I hg hm ?_ hdb)⟩
  refine PySem.W.callWith_K (h₀ := X.base) I.ok.mod.kin kp (thn (ha.run pos pins s σ H _ I h) fun us s1 ⟨vs, H1, I1, r, q⟩ => ⟨I1.kIn, ?_⟩) hs hpl
  have q' : sp vs H1 Q L2.E0 := by
    have z : sp (vs ++ []) H1 Q L2.E0 := q
    rwa [List.append_nil] at z
  have hl : us.length = ps.length := r.length.symm.trans (F.cnt _ _ _ _ q')
  have b1 := b s1 us I1.kIn (by rw [List.append_nil]; exact hl)
  rw [List.append_nil] at b1
  refine wpAny_call (codeAny_mono (F.go X.A X.stack s1 H1 ⟨us, []⟩ us vs Q L2.E0 hc (hr.mono hk) I1.env0 b1 r q') fun r s' hq => ?_)
  match r, hq with
  | .error e, hq => exact False.elim hq
  | .ok (.ret u), hq => exact I1.after hq
  | .ok .next, hq => exact False.elim hq
  | .ok .brk, hq => exact False.elim hq
  | .ok .cont, hq => exact False.elim hq
/-! ### repr of data -/
def rRepr (K : PySem.W.Frag) : List V → Hp → VK → Prop := fun xs H Q => ∃ v d, xs = [v] ∧ Dp K H v d ∧ d.showable = true ∧ d.hasDict = false ∧ d.depth ≤ 64 ∧ d.shown.length ≤ sizeLine ∧ Q (.str d.shown) H
theorem call_repr {k : Nat} (hc : Clr X.A) (hr : Room k X.A) : CallR X (.builtin "repr") (rRepr X.K) := by
  (intro pins s σ H xs us Q I r h)
  obtain ⟨v, d, rfl, hd, h1, h2, h3, h4, q⟩ := h
  (obtain ⟨u, rfl, ru⟩ := vals1 r)
  obtain ⟨as, rd⟩ := Dp.reads I d v u hd ru
  have fin : ∀ (h' : Heap) (t tk : Tok), (∀ b o, s.heap.get? b = some o → h'.get? b = some o) → EP X pins σ Q (.str d.shown t) { s with heap := h', toks := tk } := fun h' t tk hk => ⟨.str _, H, I.kept hk, ⟨t, rfl⟩, q⟩
  have un := hr.un
  cases hd with
  | non => cases ru; exact PySem.P.repr_of_none (fin _ _ _ fun _ _ e => e)
  | bl b => cases ru; exact PySem.P.repr_of_bool (fin _ _ _ fun _ _ e => e)
  | int i =>
    obtain ⟨t, rfl⟩ := ru
    exact PySem.P.repr_of_int (of_decide_eq_true h1) (fin _ _ _ fun _ _ e => e)
  | str z =>
    obtain ⟨t, rfl⟩ := ru
    exact PySem.P.repr_of_str (fin _ _ _ fun _ _ e => e) h4
  | lst hs ha =>
    cases ru
    exact repr_of_reads' rd h1 (fun z => by rw [h2] at z; cases z) hc (by omega) (fun _ _ e => e) (fun h' t tk hk => fin h' t tk hk) h4
  | tup hs ha =>
    cases ru
    exact repr_of_reads' rd h1 (fun z => by rw [h2] at z; cases z) hc (by omega) (fun _ _ e => e) (fun h' t tk hk => fin h' t tk hk) h4
/-! ### x in a tuple of data -/
def rInT (K : PySem.W.Frag) (neg : Bool) : R2 := fun x y H Q => ∃ d ds, Dp K H x d ∧ Dp K H y (.tuple ds) ∧ SeqAt.shaped d = true ∧ SeqAt.shaped (.tuple ds) = true ∧ Q (.bl (if neg then !(ds.any fun z => PyData.eqv z d) else ds.any fun z => PyData.eqv z d)) H
theorem op_inTD {k : Nat} (hr : Room k X.A) : OpR X (compareOp .In) (rInT X.K false) := by
  (intro pins s σ H x y v u Q I rx ry h)
  (obtain ⟨d, ds, hd, he, sd, se, q⟩ := h)
  (obtain ⟨as, r1⟩ := Dp.reads I d x v hd rx)
  obtain ⟨bs, r2⟩ := Dp.reads I (.tuple ds) y u he ry
  have un := hr.un
  exact SeqAt.in_tuple_reads r2 r1 (SeqAt.canLay_of_shaped se) (SeqAt.canLay_of_shaped sd) (room_in_shaped sd (by omega)) ⟨.bl _, H, I, rfl, q⟩
end
end LH

namespace LH
open PySem PySem.Spec PySem.Calls PyProof.Rows L2
/-! ### a, *b = a tuple -/
section
variable {w : World} {prog : Program} {A : Around} {E : Value → Shared → Prop} {s : Shared}
theorem star_items {l : Addr} {y : Value} {ys : List Value} {Q : List Value → Shared → Prop} (hl : IsTup s.heap l (y :: ys).toArray) (hh : A.handled = none) (hz : ys.length + 1 ≤ sizeLine)
    (q : ∀ (h' : Heap) (tk : Tok), (∀ b o, s.heap.get? b = some o → h'.get? b = some o) → Q [y, .ref h'.objs.size] { s with heap := h'.push { cls := .type "list", data := .seq ys.toArray }, toks := tk }) : wpAny (model prog w) A (unpackItems (.ref l) 2 (some 1)) Q E s := by
  have l1 : l < s.heap.objs.size := by
    obtain ⟨o, ho, _⟩ := hl
    exact Heap.lt_size ho
  have l2 : l ≠ s.heap.objs.size := Nat.ne_of_lt l1
  unfold unpackItems
  refine wpAny_bind ?_
  unfold notIterableAtAll
  refine wpAny_bind (wpAny_specialOf hl.typeIs slot_tuple_iter.lookup (wpAny_pure ?_))
  (simp only [Bool.false_eq_true, if_false])
  refine wpAny_bind (wpAny_holding (iter_tuple hl (wpAny_bind (wpAny_holding (draw_tuple l2 1 0 _ _ ⟨_, Heap.get?_push_size _ rfl, rfl, rfl⟩ (hl.push _) (by simp) fun ha ia sa => ?_)))))
  rw [Nat.zero_add] at ia
  have ta : IsTup ha l (y :: ys).toArray := (hl.push _).extBut sa.extBut l2
  have la : s.heap.objs.size < ha.objs.size ∧ l < ha.objs.size := by
    obtain ⟨o, ho, _⟩ := ia
    obtain ⟨p, hp, _⟩ := ta
    exact ⟨Heap.lt_size ho, Heap.lt_size hp⟩
  show wpAny _ _ (if [y].length < 1 then _ else _) _ _ _
  rw [if_neg (show ¬ ([y].length < 1) from Nat.lt_irrefl 1)]
  refine wpAny_bind (wpAny_holding (PySem.W.kun_collect (s := { s with heap := ha }) (items := (y :: ys).toArray) (T := "tuple_iterator") (.inr (.inr (.inr rfl))) (Walks.tuple (A := A.in1) hh s.heap.objs.size l l2 (y :: ys).toArray) (fun j u st => st.1.typeIs) (k := 1) (by simp) ⟨ia, ta⟩ la.1 la.2 (fun hb tk kb => ?_) (by simpa using hz)))
  show wpAny _ _ (if ys.length < 0 then _ else _) _ _ _
  rw [if_neg (by omega)]
  show wpAny _ _ (newList (ys.take (ys.length - 0)) >>= fun d => pure ([y] ++ [d] ++ ys.drop (ys.length - 0))) _ _ _
  rw [Nat.sub_zero, List.take_length, List.drop_length]
  refine wpAny_bind (wpAny_newList (wpAny_pure (q hb tk fun b o e => ?_)) (by omega))
  have nb : b ≠ s.heap.objs.size := Nat.ne_of_lt (Heap.lt_size e)
  exact kb b o nb (sa.extBut b o nb (Heap.get?_push_of_some _ e))
end
def gStar (K : PySem.W.Frag) (t u : TG) : TG := fun v σ H Q => ∃ a x xs, v = .ref a ∧ SqT K H a (x :: xs) ∧ ∀ l, H l = none → t x σ (upd H l (.lst xs)) fun σ1 H1 => u (.ref l) σ1 H1 Q
section
variable {X : Cx} {pos : Pos}
theorem pg_star {e f : Expr} {t u : TG} {sp : Pos} {k : Nat} (hc : X.calm = true) (h1 : PG X e t) (h2 : PG X f u)
    (hs : assignEach [e, .Starred f sp] X.env = [(false, assign e X.env), (true, assign f X.env)] := by rfl) : PG X (.Tuple [e, .Starred f sp] k pos) (gStar X.K t u) := by
  refine ⟨fun pins s σ H v w Q I r hw => ?_⟩
  obtain ⟨a, x, xs, rfl, hq, hw⟩ := hw
  cases r
  (obtain ⟨its, rv, ht, hz⟩ := I.tuple hq)
  cases rv with
  | @cons _ y _ ys ry rys =>
    rw [assign_Tuple, hs]
    (refine wpAny_bind (wpAny_standAt ?_))
    unfold unpack
    refine wpAny_bind (wpAny_holding (star_items ht (I.ok.hd hc) (by rw [← rys.length]; exact hz) fun h' tk hk => ?_))
    have Ik : Inv X pins σ H { s with heap := h', toks := tk } := I.kept hk
    have hf : H h'.objs.size = none := Ik.hok.fresh (Nat.le_refl _)
    have I2 : Inv X pins σ (upd H h'.objs.size (.lst xs)) { s with heap := h'.push { cls := .type "list", data := .seq ys.toArray }, toks := tk } := Ik.laid (t' := tk) (fun b o z => Heap.get?_push_of_some _ z) (Nat.le_refl _) ⟨by have z := hz; simp only [List.length_cons] at z; omega, ys, 0, rys, Heap.get?_push_size _ rfl⟩
    refine assignInOrder_cons (thn (h1.run pins _ σ _ _ _ _ I2 ry (hw _ hf)) fun _ s1 ⟨σ1, H1, J1, q1⟩ => ?_)
    refine assignInOrder_cons (thn (h2.run pins s1 σ1 H1 (.ref h'.objs.size) _ _ J1 rfl q1) fun _ s2 ⟨σ2, H2, J2, q2⟩ => ?_)
    exact assignInOrder_nil ⟨σ2, H2, J2, q2⟩
end
end LH

namespace LH
open PySem PySem.Spec L2 PyProof.Rows
/-! ### sets of tuples of texts -/
/-- the tuple at b has the texts k -/
abbrev TxAt (P : Program) (w : World) (h : Heap) (k : List Str) (b : Addr) : Prop := PySem.IsTupleKey (PySem.strKind P w) h k b
abbrev txH (P : Program) (w : World) (k : List Str) : Int := PySem.tupleKeyHash (PySem.strKind P w) k
section
variable {w : World} {P : Program} {A : Around} {E : Value → Shared → Prop} {s : Shared}
theorem all_text {k : List Str} {us : List Value} (h : PySem.ItemsAre (PySem.strKind P w) k us) : ∀ u ∈ us, ∃ z c, u = Value.str z c := by
  induction h with
  | nil => exact fun _ m => nomatch m
  | @cons z u _ _ h1 _ ih =>
    intro x m
    cases m with
    | head => exact ⟨z, Value.isStrOf_shape h1⟩
    | tail _ m => exact ih x m
/-- going through texts where each is passed by -/
theorem each_text {M : Model} {β : Type} {f : Value → β → Sem (ForInStep β)} {b : β} {R : β → Shared → Prop} (pass : ∀ z c (R' : ForInStep β → Shared → Prop), R' (.yield b) s → wpAny M A (f (.str z c) b) R' E s) (q : R b s) :
    ∀ us : List Value, (∀ u ∈ us, ∃ z c, u = Value.str z c) → wpAny M A (forIn us b f) R E s
  | [], _ => by rw [List.forIn_nil]; exact wpAny_pure q
  | u :: us, m => by
    obtain ⟨z, c, e⟩ := m u List.mem_cons_self
    rw [e, List.forIn_cons]
    exact wpAny_bind <| pass z c _ <| each_text pass q us fun x hx => m x (List.mem_cons_of_mem _ hx)
theorem cls_text (n : Nat) (z : Str) (c : Tok) : ofAClassStatement n (.str z c) = pure false := by
  rcases n with _ | n
  · rfl
  · rfl
theorem val_text (n : Nat) (z : Str) (c : Tok) : hashByValue n (.str z c) = pure false := by
  rcases n with _ | n
  · rfl
  · rfl
theorem cls_tup {k : List Str} {b : Addr} {R : Bool → Shared → Prop} (x : TxAt P w s.heap k b) (q : R false s) : wpAny (model P w) A (ofAClassStatement 8 (.ref b)) R E s := by
  have ty := x.typeIs
  obtain ⟨ob, us, n, at0, _, dt, it⟩ := x
  unfold ofAClassStatement
  refine wpAny_bind <| wpAny_typeOf ty ?_
  have tt : (("tuple" : String) == "tuple") = true := by decide
  simp only [tt, if_true, Bool.not_true, Bool.false_eq_true, if_false]
  try (refine wpAny_bind <| wpAny_pure ?_)
  refine wpAny_bind <| wpAny_seqItems at0 dt ?_
  refine wpAny_bind ?_
  show wpAny _ _ (forIn us _ _) _ _ s
  rw [← Array.forIn_toList]
  refine each_text (fun z c R' r => ?_) ?_ us.toList (all_text it)
  · rw [cls_text]
    refine wpAny_bind <| wpAny_pure ?_
    exact wpAny_pure r
  · exact wpAny_pure q
theorem val_tup {k : List Str} {b : Addr} {R : Bool → Shared → Prop} (x : TxAt P w s.heap k b) (q : ∀ r, R r s) : wpAny (model P w) A (hashByValue 8 (.ref b)) R E s := by
  have ty := x.typeIs
  obtain ⟨ob, us, n, at0, _, dt, it⟩ := x
  unfold hashByValue
  refine wpAny_bind <| wpAny_specialOf ty F.slot_tuple_hash.lookup ?_
  refine wpAny_bind <| wpAny_seqItems at0 dt ?_
  refine wpAny_bind ?_
  show wpAny _ _ (forIn us _ _) _ _ s
  rw [← Array.forIn_toList]
  have m := all_text it
  generalize us.toList = xs at m
  cases xs with
  | nil =>
    rw [List.forIn_nil]
    exact wpAny_pure <| wpAny_pure <| q true
  | cons u xs =>
    obtain ⟨z, c, rfl⟩ := m u List.mem_cons_self
    rw [List.forIn_cons]
    refine wpAny_bind ?_
    rw [val_text]
    refine wpAny_bind <| wpAny_pure ?_
    exact wpAny_pure <| wpAny_pure <| wpAny_pure <| q false
/-- nobody sees the search among such tuples -/
theorem unseen {k : List Str} {b : Addr} {R : Bool → Shared → Prop} (x : TxAt P w s.heap k b) (q : R false s) : ∀ us : List Value, (∀ u ∈ us, ∃ k' c, u = Value.ref c ∧ TxAt P w s.heap k' c) → wpAny (model P w) A (searchCouldBeSeen (.ref b) us) R E s := fun us m => by
  unfold searchCouldBeSeen
  refine wpAny_bind ?_
  refine wpAny_forIn_list _ (fun rest r s' => r.1 = none ∧ s' = s ∧ ∀ u ∈ rest, ∃ k' c, u = Value.ref c ∧ TxAt P w s.heap k' c) _ (fun u rest r s' h => ?_) (fun r s' h => ?_) us _ ⟨rfl, rfl, m⟩
  · obtain ⟨_, rfl, m'⟩ := h
    obtain ⟨k', c, rfl, y⟩ := m' u List.mem_cons_self
    have go : ∀ u ∈ rest, ∃ k' c, u = Value.ref c ∧ TxAt P w s'.heap k' c := fun u hu => m' u (List.mem_cons_of_mem _ hu)
    by_cases e : (b == c || (carriedByValue (.ref b) && carriedByValue (.ref c))) = true
    · exact wp_if_pos e <| wpAny_pure ⟨rfl, rfl, go⟩
    · refine wp_if_neg e <| wpAny_bind <| wpAny_eqIsQuiet_tuple x ?_
      (simp only [Bool.not_true, Bool.false_eq_true, if_false])
      refine wpAny_bind <| wpAny_eqIsQuiet_tuple y ?_
      (simp only [Bool.not_true, Bool.false_eq_true, if_false])
      refine wpAny_bind <| cls_tup x ?_
      (simp only [Bool.false_eq_true, if_false])
      refine wpAny_bind <| cls_tup y ?_
      (simp only [Bool.false_eq_true, if_false])
      exact wpAny_pure ⟨rfl, rfl, go⟩
  · obtain ⟨r1, r2⟩ := r
    obtain ⟨e, rfl, _⟩ := h
    cases (show r1 = none from e)
    exact wpAny_pure q
end
end LH

namespace LH
open PySem PySem.Spec L2 PyProof.Rows
def txRows (P : Program) (w : World) (L : List (Addr × List Str)) : List (Int × Value) := L.map fun p => (txH P w p.2, Value.ref p.1)
abbrev txHs (P : Program) (w : World) (L : List (Addr × List Str)) : List Int := L.map fun p => txH P w p.2
/-- at a stands a set of the tuples L -/
structure TbR (P : Program) (w : World) (h : Heap) (a : Addr) (L : List (Addr × List Str)) (es : Array (Int × Value)) (ep : Nat) (t : SetTable) : Prop where
  obj : ∃ ob, h.get? a = some ob ∧ ob.ExactSet ∧ ob.data = .set es ep t
  row : es.toList = txRows P w L
  tab : TabOk t (txHs P w L)
  one : (L.map (·.2)).Nodup
  txt : ∀ p ∈ L, TxAt P w h p.2 p.1
  big : L.length * 5 < t.mask * 3
  lit : L.length < 64
theorem row_len {P : Program} {w : World} {L : List (Addr × List Str)} {es : Array (Int × Value)} (h : es.toList = txRows P w L) : es.size = L.length := by
  rw [← Array.length_toList, h]
  exact List.length_map ..
theorem row_at {P : Program} {w : World} {L : List (Addr × List Str)} {es : Array (Int × Value)} (h : es.toList = txRows P w L) {i : Nat} {p : Addr × List Str} (e : L[i]? = some p) : es[i]? = some (txH P w p.2, Value.ref p.1) := by
  rw [← Array.getElem?_toList, h, txRows, List.getElem?_map, e]
  rfl
theorem fit_of {t : SetTable} {n : Nat} (h1 : t.place.size = n) (h2 : t.dummies = #[]) (h3 : n ≤ t.mask) : t.fits n = true := by
  (unfold SetTable.fits SetTable.fill)
  rw [h2, h1]
  simp
  exact h3
theorem nth_clean (m : Nat) : ∀ (n : Nat) (p : SetTable.Probe), p.dummy = none → (nth m p n).dummy = none
  | 0, _, h => h
  | n + 1, p, h => nth_clean m n (adv m p) (by unfold adv; split <;> exact h)
section
variable {P : Program} {w : World} {A : Around} {E : Value → Shared → Prop} {s : Shared} {a : Addr} {L : List (Addr × List Str)} {es : Array (Int × Value)} {ep : Nat} {t : SetTable}
theorem TbR.cnt {h : Heap} (R : TbR P w h a L es ep t) : t.place.size = L.length := by
  rw [R.tab.sz]
  exact List.length_map ..
theorem TbR.fit {h : Heap} (R : TbR P w h a L es ep t) : t.fits es.size = true := by
  have b := R.big
  have e := row_len R.row
  exact fit_of (R.cnt.trans e.symm) R.tab.dm (by omega)
/-- the step c of the way of a hash -/
abbrev stepAt (m : Nat) (v : Int) (c : Nat) : SetTable.Probe := nth m (runAt m (SetTable.bits v % (m + 1)) (SetTable.bits v)) c
theorem seek (R : TbR P w s.heap a L es ep t) {x : Addr} {k : List Str} (hx : TxAt P w s.heap k x) (hu : A.units < cLine) {v : Int} (hv : v = txH P w k) {K : Nat} (far : K < 10 * SetTable.turns t.mask) (free : way t.mask v K ∉ t.place.toList)
    (full : ∀ c, c < K → way t.mask v c ∈ t.place.toList) {Q : SetFound → Shared → Prop} (inn : k ∈ L.map (·.2) → Q (.there none) s) (out : k ∉ L.map (·.2) → Q (.free (way t.mask v K) false) s) :
    ∀ (f c : Nat) (stand : Option SetTable.Probe), stand.getD (t.probeStart v) = stepAt t.mask v c → c ≤ K → K - c < f → (∀ (i : Nat) p, L[i]? = some p → p.2 = k → ∃ d, c ≤ d ∧ d < K ∧ t.place.toList[i]? = some (way t.mask v d)) →
      wpAny (model P w) A (setSearchFrom a (.ref x) v true f stand) Q E s
  | 0, _, _, _, _, z, _ => absurd z (Nat.not_lt_zero _)
  | f + 1, c, stand, here, le, fuel, left => by
    obtain ⟨ob, at0, ex, dt⟩ := R.obj
    have shift : ∀ q, nth t.mask (stepAt t.mask v c) q = stepAt t.mask v (c + q) := fun q => (nth_add t.mask c _ q).symm
    have hAt : ∀ (i : Nat) p, L[i]? = some p → (es[i]?.map (·.1)).getD 0 = txH P w p.2 := fun i p e => by rw [row_at R.row e]; rfl
    have gw : ¬ t.gaveWay = true := by
      unfold SetTable.gaveWay
      rw [mask_odd R.tab.mok]
      decide
    rw [setSearchFrom_succ]
    refine wpAny_bind <| wpAny_setState_of at0 dt R.fit <| wp_if_neg gw ?_
    try (refine wpAny_bind <| wpAny_pure ?_)
    have two := go_spec t R.tab.ris R.tab.dm (fun i => (es[i]?.map (·.1)).getD 0) v (10 * SetTable.turns t.mask) (K - c) (stepAt t.mask v c) (nth_clean _ _ _ rfl) (by omega)
      (fun q hq => by rw [shift]; exact full (c + q) (by omega)) (by rw [shift, Nat.add_sub_cancel' le]; exact free)
    -- what has these texts stands further on
    have past : ∀ (q : Nat), (∀ (k' i' : Nat), k' < q → t.place.toList[i']? = some (nth t.mask (stepAt t.mask v c) k').j → (es[i']?.map (·.1)).getD 0 ≠ v) → ∀ (i : Nat) p (d : Nat), L[i]? = some p → p.2 = k → c ≤ d → d < c + q → t.place.toList[i]? = some (way t.mask v d) → False := fun q no i p d e ek cd dq pl => by
      refine no (d - c) i (by omega) (by rw [shift, Nat.add_sub_cancel' cd]; exact pl) ?_
      rw [hAt i p e, ek, hv]
    rcases two with ⟨q, i, hq, pl, _, no, met⟩ | ⟨no, met⟩
    · rw [shift] at pl
      have probe : t.probe (fun i => (es[i]?.map (·.1)).getD 0) v (stand.getD (t.probeStart v)) = some (.candidate (way t.mask v (c + q)) i (stepAt t.mask v (c + (q + 1)))) := by
        rw [here, ← shift (q + 1)]
        show _ = some (SetTable.Met.candidate (stepAt t.mask v (c + q)).j i _)
        rw [← shift q]
        exact met
      rw [probe]
      have il : i < L.length := by
        have z := (List.getElem?_eq_some_iff.mp pl).1
        rw [Array.length_toList, R.cnt] at z
        exact z
      obtain ⟨p, ep0⟩ : ∃ p, L[i]? = some p := ⟨_, List.getElem?_eq_getElem il⟩
      have pm : p ∈ L := List.mem_of_getElem? ep0
      have entry := row_at R.row ep0
      have live : t.slot (way t.mask v (c + q)) = .live i := slot_live R.tab.ris pl
      have rest : wpAny (model P w) A (searchRest a (.ref x) v true f es t (way t.mask v (c + q)) i (stepAt t.mask v (c + (q + 1)))) Q E s := by
        unfold searchRest
        rw [entry]
        refine wpAny_bind <| wpAny_holding <| wpAny_eqBool_tuple hu (R.txt p pm) hx ?_
        refine wpAny_bind <| wpAny_setState_of at0 dt R.fit ?_
        by_cases same : p.2 = k
        · refine wp_if_pos (by rw [decide_eq_true same]; rfl) <| wpAny_pure <| inn ?_
          exact List.mem_map.mpr ⟨p, pm, same⟩
        · refine wp_if_neg (by rw [decide_eq_false same]; decide) ?_
          try (refine wpAny_bind <| wpAny_pure ?_)
          rw [sameMem]
          simp only [if_true, live, entry]
          refine wpAny_bind <| wpAny_isSame_ref_self <| wpAny_bind <| wpAny_pure ?_
          simp only [if_true]
          refine wp_if_neg (by rw [decide_eq_false same]; decide) ?_
          refine seek R hx hu hv far free full inn out f (c + (q + 1)) _ rfl (by omega) (by omega) fun i0 p0 e0 k0 => ?_
          obtain ⟨d, d1, d2, d3⟩ := left i0 p0 e0 k0
          refine ⟨d, ?_, d2, d3⟩
          rcases Nat.lt_trichotomy d (c + q) with z | z | z
          · exact (past q no i0 p0 d e0 k0 d1 z d3).elim
          · rw [z] at d3
            have l2 := slot_live R.tab.ris d3
            rw [live] at l2
            cases l2
            rw [ep0] at e0
            cases e0
            exact absurd k0 same
          · omega
      by_cases led : t.led = true
      · refine wp_if_neg (by rw [led]; decide) ?_
        try (refine wpAny_bind <| wpAny_pure ?_)
        exact rest
      · refine wp_if_pos (by rw [Bool.not_eq_true] at led; rw [led]; rfl) <| wpAny_bind <| unseen hx ?_ _ fun u hu' => ?_
        · refine wp_if_neg Bool.false_ne_true ?_
          try (refine wpAny_bind <| wpAny_pure ?_)
          exact rest
        · obtain ⟨e, he, rfl⟩ := List.mem_map.mp hu'
          have he2 : e ∈ es.toList := by
            have z : e ∈ es ∧ e.1 = v := by simpa using he
            exact Array.mem_toList_iff.mpr z.1
          rw [R.row] at he2
          obtain ⟨p2, h2, rfl⟩ := List.mem_map.mp he2
          exact ⟨p2.2, p2.1, rfl, R.txt p2 h2⟩
    · have probe : t.probe (fun i => (es[i]?.map (·.1)).getD 0) v (stand.getD (t.probeStart v)) = some (.empty (way t.mask v K) none) := by
        have z := shift (K - c)
        rw [Nat.add_sub_cancel' le] at z
        rw [here]
        show _ = some (SetTable.Met.empty (stepAt t.mask v K).j none)
        rw [← z]
        exact met
      rw [probe]
      refine wpAny_pure <| out fun m => ?_
      obtain ⟨p0, m0, k0⟩ := List.mem_map.mp m
      obtain ⟨i0, e0⟩ := List.mem_iff_getElem?.mp m0
      obtain ⟨d, d1, d2, d3⟩ := left i0 p0 e0 k0
      exact past (K - c) no i0 p0 d e0 k0 d1 (by omega) d3
theorem seek_all (R : TbR P w s.heap a L es ep t) {x : Addr} {k : List Str} (hx : TxAt P w s.heap k x) (hu : A.units < cLine) {Q : SetFound → Shared → Prop} (inn : k ∈ L.map (·.2) → Q (.there none) s)
    (out : ∀ K, k ∉ L.map (·.2) → way t.mask (txH P w k) K ∉ t.place.toList → (∀ c, c < K → way t.mask (txH P w k) c ∈ t.place.toList) → Q (.free (way t.mask (txH P w k) K) false) s) :
    wpAny (model P w) A (setSearch a (.ref x) (txH P w k) true) Q E s := by
  have b := R.big
  obtain ⟨K, far, free, full⟩ := R.tab.first (show (txHs P w L).length ≤ t.mask by rw [List.length_map]; omega) (txH P w k)
  have near : 10 * SetTable.turns t.mask ≤ 2000 := by
    unfold SetTable.turns
    have m := R.tab.mok
    unfold MaskOk at m
    omega
  unfold setSearch
  refine seek R hx hu rfl far free full inn (fun m => out K m free full) 100000 0 none rfl (Nat.zero_le K) (by omega) fun i p e ek => ?_
  have il : i < t.place.toList.length := by
    rw [Array.length_toList, R.cnt]
    (exact (List.getElem?_eq_some_iff.mp e).1)
  obtain ⟨d, d1, d2⟩ := R.tab.before (i := i) (j := t.place.toList[i]) free (by rw [List.getElem?_map, e, ← ek]; rfl) (List.getElem?_eq_getElem il)
  exact ⟨d, Nat.zero_le d, d1, by rw [List.getElem?_eq_getElem il, d2]⟩
end
end LH

namespace LH
open PySem PySem.Spec L2 PyProof.Rows
theorem all_at {α : Type} : ∀ L : List α, (List.range L.length).filterMap (fun i => L[i]?) = L
  | [] => rfl
  | x :: L => by
    rw [List.length_cons, List.range_succ_eq_map, List.filterMap_cons_some (f := fun i => (x :: L)[i]?) (a := 0) (b := x) rfl, List.filterMap_map]
    exact congrArg (x :: ·) (all_at L)
section
variable {P : Program} {w : World} {A : Around} {E : Value → Shared → Prop} {s : Shared} {a : Addr} {L : List (Addr × List Str)} {es : Array (Int × Value)} {ep : Nat} {t : SetTable}
theorem reorder (r : es.toList = txRows P w L) {ord : Array Nat} (pm : ord.toList.Perm (List.range L.length)) :
    ∃ L', (ord.filterMap (es[·]?)).toList = txRows P w L' ∧ L'.Perm L ∧ txHs P w L' = ord.toList.map fun i => (es.map (·.1)).getD i 0 := by
  have ent : ∀ i : Nat, es[i]? = (L[i]?).map fun p => (txH P w p.2, Value.ref p.1) := fun i => by
    rw [← Array.getElem?_toList, r, txRows, List.getElem?_map]
  refine ⟨ord.toList.filterMap fun i => L[i]?, ?_, ?_, ?_⟩
  · rw [Array.toList_filterMap, txRows, List.map_filterMap]
    exact congrArg (fun g => List.filterMap g ord.toList) (funext ent)
  · have z := pm.filterMap fun i => L[i]?
    rw [all_at] at z
    exact z
  · have inn : ∀ i ∈ ord.toList, i < L.length := fun i m => List.mem_range.mp (pm.mem_iff.mp m)
    generalize ord.toList = l at inn
    induction l with
    | nil => rfl
    | cons i l ih =>
      have il := inn i List.mem_cons_self
      have ee := ent i
      rw [List.getElem?_eq_getElem il] at ee
      show ((i :: l).filterMap fun i => L[i]?).map (fun p => txH P w p.2) = _
      rw [List.filterMap_cons_some (List.getElem?_eq_getElem il), List.map_cons, List.map_cons]
      have hd : (es.map (·.1)).getD i 0 = txH P w (L[i]).2 := by
        rw [Array.getD_eq_getD_getElem?, Array.getElem?_map, ee]
        rfl
      rw [hd]
      exact congrArg _ (ih fun j m => inn j (List.mem_cons_of_mem _ m))
/-- what isn't the set stays -/
theorem tx_same {h h' : Heap} {k : List Str} {b : Addr} {ob : Obj} (x : TxAt P w h k b) (at0 : h.get? a = some ob) (dt : ob.data = .set es ep t) (sb : Heap.SameBut a h h') : TxAt P w h' k b := by
  obtain ⟨o2, us, n, at1, c, d, it⟩ := x
  refine ⟨o2, us, n, (sb.2 b fun z => ?_).trans at1, c, d, it⟩
  rw [z, at0] at at1
  cases at1
  rw [dt] at d
  cases d
theorem tx_kept {h h' : Heap} {k : List Str} {b : Addr} (x : TxAt P w h k b) (kp : ∀ c o, h.get? c = some o → h'.get? c = some o) : TxAt P w h' k b := by
  obtain ⟨o2, us, n, at1, c⟩ := x
  exact ⟨o2, us, n, kp b o2 at1, c⟩
/-- all laid anew in a larger table -/
theorem relay {ob : Obj} (at0 : s.heap.get? a = some ob) (ex : ob.ExactSet) (dt : ob.data = .set es ep t) (row : es.toList = txRows P w L) (cnt : t.place.size = es.size) (dm : t.dummies = #[]) (fl : es.size ≤ t.mask) (one : (L.map (·.2)).Nodup)
    (txt : ∀ p ∈ L, TxAt P w s.heap p.2 p.1) (lit : L.length < 64) {wanted M : Nat} (hw : SetTable.sizeAbove wanted = M + 1) (hM : MaskOk M) (big : L.length * 5 < M * 3) {Q : Unit → Shared → Prop}
    (q : ∀ h' L' es' ep' t', Heap.SameBut a s.heap h' → TbR P w h' a L' es' ep' t' → L'.Perm L → Q () { s with heap := h' }) : wpAny (model P w) A (setRelay a wanted) Q E s := by
  have n1 := row_len row
  obtain ⟨t', ord, e, pm, T, em, _, _, _⟩ := relaid_ok t (hs := es.map (·.1)) (wanted := wanted) (M := M) (by rw [hw]; rfl) hM (by rw [Array.size_map, n1]; omega)
  rw [Array.size_map, n1] at pm
  obtain ⟨L', r1, r2, r3⟩ := reorder row pm
  have n2 : (ord.filterMap (es[·]?)).size = es.size := by rw [row_len r1, r2.length_eq, n1]
  rw [← r3] at T
  have lim : M ≤ 127 := by unfold MaskOk at hM; omega
  rw [setRelay_eq]
  refine wpAny_bind <| wpAny_setState_of at0 dt (fit_of cnt dm fl) <| wp_if_neg (by rw [hw, sizeLine_eq]; omega) ?_
  try (refine wpAny_bind <| wpAny_pure ?_)
  rw [e]
  refine wpAny_bind <| wp_if_neg (by rw [n2]; simp) ?_
  try (refine wpAny_bind <| wpAny_pure ?_)
  refine wpAny_pure <| wpAny_storeSet_of at0 dt ?_ (by rw [n2, n1, sizeLine_eq]; omega)
  have sb : Heap.SameBut a s.heap (s.heap.update a (Obj.putSet (ord.filterMap (es[·]?)) t')) := Heap.SameBut.update ..
  exact q _ L' _ (ep + 1) t' sb ⟨⟨_, store_at at0 dt, ⟨ex.1, ex.2.1, ex.2.2⟩, rfl⟩, r1, T, (r2.map _).nodup_iff.mpr one, fun p m => tx_same (txt p (r2.mem_iff.mp m)) at0 dt sb, by rw [r2.length_eq, em]; exact big, by rw [r2.length_eq]; exact lit⟩ r2
theorem grow5 : SetTable.sizeAbove (SetTable.grown 5) = 31 + 1 := by decide +kernel
theorem grow19 : SetTable.sizeAbove (SetTable.grown 19) = 127 + 1 := by decide +kernel
/-- one more -/
theorem tab_add (R : TbR P w s.heap a L es ep t) {x : Addr} {k : List Str} (hx : TxAt P w s.heap k x) (hu : A.units < cLine) (lit : L.length + 1 < 64) {Q : Bool → Shared → Prop}
    (q : ∀ b h' L' es' ep' t', Heap.SameBut a s.heap h' → TbR P w h' a L' es' ep' t' → (k ∈ L.map (·.2) → L' = L) → (k ∉ L.map (·.2) → L'.Perm ((x, k) :: L)) → Q b { s with heap := h' }) :
    wpAny (model P w) A (setAddHashed a (.ref x) (txH P w k)) Q E s := by
  obtain ⟨ob, at0, ex, dt⟩ := R.obj
  have n1 := row_len R.row
  have b := R.big
  unfold setAddHashed
  refine wpAny_holding ?_
  show wpAny _ _ (setAddHashedIn a (.ref x) (txH P w k) (99999 + 1)) _ _ s
  rw [setAddHashedIn_succ]
  refine wpAny_bind <| wpAny_setState_of at0 dt R.fit <| wp_if_neg (by simp [byScan, Value.scannable]) ?_
  try (refine wpAny_bind <| wpAny_pure ?_)
  refine wpAny_bind <| seek_all R hx hu (fun m => ?_) fun K m free full => ?_
  · exact wpAny_pure <| q false s.heap L es ep t (Heap.SameBut.refl a s.heap) R (fun _ => rfl) fun z => absurd m z
  · refine wpAny_bind <| wpAny_setState_of at0 dt R.fit ?_
    obtain ⟨p1, p2, T, pm, _, _, _, _, pf⟩ := R.tab.put free full
    dsimp only
    generalize t.put (way t.mask (txH P w k) K) = pt at p1 T pm pf ⊢
    obtain ⟨t1, i⟩ := pt
    generalize SetTable.below t.place (way t.mask (txH P w k) K) = j at p1 p2 T
    dsimp only at p1 T pm pf ⊢
    subst p1
    have perm : (L.take i ++ (x, k) :: L.drop i).Perm ((x, k) :: L) := by
      have z : (L.take i ++ (x, k) :: L.drop i).Perm ((x, k) :: (L.take i ++ L.drop i)) := List.perm_middle
      rw [List.take_append_drop] at z
      exact z
    have T1 : TabOk t1 (txHs P w (L.take i ++ (x, k) :: L.drop i)) := by
      have z : txHs P w (L.take i ++ (x, k) :: L.drop i) = (txHs P w L).take i ++ txH P w k :: (txHs P w L).drop i := by
        show List.map _ _ = _
        (rw [List.map_append, List.map_cons, List.map_take, List.map_drop])
      rw [z]
      exact T
    have row1 : (SetTable.insertAt es i (txH P w k, Value.ref x)).toList = txRows P w (L.take i ++ (x, k) :: L.drop i) := by
      rw [SetTable.toList_insertAt, R.row]
      show _ = List.map _ _
      (rw [List.map_append, List.map_cons, List.map_take, List.map_drop])
      rfl
    have fill1 : t1.fill = L.length + 1 := by rw [pf, List.length_map]
    have n2 : (SetTable.insertAt es i (txH P w k, Value.ref x)).size = L.length + 1 := by rw [row_len row1, perm.length_eq]; rfl
    have one1 : ((L.take i ++ (x, k) :: L.drop i).map (·.2)).Nodup := (perm.map (·.2)).nodup_iff.mpr (List.nodup_cons.mpr ⟨m, R.one⟩)
    generalize SetTable.insertAt es i (txH P w k, Value.ref x) = es1 at row1 n2 ⊢
    generalize L.take i ++ (x, k) :: L.drop i = L1 at perm T1 row1 one1
    have n3 : L1.length = L.length + 1 := perm.length_eq
    -- whichever word of plain it gets
    have fin : ∀ t2 : SetTable, TabOk t2 (txHs P w L1) → t2.mask = t.mask → t2.fill = L.length + 1 →
        wpAny (model P w) A (do
          storeSet a es1 t2
          if !false && t2.tooFull then setRelay a (SetTable.grown (es.size + 1))
          return true) Q E s := fun t2 T2 m2 f2 => by
      refine wpAny_bind <| wpAny_storeSet_of at0 dt ?_ (by rw [n2, sizeLine_eq]; omega)
      have sb : Heap.SameBut a s.heap (s.heap.update a (Obj.putSet es1 t2)) := Heap.SameBut.update ..
      have at1 := store_at (es' := es1) (t' := t2) at0 dt
      generalize s.heap.update a (Obj.putSet es1 t2) = h1 at sb at1
      have txt1 : ∀ p ∈ L1, TxAt P w h1 p.2 p.1 := fun p hp => by
        cases perm.mem_iff.mp hp with
        | head => exact tx_same hx at0 dt sb
        | tail _ hp => exact tx_same (R.txt p hp) at0 dt sb
      have cnt2 : t2.place.size = es1.size := by rw [T2.sz, List.length_map, n3, n2]
      by_cases tf : t2.tooFull = true
      · have full2 : t.mask * 3 ≤ (L.length + 1) * 5 := by
          have z := tf
          unfold SetTable.tooFull at z
          rw [decide_eq_true_eq, f2, m2] at z
          exact z
        have go : ∀ M, SetTable.sizeAbove (SetTable.grown (es.size + 1)) = M + 1 → MaskOk M → (L.length + 1) * 5 < M * 3 → L.length + 1 ≤ t.mask →
            wpAny (model P w) A (setRelay a (SetTable.grown (es.size + 1))) (fun _ s' => wpAny (model P w) A (pure true) Q E s') E { s with heap := h1 } := fun M hw hM hb hl =>
          relay (s := { s with heap := h1 }) at1 ⟨ex.1, ex.2.1, ex.2.2⟩ rfl row1 cnt2 T2.dm (by rw [n2, m2]; exact hl) one1 txt1 (by rw [n3]; exact lit) hw hM (by rw [n3]; exact hb) fun h2 L2 es2 ep2 t3 sb2 R2 pm2 =>
            wpAny_pure <| q true h2 L2 es2 ep2 t3 (sb.trans sb2) R2 (fun z => absurd z m) fun _ => pm2.trans perm
        have run : wpAny (model P w) A (setRelay a (SetTable.grown (es.size + 1))) (fun _ s' => wpAny (model P w) A (pure true) Q E s') E { s with heap := h1 } := by
          rcases R.tab.mok with m7 | m31 | m127
          · have l4 : L.length = 4 := by omega
            exact go 31 (by rw [n1, l4]; exact grow5) (.inr (.inl rfl)) (by omega) (by omega)
          · have l18 : L.length = 18 := by omega
            exact go 127 (by rw [n1, l18]; exact grow19) (.inr (.inr rfl)) (by omega) (by omega)
          · omega
        first
          | exact wpAny_bind <| wp_if_pos (by rw [tf]; rfl) run
          | exact wp_if_pos (by rw [tf]; rfl) <| wpAny_bind run
      · have low : (L.length + 1) * 5 < t2.mask * 3 := by
          have z := tf
          unfold SetTable.tooFull at z
          rw [decide_eq_true_eq, f2] at z
          omega
        have R1 : TbR P w h1 a L1 es1 (ep + 1) t2 := ⟨⟨_, at1, ⟨ex.1, ex.2.1, ex.2.2⟩, rfl⟩, row1, T2, one1, txt1, by rw [n3]; exact low, by rw [n3]; exact lit⟩
        have run : wpAny (model P w) A (pure true) Q E { s with heap := h1 } := wpAny_pure <| q true h1 L1 es1 (ep + 1) t2 sb R1 (fun z => absurd z m) fun _ => perm
        first
          | exact wp_if_neg (by rw [Bool.not_eq_true] at tf; rw [tf]; decide) run
          | exact wpAny_bind <| wp_if_neg (by rw [Bool.not_eq_true] at tf; rw [tf]; decide) <| wpAny_pure run
    have fin2 : ∀ bv : Bool, wpAny (model P w) A (do
        storeSet a es1 (if bv = true then t1 else { t1 with plain := false })
        if !false && (if bv = true then t1 else { t1 with plain := false }).tooFull then setRelay a (SetTable.grown (es.size + 1))
        return true) Q E s := fun bv => by
      cases bv with
      | true => exact fin t1 T1 pm fill1
      | false => exact fin { t1 with plain := false } ⟨T1.ris, T1.dm, T1.sz, T1.mok, T1.bd, T1.reach⟩ pm fill1
    by_cases pl : t1.plain = true
    · first
        | exact wpAny_bind <| wp_if_pos pl <| val_tup hx fun bv => fin2 bv
        | exact wp_if_pos pl <| wpAny_bind <| val_tup hx fun bv => fin2 bv
    · first
        | exact wpAny_bind <| wp_if_neg pl <| wpAny_pure <| fin2 true
        | exact wp_if_neg pl <| wpAny_bind <| wpAny_pure <| fin2 true
        | exact wp_if_neg pl <| fin2 true
end
end LH

namespace LH
open PySem PySem.Spec L2 PyProof.Rows
/-! ### filling a set, whatever its kind -/
/-- what a set's list has to do with the first i of ks -/
structure Bag {κ : Type} (ks : List κ) (i : Nat) (L : List κ) : Prop where
  mem : ∀ k, k ∈ L ↔ k ∈ ks.take i
  le : L.length ≤ i
  all : L.length = i ↔ (ks.take i).Nodup
theorem Bag.none {κ : Type} (ks : List κ) : Bag ks 0 [] := ⟨fun k => by rw [List.take_zero], Nat.le_refl 0, by rw [List.take_zero]; exact ⟨fun _ => List.nodup_nil, fun _ => rfl⟩⟩
theorem nodup_end {κ : Type} {l : List κ} {x : κ} : (l ++ [x]).Nodup ↔ l.Nodup ∧ x ∉ l := by
  rw [List.nodup_append]
  constructor
  · rintro ⟨h1, _, h3⟩
    exact ⟨h1, fun m => h3 x m x (List.mem_singleton.mpr rfl) rfl⟩
  · rintro ⟨h1, h2⟩
    refine ⟨h1, List.nodup_cons.mpr ⟨List.not_mem_nil, List.nodup_nil⟩, fun y m z hz e => h2 ?_⟩
    rw [List.mem_singleton] at hz
    rw [← hz, ← e]
    exact m
theorem Bag.next {κ : Type} {ks L L' : List κ} {i : Nat} {k : κ} (b : Bag ks i L) (e : ks[i]? = some k) (c1 : k ∈ L → L' = L) (c2 : k ∉ L → L'.Perm (k :: L)) : Bag ks (i + 1) L' := by
  have et : ks.take (i + 1) = ks.take i ++ [k] := by
    rw [List.take_succ, e]
    rfl
  have bl := b.le
  by_cases m : k ∈ L
  · rw [c1 m]
    refine ⟨fun x => ?_, by omega, ⟨fun z => by omega, fun z => ?_⟩⟩
    · rw [et, List.mem_append, List.mem_singleton, b.mem x]
      exact ⟨Or.inl, fun z => z.elim id fun z => z ▸ (b.mem k).mp m⟩
    · rw [et, nodup_end] at z
      exact absurd ((b.mem k).mp m) z.2
  · have pm := c2 m
    have pl : L'.length = L.length + 1 := pm.length_eq
    refine ⟨fun x => ?_, by omega, ?_⟩
    · rw [et, List.mem_append, List.mem_singleton, pm.mem_iff, List.mem_cons, b.mem x]
      exact Or.comm
    · rw [et, nodup_end, ← b.all, pl, ← b.mem k]
      exact ⟨fun z => ⟨by omega, m⟩, fun z => by omega⟩
/-- a set at S may be added to -/
structure Adds (P : Program) (w : World) (A : Around) (h0 : Heap) (S : Addr) {κ : Type} (isV : κ → Value → Prop) (Is : Heap → List κ → Prop) : Prop where
  keep : ∀ h h' L, Is h L → (∀ o, h.get? S = some o → h'.get? S = some o) → (∀ b o, h0.get? b = some o → h'.get? b = some o) → Is h' L
  add : ∀ (E : Value → Shared → Prop) (s : Shared) (L : List κ) (k : κ) (v : Value) (Q : Bool → Shared → Prop), Is s.heap L → isV k v → (∀ b o, h0.get? b = some o → s.heap.get? b = some o) → L.length + 1 < 64 →
    (∀ r h' L' tk, s.toks ≤ tk → Heap.SameBut S s.heap h' → Is h' L' → (k ∈ L → L' = L) → (k ∉ L → L'.Perm (k :: L)) → Q r { s with heap := h', toks := tk }) → wpAny (model P w) A (setAdd S v) Q E s
section
variable {w : World} {P : Program} {A : Around} {E : Value → Shared → Prop} {s : Shared}
theorem bag_loop {κ : Type} {I S : Addr} {fp wr : List Addr} {G : Array GenState → Array GenState → Prop} {n : Nat} {Pv : Nat → Value → Prop} {St : Nat → Shared → Prop} {R : Result → Shared → Prop} {h0 : Heap} {isV : κ → Value → Prop} {Is : Heap → List κ → Prop}
    (W : WalksS P w A.in1 I fp wr G n Pv St) (B : Adds P w A.in1 h0 S isV Is) (nS : S ∉ fp) (ks : List κ) (hn : n = ks.length) (few : ks.length < 64) (val : ∀ i v, Pv i v → ∃ k, ks[i]? = some k ∧ isV k v) (nS0 : h0.get? S = none) (nw : ∀ b ∈ wr, h0.get? b = none) :
    ∀ (j i : Nat) (s : Shared), n - i = j → i ≤ n → St i s → (∀ b o, h0.get? b = some o → s.heap.get? b = some o) → (∃ L, Is s.heap L ∧ Bag ks i L) →
      (∀ s' L, Moved (S :: wr) G s s' → Is s'.heap L → Bag ks n L → (∀ b o, h0.get? b = some o → s'.heap.get? b = some o) → R (.ok (.ret .none)) s') → codeAny (model P w) A (.builtin "set.update.loop" ⟨[.ref S, .ref I], []⟩) R s := by
  have nSw : S ∉ wr := fun z => nS (W.sub _ z)
  have up : ∀ b ∈ wr, b ∈ S :: wr := fun b m => List.mem_cons_of_mem _ m
  have moved : ∀ {s s' : Shared}, Moved wr G s s' → (∀ b o, h0.get? b = some o → s.heap.get? b = some o) → ∀ b o, h0.get? b = some o → s'.heap.get? b = some o := fun mv kp b o e => mv.heap b o (fun m => by rw [nw b m] at e; cases e) (kp b o e)
  intro j
  induction j with
  | zero =>
    rintro i s hj hi st kp ⟨L, is, bg⟩ q
    cases (show i = n by omega)
    apply codeAny_builtin PyProof.Rows.F.entry_set_update_loop
    rw [Around.under_plainId PyProof.Rows.F.plain_set_update_loop]
    refine wpAny_bind <| W.done s _ _ st fun s' mv => ?_
    have kp' := moved mv kp
    exact wpAny_pure <| q s' L (mv.mono up) (B.keep _ _ L is (fun o e => mv.heap S o nSw e) kp') bg kp'
  | succ j ih =>
    rintro i s hj hi st kp ⟨L, is, bg⟩ q
    apply codeAny_builtin PyProof.Rows.F.entry_set_update_loop
    rw [Around.under_plainId PyProof.Rows.F.plain_set_update_loop]
    refine wpAny_bind <| W.item i s _ _ (by omega) st fun v s' pv st' mv => ?_
    obtain ⟨k, ek, iv⟩ := val i v pv
    have kp' := moved mv kp
    have bl := bg.le
    refine wpAny_bind <| wpAny_holding <| B.add _ s' L k v _ (B.keep _ _ L is (fun o e => mv.heap S o nSw e) kp') iv kp' (by omega) fun r h' L' tk ht sb is' c1 c2 => ?_
    have kp2 : ∀ b o, h0.get? b = some o → h'.get? b = some o := fun b o e => (sb.2 b fun z => by rw [z, nS0] at e; cases e).trans (kp' b o e)
    refine wpAny_pure ⟨plainId_quiet PyProof.Rows.F.plain_set_update_loop _, ih (i + 1) _ (by omega) (by omega) (W.frame _ s' _ _ st' ht fun b hb o e => ?_) kp2 ⟨L', is', bg.next ek c1 c2⟩ fun s2 L2 mv2 is2 bg2 k2 => ?_⟩
    · exact (sb.2 b fun z : b = S => nS (z ▸ hb)).trans e
    · refine q s2 L2 (Moved.trans W.gtrans ((mv.mono up).then_heap ht fun b o hb e => ?_) mv2) is2 bg2 k2
      exact (sb.2 b fun z : b = S => hb (z ▸ List.mem_cons_self)).trans e
end
end LH

namespace LH
open PySem PySem.Spec L2 PyProof.Rows
abbrev newS (w : World) : Obj := { cls := .type "set", dict := none, data := .set #[] 0 (.fresh 0 0 (!w.params.followText "set-order")) }
section
variable {w : World} {P : Program} {A : Around} {E : Value → Shared → Prop} {s : Shared}
theorem bag_call {κ : Type} {l : Addr} {isV : κ → Value → Prop} {Is : Heap → List κ → Prop} {items : Array Value} (it : s.heap.IsList l items ∨ s.heap.IsTuple l items) (hh : A.handled = none) (B : Adds P w A.in1.in1.in1 s.heap s.heap.objs.size isV Is) (ks : List κ) (len : items.size = ks.length) (few : ks.length < 64)
    (val : ∀ (i : Nat) (v : Value), items[i]? = some v → ∃ k, ks[i]? = some k ∧ isV k v) (new : ∀ h : Heap, h.get? s.heap.objs.size = some (newS w) → Is h []) {Q : Value → Shared → Prop}
    (q : ∀ (h' : Heap) (tk : Nat) (L : List κ), Is h' L → Bag ks ks.length L → (∀ b o, s.heap.get? b = some o → h'.get? b = some o) → Q (.ref s.heap.objs.size) { s with heap := h', toks := tk }) :
    (wpAny (model P w) A (call (.type "set") [.ref l]) Q E s) := by
  obtain ⟨_, _, c1⟩ := F.called_set.mro
  have c2 := F.called_set.made
  have c3 := F.called_set.sub
  apply wpAny_call (codeAny_of_tree _)
  refine wpAny_pure (a := _) ⟨Code.quiet_builtin _ (by decide +kernel), codeAny_builtin F.entry_type_call ?_⟩
  rewrite [Around.under_plain (weight_type_call_type "set" [.ref l] []) rfl]
  have c4 := F.called_set.notType
  have c5 := F.called_set.canCreate
  have c6 := F.typeCall_set_1 (.ref l)
  repeat any_goals first | assumption | wp_step
  refine codeAny_mono (code_set_led1 (.ref l) (E := E) (Q₁ := fun o s1 => o = .ref s.heap.objs.size ∧ s1 = { s with heap := s.heap.push (newS w) }) ⟨rfl, rfl⟩) fun r s1 hr => ?_
  match r, hr with
  | .error e, hr => exact hr
  | .ok (.ret o), hr =>
    obtain ⟨rfl, rfl⟩ := hr
    have at9 : (s.heap.push (newS w)).get? s.heap.objs.size = some (newS w) := Heap.get?_push_size _ rfl
    have ty : Shared.TypeIs { s with heap := s.heap.push (newS w) } (.ref s.heap.objs.size) "set" := ⟨_, at9, rfl⟩
    have c7 := F.called_set.init.lookup
    have c8 := F.called_set.init.bind (.ref s.heap.objs.size)
    repeat any_goals first | assumption | wp_step
    refine codeAny_mono (codeAny_call_builtin (R := wants (fun r s2 => r = .none ∧ ∃ h' tk L, s2 = { s with heap := h', toks := tk } ∧ Is h' L ∧ Bag ks ks.length L ∧ ∀ b o, s.heap.get? b = some o → h'.get? b = some o) E)
      F.called_set.init.plain F.entry_set_init (check_set_init_1 ty ?_)) fun r2 s2 hr2 => ?_
    · rcases it with hl | hl
      · have gone : ∀ b, s.heap.objs.size ≤ b → s.heap.get? b = none := fun b le => by
          cases g : s.heap.get? b with
          | none => rfl
          | some o => exact absurd (Heap.lt_size g) (Nat.not_lt.mpr le)
        obtain ⟨⟨oc, od, odt, osl⟩, at0, e1, n, e2⟩ := hl
        cases (show oc = .type "list" from e1)
        cases (show odt = .seq items n from e2)
        have at1 : (s.heap.push (newS w)).get? l = some ⟨.type "list", od, .seq items n, osl⟩ := Heap.get?_push_of_some _ at0
        have i1 := F.sub_list_set
        have i2 := F.sub_list_frozenset
        have i3 : (Value.type "list" == Value.type "dict") = false := by decide
        have hl1 : (s.heap.push (newS w)).IsList l items := ⟨_, at1, rfl, n, rfl⟩
        unfold Builtin.«set.__init__» Builtin.Frozenset.updateFrom noKeywords
        generalize ePI : pyIter = pIt
        wp_walk
        subst ePI
        refine wpAny_pyIter_list hl1 <| wpAny_bind <| wpAny_runValue ?_
        have below : l < s.heap.objs.size := Heap.lt_size at0
        have sz : (s.heap.push (newS w)).objs.size = s.heap.objs.size + 1 := Heap.size_push ..
        have ne : l ≠ (s.heap.push (newS w)).objs.size := Nat.ne_of_lt (by rw [sz]; exact Nat.lt_succ_of_lt below)
        have nf : s.heap.objs.size ∉ [(s.heap.push (newS w)).objs.size, l] := fun z => by
          (rcases List.mem_cons.mp z with z | z)
          · rw [sz] at z
            exact absurd z (Nat.ne_of_lt (Nat.lt_succ_self _))
          · exact absurd (List.mem_singleton.mp z) (Nat.ne_of_gt below)
        have quiet : A.in1.in1.in1.handled = none := by simp [hh]
        refine bag_loop (Walks.list quiet _ l ne items).toS B nf ks len few val (gone _ (Nat.le_refl _)) (fun b m => gone b ?_) (items.size - 0) 0 _ rfl (Nat.zero_le _) ⟨⟨_, Heap.get?_push_size _ rfl, rfl, rfl⟩, hl1.push _⟩
          (fun b o e => Heap.get?_push_of_some _ (Heap.get?_push_of_some _ e)) ⟨[], new _ ?_, Bag.none ks⟩ fun s' L mv is bg kp => ?_
        · rw [List.mem_singleton.mp m, sz]
          exact Nat.le_succ _
        · (exact Heap.get?_push_of_some _ (Heap.get?_push_size _ rfl))
        · obtain ⟨h', g', d', tk, os'⟩ := s'
          cases (show g' = s.gens from mv.gens)
          cases (show d' = s.drawn from mv.drawn)
          cases (show os' = s.os from mv.os)
          rw [len] at bg
          refine wpAny_pure ?_
          exact wpAny_pure ⟨rfl, h', tk, L, rfl, is, bg, kp⟩
      · have gone : ∀ b, s.heap.objs.size ≤ b → s.heap.get? b = none := fun b le => by
          cases g : s.heap.get? b with
          | none => rfl
          | some o => exact absurd (Heap.lt_size g) (Nat.not_lt.mpr le)
        obtain ⟨⟨oc, od, odt, osl⟩, at0, e1, n, e2⟩ := hl
        cases (show oc = .type "tuple" from e1)
        cases (show odt = .seq items n from e2)
        have at1 : (s.heap.push (newS w)).get? l = some ⟨.type "tuple", od, .seq items n, osl⟩ := Heap.get?_push_of_some _ at0
        have i1 := F.sub_tuple_set
        have i2 := F.sub_tuple_frozenset
        have i3 : (Value.type "tuple" == Value.type "dict") = false := by decide
        have hl1 : (s.heap.push (newS w)).IsTuple l items := ⟨_, at1, rfl, n, rfl⟩
        unfold Builtin.«set.__init__» Builtin.Frozenset.updateFrom noKeywords
        generalize ePI : pyIter = pIt
        wp_walk
        subst ePI
        refine wpAny_pyIter_tuple hl1 <| wpAny_bind <| wpAny_runValue ?_
        have below : l < s.heap.objs.size := Heap.lt_size at0
        have sz : (s.heap.push (newS w)).objs.size = s.heap.objs.size + 1 := Heap.size_push ..
        have ne : l ≠ (s.heap.push (newS w)).objs.size := Nat.ne_of_lt (by rw [sz]; exact Nat.lt_succ_of_lt below)
        have nf : s.heap.objs.size ∉ [(s.heap.push (newS w)).objs.size, l] := fun z => by
          (rcases List.mem_cons.mp z with z | z)
          · rw [sz] at z
            exact absurd z (Nat.ne_of_lt (Nat.lt_succ_self _))
          · exact absurd (List.mem_singleton.mp z) (Nat.ne_of_gt below)
        have quiet : A.in1.in1.in1.handled = none := by simp [hh]
        refine bag_loop (Walks.tuple quiet _ l ne items).toS B nf ks len few val (gone _ (Nat.le_refl _)) (fun b m => gone b ?_) (items.size - 0) 0 _ rfl (Nat.zero_le _) ⟨⟨_, Heap.get?_push_size _ rfl, rfl, rfl⟩, hl1.push _⟩
          (fun b o e => Heap.get?_push_of_some _ (Heap.get?_push_of_some _ e)) ⟨[], new _ ?_, Bag.none ks⟩ fun s' L mv is bg kp => ?_
        · rw [List.mem_singleton.mp m, sz]
          exact Nat.le_succ _
        · (exact Heap.get?_push_of_some _ (Heap.get?_push_size _ rfl))
        · obtain ⟨h', g', d', tk, os'⟩ := s'
          cases (show g' = s.gens from mv.gens)
          cases (show d' = s.drawn from mv.drawn)
          cases (show os' = s.os from mv.os)
          rw [len] at bg
          refine wpAny_pure ?_
          exact wpAny_pure ⟨rfl, h', tk, L, rfl, is, bg, kp⟩
    · match r2, hr2 with
      | .error e, hr2 => exact hr2
      | .ok (.ret r), hr2 =>
        obtain ⟨rfl, h', tk, L, rfl, is, bg, kp⟩ := hr2
        repeat any_goals first | assumption | wp_step
        exact q _ _ _ is bg kp
end
end LH

namespace LH
open PySem PySem.Spec L2 PyProof.Rows
/-! ### the two kinds, and len(set(..)) -/
section
variable {P : Program} {w : World} {A : Around} {s : Shared} {h0 : Heap} {S : Addr}
/-- a set of texts -/
def SetS (P : Program) (w : World) (S : Addr) (h : Heap) (L : List Str) : Prop := h.SetOf (PySem.strKind P w) S (fun z => decide (z ∈ L)) L.length ∧ L.length < 64
theorem adds_text : Adds P w A h0 S (fun (z : Str) v => ∃ c, v = Value.str z c) (SetS P w S) where
  keep := fun h h' L is k _ => by
    obtain ⟨⟨o, es, ep, t, at0, r⟩, l⟩ := is
    exact ⟨⟨o, es, ep, t, k o at0, r⟩, l⟩
  add := fun E s L z v Q is iv kp few q => by
    obtain ⟨c, rfl⟩ := iv
    unfold setAdd
    refine wpAny_holding <| wpAny_bind <| (PySem.strKind P w).pyHash (k := z) (strKind_is _ _ _ _) ?_
    refine wpAny_setAddHashed_of (knd := PySem.strKind P w) (s := { s with toks := s.toks + 1 }) (strKind_is _ _ _ _) rfl is.1 (by unfold scanBound; omega) fun h' sb so => ?_
    by_cases m : z ∈ L
    · refine q _ h' L _ (Nat.le_succ _) sb ⟨SetOf_congr so (fun y => ?_) ?_, by omega⟩ (fun _ => rfl) fun z => absurd m z
      · by_cases e : y = z
        · rw [e, decide_eq_true m]; rfl
        · rw [decide_eq_false e, Bool.or_false]
      · rw [if_pos (decide_eq_true m)]
    · refine q _ h' (z :: L) _ (Nat.le_succ _) sb ⟨SetOf_congr so (fun y => ?_) ?_, few⟩ (fun z => absurd z m) fun _ => List.Perm.refl _
      · by_cases e : y = z
        · rw [e, decide_eq_true (show z ∈ z :: L from List.mem_cons_self), decide_eq_true (show z = z from rfl), Bool.or_true]
        · have ee : decide (y ∈ z :: L) = decide (y ∈ L) := by
            rw [decide_eq_decide, List.mem_cons]
            exact ⟨fun h => h.elim (fun h => absurd h e) id, Or.inr⟩
          rw [ee, decide_eq_false e, Bool.or_false]
      · rw [if_neg (by rw [decide_eq_false m]; exact Bool.false_ne_true)]
        rfl
/-- a set of tuples of texts -/
def SetT (P : Program) (w : World) (h0 : Heap) (S : Addr) (h : Heap) (L : List (List Str)) : Prop := ∃ Lp es ep t, TbR P w h S Lp es ep t ∧ Lp.map (·.2) = L ∧ ∀ p ∈ Lp, TxAt P w h0 p.2 p.1
theorem adds_tup (hu : A.units < cLine) : Adds P w A h0 S (fun (k : List Str) v => ∃ b, v = Value.ref b ∧ TxAt P w h0 k b) (SetT P w h0 S) where
  keep := fun h h' L is k kp => by
    obtain ⟨Lp, es, ep, t, R, e, tx⟩ := is
    obtain ⟨o, at0, r⟩ := R.obj
    exact ⟨Lp, es, ep, t, ⟨⟨o, k o at0, r⟩, R.row, R.tab, R.one, fun p m => tx_kept (tx p m) kp, R.big, R.lit⟩, e, tx⟩
  add := fun E s L k v Q is iv kp few q => by
    obtain ⟨b, rfl, x0⟩ := iv
    obtain ⟨Lp, es, ep, t, R, rfl, tx⟩ := is
    have x := tx_kept x0 kp
    unfold setAdd
    refine wpAny_holding <| wpAny_bind <| wpAny_pyHash_tuple hu x ?_
    rw [List.length_map] at few
    refine tab_add (s := { s with toks := s.toks + (k.length + 1) }) R x hu few fun r h' L' es' ep' t' sb R' c1 c2 => ?_
    refine q r h' (L'.map (·.2)) _ (Nat.le_add_right _ _) sb ⟨L', es', ep', t', R', rfl, fun p m => ?_⟩ (fun m => by rw [c1 m]) fun m => (c2 m).map (·.2)
    by_cases m2 : k ∈ Lp.map (·.2)
    · rw [c1 m2] at m
      exact tx p m
    · cases (c2 m2).mem_iff.mp m with
      | head => exact x0
      | tail _ m => exact tx p m
theorem new_text (h : Heap) (e : h.get? S = some (newS w)) : SetS P w S h [] :=
  ⟨SetOf_congr ((setObjOf_fresh (knd := PySem.strKind P w) _).setOf e (by unfold scanBound; omega)) (fun _ => rfl) rfl, by decide⟩
theorem new_tup (h : Heap) (e : h.get? S = some (newS w)) : SetT P w h0 S h [] :=
  ⟨[], #[], 0, _, ⟨⟨_, e, ⟨rfl, rfl, rfl⟩, rfl⟩, rfl, ⟨List.Pairwise.nil, rfl, rfl, .inl rfl, fun x m => absurd m List.not_mem_nil, fun i h j m => absurd m (by rw [show txHs P w [] = [] from rfl, List.getElem?_nil]; exact fun z => nomatch z)⟩, List.nodup_nil, fun p m => absurd m List.not_mem_nil, by show 0 * 5 < 7 * 3; decide, by decide⟩, rfl, fun p m => absurd m List.not_mem_nil⟩
end
end LH

namespace LH
open PySem PySem.Spec L2 PyProof.Rows
/-! ### sorted(a tuple of texts) -/
section
variable {w : World} {prog : Program} {A : Around} {E : Value → Shared → Prop} {s : Shared}
theorem gather_tup {a : Addr} {us : List Value} {R : List Value → Shared → Prop} (it : s.heap.IsTuple a us.toArray) (few : us.length ≤ sizeLine)
    (k : R us { s with heap := (s.heap.push (seqObj "list" #[] 0)).update s.heap.objs.size (Obj.mapSeq (· ++ us.toArray)) }) : wpAny (model prog w) A (collect (.ref a)) R E s := by
  obtain ⟨ob, at0, cl, ep, dt⟩ := id it
  unfold collect
  refine wpAny_bind <| wpAny_runValue <| codeAny_builtin entry_proto_collect' ?_
  show wpAny _ _ (do
    again (.builtin "list.__iadd__" ⟨[← newList [], .ref a], []⟩)) _ _ s
  refine wpAny_bind <| wpAny_newList <| wpAny_pure ⟨Code.quiet_builtin _ (by decide +kernel), codeAny_builtin entry_list_iadd' ?_⟩
  show wpAny _ _ (Builtin.List.listExtendWith (.ref s.heap.objs.size) (.ref a)
    (.ref s.heap.objs.size)) _ _ { s with heap := s.heap.push (seqObj "list" #[] 0) }
  (unfold Builtin.List.listExtendWith)
  have at1 : (s.heap.push (seqObj "list" #[] 0)).get? a = some ob := Heap.get?_push_of_some _ at0
  refine wpAny_bind <| wpAny_typeOf (T := "tuple") ⟨ob, at1, cl⟩ ?_
  have tt : (Value.type "tuple" == Value.type "tuple") = true := by decide
  rw [if_pos (by rw [tt, Bool.or_true])]
  refine wpAny_bind <| listItems_at at1 dt ?_
  refine wpAny_bind <| listItems_at (xs := #[]) (n := 0) (Heap.get?_push_size _ rfl) rfl ?_
  rw [if_neg (show ¬ _ by simp)]
  refine wpAny_bind <| listUpdate_at (xs := #[]) (n := 0) (Heap.get?_push_size _ rfl) rfl ?_ (Nat.zero_le _) (by
    show (#[] ++ us.toArray).size ≤ sizeLine + 1
    simp only [Array.size_append, List.size_toArray, List.length_nil]
    omega)
  refine wpAny_pure ?_
  refine wpAny_bind (m := load s.heap.objs.size) <| wpAny_load (get?_update_seq (Heap.get?_push_size _ rfl) _) ?_
  show wpAny _ _ (pure ((#[] : Array Value) ++ us.toArray).toList) R E _
  have eu : ((#[] : Array Value) ++ us.toArray).toList = us := by simp
  rw [eu]
  exact wpAny_pure k
theorem sorted_tupS {a : Addr} {us : List Value} {ts : List Str} {Q : Value → Shared → Prop} (it : s.heap.IsTuple a us.toArray) (ht : StrsAre us ts) (few : us.length < 64)
    (k : ∀ (out : Array Value) (ts' : List Str), StrsAre out.toList ts' → ts'.Perm ts → sortedS ts' = true → Q (.ref (s.heap.objs.size + 1)) { s with heap := sortedAll s.heap us out }) :
    wpAny (model prog w) A (call (.builtin "sorted") [.ref a]) Q E s := by
  refine Calls.call_function_entry kind_sorted plain_sorted entry_sorted (args_sorted1 _) <| ?_
  unfold Builtin.«sorted»
  refine wpAny_bind (m := checkCount "sorted" 1 1 _) <| wpAny_pure ?_
  refine wpAny_bind <| gather_tup it (by rw [sizeLine_eq]; omega) ?_
  refine wpAny_bind <| wpAny_newList ?_
  generalize hb : (s.heap.push (seqObj "list" #[] 0)).update s.heap.objs.size (Obj.mapSeq (· ++ us.toArray)) = hp
  have hz : hp.objs.size = s.heap.objs.size + 1 := by
    rw [← hb, Heap.size_update]
    exact size_push' ..
  have hL : (hp.push (seqObj "list" us.toArray 0)).get? (s.heap.objs.size + 1) = some (seqObj "list" us.toArray 0) := by
    rw [← hz]
    (exact Heap.get?_push_size _ rfl)
  show wpAny _ _ _ _ _ { s with heap := hp.push (seqObj "list" us.toArray 0) }
  rw [hz]
  refine wpAny_bind <| wpAny_holding <| wpAny_call_entry slot_list_sort ⟨_, hL, rfl⟩ entry_list_sort (list_sort_treeK strKind_oneLt hL ht.keysOf (fun v₁ v₂ rest e => keyKind_strs (by rw [← e]; exact ht)) few fun st' a1 a2 => ⟨_, rfl, ?_⟩) (args_list_sort _)
  obtain ⟨ts', h1, h2, h3⟩ := sorted_out_str ht a1 a2
  (refine wpAny_pure ⟨_, rfl, ?_⟩)
  have z := k _ ts' h1 h2 h3
  unfold sortedAll at z
  rw [hb] at z
  exact z
end
def rSortTS (K : PySem.W.Frag) : List V → Hp → VK → Prop := fun vs H Q => ∃ (a : Addr) (xs : List Str), vs = [V.ref a] ∧ SqT K H a (xs.map V.str) ∧ xs.length < 64 ∧
  ∀ (zs : List Str) (c : Addr), zs.Perm xs → sortedS zs = true → H c = none → Q (.ref c) (upd H c (.lst (zs.map V.str)))
theorem cr_sortedTS {X : Cx} : CallR X (.builtin "sorted") (rSortTS X.K) := by
  (intro pins s σ H vs us Q I r h)
  obtain ⟨a, xs, rfl, hs, few, q⟩ := h
  obtain ⟨its, rv, ip, _⟩ := I.tuple hs
  rw [Vals.ref1 r]
  have hn := rv.length
  rw [List.length_map] at hn
  refine sorted_tupS ip rv.strs (by rw [← hn]; exact few) fun out ys h1 h2 h3 => ?_
  obtain ⟨ep, he⟩ := PyProof.Rows.sortedAll_at s.heap its out
  have hm : (ys.map V.str).length ≤ sizeLine := by
    rw [List.length_map, h2.length_eq]
    exact small64 few
  exact ⟨.ref _, upd H (s.heap.objs.size + 1) (.lst (ys.map V.str)), I.laid (t' := s.toks) (fun _ _ => PyProof.Rows.sortedAll_old) (Nat.le_succ _) ⟨hm, out.toList, ep, vals_of_strs h1, he⟩, rfl,
    q ys _ h2 h3 (I.hok.fresh (Nat.le_succ _))⟩
end LH

namespace LH
open PySem PySem.Spec L2 PyProof.Rows
/-! ### sorted(a tuple of texts); len(set(..)) of texts, of tuples of texts -/
def tLenSetD (K : PySem.W.Frag) (ta : TE) : TE := fun σ H Q => ta σ H fun x H1 => ∃ (l : Addr) (us : List V), x = .ref l ∧ (SqL K H1 l us ∨ SqT K H1 l us) ∧ us.length < 64 ∧
  ((∃ xs : List Str, us = xs.map V.str ∧ ∀ n : Nat, n ≤ xs.length → (n = xs.length ↔ xs.Nodup) → Q (.int (n : Int)) H1) ∨
    ∃ ks : List (Addr × List Str), us = ks.map (fun p => V.ref p.1) ∧ (∀ p ∈ ks, SqT K H1 p.1 (p.2.map V.str)) ∧ ∀ n : Nat, n ≤ ks.length → (n = ks.length ↔ (ks.map (·.2)).Nodup) → Q (.int (n : Int)) H1)
section
variable {X : Cx}
theorem items_of {P : Program} {w : World} : ∀ {us : List Value} {xs : List Str}, StrsAre us xs → PySem.ItemsAre (PySem.strKind P w) xs us
  | _, _, .nil => .nil
  | _, _, .cons z c r => .cons (strKind_is _ _ z c) (items_of r)
theorem tx_of {pins : List (Addr × Obj)} {σ : L2.St} {H : Hp} {s : Shared} (I : Inv X pins σ H s) {b : Addr} {k : List Str} (h : SqT X.K H b (k.map V.str)) : TxAt X.prog X.w s.heap k b := by
  obtain ⟨its, r, ⟨o, e, c, n, d⟩, _⟩ := I.tuple h
  exact ⟨o, its.toArray, n, e, c, d, items_of r.strs⟩
theorem refs_at : ∀ {ks : List (Addr × List Str)} {us : List Value}, Vals (ks.map fun p => V.ref p.1) us → us = ks.map fun p => Value.ref p.1
  | [], _, .nil => rfl
  | p :: ks, _ :: us, .cons r t => by
    cases (show _ = Value.ref p.1 from r)
    rw [refs_at t]
    rfl
/-- len of a set that is filled -/
theorem len_bag {κ : Type} {ks L : List κ} (b : Bag ks ks.length L) : L.length ≤ ks.length ∧ (L.length = ks.length ↔ ks.Nodup) := ⟨b.le, by have z := b.all; rw [List.take_length] at z; exact z⟩
theorem pe_lenSetD {a : Expr} {ta : TE} {p p2 q pos : Pos} (hc : X.calm = true) (hu : X.A.units + 64 < cLine) (hg : Gl X "len") (hm : X.mg "len" = none) (hg2 : Gl X "set") (hm2 : X.mg "set" = none) (ha : PE X a ta)
    (na : starEach [a] X.env = (false, eval a X.env) :: starEach [] X.env := by rfl) : PE X (.Call (.Name "len" p) [.Call (.Name "set" p2) [a] [] q] [] pos) (tLenSetD X.K ta) := by
  (refine ⟨fun pins s σ H Q I h => ?_⟩)
  refine Call_ <| ld_blt I hg hm PySem.boot_len <| PyProof.Rows.callWith_builtin1 (PyProof.Rows.args_cons ?_ rfl) rfl rfl
  refine Call_ <| ld_blt I hg2 hm2 PyProof.Rows.boot_set ?_
  refine PyProof.Rows.callWith_type1 (PyProof.Rows.args_cons (thn (ha.run pins s σ H _ I h) fun _ s1 ⟨x, H1, I1, r1, q1⟩ => PyProof.Rows.args_nil ?_) na) na rfl
  obtain ⟨l, us, rfl, hq, few, q1⟩ := q1
  cases r1
  obtain ⟨its, r, it⟩ : ∃ its : List Value, Vals us its ∧ (s1.heap.IsList l its.toArray ∨ s1.heap.IsTuple l its.toArray) := by
    rcases hq with hq | hq
    · obtain ⟨its, r, pl, _⟩ := I1.list hq
      exact ⟨its, r, .inl pl.isList⟩
    · obtain ⟨its, r, ⟨o, e, c, n, d⟩, _⟩ := I1.tuple hq
      exact ⟨its, r, .inr ⟨o, e, c, n, d⟩⟩
  have len : its.toArray.size = us.length := by rw [List.size_toArray, ← r.length]
  have units : X.A.in1.in1.in1.units < cLine := by
    show X.A.units + 3 < cLine
    omega
  rcases q1 with ⟨xs, rfl, q1⟩ | ⟨ks, rfl, tx, q1⟩
  · rw [List.length_map] at len few
    refine bag_call it (I1.ok.hd hc) adds_text xs len few (fun i v e => ?_) new_text fun h' tk L is bg kp => PyProof.Rows.args_nil ?_
    · obtain ⟨z, c, ev, ez⟩ := r.strs.item i v (by rw [← Array.getElem?_toList] at e; exact e)
      exact ⟨z, ez, c, ev⟩
    · obtain ⟨⟨o, es, ep, t, ho, hex, hd, _, _, _, hf, hn⟩, lt⟩ := is
      obtain ⟨b1, b2⟩ := len_bag bg
      have J2 : Inv X pins σ H1 { s1 with heap := h', toks := tk } := I1.kept kp
      refine call_len_set ho hex hd hf (by rw [hn]; omega) ⟨.int (L.length : Int), H1, J2.tok _, ⟨_, by rw [hn]⟩, q1 L.length b1 b2⟩
  · rw [List.length_map] at len few
    have er := refs_at r
    refine bag_call it (I1.ok.hd hc) (adds_tup units) (ks.map (·.2)) (by rw [List.length_map]; exact len) (by rw [List.length_map]; exact few) (fun i v e => ?_) new_tup fun h' tk L is bg kp => PyProof.Rows.args_nil ?_
    · rw [← Array.getElem?_toList, er] at e
      have e' : (ks.map fun p => Value.ref p.1)[i]? = some v := e
      rw [List.getElem?_map] at e'
      cases ei : ks[i]? with
      | none => rw [ei] at e'; cases e'
      | some p =>
        rw [ei] at e'
        cases e'
        exact ⟨p.2, by rw [List.getElem?_map, ei]; rfl, p.1, rfl, tx_of I1 (tx p (List.mem_of_getElem? ei))⟩
    · obtain ⟨Lp, es, ep, t, R, rfl, _⟩ := is
      obtain ⟨o, ho, hex, hd⟩ := R.obj
      have hn := row_len R.row
      obtain ⟨b1, b2⟩ := len_bag bg
      rw [List.length_map, List.length_map] at b1 b2
      have lt := R.lit
      have J2 : Inv X pins σ H1 { s1 with heap := h', toks := tk } := I1.kept kp
      refine call_len_set ho hex hd R.fit (by rw [hn]; omega) ⟨.int (Lp.length : Int), H1, J2.tok _, ⟨_, by rw [hn]⟩, q1 Lp.length b1 b2⟩
end
/-! over data -/
section
variable {K : PySem.W.Frag} {env : Env0'} {ta : TE}
theorem ee_lenSetS {xs : List Str} {d : Dt} (hd : d = .list (xs.map PyData.str) ∨ d = .tuple (xs.map PyData.str)) (h : EvE K ta env d) (hl : xs.length < 64) {b : Bool} (hb : b = decide xs.Nodup) {te2 : TE} (h2 : EvE K te2 env (.int (xs.length : Int))) :
    EvE K (tOp (rEqD K) (tLenSetD K ta) te2) env (.bool b) := fun σ G H gh s Q q => h σ G H gh s _ fun v G2 H2 e dv => by
  have fin : ∀ (us : List V), DqAll K G2 us (xs.map PyData.str) → ∀ n : Nat, n ≤ xs.length → (n = xs.length ↔ xs.Nodup) → te2 σ H2 fun y H3 => rEqD K (.int (n : Int)) y H3 Q := fun us hu n h1 h3 => by
    refine h2 σ G2 H2 e.gh (s.mono e.gg) _ fun y G3 H3 e3 dy => ?_
    cases dy
    refine ⟨.int n, .int xs.length, .int _, .int _, rfl, rfl, ?_⟩
    have eb : PyData.eqv (.int (n : Int)) (.int (xs.length : Int)) = b := by
      rw [hb]
      show ((n : Int) == (xs.length : Int)) = _
      by_cases hn : n = xs.length
      · rw [decide_eq_true (h3.mp hn), hn, beq_self_eq_true]
      · rw [decide_eq_false (fun z => hn (h3.mpr z))]
        exact beq_eq_false_iff_ne.mpr fun z => hn (Int.ofNat.inj z)
    rw [eb]
    exact q _ G3 H3 (e.trans e3) (.bl b)
  rcases hd with rfl | rfl
  · cases dv with
    | @lst p us _ hs hx =>
      have eu := dpsStrs hx
      subst eu
      exact ⟨p, _, rfl, .inl (e.gh.seq hs), by rw [List.length_map]; exact hl, .inl ⟨xs, rfl, fin _ hx⟩⟩
  · cases dv with
    | @tup p us _ hs hx =>
      have eu := dpsStrs hx
      subst eu
      exact ⟨p, _, rfl, .inr (sameT e.gh hs), by rw [List.length_map]; exact hl, .inl ⟨xs, rfl, fin _ hx⟩⟩
/-- tuples of texts -/
def tupD (ks : List Str) : Dt := .tuple (ks.map PyData.str)
theorem dpsTups : ∀ {G : Hp} {us : List V} {kss : List (List Str)}, DqAll K G us (kss.map tupD) → ∃ ks : List (Addr × List Str), us = ks.map (fun p => V.ref p.1) ∧ ks.map (·.2) = kss ∧ ∀ p ∈ ks, SqT K G p.1 (p.2.map V.str)
  | _, _, [], .nil => ⟨[], rfl, rfl, fun _ h => nomatch h⟩
  | _, _, k :: kss, .cons h t => by
    obtain ⟨ks, e1, e2, e3⟩ := dpsTups t
    cases h with
    | @tup p xs _ hs hd =>
      have eu := dpsStrs hd
      subst eu
      refine ⟨(p, k) :: ks, by rw [e1]; rfl, by rw [List.map_cons, e2], fun q hq => ?_⟩
      rcases List.mem_cons.mp hq with z | z
      · rw [z]
        exact hs
      · exact e3 q z
theorem ee_lenSetT {kss : List (List Str)} {d : Dt} (hd : d = .list (kss.map tupD) ∨ d = .tuple (kss.map tupD)) (h : EvE K ta env d) (hl : kss.length < 64) {b : Bool} (hb : b = decide kss.Nodup) {te2 : TE} (h2 : EvE K te2 env (.int (kss.length : Int))) :
    EvE K (tOp (rEqD K) (tLenSetD K ta) te2) env (.bool b) := fun σ G H gh s Q q => h σ G H gh s _ fun v G2 H2 e dv => by
  have fin : ∀ n : Nat, n ≤ kss.length → (n = kss.length ↔ kss.Nodup) → te2 σ H2 fun y H3 => rEqD K (.int (n : Int)) y H3 Q := fun n h1 h3 => by
    refine h2 σ G2 H2 e.gh (s.mono e.gg) _ fun y G3 H3 e3 dy => ?_
    cases dy
    refine ⟨.int n, .int kss.length, .int _, .int _, rfl, rfl, ?_⟩
    have eb : PyData.eqv (.int (n : Int)) (.int (kss.length : Int)) = b := by
      rw [hb]
      show ((n : Int) == (kss.length : Int)) = _
      by_cases hn : n = kss.length
      · rw [decide_eq_true (h3.mp hn), hn, beq_self_eq_true]
      · rw [decide_eq_false (fun z => hn (h3.mpr z))]
        exact beq_eq_false_iff_ne.mpr fun z => hn (Int.ofNat.inj z)
    rw [eb]
    exact q _ G3 H3 (e.trans e3) (.bl b)
  have go : ∀ (us : List V) (l : Addr), DqAll K G2 us (kss.map tupD) → (SqL K H2 l us ∨ SqT K H2 l us) → ∃ (l' : Addr) (us : List V), V.ref l = .ref l' ∧ (SqL K H2 l' us ∨ SqT K H2 l' us) ∧ us.length < 64 ∧
      ((∃ xs : List Str, us = xs.map V.str ∧ ∀ n : Nat, n ≤ xs.length → (n = xs.length ↔ xs.Nodup) → te2 σ H2 fun y H3 => rEqD K (.int (n : Int)) y H3 Q) ∨
        ∃ ks : List (Addr × List Str), us = ks.map (fun p => V.ref p.1) ∧ (∀ p ∈ ks, SqT K H2 p.1 (p.2.map V.str)) ∧ ∀ n : Nat, n ≤ ks.length → (n = ks.length ↔ (ks.map (·.2)).Nodup) → te2 σ H2 fun y H3 => rEqD K (.int (n : Int)) y H3 Q) := fun us l hx hs => by
    have hlen := dpsLen hx
    obtain ⟨ks, e1, e2, e3⟩ := dpsTups hx
    refine ⟨l, us, rfl, hs, by rw [hlen, List.length_map]; exact hl, .inr ⟨ks, e1, fun p hp => sameT e.gh (e3 p hp), fun n h1 h3 => fin n ?_ ?_⟩⟩
    · rw [← e2, List.length_map]
      exact h1
    · rw [← e2, List.length_map]
      exact h3
  rcases hd with rfl | rfl
  · cases dv with
    | @lst p us _ hs hx => exact go us p hx (.inl (e.gh.seq hs))
  · cases dv with
    | @tup p us _ hs hx => exact go us p hx (.inr (sameT e.gh hs))
/-- sorted of two texts in a tuple -/
def sort2 (a b : Str) : List Str := if sortedS [a, b] = true then [a, b] else [b, a]
theorem lt_tri : ∀ (x y : List Nat), ltCps x y = false → ltCps y x = false → x = y
  | [], [], _, _ => rfl
  | [], b :: y, h, _ => by simp [ltCps] at h
  | a :: x, [], _, h => by simp [ltCps] at h
  | a :: x, b :: y, h1, h2 => by
    simp only [ltCps] at h1 h2
    by_cases hab : a < b
    · simp [hab] at h1
    · by_cases hba : b < a
      · simp [hba] at h2
      · have e : a = b := by omega
        subst e
        simp at h1 h2
        rw [lt_tri x y h1 h2]
theorem lt_asym : ∀ (x y : List Nat), ltCps x y = true → ltCps y x = true → False
  | [], [], h, _ => by simp [ltCps] at h
  | [], b :: y, _, h => by simp [ltCps] at h
  | a :: x, [], h, _ => by simp [ltCps] at h
  | a :: x, b :: y, h1, h2 => by
    simp only [ltCps] at h1 h2
    by_cases hab : a < b
    · have hba : ¬ b < a := by omega
      have hne : ¬ b = a := by omega
      simp [hba, hne] at h2
    · by_cases hba : b < a
      · have hne : ¬ a = b := by omega
        simp [hab, hne] at h1
      · have e : a = b := by omega
        subst e
        simp at h1 h2
        exact lt_asym x y h1 h2
theorem sorted2 (a b : Str) : sortedS [a, b] = !ltCps b.cps.toList a.cps.toList := by
  show (!ltCps b.cps.toList a.cps.toList && true) = _
  rw [Bool.and_true]
theorem ee_sort2 {a b : Str} (h : EvE K ta env (tupD [a, b])) : EvE K (tCB (rSortTS K) (tCons ta tNil)) env (.list ((sort2 a b).map PyData.str)) := fun σ G H gh s Q q => h σ G H gh s _ fun v G2 H2 e dv => by
  cases dv with
  | @tup p us _ hs hx =>
    have eu := dpsStrs hx
    subst eu
    refine ⟨p, [a, b], rfl, sameT e.gh hs, (by show 2 < 64; decide), fun ys l pm so nl => ?_⟩
    have ey : ys = sort2 a b := by
      have two : ys = [a, b] ∨ ys = [b, a] := by
        have hl : ys.length = 2 := pm.length_eq
        match ys, hl with
        | [c, d], _ =>
          have hc : c ∈ [a, b] := pm.mem_iff.mp List.mem_cons_self
          rcases List.mem_cons.mp hc with e | e
          · rw [e] at pm
            have z := (List.perm_cons a).mp pm
            rw [List.perm_singleton.mp z, e]
            exact .inl rfl
          · have e := List.mem_singleton.mp e
            rw [e] at pm
            have z := (List.perm_cons b).mp (pm.trans (List.Perm.swap b a []))
            rw [List.perm_singleton.mp z, e]
            exact .inr rfl
      unfold sort2
      rcases two with rfl | rfl
      · rw [if_pos so]
      · by_cases c : sortedS [a, b] = true
        · rw [if_pos c]
          rw [sorted2] at so c
          have h1 : ltCps a.cps.toList b.cps.toList = false := by simpa using so
          have h2 : ltCps b.cps.toList a.cps.toList = false := by simpa using c
          have e : a = b := TL.ext_tl (lt_tri _ _ h1 h2)
          rw [e]
        · rw [if_neg c]
    subst ey
    exact q _ _ _ (e.trans (Gw.new e.gh nl)) (.lst (.inl (.inl upd_same)) (dpsM (sameU (e.gh.free nl)) (dpsOfStrs _)))
end
end LH

namespace LH
open PySem PySem.Spec L2 PyProof.Rows
/-! ### ways that are known -/
section
variable {K : PySem.W.Frag} {env : Env0'} {ta tb te : TE} {t u : TT} {M : MuL} {d : Dt} {a b : TS}
theorem ee_andF (h : EvE K ta env (.bool false)) : EvE K (tAndV ta tb) env (.bool false) := ee_and (b := false) h fun z => absurd z Bool.false_ne_true
theorem ee_andT {c : Bool} (h : EvE K ta env (.bool true)) (h2 : EvE K tb env (.bool c)) : EvE K (tAndV ta tb) env (.bool c) := ee_and (a := true) h fun _ => h2
theorem eb_orT (h : EvB K t env true) : EvB K (tOr t u) env true := eb_or (b := true) h fun z => absurd z.symm Bool.false_ne_true
theorem eb_orF {c : Bool} (h : EvB K t env false) (h2 : EvB K u env c) : EvB K (tOr t u) env c := eb_or (a := false) h fun _ => h2
theorem rt_yes (h : EvB K t env true) (h1 : RtE K a env M d) : RtE K (tSeq (tIfS t a tNext) b) env M d := rt_ifs h (fun _ => h1) fun z => absurd z.symm Bool.false_ne_true
theorem rt_no (h : EvB K t env false) (h1 : RtE K b env M d) : RtE K (tSeq (tIfS t a tNext) b) env M d := rt_ifs h (fun z => absurd z Bool.false_ne_true) fun _ => h1
end
/-! ### data that is small enough, texts that may be -/
mutual
def smD : Dt → Bool
  | .str z => decide (z.length ≤ 100000) && PyData.canLay0 (.str z)
  | .list ds => decide (ds.length ≤ 100000) && smAll ds
  | .tuple ds => decide (ds.length ≤ 100000) && smAll ds
  | .dict _ => false
  | _ => true
def smAll : List Dt → Bool
  | [] => true
  | d :: ds => smD d && smAll ds
end
theorem smAll_all : ∀ ds : List Dt, smAll ds = true → ∀ d ∈ ds, smD d = true
  | [], _, _, h => nomatch h
  | d :: ds, h, e, he => by
    unfold smAll at h
    rw [Bool.and_eq_true] at h
    rcases List.mem_cons.mp he with z | z
    · rw [z]
      exact h.1
    · exact smAll_all ds h.2 e z
theorem smD_tup {ds : List Dt} (h : smD (.tuple ds) = true) : ds.length ≤ 100000 ∧ ∀ d ∈ ds, smD d = true := by
  unfold smD at h
  (rw [Bool.and_eq_true, decide_eq_true_eq] at h)
  exact ⟨h.1, smAll_all ds h.2⟩
theorem smD_str {z : Str} (h : smD (.str z) = true) : z.length ≤ 100000 ∧ PyData.canLay0 (.str z) = true := by
  unfold smD at h
  (rw [Bool.and_eq_true, decide_eq_true_eq] at h)
  exact h
theorem lenD_str {z : Str} (h : smD (.str z) = true) : lenD (.str z) = some z.length := if_pos (smD_str h).1
theorem shaped_str {z : Str} (h : smD (.str z) = true) : SeqAt.shaped (.str z) = true := by
  unfold SeqAt.shaped
  rw [(smD_str h).2]
  rfl
/-! ### the mirrors -/
def isNumD : Dt → Bool
  | .int _ => true
  | _ => false
def isWithinD (d : Dt) (a b : Int) : Bool := match d with
  | .int i => decide (a ≤ i) && decide (i ≤ b)
  | _ => false
def signIn (w : Str) : Dt → Bool
  | .str s => match s.cps.toList with
    | [c] => decide (c ∈ w.cps.toList)
    | _ => false
  | _ => false
def lowers : Str := "abcdefghijklmnopqrstuvwxyz"
def isNameD : Dt → Bool
  | .str z => (decide ((1 : Int) ≤ (z.length : Int)) && decide ((z.length : Int) ≤ 8)) && (signsD z).all (signIn lowers)
  | _ => false
def isTupD (d : Dt) (a b : Int) : Bool := match d with
  | .tuple ds => decide (a ≤ (ds.length : Int)) && decide ((ds.length : Int) ≤ b)
  | _ => false
def isAddrD : Dt → Bool
  | .tuple [x, y] => isNameD x && isNameD y
  | _ => false
def isPeopleD (d : Dt) : Bool := match d with
  | .tuple ds => isTupD d 1 4 && ds.all isNameD
  | _ => false
def strOf : Dt → Str
  | .str s => s
  | _ => ""
def addrOf : Dt → List Str
  | .tuple ds => ds.map strOf
  | _ => []
def isLohD : Dt → Bool
  | .tuple [n, .tuple as] => isNameD n && (isTupD (.tuple as) 1 4 && (as.all isAddrD && decide ((as.map addrOf).Nodup)))
  | _ => false
def isListsD (d : Dt) : Bool := match d with
  | .tuple ds => isTupD d 0 3 && ds.all isLohD
  | _ => false
def waysD : List Dt := [.str "plain", .str "marked", .str "packed"]
def isWaysD (d : Dt) : Bool := match d with
  | .tuple ds => isTupD d 1 3 && PyData.eqv d (.tuple (waysD.filter fun w => ds.any fun z => PyData.eqv z w))
  | _ => false
def fstOf : Dt → Dt
  | .tuple (x :: _) => x
  | _ => .none
def elems : Dt → List Dt
  | .tuple ds => ds
  | .list ds => ds
  | _ => []
def namesD (people lists : Dt) : List Dt := elems people ++ (elems lists).map fstOf
def isHouseD : Dt → Bool
  | .tuple [name, people, lists, ways, most] => (isNameD name && (isPeopleD people && isListsD lists)) &&
      ((!((namesD people lists).any fun z => PyData.eqv z (.str "post")) && decide (((namesD people lists).map strOf).Nodup)) && (isWaysD ways && isWithinD most 400 9000))
  | _ => false
def isHousesD (d : Dt) : Bool := match d with
  | .tuple ds => (isTupD d 1 5 && ds.all isHouseD) && decide ((ds.map fun h => strOf (fstOf h)).Nodup)
  | _ => false
def isLinkD (d : Dt) (names : List Dt) : Bool := match d with
  | .tuple [x, y, n] => ((names.any fun z => PyData.eqv z x) && (names.any fun z => PyData.eqv z y)) && (!PyData.eqv x y && isWithinD n 1 4)
  | _ => false
def pairOf : Dt → List Str
  | .tuple (x :: y :: _) => sort2 (strOf x) (strOf y)
  | _ => []
def isLinksD (d : Dt) (names : List Dt) : Bool := match d with
  | .tuple ds => (isTupD d 0 8 && ds.all fun l => isLinkD l names) && decide ((ds.map pairOf).Nodup)
  | _ => false
def isPlanD : Dt → Bool
  | .tuple [hs, ls] => isHousesD hs && isLinksD ls ((elems hs).map fstOf)
  | _ => false
/-! where they are promised -/
def okWays : Dt → Bool
  | .tuple ds => ds.all flatD
  | _ => true
def okHouse (d : Dt) : Bool := smD d && match d with
  | .tuple [_, _, _, w, _] => okWays w
  | _ => true
def okLink (d : Dt) : Bool := smD d && match d with
  | .tuple [x, y, _] => flatD x && flatD y
  | _ => true
def mIsNumber : List Dt → Option Dt
  | [d] => some (.bool (isNumD d))
  | _ => none
def mIsWithin : List Dt → Option Dt
  | [d, .int a, .int b] => some (.bool (isWithinD d a b))
  | _ => none
def mIsName : List Dt → Option Dt
  | [d] => if smD d = true then some (.bool (isNameD d)) else none
  | _ => none
def mIsTuple : List Dt → Option Dt
  | [d, .int a, .int b] => some (.bool (isTupD d a b))
  | _ => none
def mIsAddr : List Dt → Option Dt
  | [d] => if smD d = true then some (.bool (isAddrD d)) else none
  | _ => none
def mIsPeople : List Dt → Option Dt
  | [d] => if smD d = true then some (.bool (isPeopleD d)) else none
  | _ => none
def mIsLoh : List Dt → Option Dt
  | [d] => if smD d = true then some (.bool (isLohD d)) else none
  | _ => none
def mIsLists : List Dt → Option Dt
  | [d] => if smD d = true then some (.bool (isListsD d)) else none
  | _ => none
def mIsWays : List Dt → Option Dt
  | [d] => if smD d = true ∧ okWays d = true then some (.bool (isWaysD d)) else none
  | _ => none
def mIsHouse : List Dt → Option Dt
  | [d] => if okHouse d = true then some (.bool (isHouseD d)) else none
  | _ => none
def mIsHouses : List Dt → Option Dt
  | [d] => if smD d = true ∧ (elems d).all okHouse = true then some (.bool (isHousesD d)) else none
  | _ => none
def mIsLink : List Dt → Option Dt
  | [d, .list ns] => if okLink d = true ∧ ns.all isNameD = true then some (.bool (isLinkD d ns)) else none
  | _ => none
def mIsLinks : List Dt → Option Dt
  | [d, .list ns] => if smD d = true ∧ (elems d).all okLink = true ∧ ns.all isNameD = true ∧ ns.length ≤ 100 then some (.bool (isLinksD d ns)) else none
  | _ => none
def okPlan (d : Dt) : Bool := smD d && match d with
  | .tuple [hs, ls] => (elems hs).all okHouse && (elems ls).all okLink
  | _ => true
def mIsPlan : List Dt → Option Dt
  | [d] => if okPlan d = true then some (.bool (isPlanD d)) else none
  | _ => none
/-- all_unlike of texts, of tuples of texts -/
def isStrTup : Dt → Bool
  | .tuple es => es.all isStrD
  | _ => false
def unlD (ds : List Dt) : Option Dt := if ds.length < 64 then (if ds.all isStrD = true then some (.bool (decide (ds.map strOf).Nodup)) else if ds.all isStrTup = true then some (.bool (decide (ds.map addrOf).Nodup)) else none) else none
def mUnl : List Dt → Option Dt
  | [.list ds] => unlD ds
  | [.tuple ds] => unlD ds
  | _ => none
theorem strs_back : ∀ {ds : List Dt}, ds.all isStrD = true → ds = (ds.map strOf).map PyData.str
  | [], _ => rfl
  | d :: ds, h => by
    (rw [List.all_cons, Bool.and_eq_true] at h)
    rw [List.map_cons, List.map_cons, ← strs_back h.2]
    cases d <;> first | rfl | exact absurd h.1 Bool.false_ne_true
theorem tups_back : ∀ {ds : List Dt}, ds.all isStrTup = true → ds = (ds.map addrOf).map tupD
  | [], _ => rfl
  | d :: ds, h => by
    (rw [List.all_cons, Bool.and_eq_true] at h)
    rw [List.map_cons, List.map_cons, ← tups_back h.2]
    cases d with
    | tuple es =>
      show _ = PyData.tuple ((es.map strOf).map PyData.str) :: _
      rw [← strs_back h.1]
    | _ => exact absurd h.1 Bool.false_ne_true
theorem name_str {d : Dt} (h : isNameD d = true) : ∃ z, d = .str z := by
  cases d with
  | str z => exact ⟨z, rfl⟩
  | _ => exact absurd h Bool.false_ne_true
theorem name_isStr {d : Dt} (h : isNameD d = true) : isStrD d = true := by
  obtain ⟨z, rfl⟩ := name_str h
  rfl
theorem addr_tup {d : Dt} (h : isAddrD d = true) : isStrTup d = true := by
  unfold isAddrD at h
  split at h
  · rw [Bool.and_eq_true] at h
    show (isStrD _ && (isStrD _ && true)) = true
    rw [name_isStr h.1, name_isStr h.2]
    rfl
  · exact absurd h Bool.false_ne_true
theorem all_imp {α : Type} {p q : α → Bool} {l : List α} (h : l.all p = true) (k : ∀ x, p x = true → q x = true) : l.all q = true := List.all_eq_true.mpr fun x hx => k x (List.all_eq_true.mp h x hx)
theorem isTup_at {d : Dt} {a b : Int} (h : isTupD d a b = true) : ∃ ds, d = .tuple ds ∧ a ≤ (ds.length : Int) ∧ (ds.length : Int) ≤ b := by
  cases d with
  | tuple ds =>
    have h' : (decide (a ≤ (ds.length : Int)) && decide ((ds.length : Int) ≤ b)) = true := h
    rw [Bool.and_eq_true, decide_eq_true_eq, decide_eq_true_eq] at h'
    exact ⟨ds, rfl, h'.1, h'.2⟩
  | _ => exact absurd h Bool.false_ne_true
theorem if_some {p : Prop} [Decidable p] {a d : Dt} (h : (if p then some a else none) = some d) : p ∧ a = d := by
  by_cases hp : p
  · rw [if_pos hp] at h
    exact ⟨hp, Option.some.inj h⟩
  · rw [if_neg hp] at h
    cases h
theorem strs_all (xs : List Str) : (xs.map PyData.str).all isStrD = true := by
  rw [List.all_map]
  (exact List.all_eq_true.mpr fun _ _ => rfl)
theorem tups_all (kss : List (List Str)) : (kss.map tupD).all isStrTup = true := by
  rw [List.all_map]
  exact List.all_eq_true.mpr fun x _ => strs_all x
theorem strs_of (xs : List Str) : (xs.map PyData.str).map LH.strOf = xs := by
  rw [List.map_map]
  exact List.map_id'' (fun _ => rfl) xs
theorem tups_of (kss : List (List Str)) : (kss.map tupD).map addrOf = kss := by
  rw [List.map_map]
  exact List.map_id'' (fun x => strs_of x) kss
theorem unl_strs {xs : List Str} (h : xs.length < 64) : unlD (xs.map PyData.str) = some (.bool (decide xs.Nodup)) := by
  unfold unlD
  rw [if_pos (by rw [List.length_map]; exact h), if_pos (strs_all xs), strs_of]
theorem unl_tups {kss : List (List Str)} (h : kss.length < 64) : unlD (kss.map tupD) = some (.bool (decide kss.Nodup)) := by
  cases kss with
  | nil => rfl
  | cons k r =>
    unfold unlD
    rw [if_pos (by rw [List.length_map]; exact h), if_neg (fun z => by rw [List.map_cons, List.all_cons, Bool.and_eq_true] at z; exact absurd z.1 Bool.false_ne_true), if_pos (tups_all _), tups_of]
theorem shaped_flat {d : Dt} (hf : flatD d = true) (hs : smD d = true) : SeqAt.shaped d = true := by
  cases d with
  | str z => exact shaped_str hs
  | none => rfl
  | bool b => rfl
  | int i => rfl
  | _ => exact absurd hf Bool.false_ne_true
theorem flat_all : ∀ {ds : List Dt}, ds.all flatD = true → (∀ d ∈ ds, smD d = true) → PyData.canLayAll0 ds = true ∧ PyData.depthAll ds = 0
  | [], _, _ => ⟨rfl, rfl⟩
  | d :: ds, h, k => by
    (rw [List.all_cons, Bool.and_eq_true] at h)
    obtain ⟨a, b⟩ := flat_all h.2 fun e he => k e (List.mem_cons_of_mem _ he)
    have hd := k d List.mem_cons_self
    have hc : PyData.canLay0 d = true ∧ PyData.depth d = 0 := by
      cases d with
      | str z => exact ⟨(smD_str hd).2, rfl⟩
      | none => exact ⟨rfl, rfl⟩
      | bool b => exact ⟨rfl, rfl⟩
      | int i => exact ⟨rfl, rfl⟩
      | _ => exact absurd h.1 Bool.false_ne_true
    refine ⟨?_, ?_⟩
    · show (PyData.canLay0 d && PyData.canLayAll0 ds) = true
      rw [hc.1, a]
      rfl
    · show max (PyData.depth d) (PyData.depthAll ds) = 0
      rw [hc.2, b]
      rfl
theorem shaped_row {ds : List Dt} (h : ds.all flatD = true) (k : ∀ d ∈ ds, smD d = true) : SeqAt.shaped (.tuple ds) = true ∧ SeqAt.shaped (.list ds) = true := by
  obtain ⟨a, b⟩ := flat_all h k
  refine ⟨?_, ?_⟩
  all_goals
    unfold SeqAt.shaped
    rw [Bool.and_eq_true, decide_eq_true_eq]
    refine ⟨a, ?_⟩
    show PyData.depthAll ds + 1 ≤ 64
    rw [b]
    decide
theorem loh_fst {d : Dt} (h : isLohD d = true) : ∃ z r, d = .tuple [.str z, r] := by
  unfold isLohD at h
  split at h
  · rw [Bool.and_eq_true] at h
    obtain ⟨z, rfl⟩ := name_str h.1
    exact ⟨z, _, rfl⟩
  · exact absurd h Bool.false_ne_true
theorem house_fst {d : Dt} (h : isHouseD d = true) : ∃ z b c e f, d = .tuple [.str z, b, c, e, f] ∧ isNameD (.str z) = true := by
  unfold isHouseD at h
  split at h
  · rw [Bool.and_eq_true, Bool.and_eq_true] at h
    obtain ⟨z, rfl⟩ := name_str h.1.1
    exact ⟨z, _, _, _, _, rfl, h.1.1⟩
  · exact absurd h Bool.false_ne_true
theorem in_names {ns : List Dt} {x : Dt} (hn : ns.all isNameD = true) (h : (ns.any fun z => PyData.eqv z x) = true) : ∃ a, x = .str a := by
  obtain ⟨z, hz, e⟩ := List.any_eq_true.mp h
  obtain ⟨s, rfl⟩ := name_str (List.all_eq_true.mp hn z hz)
  cases x with
  | str a => exact ⟨a, rfl⟩
  | _ => exact (absurd e Bool.false_ne_true)
theorem names_flat {ns : List Dt} (hn : ns.all isNameD = true) : ns.all flatD = true := all_imp hn fun x hx => by
  obtain ⟨z, rfl⟩ := name_str hx
  rfl
theorem names_strs {ns : List Dt} (hn : ns.all isNameD = true) : ns.all isStrD = true := all_imp hn fun x hx => name_isStr hx
/-- a tuple of two, or none -/
theorem pair_or (d : Dt) : (∃ x y, d = .tuple [x, y]) ∨ isTupD d 2 2 = false := by
  cases d with
  | tuple ds =>
    match ds with
    | [] => exact .inr rfl
    | [_] => exact .inr rfl
    | [x, y] => exact .inl ⟨x, y, rfl⟩
    | _ :: _ :: _ :: r =>
      refine .inr ?_
      show (decide _ && decide _) = false
      rw [decide_eq_false (p := ((((_ :: _ :: _ :: r : List Dt).length : Nat) : Int) ≤ 2)) (by rw [List.length_cons, List.length_cons, List.length_cons]; omega), Bool.and_false]
  | _ => exact .inr rfl
theorem three_or (d : Dt) : (∃ x y z, d = .tuple [x, y, z]) ∨ isTupD d 3 3 = false := by
  cases h : isTupD d 3 3 with
  | false => exact .inr rfl
  | true =>
    obtain ⟨ds, rfl, h1, h2⟩ := isTup_at h
    match ds, h1, h2 with
    | [x, y, z], _, _ => exact .inl ⟨x, y, z, rfl⟩
    | [], h1, _ => exact absurd h1 (by decide)
    | [_], h1, _ => exact absurd h1 (by show ¬ ((3 : Int) ≤ 1); decide)
    | [_, _], h1, _ => exact absurd h1 (by show ¬ ((3 : Int) ≤ 2); decide)
    | _ :: _ :: _ :: _ :: r, _, h2 => exact absurd h2 (by simp only [List.length_cons]; omega)
theorem five_or (d : Dt) : (∃ a b c e f, d = .tuple [a, b, c, e, f]) ∨ isTupD d 5 5 = false := by
  cases h : isTupD d 5 5 with
  | false => exact .inr rfl
  | true =>
    obtain ⟨ds, rfl, h1, h2⟩ := isTup_at h
    match ds, h1, h2 with
    | [a, b, c, e, f], _, _ => exact .inl ⟨a, b, c, e, f, rfl⟩
    | [], h1, _ => exact absurd h1 (by decide)
    | [_], h1, _ => exact absurd h1 (by show ¬ ((5 : Int) ≤ 1); decide)
    | [_, _], h1, _ => exact absurd h1 (by show ¬ ((5 : Int) ≤ 2); decide)
    | [_, _, _], h1, _ => exact absurd h1 (by show ¬ ((5 : Int) ≤ 3); decide)
    | [_, _, _, _], h1, _ => exact absurd h1 (by show ¬ ((5 : Int) ≤ 4); decide)
    | _ :: _ :: _ :: _ :: _ :: _ :: r, _, h2 => exact absurd h2 (by simp only [List.length_cons]; omega)
end LH

namespace LH
open PySem PySem.Spec L2 PyProof.Rows
/-! ### data of any kind, small and not too deep -/
def okB (d : Dt) : Bool := smD d && SeqAt.shaped d
theorem okB_sm {d : Dt} (h : okB d = true) : smD d = true := (Bool.and_eq_true_iff.mp h).1
theorem okB_sh {d : Dt} (h : okB d = true) : SeqAt.shaped d = true := (Bool.and_eq_true_iff.mp h).2
theorem lay_mem : ∀ {ds : List Dt}, PyData.canLayAll0 ds = true → ∀ d ∈ ds, PyData.canLay0 d = true
  | [], _, d, h => absurd h List.not_mem_nil
  | x :: ds, h, d, hd => by
    have h' := Bool.and_eq_true_iff.mp (show (PyData.canLay0 x && PyData.canLayAll0 ds) = true from h)
    rcases List.mem_cons.mp hd with z | z
    · rw [z]; exact h'.1
    · exact lay_mem h'.2 d z
theorem deep_mem : ∀ {ds : List Dt}, ∀ d ∈ ds, PyData.depth d ≤ PyData.depthAll ds
  | [], d, h => absurd h List.not_mem_nil
  | x :: ds, d, hd => by
    have e : PyData.depthAll (x :: ds) = max (PyData.depth x) (PyData.depthAll ds) := rfl
    rw [e]
    rcases List.mem_cons.mp hd with z | z
    · rw [z]; exact Nat.le_max_left _ _
    · exact Nat.le_trans (deep_mem d z) (Nat.le_max_right _ _)
theorem shaped_mem {d : Dt} {ds : List Dt} (h : SeqAt.shaped (.tuple ds) = true) (hd : d ∈ ds) : SeqAt.shaped d = true := by
  unfold SeqAt.shaped at *
  rw [Bool.and_eq_true, decide_eq_true_eq] at *
  have e : PyData.depth (.tuple ds) = PyData.depthAll ds + 1 := rfl
  rw [e] at h
  exact ⟨lay_mem h.1 d hd, by have := deep_mem d hd; omega⟩
theorem okB_mem {d : Dt} {ds : List Dt} (h : okB (.tuple ds) = true) (hd : d ∈ ds) : okB d = true := by
  unfold okB
  rw [(smD_tup (okB_sm h)).2 d hd, shaped_mem (okB_sh h) hd]
  rfl
theorem sm_name {z : Str} (h : isNameD (.str z) = true) : okB (.str z) = true := by
  have h' : ((decide ((1 : Int) ≤ (z.length : Int)) && decide ((z.length : Int) ≤ 8)) && (signsD z).all (signIn lowers)) = true := h
  rw [Bool.and_eq_true, Bool.and_eq_true, decide_eq_true_eq, decide_eq_true_eq] at h'
  have hc : ∀ c ∈ z.cps.toList, c < 128 := by
    intro c hc
    have q := List.all_eq_true.mp h'.2 (.str ⟨#[c]⟩) (List.mem_map.mpr ⟨c, hc, rfl⟩)
    have q' : decide (c ∈ lowers.cps.toList) = true := q
    have r : (lowers.cps.toList.all fun c => decide (c < 128)) = true := by decide +kernel
    exact of_decide_eq_true (List.all_eq_true.mp r c (of_decide_eq_true q'))
  have hl : PyData.canLay0 (.str z) = true := by
    show z.cps.all (· < 0x110000) = true
    rw [← Array.all_toList]
    exact List.all_eq_true.mpr fun c h => decide_eq_true (Nat.lt_trans (hc c h) (by decide))
  show ((decide (z.length ≤ 100000) && PyData.canLay0 (.str z)) && (PyData.canLay0 (.str z) && decide (PyData.depth (.str z) ≤ 64))) = true
  rw [hl, decide_eq_true (show z.length ≤ 100000 by omega)]
  rfl
theorem names_shaped {ns : List Dt} (h : ns.all isNameD = true) : SeqAt.shaped (.list ns) = true := by
  refine (shaped_row (names_flat h) fun d hd => ?_).2
  obtain ⟨z, rfl⟩ := name_str (List.all_eq_true.mp h d hd)
  exact okB_sm (sm_name (List.all_eq_true.mp h _ hd))
section
variable {K : PySem.W.Frag}
theorem rd_inTD {neg : Bool} {d : Dt} {ds : List Dt} (hd : SeqAt.shaped d = true) (hs : SeqAt.shaped (.tuple ds) = true) : RD K (rInT K neg) d (.tuple ds) (.bool (if neg then !(ds.any fun z => PyData.eqv z d) else ds.any fun z => PyData.eqv z d)) := fun a b G H gh da db Q q =>
  ⟨d, ds, dqDp (SeqAt.canLay_of_shaped hd) (dpM gh da), dqDp (SeqAt.canLay_of_shaped hs) (dpM gh db), hd, hs, q _ G H (Gw.refl gh) (.bl _)⟩
theorem rd_notInLD {d : Dt} {ds : List Dt} (hd : SeqAt.shaped d = true) (hs : SeqAt.shaped (.list ds) = true) : RD K (rNotInD K) d (.list ds) (.bool (!(ds.any fun z => PyData.eqv z d))) := fun a b G H gh da db Q q =>
  ⟨d, ds, dqDp (SeqAt.canLay_of_shaped hd) (dpM gh da), dqDp (SeqAt.canLay_of_shaped hs) (dpM gh db), hd, hs, q _ G H (Gw.refl gh) (.bl _)⟩
theorem rd_inLD {d : Dt} {ds : List Dt} (hd : SeqAt.shaped d = true) (hs : SeqAt.shaped (.list ds) = true) : RD K (rInD K) d (.list ds) (.bool (ds.any fun z => PyData.eqv z d)) := fun a b G H gh da db Q q =>
  ⟨d, ds, dqDp (SeqAt.canLay_of_shaped hd) (dpM gh da), dqDp (SeqAt.canLay_of_shaped hs) (dpM gh db), hd, hs, q _ G H (Gw.refl gh) (.bl _)⟩
end
theorem un65 {k : Nat} {A : Around} (hr : Room k A) : A.units + 65 < cLine := by have := hr.un; omega
def nIsWays : List Dt → Option Dt
  | [d] => if okB d = true then some (.bool (isWaysD d)) else none
  | _ => none
def nIsHouse : List Dt → Option Dt
  | [d] => if okB d = true then some (.bool (isHouseD d)) else none
  | _ => none
def nIsHouses : List Dt → Option Dt
  | [d] => if okB d = true then some (.bool (isHousesD d)) else none
  | _ => none
def nIsLink : List Dt → Option Dt
  | [d, .list ns] => if okB d = true ∧ ns.all isNameD = true then some (.bool (isLinkD d ns)) else none
  | _ => none
def nIsLinks : List Dt → Option Dt
  | [d, .list ns] => if okB d = true ∧ ns.all isNameD = true ∧ ns.length ≤ 100 then some (.bool (isLinksD d ns)) else none
  | _ => none
def nIsPlan : List Dt → Option Dt
  | [d] => if okB d = true then some (.bool (isPlanD d)) else none
  | _ => none
end LH

namespace LH
open PySem PySem.Spec L2 PyProof.Rows
/-! ### a slot that holds no datum (a def), beside data -/
def EvV (K : PySem.W.Frag) (te : TE) (env : Env0') (j : Nat) (v : V) (d : Dt) : Prop := ∀ σ G H, Same G H → Sd K G σ env → σ[j]? = some (some v) → ∀ Q : VK, (∀ u G' H', Gw G H G' H' → Dq K G' u d → Q u H') → te σ H Q
def RtV (K : PySem.W.Frag) (ts : TS) (env : Env0') (j : Nat) (v : V) (d : Dt) : Prop := ∀ σ G H (D : Ends), Same G H → Sd K G σ env → σ[j]? = some (some v) → (∀ u G' H', Gw G H G' H' → Dq K G' u d → D.rt u H') → ts D σ H
section
variable {K : PySem.W.Frag} {env : Env0'} {ta tb te : TE} {t : TT} {d : Dt} {j i : Nat} {v : V} {a b : TS}
theorem ev_pure (h : EvE K te env d) : EvV K te env j v d := fun σ G H gh s _ Q q => h σ G H gh s Q q
theorem rv_ret (h : EvV K te env j v d) : RtV K (tRet te) env j v d := fun σ G H D gh s x q => h σ G H gh s x _ q
theorem rv_yes (h : EvB K t env true) (h1 : RtV K a env j v d) : RtV K (tSeq (tIfS t a tNext) b) env j v d := fun σ G H D gh s x q => h σ G H gh s _ fun G' H' w => iteT (h1 σ G' H' _ w.gh (s.mono w.gg) x fun u G2 H2 w2 du => q u G2 H2 (w.trans w2) du)
theorem rv_no (h : EvB K t env false) (h1 : RtV K b env j v d) : RtV K (tSeq (tIfS t a tNext) b) env j v d := fun σ G H D gh s x q => h σ G H gh s _ fun G' H' w => iteF (h1 σ G' H' _ w.gh (s.mono w.gg) x fun u G2 H2 w2 du => q u G2 H2 (w.trans w2) du)
theorem rv_asg {e : Dt} (h : EvE K te env e) (hij : j ≠ i) (hb : RtV K b (env.set i (some e)) j v d) : RtV K (tSeq (tAsg te (gName i)) b) env j v d := fun σ G H D gh s x q => h σ G H gh s _ fun u G' H' w du =>
  hb _ G' H' _ w.gh ((s.mono w.gg).set i du) (by rw [List.getElem?_set_ne (fun z => hij z.symm)]; exact x) fun u G2 H2 w2 du => q u G2 H2 (w.trans w2) du
theorem rv_star {i1 i2 : Nat} {e : Dt} {es : List Dt} (h : EvE K te env (.tuple (e :: es))) (h1 : j ≠ i1) (h2 : j ≠ i2) (hb : RtV K b ((env.set i1 (some e)).set i2 (some (.list es))) j v d) : RtV K (tSeq (tAsg te (gStar K (gName i1) (gName i2))) b) env j v d := fun σ G H D gh s x q => h σ G H gh s _ fun u G' H' w du => by
  cases du with
  | @tup p xs _ hs hd =>
    cases hd with
    | @cons y ys _ _ dy dys =>
      refine ⟨p, y, ys, rfl, sameT w.gh hs, fun l nl => ?_⟩
      have w3 := Gw.new (o := HO.lst ys) w.gh nl
      refine hb _ _ _ _ w3.gh ((((s.mono w.gg).mono w3.gg).set i1 (dpM w3.gg dy)).set i2 (.lst (.inl (.inl upd_same)) (dpsM w3.gg dys))) ?_ fun u G2 H2 w2 du => q u G2 H2 ((w.trans w3).trans w2) du
      rw [List.getElem?_set_ne (fun z => h2 z.symm), List.getElem?_set_ne (fun z => h1 z.symm)]
      exact x
/-- all of a comprehension's truths -/
theorem ev_allc {wi : TI} {ds : List Dt} {g : Dt → Bool} (h : EvI K wi env ds) (hl : ds.length ≤ 100000) (hij : j ≠ i) (he : ∀ d ∈ ds, EvV K te (env.set i (some d)) j v (.bool (g d))) : EvV K (tCB (rAll K) (tCons (tLc wi (gName i) tYes te [i]) tNil)) env j v (.bool (ds.all g)) := fun σ G H gh s x Q q => by
  have hset : ∀ (y : V), (wipe σ [i]).set i (some y) = σ.set i (some y) := fun y => by
    show (σ.set i none).set i (some y) = _
    rw [List.set_set]
  refine h σ G H gh s _ fun J G1 H1 e1 wk D nD => ?_
  have ng1 : G1 D = none := e1.gh.free nD
  refine lc_it (n := ds.length) wk (fun k H' => ∃ G2 xs, Gw G1 H1 G2 H' ∧ G2 D = none ∧ H' D = some (.lst xs) ∧ DqAll K G2 xs ((ds.take k).map fun z => .bool (g z))) ⟨G1, [], (Gw.refl e1.gh).mut nD ng1, ng1, upd_same, .nil⟩ (fun k H' _ ⟨G2, _, w2, _⟩ => w2.gg.trans w2.gh) ?_ ?_
  · rintro k y H2 H2' hk ⟨G2, xs, w2, ng2, hD, dx⟩ ⟨rfl, d, hd, dd⟩
    have s2 : Sd K G2 ((wipe σ [i]).set i (some y)) (env.set i (some d)) := by
      rw [hset]
      exact (s.mono (e1.gg.trans w2.gg)).set i (dpM w2.gg dd)
    have x2 : ((wipe σ [i]).set i (some y))[j]? = some (some v) := by
      rw [hset, List.getElem?_set_ne (fun z => hij z.symm)]
      exact x
    refine ⟨by rw [hset]; show (σ.set i (some y)).set i none = σ.set i none; rw [List.set_set], ?_⟩
    refine (eb_yes (K := K) (env := env.set i (some d))) _ G2 H2' w2.gh s2 _ fun G3 H3 w3 => ?_
    refine iteT ?_
    refine he d (List.mem_of_getElem? hd) _ G3 H3 w3.gh (s2.mono w3.gg) x2 _ fun u G4 H4 w4' du => ?_
    have w4 := w3.trans w4'
    have ng4 := w4.keeps hD ng2
    have hD4 := w4.hh _ _ hD
    refine ⟨xs, hD4, ?_, G4, xs ++ [u], (w2.trans w4).mut nD ng4, ng4, upd_same, ?_⟩
    · rw [dpsLen dx, List.length_map, List.length_take]
      exact Nat.lt_of_le_of_lt (Nat.le_trans (Nat.min_le_right _ _) hl) (by decide)
    · rw [take_next' hd, List.map_append]
      exact dpsApp (dpsM w4.gg dx) (.cons du .nil)
  · rintro H2 ⟨G2, xs, w2, ng2, hD, dx⟩
    rw [List.take_length, show ds.map (fun z => PyData.bool (g z)) = (ds.map g).map PyData.bool by rw [List.map_map]; rfl] at dx
    have e := dpsBls dx
    subst e
    refine ⟨D, ds.map g, rfl, .inl (.inl hD), ?_⟩
    have e2 : (ds.map g).all id = ds.all g := by rw [List.all_map]; rfl
    rw [e2]
    exact q _ G2 H2 (e1.trans w2) (.bl _)
end
end LH

namespace LH
open PySem PySem.Spec L2 PyProof.Rows
/-! ### d.update(e), both with whole numbers and texts as keys -/
def tDUpd (td te : TE) : TE := fun σ H Q => td σ H fun x H1 => ∃ a, x = .ref a ∧ IsD H1 a ∧ te σ H1 fun y H2 => ∃ (b : Addr) (kvs ls : List (Key × V)), y = .ref b ∧ H2 a = some (.dK kvs) ∧ H2 b = some (.dK ls) ∧ a ≠ b ∧ kvs.length + ls.length ≤ 1000 ∧ Q .non (upd H2 a (.dK (mergeK kvs ls)))
theorem mergeK_len : ∀ (ls kvs : List (Key × V)), (mergeK kvs ls).length ≤ kvs.length + ls.length
  | [], kvs => Nat.le_refl _
  | l :: ls, kvs => by
    have h := mergeK_len ls (putK kvs l.1 l.2)
    have p := length_putK kvs l.1 l.2
    show (mergeK (putK kvs l.1 l.2) ls).length ≤ _
    rw [List.length_cons]
    omega
section
variable {X : Cx} {o e : Expr} {td te : TE} {apos cpos : Pos}
theorem pe_dupd (ho : PE X o td) (he : PE X e te) (m : M1 X o "update" apos e cpos) : PE X (.Call (.Attribute o "update" apos) [e] [] cpos) (tDUpd td te) := by
  (refine ⟨fun pins s σ H Q I h => ?_⟩)
  refine wpAny_Call_method m.base m.few m.line PySem.F.plainAttrs_dict PySem.F.slot_dict_update PySem.F.type_dict_update (thn (ho.run pins s σ H _ I h) fun u s1 ⟨x, H1, I1, rx, a, ex, d, q1⟩ => ?_)
  subst ex
  (obtain rfl : u = Value.ref a := rx)
  (obtain ⟨t1, t2, _⟩ := isD_at I1 d)
  refine ⟨t1, t2, ?_⟩
  rw [m.trees]
  refine Calls.callWith_builtin rfl (Calls.evalArgs_plain (Calls.spliced_cons (thn (he.run pins s1 σ H1 _ I1 q1) fun iv s2 ⟨y, H2, I2, ry, b, kvs, ls, ey, ha, hb, hne, hz, q2⟩ => Calls.spliced_nil ?_)))
  subst ey
  obtain rfl : iv = Value.ref b := ry
  obtain ⟨z1, hd1, vs, r1, d1⟩ := dk_of I2.hok ha
  obtain ⟨z2, hd2, ws, r2, d2⟩ := dk_of I2.hok hb
  have l1 := r1.length
  have l2 := r2.length
  refine call_meetsIn PySem.F.slot_dict_update d1.typeIs PySem.F.entry_dict_update (PySem.F.args_dict_update_2 _ _) (meets_dict_update (mixKind X.prog X.w) a b hne hd2) ⟨vs, ws, d1, d2, ?_, fun h' dd _ hs => ?_⟩
  · rw [← l1, ← l2]
    exact Nat.le_trans hz (by decide)
  · have he : ∃ q, h'.get? a = some q := let ⟨q, _, _, hq, _⟩ := dd; ⟨q, hq⟩
    have hl : (mergeK kvs ls).length ≤ sizeLine := Nat.le_trans (mergeK_len ls kvs) (Nat.le_trans hz (by decide))
    exact ⟨.non, _, d_write (t' := s2.toks) I2 (by rw [ha]; exact True.intro) hs he (dk_new hl hd1 (r2.merge r1) dd), rfl, q2⟩
end
end LH

namespace LH
open PySem PySem.Spec L2 PyProof.Rows
/-! ### dicts as data -/
/-- a new dict, no datum yet -/
def EvM (K : PySem.W.Frag) (te : TE) (env : Env0') (ds : List (Str × Dt)) : Prop := ∀ σ G H, Same G H → Sd K G σ env → ∀ Q : VK, (∀ p kvs G' H', Gw G H G' H' → H p = none → G' p = none → H' p = some (.dK kvs) → DqKv K G' kvs (ds.map fun p => (.str p.1, p.2)) → kvs.map (·.1) = ds.map (fun p => (Sum.inr p.1 : Key)) → Q (.ref p) H') → te σ H Q
def EvPs (K : PySem.W.Frag) : List (TE × TE) → Env0' → List (Str × Dt) → Prop
  | [], _, [] => True
  | (tk, tv) :: r, env, (k, d) :: s => EvE K tk env (.str k) ∧ EvE K tv env d ∧ EvPs K r env s
  | _, _, _ => False
section
variable {K : PySem.W.Frag} {env : Env0'}
theorem ps_run : ∀ {trs : List (TE × TE)} {ds : List (Str × Dt)}, EvPs K trs env ds → ∀ σ G H, Same G H → Sd K G σ env → ∀ Q : List (V × V) → Hp → Prop,
    (∀ kvs G' H', Gw G H G' H' → DqKv K G' kvs (ds.map fun p => (.str p.1, p.2)) → kvs.map (·.1) = ds.map (fun p => (Sum.inr p.1 : Key)) → Q (kvs.map fun kv => (kV kv.1, kv.2)) H') → tPairs trs σ H Q
  | [], [], _, σ, G, H, gh, s, Q, q => q [] G H (Gw.refl gh) .nil rfl
  | (tk, tv) :: r, (k, d) :: ds, h, σ, G, H, gh, s, Q, q => h.1 σ G H gh s _ fun x G1 H1 e1 dx => by
    cases dx
    exact h.2.1 σ G1 H1 e1.gh (s.mono e1.gg) _ fun y G2 H2 e2 dy => ps_run h.2.2 σ G2 H2 e2.gh (s.mono (e1.trans e2).gg) _ fun kvs G3 H3 e3 dk hk =>
      q ((Sum.inr k, y) :: kvs) G3 H3 ((e1.trans e2).trans e3) (.cons (k := Sum.inr k) (dpM e3.gg dy) dk) (by rw [List.map_cons, List.map_cons, hk])
  | [], _ :: _, h, _, _, _, _, _, _, _ => h.elim
  | _ :: _, [], h, _, _, _, _, _, _, _ => h.elim
theorem putK_new' {kvs : List (Key × V)} {k : Key} {v : V} (h : k ∉ kvs.map (·.1)) : putK kvs k v = kvs ++ [(k, v)] := by
  unfold putK
  rw [if_neg]
  intro z
  obtain ⟨x, hx, e⟩ := List.any_eq_true.mp z
  exact h (List.mem_map.mpr ⟨x, hx, of_decide_eq_true e⟩)
theorem mergeK_new : ∀ (ls kvs : List (Key × V)), ((kvs ++ ls).map (·.1)).Nodup → mergeK kvs ls = kvs ++ ls
  | [], kvs, _ => (List.append_nil kvs).symm
  | l :: ls, kvs, h => by
    have hn : l.1 ∉ kvs.map (·.1) := by
      rw [List.map_append, List.map_cons] at h
      intro z
      exact (List.nodup_append.mp h).2.2 l.1 z l.1 List.mem_cons_self rfl
    show mergeK (putK kvs l.1 l.2) ls = _
    rw [putK_new' hn]
    have e : (kvs ++ [(l.1, l.2)]) ++ ls = kvs ++ l :: ls := by rw [List.append_assoc]; rfl
    rw [mergeK_new ls _ (by rw [e]; exact h), e]
theorem em_disp {trs : List (TE × TE)} {ds : List (Str × Dt)} (h : EvPs K trs env ds) (hn : (ds.map (·.1)).Nodup) (hl : ds.length ≤ 15) : EvM K (tDisp trs) env ds := fun σ G H gh s Q q p np => by
  have w0 := Gw.out (o := HO.dK []) gh np
  refine ps_run h σ G _ w0.gh s _ fun kvs G' H' w dk hk => ?_
  have ng : G' p = none := w.keeps upd_same (gh.free np)
  have hnd : (kvs.map (·.1)).Nodup := by
    rw [hk]
    have e : ds.map (fun p => (Sum.inr p.1 : Key)) = (ds.map (·.1)).map Sum.inr := by rw [List.map_map]; rfl
    rw [e]
    exact List.Pairwise.map _ (fun a b hab z => hab (Sum.inr.inj z)) hn
  have hlen : kvs.length = ds.length := by
    have z := congrArg List.length hk
    rw [List.length_map, List.length_map] at z
    exact z
  refine ⟨w.hh _ _ upd_same, kvs, rfl, by rw [hlen]; exact hl, ?_⟩
  rw [mergeK_new kvs [] (by rw [List.nil_append]; exact hnd), List.nil_append]
  exact q p kvs G' _ ((w0.trans w).mut np ng) np ng upd_same dk hk
theorem ee_dict {te : TE} {ds : List (Str × Dt)} (h : EvM K te env ds) : EvE K te env (.dict (ds.map fun p => (.str p.1, p.2))) := fun σ G H gh s Q q => h σ G H gh s Q fun p kvs G' H' w np ng hp dk _ =>
  q _ _ H' (w.put np hp ng) (.dct upd_same (dpkM (sameU ng) dk))
/-- what stands at a text's key -/
def lookD (es : List (Dt × Dt)) (k : Str) : Option Dt := match es with
  | [] => none
  | (x, d) :: r => match x with
    | .str s => if s = k then some d else lookD r k
    | _ => lookD r k
theorem look_val : ∀ {G : Hp} {kvs : List (Key × V)} {es : List (Dt × Dt)} (k : Str), DqKv K G kvs es → (∃ d v, lookD es k = some d ∧ valV kvs (Sum.inr k) = some v ∧ Dq K G v d) ∨ (lookD es k = none ∧ valV kvs (Sum.inr k) = none)
  | _, _, _, k, .nil => .inr ⟨rfl, rfl⟩
  | _, _, _, k, .cons (k := x) (v := v) (d := d) (ds := es) h t => by
    cases x with
    | inl i =>
      have hne : ¬ (Sum.inl i : Key) = Sum.inr k := fun z => by cases z
      rcases look_val k t with ⟨d', v', a, b, c⟩ | ⟨a, b⟩
      · exact .inl ⟨d', v', a, (valV_neg (p := (Sum.inl i, v)) hne).trans b, c⟩
      · exact .inr ⟨a, (valV_neg (p := (Sum.inl i, v)) hne).trans b⟩
    | inr s =>
      by_cases e : s = k
      · subst e
        exact .inl ⟨d, v, if_pos rfl, valV_pos rfl, h⟩
      · have e1 : lookD ((keyD (Sum.inr s), d) :: es) k = lookD es k := if_neg e
        rcases look_val k t with ⟨d', v', a, b, c⟩ | ⟨a, b⟩
        · exact .inl ⟨d', v', e1.trans a, (valV_neg (fun z => e (Sum.inr.inj z))).trans b, c⟩
        · exact .inr ⟨e1.trans a, (valV_neg (fun z => e (Sum.inr.inj z))).trans b⟩
theorem valV_merge : ∀ (ls kvs : List (Key × V)) (k : Key), (ls.map (·.1)).Nodup → valV (mergeK kvs ls) k = match valV ls k with
    | some v => some v
    | none => valV kvs k
  | [], kvs, k, _ => rfl
  | l :: ls, kvs, k, h => by
    (rw [List.map_cons, List.nodup_cons] at h)
    show valV (mergeK (putK kvs l.1 l.2) ls) k = _
    rw [valV_merge ls _ k h.2, valV_put]
    by_cases e : k = l.1
    · rw [if_pos e, valV_pos (p := l) e.symm]
      have hn : valV ls k = none := by
        cases q : valV ls k with
        | none => rfl
        | some v => exact absurd (by rw [← e]; exact List.mem_map.mpr (by
            unfold valV at q
            obtain ⟨x, hx, _⟩ := Option.map_eq_some_iff.mp q
            have y := List.find?_some (p := fun (kv : Key × V) => decide (kv.1 = k)) hx
            exact ⟨x, List.mem_of_find?_eq_some hx, of_decide_eq_true y⟩)) h.1
      rw [hn]
    · rw [if_neg e, valV_neg (p := l) (fun z => e z.symm)]
theorem kv_keys : ∀ {G : Hp} {ls : List (Key × V)} {ch : List (Dt × Dt)}, DqKv K G ls ch → ch.map (·.1) = ls.map fun l => keyD l.1
  | _, _, _, .nil => rfl
  | _, _, _, .cons _ t => by rw [List.map_cons, List.map_cons, kv_keys t]
theorem kv_nodup {G : Hp} {ls : List (Key × V)} {ch : List (Dt × Dt)} (h : DqKv K G ls ch) (h2 : (ch.map fun p => LH.strOf p.1).Nodup) : (ls.map (·.1)).Nodup := by
  have e : (ch.map fun p => LH.strOf p.1) = (ls.map (·.1)).map fun k => LH.strOf (keyD k) := by
    have z := congrArg (List.map LH.strOf) (kv_keys h)
    rw [List.map_map, List.map_map] at z
    rw [List.map_map]
    exact z
  rw [e] at h2
  exact List.Pairwise.of_map (fun k => LH.strOf (keyD k)) (fun _ _ hne z => hne (congrArg (fun k => LH.strOf (keyD k)) z)) h2
theorem kv_len {G : Hp} {ls : List (Key × V)} {ch : List (Dt × Dt)} (h : DqKv K G ls ch) : ls.length = ch.length := by
  have z := congrArg List.length (kv_keys h)
  rw [List.length_map, List.length_map] at z
  exact z.symm
theorem seq_asg {te : TE} {i : Nat} {u : TS} {D : Ends} {σ : L2.St} {H : Hp} (h : te σ H fun x H1 => u D (σ.set i (some x)) H1) : tSeq (tAsg te (gName i)) u D σ H := h
theorem seq_drop {te : TE} {u : TS} {D : Ends} {σ : L2.St} {H : Hp} (h : te σ H fun _ H1 => u D σ H1) : tSeq (tDrop te) u D σ H := h
end
end LH

namespace LH
open PySem PySem.Spec L2 PyProof.Rows
section
variable {K : PySem.W.Frag} {env : Env0'} {te : TE}
theorem rd_addS {a b : Str} (h : a.length + b.length ≤ 100000) : RD K (fun x y H Q => ∃ i j, x = .str i ∧ y = .str j ∧ i.length + j.length ≤ sizeLine ∧ Q (.str (i ++ j)) H) (.str a) (.str b) (.str (a ++ b)) := fun x y G H gh da db Q q => by
  cases da
  cases db
  exact ⟨a, b, rfl, rfl, Nat.le_trans h (by decide), q _ G H (Gw.refl gh) (.str _)⟩
theorem ee_slS {tl' th : TO} {lo hi : Option Int} {z : Str} (h : EvE K te env (.str z)) (h1 : EvO K tl' env lo) (h2 : EvO K th env hi) (hz : z.length ≤ 100000) : EvE K (tSl rSlS te tl' th) env (.str (cutS z lo hi)) := fun σ G H gh s Q q =>
  h σ G H gh s _ fun v G2 H2 e dv => h1 σ G2 H2 e.gh (s.mono e.gg) _ fun G3 H3 e3 => h2 σ G3 H3 e3.gh (s.mono (e.trans e3).gg) _ fun G4 H4 e4 => by
    cases dv
    exact ⟨z, rfl, Nat.le_trans hz (by decide), q _ G4 H4 ((e.trans e3).trans e4) (.str _)⟩
theorem rd_I {C : Int → Int → Prop} {g : Int → Int → Int} {i j : Int} (hc : C i j) : RD K (rI C fun i j => .int (g i j)) (.int i) (.int j) (.int (g i j)) := fun a b G H gh da db Q q => by
  cases da
  cases db
  exact ⟨i, j, rfl, rfl, hc, q _ G H (Gw.refl gh) (.int _)⟩
theorem rd_mod {i j : Int} (h : 0 < j) : RD K (rI (fun _ j => 0 < j) fun i j => .int (i % j)) (.int i) (.int j) (.int (i % j)) := rd_I (C := fun _ j => 0 < j) (g := fun i j => i % j) h
theorem rd_mul {i j : Int} (h : CMul i j) : RD K (rI CMul fun i j => .int (i * j)) (.int i) (.int j) (.int (i * j)) := rd_I (g := fun i j => i * j) h
/-- slots told one by one -/
inductive SdL (K : PySem.W.Frag) (G : Hp) : L2.St → Env0' → Prop
  | nil : SdL K G [] []
  | any {o : Option V} {σ : L2.St} {env : Env0'} : SdL K G σ env → SdL K G (o :: σ) (none :: env)
  | val {v : V} {d : Dt} {σ : L2.St} {env : Env0'} : Dq K G v d → SdL K G σ env → SdL K G (some v :: σ) (some d :: env)
theorem SdL.len {G : Hp} : ∀ {σ : L2.St} {env : Env0'}, SdL K G σ env → σ.length = env.length
  | _, _, .nil => rfl
  | _, _, .any h => congrArg (· + 1) h.len
  | _, _, .val _ h => congrArg (· + 1) h.len
theorem SdL.get {G : Hp} : ∀ {σ : L2.St} {env : Env0'}, SdL K G σ env → ∀ (i : Nat) (d : Dt), env[i]? = some (some d) → ∃ v, σ[i]? = some (some v) ∧ Dq K G v d
  | _, _, .nil, i, d, h => by simp at h
  | _, _, .any t, 0, d, h => by cases h
  | _, _, .any t, i + 1, d, h => t.get i d h
  | _, _, .val (v := v) a t, 0, d, h => ⟨v, rfl, by cases h; exact a⟩
  | _, _, .val a t, i + 1, d, h => t.get i d h
theorem SdL.sd {G : Hp} {σ : L2.St} {env : Env0'} (h : SdL K G σ env) : Sd K G σ env := ⟨h.len, h.get⟩
end
theorem g_name {i : Nat} {v : V} {σ : L2.St} {H : Hp} {Q : L2.St → Hp → Prop} (h : Q (σ.set i (some v)) H) : gName i v σ H Q := h
/-- one object alone -/
def oneH (p : Addr) (o : HO) : Hp := fun a => if a = p then some o else none
theorem oneH_at (p : Addr) (o : HO) : oneH p o p = some o := if_pos rfl
theorem oneH_ne {p q : Addr} {o : HO} (h : q ≠ p) : oneH p o q = none := if_neg h
theorem oneH_same {p : Addr} {o : HO} {H : Hp} (h : H p = some o) : Same (oneH p o) H := fun a x e => by
  by_cases ea : a = p
  · rw [ea, oneH_at] at e
    rw [ea, h]
    exact e
  · rw [oneH_ne ea] at e
    cases e
/-! texts of one sign each, put together -/
theorem join_one {L : List Nat} : ∀ (ys : List Str), (∀ y ∈ ys, ∃ c, c ∈ L ∧ y = (⟨#[c]⟩ : Str)) → (Str.join "" ys).cps.toList.length = ys.length ∧ ∀ c ∈ (Str.join "" ys).cps.toList, c ∈ L
  | [], _ => ⟨rfl, fun c h => nomatch h⟩
  | [y], h => by
    obtain ⟨c, hc, rfl⟩ := h y List.mem_cons_self
    refine ⟨rfl, fun d hd => ?_⟩
    have hd' : d ∈ [c] := hd
    rw [List.mem_singleton.mp hd']
    exact hc
  | x :: y :: r, h => by
    obtain ⟨c, hc, rfl⟩ := h x List.mem_cons_self
    obtain ⟨a, b⟩ := join_one (y :: r) fun z hz => h z (List.mem_cons_of_mem _ hz)
    have e : (Str.join "" ((⟨#[c]⟩ : Str) :: y :: r)).cps.toList = c :: (Str.join "" (y :: r)).cps.toList := by
      show TL.tl ((⟨#[c]⟩ : Str) ++ ("" : Str) ++ Str.join "" (y :: r)) = _
      rw [TL.tl_append, TL.tl_append]
      rfl
    rw [e]
    refine ⟨by rw [List.length_cons, a]; rfl, fun d hd => ?_⟩
    rcases List.mem_cons.mp hd with z | z
    · rw [z]
      exact hc
    · exact b d z
end LH

namespace LH
open PySem PySem.Spec L2 PyProof.Rows
section
variable {K : PySem.W.Frag} {env : Env0'} {te ta tb : TE}
/-- an element for each item -/
inductive AllEv (K : PySem.W.Frag) (te : TE) (env : Env0') (j : Nat) : List Dt → List Dt → Prop
  | nil : AllEv K te env j [] []
  | cons {d r : Dt} {ds rs : List Dt} : EvE K te (env.set j (some d)) r → AllEv K te env j ds rs → AllEv K te env j (d :: ds) (r :: rs)
theorem AllEv.len {j : Nat} : ∀ {ds rs : List Dt}, AllEv K te env j ds rs → ds.length = rs.length
  | _, _, .nil => rfl
  | _, _, .cons _ t => congrArg (· + 1) t.len
theorem AllEv.get {j : Nat} : ∀ {ds rs : List Dt} {i : Nat} {d : Dt}, AllEv K te env j ds rs → ds[i]? = some d → ∃ r, rs[i]? = some r ∧ EvE K te (env.set j (some d)) r
  | _, _, _, _, .nil, h => by simp at h
  | _, _, 0, _, .cons (r := r) a _, h => ⟨r, rfl, by cases h; exact a⟩
  | _, _, i + 1, _, .cons _ t, h => t.get (i := i) h
theorem en_maps {wi : TI} {j : Nat} {ds rs : List Dt} (h : EvI K wi env ds) (hl : Nat.ble ds.length 100000 = true) (he : AllEv K te env j ds rs) : EvN K (tLc wi (gName j) tYes te [j]) env rs := fun σ G H gh s Q q => h σ G H gh s _ fun J G1 H1 e1 wk D nD => by
  have ng1 : G1 D = none := e1.gh.free nD
  refine lc_it (n := ds.length) wk (fun i H' => ∃ G2 xs, Gw G1 H1 G2 H' ∧ G2 D = none ∧ H' D = some (.lst xs) ∧ DqAll K G2 xs (rs.take i)) ⟨G1, [], (Gw.refl e1.gh).mut nD ng1, ng1, upd_same, .nil⟩ (fun i H' _ ⟨G2, _, w2, _⟩ => w2.gg.trans w2.gh) ?_ ?_
  · rintro i x H2 H2' hi ⟨G2, xs, w2, ng2, hD, dx⟩ ⟨rfl, d, hd, dd⟩
    obtain ⟨r, hr, hev⟩ := he.get hd
    have hset : (wipe σ [j]).set j (some x) = σ.set j (some x) := by
      show (σ.set j none).set j (some x) = _
      rw [List.set_set]
    have s2 : Sd K G2 ((wipe σ [j]).set j (some x)) (env.set j (some d)) := by
      rw [hset]
      exact (s.mono (e1.gg.trans w2.gg)).set j (dpM w2.gg dd)
    refine ⟨by rw [hset]; show (σ.set j (some x)).set j none = σ.set j none; rw [List.set_set], ?_⟩
    dsimp only [tYes]
    rw [if_pos rfl]
    refine hev _ G2 H2' w2.gh s2 _ fun y G4 H4 w4 dy => ?_
    have ng4 := w4.keeps hD ng2
    have hD4 := w4.hh _ _ hD
    refine ⟨xs, hD4, ?_, G4, xs ++ [y], (w2.trans w4).mut nD ng4, ng4, upd_same, ?_⟩
    · rw [dpsLen dx, List.length_take]
      have := Nat.le_of_ble_eq_true hl
      exact Nat.lt_of_le_of_lt (Nat.le_trans (Nat.min_le_left _ _) (Nat.le_of_lt hi)) (Nat.lt_of_le_of_lt this (by decide))
    · rw [take_next' hr]
      exact dpsApp (dpsM w4.gg dx) (.cons dy .nil)
  · rintro H2 ⟨G2, xs, w2, ng2, hD, dx⟩
    rw [he.len, List.take_length] at dx
    exact q D xs G2 H2 (e1.trans w2) (e1.hh.free nD) ng2 hD dx
/-- a new list times a number -/
theorem dpsRep {G : Hp} {xs : List V} {ds : List Dt} (h : DqAll K G xs ds) : ∀ n : Nat, DqAll K G (List.replicate n xs).flatten (List.replicate n ds).flatten
  | 0 => .nil
  | n + 1 => by
    (rw [List.replicate_succ, List.replicate_succ, List.flatten_cons, List.flatten_cons])
    exact dpsApp h (dpsRep h n)
theorem en_rep {ds : List Dt} {k : Nat} (h : EvN K ta env ds) (hk : Nat.ble k 1000 = true) (hl : Nat.ble ds.length 1000 = true) : EvN K (tOp rRep ta (tC (.int (k : Int)))) env (List.replicate k ds).flatten := fun σ G H gh s Q q => h σ G H gh s _ fun p xs G' H' w np ng hp dx => by
  have h1 := Nat.le_of_ble_eq_true hk
  have h2 := Nat.le_of_ble_eq_true hl
  refine ⟨p, (k : Int), xs, rfl, rfl, hp, by omega, by omega, ?_, fun l nl => ?_⟩
  · rw [dpsLen dx, Int.toNat_natCast]
    exact Nat.le_trans (Nat.mul_le_mul h2 h1) (by decide)
  · rw [Int.toNat_natCast]
    exact q l _ G' _ (w.trans (Gw.out w.gh nl)) (w.hh.free nl) (w.gh.free nl) upd_same (dpsRep dx k)
theorem rd_repT {ds : List Dt} {k : Nat} (hk : Nat.ble 2 k = true) (hk2 : Nat.ble k 1000 = true) (h0 : Nat.ble 1 ds.length = true) (hl : Nat.ble ds.length 1000 = true) : RD K (rRepT K) (.tuple ds) (.int (k : Int)) (.tuple (List.replicate k ds).flatten) := fun a b G H gh da db Q q => by
  have h1 := Nat.le_of_ble_eq_true hk
  have h2 := Nat.le_of_ble_eq_true hk2
  have h3 := Nat.le_of_ble_eq_true h0
  have h4 := Nat.le_of_ble_eq_true hl
  cases db
  cases da with
  | @tup p xs _ hs hd =>
    have hx := dpsLen hd
    refine ⟨p, (k : Int), xs, rfl, rfl, sameT gh hs, fun z => by rw [z] at hx; simp at hx; omega, by omega, by omega, by omega, fun l nl => ?_⟩
    rw [Int.toNat_natCast]
    exact q _ _ _ (Gw.new gh nl) (.tup (.inl (.inl upd_same)) (dpsM (sameU (gh.free nl)) (dpsRep hd k)))
/-- a, b = [], [] -/
theorem go_ll {i j : Nat} (hij : i ≠ j) (hi : i < env.length) (hj : j < env.length) : GoE K (tAsg (tTup (tCons (tLst tNil) (tCons (tLst tNil) tNil))) (gTup K 2 (gNames [i, j]))) env [] ((env.set i none).set j none) [(j, []), (i, [])] := fun H0 G0 σ G H D w f q => by
  refine ⟨Nat.zero_le _, fun p n1 => ⟨Nat.zero_le _, fun r n2 => ⟨(by show 2 ≤ sizeLine; decide), fun t nt => ?_⟩⟩⟩
  have hpr : p ≠ r := fun z => by rw [z, ← z, upd_same] at n2; cases n2
  have nr : H r = none := by rw [upd_ne hpr.symm] at n2; exact n2
  have htr : t ≠ r := fun z => by rw [z, upd_same] at nt; cases nt
  have htp : t ≠ p := fun z => by rw [z, upd_ne hpr, upd_same] at nt; cases nt
  have ntH : H t = none := by rw [upd_ne htr, upd_ne htp] at nt; exact nt
  have gp := f.gh.free n1
  have gr := f.gh.free nr
  have gt := f.gh.free ntH
  refine ⟨t, [.ref p, .ref r], rfl, .inl (.inl upd_same), rfl, .ref p, _, rfl, .ref r, _, rfl, rfl, ?_⟩
  have w2 := ((w.mut (o := HO.lst []) (w.hh.free n1) gp).mut (p := r) (o := HO.lst []) (w.hh.free nr) gr).mut (p := t) (o := HO.tup [.ref p, .ref r]) (w.hh.free ntH) gt
  have sl := f.sd.len
  refine q _ G _ (Same.refl G) w2 ⟨w2.gh, ?_, [r, p], .cons ?_ (w.hh.free nr) gr (xs := []) ?_ .nil ?_ (.cons ?_ (w.hh.free n1) gp (xs := []) ?_ .nil (fun z => nomatch z) .nil)⟩
  · refine ⟨by rw [List.length_set, List.length_set, List.length_set, List.length_set, sl], fun k e z => ?_⟩
    rw [List.getElem?_set] at z
    by_cases h1 : j = k
    · rw [if_pos h1] at z
      split at z <;> cases z
    · rw [if_neg h1, List.getElem?_set] at z
      by_cases h2 : i = k
      · rw [if_pos h2] at z
        split at z <;> cases z
      · rw [if_neg h2] at z
        rw [List.getElem?_set_ne h1, List.getElem?_set_ne h2]
        exact f.sd.at' k e z
  · rw [List.getElem?_set, if_pos rfl, if_pos (by rw [List.length_set, sl]; exact hj)]
  · rw [upd_ne htr.symm, upd_same]
  · exact fun z => hpr (List.mem_singleton.mp z).symm
  · rw [List.getElem?_set_ne hij.symm, List.getElem?_set, if_pos rfl, if_pos (by rw [sl]; exact hi)]
  · rw [upd_ne htp.symm, upd_ne hpr, upd_same]
/-- a, b, c = [], [], e -/
theorem go_lld {i j l : Nat} {tc : TE} {d : Dt} (hij : i ≠ j) (hil : i ≠ l) (hjl : j ≠ l) (hi : i < env.length) (hj : j < env.length) (hl : l < env.length) (he : EvE K tc env d) : GoE K (tAsg (tTup (tCons (tLst tNil) (tCons (tLst tNil) (tCons tc tNil)))) (gTup K 3 (gNames [i, j, l]))) env [] (((env.set i none).set j none).set l (some d)) [(j, []), (i, [])] := fun H0 G0 σ G H D w f q => by
  refine ⟨Nat.zero_le _, fun p n1 => ⟨Nat.zero_le _, fun r n2 => ?_⟩⟩
  have hpr : p ≠ r := fun z => by rw [z, ← z, upd_same] at n2; cases n2
  have nr : H r = none := by rw [upd_ne hpr.symm] at n2; exact n2
  have gp := f.gh.free n1
  have gr := f.gh.free nr
  have w1 := (w.mut (o := HO.lst []) (w.hh.free n1) gp).mut (p := r) (o := HO.lst []) (w.hh.free nr) gr
  have hp1 : (upd (upd H p (.lst [])) r (.lst [])) p = some (.lst []) := by rw [upd_ne hpr, upd_same]
  have hr1 : (upd (upd H p (.lst [])) r (.lst [])) r = some (.lst []) := upd_same
  generalize upd (upd H p (.lst [])) r (.lst []) = H1 at w1 hp1 hr1
  refine he σ G H1 w1.gh f.sd _ fun v G3 H3 w3 dv => ⟨(by show 3 ≤ sizeLine; decide), fun t nt => ?_⟩
  have hp3 := w3.hh _ _ hp1
  have hr3 := w3.hh _ _ hr1
  have gp3 := w3.keeps hp1 gp
  have gr3 := w3.keeps hr1 gr
  have htr : t ≠ r := fun z => by rw [z, hr3] at nt; cases nt
  have htp : t ≠ p := fun z => by rw [z, hp3] at nt; cases nt
  refine ⟨t, [.ref p, .ref r, v], rfl, .inl (.inl upd_same), rfl, .ref p, _, rfl, .ref r, _, rfl, v, _, rfl, rfl, ?_⟩
  have w4 := (w1.trans w3).mut (p := t) (o := HO.tup [.ref p, .ref r, v]) ((w1.trans w3).hh.free nt) (w3.gh.free nt)
  have sl := f.sd.len
  have sd0 : Sd K G3 (((σ.set i (some (V.ref p))).set j (some (V.ref r)))) ((env.set i none).set j none) := by
    refine ⟨by rw [List.length_set, List.length_set, List.length_set, List.length_set, sl], fun k e z => ?_⟩
    rw [List.getElem?_set] at z
    by_cases h1 : j = k
    · rw [if_pos h1] at z
      split at z <;> cases z
    · rw [if_neg h1, List.getElem?_set] at z
      by_cases h2 : i = k
      · rw [if_pos h2] at z
        split at z <;> cases z
      · rw [if_neg h2] at z
        rw [List.getElem?_set_ne h1, List.getElem?_set_ne h2]
        exact (f.sd.mono w3.gg).at' k e z
  refine q _ G3 _ w3.gg w4 ⟨w4.gh, sd0.set l dv, [r, p], .cons ?_ (w.hh.free nr) gr3 (xs := []) ?_ .nil ?_ (.cons ?_ (w.hh.free n1) gp3 (xs := []) ?_ .nil (fun z => nomatch z) .nil)⟩
  · rw [List.getElem?_set_ne hjl.symm, List.getElem?_set, if_pos rfl, if_pos (by rw [List.length_set, sl]; exact hj)]
  · rw [upd_ne htr.symm]
    exact hr3
  · exact fun z => hpr (List.mem_singleton.mp z).symm
  · rw [List.getElem?_set_ne hil.symm, List.getElem?_set_ne hij.symm, List.getElem?_set, if_pos rfl, if_pos (by rw [sl]; exact hi)]
  · rw [upd_ne htp.symm]
    exact hp3
/-- a, b, c = [], [], e -/
theorem go_par3 {i j l : Nat} {tc : TE} {d : Dt} (hij : i ≠ j) (hil : i ≠ l) (hjl : j ≠ l) (hi : i < env.length) (hj : j < env.length) (hl : l < env.length) (he : EvE K tc env d) : GoE K (tPar3 i j l (tCons (tLst tNil) (tCons (tLst tNil) (tCons tc tNil)))) env [] (((env.set i none).set j none).set l (some d)) [(j, []), (i, [])] := fun H0 G0 σ G H D w f q => by
  refine ⟨Nat.zero_le _, fun p n1 => ⟨Nat.zero_le _, fun r n2 => ?_⟩⟩
  have hpr : p ≠ r := fun z => by rw [z, ← z, upd_same] at n2; cases n2
  have nr : H r = none := by rw [upd_ne hpr.symm] at n2; exact n2
  have gp := f.gh.free n1
  have gr := f.gh.free nr
  have w1 := (w.mut (o := HO.lst []) (w.hh.free n1) gp).mut (p := r) (o := HO.lst []) (w.hh.free nr) gr
  have hp1 : (upd (upd H p (.lst [])) r (.lst [])) p = some (.lst []) := by rw [upd_ne hpr, upd_same]
  have hr1 : (upd (upd H p (.lst [])) r (.lst [])) r = some (.lst []) := upd_same
  generalize upd (upd H p (.lst [])) r (.lst []) = H1 at w1 hp1 hr1
  refine he σ G H1 w1.gh f.sd _ fun v G3 H3 w3 dv => ⟨.ref p, .ref r, v, rfl, ?_⟩
  have hp3 := w3.hh _ _ hp1
  have hr3 := w3.hh _ _ hr1
  have gp3 := w3.keeps hp1 gp
  have gr3 := w3.keeps hr1 gr
  have w4 := w1.trans w3
  have sl := f.sd.len
  have sd0 : Sd K G3 (((σ.set i (some (V.ref p))).set j (some (V.ref r)))) ((env.set i none).set j none) := by
    refine ⟨by rw [List.length_set, List.length_set, List.length_set, List.length_set, sl], fun k e z => ?_⟩
    rw [List.getElem?_set] at z
    by_cases h1 : j = k
    · rw [if_pos h1] at z
      split at z <;> cases z
    · rw [if_neg h1, List.getElem?_set] at z
      by_cases h2 : i = k
      · rw [if_pos h2] at z
        split at z <;> cases z
      · rw [if_neg h2] at z
        rw [List.getElem?_set_ne h1, List.getElem?_set_ne h2]
        exact (f.sd.mono w3.gg).at' k e z
  refine q _ G3 _ w3.gg w4 ⟨w4.gh, sd0.set l dv, [r, p], .cons ?_ (w.hh.free nr) gr3 (xs := []) ?_ .nil ?_ (.cons ?_ (w.hh.free n1) gp3 (xs := []) ?_ .nil (fun z => nomatch z) .nil)⟩
  · rw [List.getElem?_set_ne hjl.symm, List.getElem?_set, if_pos rfl, if_pos (by rw [List.length_set, sl]; exact hj)]
  · exact hr3
  · exact fun z => hpr (List.mem_singleton.mp z).symm
  · rw [List.getElem?_set_ne hil.symm, List.getElem?_set_ne hij.symm, List.getElem?_set, if_pos rfl, if_pos (by rw [sl]; exact hi)]
  · exact hp3
/-- a, b = x, y -/
theorem go_par {i j : Nat} {ta : TA} {d e : Dt} {M : MuL} (h : EvAs K ta env [d, e]) (hi : ∀ m ∈ M, m.1 ≠ i) (hj : ∀ m ∈ M, m.1 ≠ j) : GoE K (tPar i j ta) env M ((env.set i (some d)).set j (some e)) M := fun H0 G0 σ G H D w f q => h σ G H f.gh f.sd _ fun vs G' H' w' dv => by
  obtain ⟨ps, m⟩ := f.mu
  cases dv with
  | @cons v _ _ _ a t =>
    cases t with
    | @cons u _ _ _ b t =>
      cases t
      exact ⟨v, u, rfl, q _ G' H' w'.gg (w.trans w') ⟨w'.gh, ((f.sd.mono w'.gg).set i a).set j b, ps, ((m.grow w').set hi).set hj⟩⟩
/-- a, b = [], [] -/
theorem go_parLL {i j : Nat} (hij : i ≠ j) (hi : i < env.length) (hj : j < env.length) : GoE K (tPar i j (tCons (tLst tNil) (tCons (tLst tNil) tNil))) env [] ((env.set i none).set j none) [(j, []), (i, [])] := fun H0 G0 σ G H D w f q => by
  refine ⟨Nat.zero_le _, fun p n1 => ⟨Nat.zero_le _, fun r n2 => ⟨.ref p, .ref r, rfl, ?_⟩⟩⟩
  have hpr : p ≠ r := fun z => by rw [z, ← z, upd_same] at n2; cases n2
  have nr : H r = none := by rw [upd_ne hpr.symm] at n2; exact n2
  have gp := f.gh.free n1
  have gr := f.gh.free nr
  have w2 := (w.mut (o := HO.lst []) (w.hh.free n1) gp).mut (p := r) (o := HO.lst []) (w.hh.free nr) gr
  have sl := f.sd.len
  refine q _ G _ (Same.refl G) w2 ⟨w2.gh, ?_, [r, p], .cons ?_ (w.hh.free nr) gr (xs := []) ?_ .nil ?_ (.cons ?_ (w.hh.free n1) gp (xs := []) ?_ .nil (fun z => nomatch z) .nil)⟩
  · refine ⟨by rw [List.length_set, List.length_set, List.length_set, List.length_set, sl], fun k e z => ?_⟩
    rw [List.getElem?_set] at z
    by_cases h1 : j = k
    · rw [if_pos h1] at z
      split at z <;> cases z
    · rw [if_neg h1, List.getElem?_set] at z
      by_cases h2 : i = k
      · rw [if_pos h2] at z
        split at z <;> cases z
      · rw [if_neg h2] at z
        rw [List.getElem?_set_ne h1, List.getElem?_set_ne h2]
        exact f.sd.at' k e z
  · rw [List.getElem?_set, if_pos rfl, if_pos (by rw [List.length_set, sl]; exact hj)]
  · exact upd_same
  · exact fun z => hpr (List.mem_singleton.mp z).symm
  · rw [List.getElem?_set_ne hij.symm, List.getElem?_set, if_pos rfl, if_pos (by rw [sl]; exact hi)]
  · rw [upd_ne hpr, upd_same]
end
end LH

namespace LH
open PySem PySem.Spec L2 PyProof.Rows
/-! ### the law's state: a list of three numbers; data beside it -/
structure StAt (H : Hp) (sd ca : Addr) (t : Int) : Prop where
  eq : ca = sd
  ls : ∃ a b : Int, H sd = some (.lst [.int a, .int b, .int t]) ∧ 0 ≤ b ∧ b < 2 ^ 62
  t0 : 0 ≤ t
theorem StAt.same {H H' : Hp} {sd ca : Addr} {t : Int} (S : StAt H sd ca t) (h : Same H H') : StAt H' sd ca t := by
  obtain ⟨e, ⟨a, b, l, r⟩, z⟩ := S
  exact ⟨e, ⟨a, b, h _ _ l, r⟩, z⟩
theorem StAt.has {H : Hp} {sd ca : Addr} {t : Int} (S : StAt H sd ca t) : H sd ≠ none := by
  obtain ⟨e, ⟨a, b, l, r⟩, z⟩ := S
  rw [l]
  exact fun z => nomatch z
structure Sv (sd ca : Addr) (T : Nat) (G H : Hp) : Prop where
  gh : Same G H
  st : ∃ t, StAt H sd ca t ∧ t ≤ (T : Int)
  ns : G sd = none
  nc : G ca = none
structure Gs (sd ca : Addr) (G H G' H' : Hp) : Prop where
  gg : Same G G'
  hh : ∀ a o, H a = some o → a ≠ sd → a ≠ ca → H' a = some o
  nw : ∀ a, H a ≠ none → G a = none → G' a = none
  nn : ∀ a, H a ≠ none → H' a ≠ none
section
variable {sd ca : Addr} {G H G' H' G2 H2 : Hp} {T n : Nat}
theorem Gs.refl : Gs sd ca G H G H := ⟨Same.refl G, fun _ _ e _ _ => e, fun _ _ e => e, fun _ e => e⟩
theorem Gs.trans (a : Gs sd ca G H G' H') (b : Gs sd ca G' H' G2 H2) : Gs sd ca G H G2 H2 := ⟨a.gg.trans b.gg, fun c o e h1 h2 => b.hh c o (a.hh c o e h1 h2) h1 h2, fun c h e => b.nw c (a.nn c h) (a.nw c h e), fun c h => b.nn c (a.nn c h)⟩
theorem Gw.gs (w : Gw G H G' H') : Gs sd ca G H G' H' := ⟨w.gg, fun c o e _ _ => w.hh c o e, w.nw, fun c h => by
  cases q : H c with
  | none => exact absurd q h
  | some o =>
    rw [w.hh c o q]
    exact fun z => nomatch z⟩
theorem Gs.keeps {p : Addr} {o : HO} (a : Gs sd ca G H G' H') (hp : H p = some o) (ng : G p = none) : G' p = none := a.nw p (by rw [hp]; exact fun z => nomatch z) ng
theorem Sv.has (s : Sv sd ca T G H) : H sd ≠ none ∧ H ca ≠ none := by
  obtain ⟨t, S, _⟩ := s.st
  exact ⟨S.has, by rw [S.eq]; exact S.has⟩
theorem Sv.gw (s : Sv sd ca T G H) (w : Gw G H G' H') : Sv sd ca T G' H' := by
  obtain ⟨t, S, ht⟩ := s.st
  exact ⟨w.gh, ⟨t, S.same w.hh, ht⟩, w.nw sd s.has.1 s.ns, w.nw ca s.has.2 s.nc⟩
theorem Sv.le (s : Sv sd ca T G H) (h : T ≤ n) : Sv sd ca n G H := by
  obtain ⟨t, S, ht⟩ := s.st
  exact ⟨s.gh, ⟨t, S, by omega⟩, s.ns, s.nc⟩
/-- an object of one's own changes -/
theorem Sv.mut {p : Addr} {o : HO} (s : Sv sd ca T G H) (ng : G p = none) (h1 : p ≠ sd) (h2 : p ≠ ca) : Sv sd ca T G (upd H p o) := by
  obtain ⟨t, S, ht⟩ := s.st
  refine ⟨fun b x e => ?_, ⟨t, ⟨S.eq, by rw [upd_ne h1.symm]; exact S.ls, S.t0⟩, ht⟩, s.ns, s.nc⟩
  rw [upd_ne (ne_of_none e ng)]
  exact s.gh b x e
theorem Sv.fresh {p : Addr} (s : Sv sd ca T G H) (np : H p = none) : p ≠ sd ∧ p ≠ ca := ⟨fun z => s.has.1 (by rw [← z]; exact np), fun z => s.has.2 (by rw [← z]; exact np)⟩
/-- .. becomes a datum -/
theorem Sv.put {p : Addr} {o : HO} (s : Sv sd ca T G H) (hp : H p = some o) (ng : G p = none) (h1 : p ≠ sd) (h2 : p ≠ ca) : Sv sd ca T (upd G p o) H := by
  refine ⟨fun b x e => ?_, s.st, by rw [upd_ne h1.symm]; exact s.ns, by rw [upd_ne h2.symm]; exact s.nc⟩
  by_cases hb : b = p
  · subst hb
    rw [upd_same] at e
    rw [hp]
    exact e
  · rw [upd_ne hb] at e
    exact s.gh b x e
end
/-! ### what an expression may be worth, with draws within -/
def EvS (K : PySem.W.Frag) (te : TE) (env : Env0') (j n : Nat) (R : Dt → Prop) : Prop := ∀ sd ca T σ G H, T + n ≤ 100000 → Sv sd ca T G H → Sd K G σ env → σ[j]? = some (some (.ref sd)) → ∀ Q : VK, (∀ v d G' H', Gs sd ca G H G' H' → Sv sd ca (T + n) G' H' → Dq K G' v d → R d → Q v H') → te σ H Q
def EvSA (K : PySem.W.Frag) (ta : TA) (env : Env0') (j n : Nat) (R : List Dt → Prop) : Prop := ∀ sd ca T σ G H, T + n ≤ 100000 → Sv sd ca T G H → Sd K G σ env → σ[j]? = some (some (.ref sd)) → ∀ Q : List V → Hp → Prop, (∀ vs ds G' H', Gs sd ca G H G' H' → Sv sd ca (T + n) G' H' → DqAll K G' vs ds → R ds → Q vs H') → ta σ H Q
def EvSB (K : PySem.W.Frag) (tt : TT) (env : Env0') (j n : Nat) (R : Bool → Prop) : Prop := ∀ sd ca T σ G H, T + n ≤ 100000 → Sv sd ca T G H → Sd K G σ env → σ[j]? = some (some (.ref sd)) → ∀ Q : Bool → Hp → Prop, (∀ b G' H', Gs sd ca G H G' H' → Sv sd ca (T + n) G' H' → R b → Q b H') → tt σ H Q
def EvSO (K : PySem.W.Frag) (to : TO) (env : Env0') (j n : Nat) (R : Option Int → Prop) : Prop := ∀ sd ca T σ G H, T + n ≤ 100000 → Sv sd ca T G H → Sd K G σ env → σ[j]? = some (some (.ref sd)) → ∀ Q : Option Int → Hp → Prop, (∀ o G' H', Gs sd ca G H G' H' → Sv sd ca (T + n) G' H' → R o → Q o H') → to σ H Q
/-- a def's promise, with draws within: what is handed in, how many draws, what comes of it -/
def spS (K : PySem.W.Frag) (pre : List Dt → Prop) (nn : List Dt → Nat) (R : List Dt → Dt → Prop) : Sp := fun vs H Q _ => ∃ sd ca T G us ds, vs = .ref sd :: us ∧ Sv sd ca T G H ∧ DqAll K G us ds ∧ pre ds ∧ T + nn ds ≤ 100000 ∧ ∀ v d G' H', Gs sd ca G H G' H' → Sv sd ca (T + nn ds) G' H' → Dq K G' v d → R ds d → Q v H'
section
variable {K : PySem.W.Frag} {env : Env0'} {ta tb tc te : TE} {t u : TT} {d : Dt} {r : R2} {j n m : Nat} {R R1 : Dt → Prop}
theorem es_pure (h : EvE K te env d) : EvS K te env j 0 (· = d) := fun sd ca T σ G H _ s e _ Q q => h σ G H s.gh e Q fun v G' H' w dv => q v d G' H' w.gs (s.gw w) dv rfl
theorem es_is (h : EvS K te env j n R) (hn : n ≤ m) (hr : ∀ d, R d → R1 d) : EvS K te env j m R1 := fun sd ca T σ G H l s e x Q q => h sd ca T σ G H (by omega) s e x Q fun v d G' H' w s' dv rd => q v d G' H' w (s'.le (by omega)) dv (hr d rd)
theorem esb_pure {b : Bool} (h : EvB K t env b) : EvSB K t env j 0 (· = b) := fun sd ca T σ G H _ s e _ Q q => h σ G H s.gh e Q fun G' H' w => q b G' H' w.gs (s.gw w) rfl
theorem esa_pure {ta : TA} {ds : List Dt} (h : EvAs K ta env ds) : EvSA K ta env j 0 (· = ds) := fun sd ca T σ G H _ s e _ Q q => h σ G H s.gh e Q fun vs G' H' w dv => q vs ds G' H' w.gs (s.gw w) dv rfl
theorem eso_pure {to : TO} {o : Option Int} (h : EvO K to env o) : EvSO K to env j 0 (· = o) := fun sd ca T σ G H _ s e _ Q q => h σ G H s.gh e Q fun G' H' w => q o G' H' w.gs (s.gw w) rfl
theorem eso_some (h : EvS K te env j n R) (hi : ∀ d, R d → ∃ i, d = .int i) : EvSO K (tPart te) env j n (fun o => ∃ i, o = some i ∧ R (.int i)) := fun sd ca T σ G H l s e x Q q => h sd ca T σ G H l s e x _ fun v d G' H' w s' dv rd => by
  obtain ⟨i, rfl⟩ := hi d rd
  cases dv
  exact ⟨i, rfl, q _ G' H' w s' ⟨i, rfl, rd⟩⟩
theorem esb_test (h : EvS K te env j n R) (hi : ∀ d, R d → ∃ b, d = .bool b) : EvSB K (tTest te) env j n (fun b => R (.bool b)) := fun sd ca T σ G H l s e x Q q => h sd ca T σ G H l s e x _ fun v d G' H' w s' dv rd => by
  obtain ⟨b, rfl⟩ := hi d rd
  cases dv
  exact ⟨b, rfl, q _ G' H' w s' rd⟩
theorem es_op {R2 : Dt → Dt → Prop} (ha : EvS K ta env j n R1) (hb : ∀ x, R1 x → EvS K tb env j m (R2 x)) (hr : ∀ x y, R1 x → R2 x y → ∃ z, RD K r x y z ∧ R z) : EvS K (tOp r ta tb) env j (n + m) R := fun sd ca T σ G H l s e x Q q =>
  ha sd ca T σ G H (by omega) s e x _ fun v1 d1 G1 H1 w1 s1 dv1 r1 => hb d1 r1 sd ca (T + n) σ G1 H1 (by omega) s1 (e.mono w1.gg) x _ fun v2 d2 G2 H2 w2 s2 dv2 r2 => by
    obtain ⟨z, hz, rz⟩ := hr d1 d2 r1 r2
    exact hz v1 v2 G2 H2 s2.gh (dpM w2.gg dv1) dv2 Q fun v G3 H3 w3 dv => q v z G3 H3 ((w1.trans w2).trans w3.gs) (by rw [← Nat.add_assoc]; exact s2.gw w3) dv rz
theorem esa_nil : EvSA K tNil env j 0 (· = []) := esa_pure ea_nil
theorem esa_cons {tr : TA} {R2 : Dt → List Dt → Prop} (h : EvS K ta env j n R1) (hr : ∀ x, R1 x → EvSA K tr env j m (R2 x)) : EvSA K (tCons ta tr) env j (n + m) (fun ds => ∃ x xs, ds = x :: xs ∧ R1 x ∧ R2 x xs) := fun sd ca T σ G H l s e x Q q =>
  h sd ca T σ G H (by omega) s e x _ fun v1 d1 G1 H1 w1 s1 dv1 r1 => hr d1 r1 sd ca (T + n) σ G1 H1 (by omega) s1 (e.mono w1.gg) x _ fun vs ds G2 H2 w2 s2 dvs r2 =>
    q (v1 :: vs) (d1 :: ds) G2 H2 (w1.trans w2) (by rw [← Nat.add_assoc]; exact s2) (.cons (dpM w2.gg dv1) dvs) ⟨d1, ds, rfl, r1, r2⟩
theorem es_tup {tr : TA} {RA : List Dt → Prop} (h : EvSA K tr env j n RA) (hl : ∀ ds, RA ds → ds.length ≤ 100000) : EvS K (tTup tr) env j n (fun d => ∃ ds, d = .tuple ds ∧ RA ds) := fun sd ca T σ G H l s e x Q q =>
  h sd ca T σ G H l s e x _ fun vs ds G2 H2 w2 s2 dvs r2 => ⟨by rw [dpsLen dvs]; exact Nat.le_trans (hl ds r2) (by decide), fun p np => by
    have w3 := Gw.new (o := HO.tup vs) s2.gh np
    exact q _ _ _ _ (w2.trans w3.gs) (s2.gw w3) (.tup (.inl (.inl upd_same)) (dpsM w3.gg dvs)) ⟨ds, rfl, r2⟩⟩
theorem es_lst {tr : TA} {RA : List Dt → Prop} (h : EvSA K tr env j n RA) (hl : ∀ ds, RA ds → ds.length ≤ 100000) : EvS K (tLst tr) env j n (fun d => ∃ ds, d = .list ds ∧ RA ds) := fun sd ca T σ G H l s e x Q q =>
  h sd ca T σ G H l s e x _ fun vs ds G2 H2 w2 s2 dvs r2 => ⟨by rw [dpsLen dvs]; exact Nat.le_trans (hl ds r2) (by decide), fun p np => by
    have w3 := Gw.new (o := HO.lst vs) s2.gh np
    exact q _ _ _ _ (w2.trans w3.gs) (s2.gw w3) (.lst (.inl (.inl upd_same)) (dpsM w3.gg dvs)) ⟨ds, rfl, r2⟩⟩
theorem es_slL {tl th : TO} {ds : List Dt} {Ro Rp : Option Int → Prop} (h : EvE K te env (.list ds)) (h1 : EvSO K tl env j n Ro) (h2 : EvSO K th env j m Rp) : EvS K (tSl (rSlL K) te tl th) env j (n + m) (fun d => ∃ lo hi, Ro lo ∧ Rp hi ∧ d = .list (cutD ds lo hi)) := fun sd ca T σ G H l s e x Q q =>
  h σ G H s.gh e _ fun v G0 H0 w0 dv => h1 sd ca T σ G0 H0 (by omega) (s.gw w0) (e.mono w0.gg) x _ fun lo G1 H1 w1 s1 r1 => h2 sd ca (T + n) σ G1 H1 (by omega) s1 (e.mono (w0.gg.trans w1.gg)) x _ fun hi G2 H2 w2 s2 r2 => by
    cases dv with
    | @lst p xs _ hs hd =>
      have g2 : Same G0 G2 := w1.gg.trans w2.gg
      refine ⟨p, xs, rfl, (g2.trans s2.gh).seq hs, fun l' nl => ?_⟩
      have w3 := Gw.new (o := HO.lst (cutV xs lo hi)) s2.gh nl
      exact q _ _ _ _ (((Gw.gs w0).trans w1).trans (w2.trans w3.gs)) (by rw [← Nat.add_assoc]; exact s2.gw w3) (.lst (.inl (.inl upd_same)) (dpsM (g2.trans w3.gg) (dpsCut hd lo hi))) ⟨lo, hi, r1, r2, rfl⟩
theorem es_call {pre : List Dt → Prop} {nn : List Dt → Nat} {RR : List Dt → Dt → Prop} {E : XK} {tr : TA} {ds : List Dt} (h : EvAs K tr env ds) (hp : pre ds) : EvS K (tCall (spS K pre nn RR) [] E (tCons (tVar j) tr)) env j (nn ds) (RR ds) := fun sd ca T σ G H l s e x Q q =>
  ⟨.ref sd, x, h σ G H s.gh e _ fun vs G1 H1 w1 dvs => ⟨sd, ca, T, G1, vs, ds, by rw [List.append_nil], s.gw w1, dvs, hp, l, fun v d G2 H2 w2 s2 dv rd => q v d G2 H2 ((Gw.gs w1).trans w2) s2 dv rd⟩⟩
theorem es_callS {pre : List Dt → Prop} {nn : List Dt → Nat} {RR : List Dt → Dt → Prop} {E : XK} {tr : TA} {RA : List Dt → Prop} {k : Nat} (h : EvSA K tr env j n RA) (hp : ∀ ds, RA ds → pre ds) (hk : ∀ ds, RA ds → nn ds ≤ k) (hr : ∀ ds d, RA ds → RR ds d → R d) : EvS K (tCall (spS K pre nn RR) [] E (tCons (tVar j) tr)) env j (n + k) R := fun sd ca T σ G H l s e x Q q =>
  ⟨.ref sd, x, h sd ca T σ G H (by omega) s e x _ fun vs ds G1 H1 w1 s1 dvs ra => ⟨sd, ca, T + n, G1, vs, ds, by rw [List.append_nil], s1, dvs, hp ds ra, by have := hk ds ra; omega, fun v d G2 H2 w2 s2 dv rd => q v d G2 H2 (w1.trans w2) (s2.le (by have := hk ds ra; omega)) dv (hr ds d ra rd)⟩⟩
/-- what a comprehension's list may be -/
inductive LcR (Rt : Dt → Bool → Prop) (Re : Dt → Dt → Prop) : List Dt → List Dt → Prop
  | nil : LcR Rt Re [] []
  | yes {ds es : List Dt} {d e : Dt} : LcR Rt Re ds es → Rt d true → Re d e → LcR Rt Re (ds ++ [d]) (es ++ [e])
  | no {ds es : List Dt} {d : Dt} : LcR Rt Re ds es → Rt d false → LcR Rt Re (ds ++ [d]) es
theorem LcR.len {Rt : Dt → Bool → Prop} {Re : Dt → Dt → Prop} {ds es : List Dt} (h : LcR Rt Re ds es) : es.length ≤ ds.length := by
  induction h with
  | nil => exact Nat.le_refl _
  | yes _ _ _ ih => rw [List.length_append, List.length_append]; exact Nat.add_le_add_right ih 1
  | no _ _ ih => rw [List.length_append]; exact Nat.le_trans ih (Nat.le_add_right _ _)
theorem es_lc {wi : TI} {i : Nat} {ds : List Dt} {Rt : Dt → Bool → Prop} {Re : Dt → Dt → Prop} (h : EvI K wi env ds) (hl : ds.length ≤ 1000) (hij : j ≠ i) (ht : ∀ d ∈ ds, EvSB K t (env.set i (some d)) j n (Rt d)) (he : ∀ d ∈ ds, EvS K te (env.set i (some d)) j m (Re d)) :
    EvS K (tLc wi (gName i) t te [i]) env j (ds.length * (n + m)) (fun z => ∃ es, z = .list es ∧ LcR Rt Re ds es) := fun sd ca T σ G H l s e x Q q => h σ G H s.gh e _ fun J G1 H1 e1 wk D nD => by
  have s1 := s.gw e1
  have ng1 : G1 D = none := e1.gh.free nD
  obtain ⟨nD1, nD2⟩ := s1.fresh nD
  refine lc_it (n := ds.length) wk (fun k H' => ∃ G2 xs es, Gs sd ca G1 H1 G2 H' ∧ Sv sd ca (T + k * (n + m)) G2 H' ∧ G2 D = none ∧ H' D = some (.lst xs) ∧ DqAll K G2 xs es ∧ LcR Rt Re (ds.take k) es)
    ⟨G1, [], [], ⟨Same.refl _, fun c o z _ _ => by rw [upd_ne (ne_of_none z nD)]; exact z, fun _ _ z => z, fun c z => by
      by_cases hc : c = D
      · rw [hc, upd_same]; exact fun z => nomatch z
      · rw [upd_ne hc]; exact z⟩, (s1.mut ng1 nD1 nD2).le (by omega), ng1, upd_same, .nil, .nil⟩ (fun k H' _ ⟨G2, _, _, w2, s2, _⟩ => w2.gg.trans s2.gh) ?_ ?_
  · rintro k y H2 H2' hk ⟨G2, xs, es, w2, s2, ng2, hD, dx, lc⟩ ⟨rfl, d, hd, dd⟩
    have hm : d ∈ ds := List.mem_of_getElem? hd
    have hset : ∀ (z : V), (wipe σ [i]).set i (some z) = σ.set i (some z) := fun z => by
      show (σ.set i none).set i (some z) = _
      rw [List.set_set]
    have e2 : Sd K G2 ((wipe σ [i]).set i (some y)) (env.set i (some d)) := by
      rw [hset]
      exact (e.mono (e1.gg.trans w2.gg)).set i (dpM w2.gg dd)
    have x2 : ((wipe σ [i]).set i (some y))[j]? = some (some (.ref sd)) := by
      rw [hset, List.getElem?_set_ne (fun z => hij z.symm)]
      exact x
    have hb : (k + 1) * (n + m) ≤ ds.length * (n + m) := Nat.mul_le_mul_right _ hk
    have hb2 : (k + 1) * (n + m) = k * (n + m) + (n + m) := by rw [Nat.add_mul, Nat.one_mul]
    refine ⟨by rw [hset]; show (σ.set i (some y)).set i none = σ.set i none; rw [List.set_set], ?_⟩
    refine ht d hm sd ca _ _ G2 H2' (by omega) s2 e2 x2 _ fun b G3 H3 w3 s3 rb => ?_
    have ng3 := w3.keeps hD ng2
    have hD3 := w3.hh _ _ hD nD1 nD2
    cases b with
    | true =>
      refine iteT ?_
      refine he d hm sd ca _ _ G3 H3 (by omega) s3 (e2.mono w3.gg) x2 _ fun v e' G4 H4 w4 s4 dv re => ?_
      have ng4 := w4.keeps hD3 ng3
      have hD4 := w4.hh _ _ hD3 nD1 nD2
      have lcl := lc.len
      rw [List.length_take] at lcl
      refine ⟨xs, hD4, ?_, G4, xs ++ [v], es ++ [e'], ?_, ((s4.mut ng4 nD1 nD2).le (by omega)), ng4, upd_same, dpsApp (dpsM (w3.gg.trans w4.gg) dx) (.cons dv .nil), by rw [take_next' hd]; exact .yes lc rb re⟩
      · rw [dpsLen dx]
        exact Nat.lt_of_le_of_lt (show es.length ≤ 1000 by omega) (by decide)
      · have w5 := (w2.trans w3).trans w4
        exact ⟨w5.gg, fun c o z h1 h2 => by rw [upd_ne (ne_of_none z nD)]; exact w5.hh c o z h1 h2, w5.nw, fun c z => by
          by_cases hc : c = D
          · rw [hc, upd_same]; exact fun z => nomatch z
          · rw [upd_ne hc]; exact w5.nn c z⟩
    | false =>
      refine iteF ?_
      exact ⟨G3, xs, es, w2.trans w3, s3.le (by omega), ng3, hD3, dpsM w3.gg dx, by rw [take_next' hd]; exact .no lc rb⟩
  · rintro H2 ⟨G2, xs, es, w2, s2, ng2, hD, dx, lc⟩
    rw [List.take_length] at lc
    refine q (.ref D) (.list es) (upd G2 D (.lst xs)) H2 ((Gw.gs e1).trans ⟨w2.gg.trans (sameU ng2), w2.hh, fun c h1 h2 => ?_, w2.nn⟩) (s2.put hD ng2 nD1 nD2) (.lst (.inl (.inl upd_same)) (dpsM (sameU ng2) dx)) ⟨es, rfl, lc⟩
    rw [upd_ne (fun z => h1 (by rw [z]; exact nD))]
    exact w2.nw c h1 h2
end
end LH

namespace LH
open PySem PySem.Spec L2 PyProof.Rows
section
variable {K : PySem.W.Frag} {env : Env0'} {M : MuL} {ta te : TE} {a b : TS} {d : Dt} {ds : List Dt} {j : Nat}
/-- for x in ..: a turn may hand back -/
theorem rt_forR {wi : TI} (good : Dt → Bool) (h : EvI K wi env ds) (ev : Nat → Env0') (mv : Nat → MuL) (h0 : ev 0 = env) (m0 : mv 0 = M)
    (hb : ∀ (k : Nat) (e : Dt), ds[k]? = some e → good e = true → GoE K a ((ev k).set j (some e)) (mv k) (ev (k + 1)) (mv (k + 1)))
    (hr : ∀ (k : Nat) (e : Dt), ds[k]? = some e → good e = false → RtE K a ((ev k).set j (some e)) (mv k) d) (hj : ∀ k, ∀ m ∈ mv k, m.1 ≠ j)
    (he : ds.all good = true → RtE K b (ev ds.length) (mv ds.length) d) : RtE K (tSeq (tFor wi (gName j) a) b) env M d := fun H0 G0 σ G H D w f q => by
  refine h σ G H f.gh f.sd _ fun J G1 H1 w1 wk => ?_
  obtain ⟨ps, m⟩ := f.mu
  refine for_it (n := ds.length) wk (fun k σ' H' => (ds.take k).all good = true ∧ ∃ G2, Gw G0 H0 G2 H' ∧ Same G1 G2 ∧ Fra K H0 (ev k) (mv k) σ' G2 H') ⟨rfl, G1, w.trans w1, Same.refl _, by rw [h0, m0]; exact ⟨w1.gh, f.sd.mono w1.gg, ps, m.grow w1⟩⟩ (fun k σ' H' _ ⟨_, G2, w2, g2, f2⟩ => g2.trans f2.gh) ?_ ?_
  · rintro k x σ' H' H'' hk ⟨hg, G2, w2, g2, f2⟩ ⟨rfl, e, hd, dd⟩
    obtain ⟨qs, m2⟩ := f2.mu
    have f3 : Fra K H0 ((ev k).set j (some e)) (mv k) (σ'.set j (some x)) G2 H'' := ⟨f2.gh, f2.sd.set j (dpM g2 dd), qs, m2.set (hj k)⟩
    cases hc : good e with
    | true =>
      refine hb k e hd hc H0 G0 _ G2 H'' _ w2 f3 fun σ3 G3 H3 g3 w3 f3 => ⟨?_, G3, w3, g2.trans g3, f3⟩
      rw [take_next' hd, List.all_append, hg, Bool.true_and]
      show (good e && true) = true
      rw [hc]
      rfl
    | false => exact hr k e hd hc H0 G0 _ G2 H'' _ w2 f3 q
  · rintro σ' H' ⟨hg, G2, w2, g2, f2⟩
    rw [List.take_length] at hg
    exact he hg H0 G0 σ' G2 H' D w2 f2 q
/-- len(set(x)) < len(x) of texts -/
theorem ee_lenSetLt {xs : List Str} (h : EvE K ta env (.list (xs.map PyData.str))) (hl : xs.length < 64) {te2 : TE} (h2 : EvE K te2 env (.int (xs.length : Int))) :
    EvE K (tOp (rI0 fun i j => .bl (decide (i < j))) (tLenSetD K ta) te2) env (.bool (!decide xs.Nodup)) := fun σ G H gh s Q q => h σ G H gh s _ fun v G2 H2 e dv => by
  cases dv with
  | @lst p us _ hs hx =>
    have eu := dpsStrs hx
    subst eu
    refine ⟨p, _, rfl, .inl (e.gh.seq hs), by rw [List.length_map]; exact hl, .inl ⟨xs, rfl, fun n h1 h3 => h2 σ G2 H2 e.gh (s.mono e.gg) _ fun y G3 H3 e3 dy => ?_⟩⟩
    cases dy
    refine ⟨(n : Int), (xs.length : Int), rfl, rfl, ?_⟩
    have eb : decide ((n : Int) < (xs.length : Int)) = !decide xs.Nodup := by
      by_cases hn : n = xs.length
      · rw [decide_eq_true (h3.mp hn), hn]
        (exact decide_eq_false (Int.lt_irrefl _))
      · rw [decide_eq_false (fun z => hn (h3.mpr z))]
        (exact decide_eq_true (by omega))
    show Q (.bl (decide ((n : Int) < (xs.length : Int)))) H3
    rw [eb]
    exact q _ G3 H3 (e.trans e3) (.bl _)
end
end LH
namespace LH
open PySem PySem.Spec L2 PyProof.Rows
section
variable {K : PySem.W.Frag} {env env1 : Env0'} {M M1 : MuL} {ta te : TE} {t : TT} {a b : TS} {d : Dt} {ds : List Dt} {i j : Nat}
theorem Sd.forget {G : Hp} {σ : L2.St} {o : Option V} (h : Sd K G σ env) : Sd K G (σ.set j o) (env.set j none) := ⟨by rw [List.length_set, List.length_set, h.len], fun k e z => by
  rw [List.getElem?_set] at z ⊢
  by_cases hk : j = k
  · rw [if_pos hk] at z
    split at z <;> cases z
  · rw [if_neg hk] at z ⊢
    exact h.at' k e z⟩
/-- x, y = a datum, [] -/
theorem go_parDL (hij : i ≠ j) (hj : j < env.length) (h : EvE K ta env d) : GoE K (tPar i j (tCons ta (tCons (tLst tNil) tNil))) env [] ((env.set i (some d)).set j none) [(j, [])] := fun H0 G0 σ G H D w f q => h σ G H f.gh f.sd _ fun v G1 H1 w1 dv => by
  refine ⟨Nat.zero_le _, fun p np => ⟨v, .ref p, rfl, ?_⟩⟩
  have w2 := Gw.out (o := HO.lst []) w1.gh np
  refine q _ G1 _ w1.gg ((w.trans w1).trans w2) ⟨w2.gh, ((f.sd.mono w1.gg).set i dv).forget, [p], .cons ?_ ((w.trans w1).hh.free np) (w1.gh.free np) upd_same .nil List.not_mem_nil .nil⟩
  rw [List.getElem?_set, if_pos rfl, if_pos (by rw [List.length_set, f.sd.len]; exact hj)]
theorem go_no (h : EvB K t env false) (hb : GoE K b env M env1 M1) : GoE K (tSeq (tIfS t a tNext) b) env M env1 M1 := go_seq (go_if h (fun z => absurd z Bool.false_ne_true) fun _ => go_next) hb
end
end LH

namespace LH
open PySem PySem.Spec L2 PyProof.Rows
/-! ### how large data is -/
mutual
def wt : Dt → Nat
  | .str z => z.length + 1
  | .list ds => wtA ds + 1
  | .tuple ds => wtA ds + 1
  | _ => 1
def wtA : List Dt → Nat
  | [] => 0
  | d :: ds => wt d + wtA ds
end
/-- at most k deep, whole numbers to B, texts of plain signs, no dict -/
def fine (B : Nat) : Nat → Dt → Bool
  | _, .none => true
  | _, .bool _ => true
  | _, .int i => decide (i.natAbs ≤ B)
  | _, .str z => z.cps.toList.all fun c => decide (c < 128)
  | k + 1, .list ds => ds.all (fine B k)
  | k + 1, .tuple ds => ds.all (fine B k)
  | _, _ => false
structure Gd (W B k : Nat) (d : Dt) : Prop where
  w : wt d ≤ W
  f : fine B k d = true
theorem wt_pos : ∀ d : Dt, 1 ≤ wt d
  | .none => Nat.le_refl _
  | .bool _ => Nat.le_refl _
  | .int _ => Nat.le_refl _
  | .dict _ => Nat.le_refl _
  | .str z => by show 1 ≤ z.length + 1; omega
  | .list ds => by show 1 ≤ wtA ds + 1; omega
  | .tuple ds => by show 1 ≤ wtA ds + 1; omega
theorem wtA_len : ∀ ds : List Dt, ds.length ≤ wtA ds
  | [] => Nat.le_refl _
  | d :: ds => by
    have := wt_pos d
    have := wtA_len ds
    show ds.length + 1 ≤ wt d + wtA ds
    omega
theorem wtA_app : ∀ (xs ys : List Dt), wtA (xs ++ ys) = wtA xs + wtA ys
  | [], ys => (Nat.zero_add _).symm
  | x :: xs, ys => by
    show wt x + wtA (xs ++ ys) = wt x + wtA xs + wtA ys
    rw [wtA_app xs ys]
    omega
theorem wtA_mem : ∀ {ds : List Dt} {d : Dt}, d ∈ ds → wt d ≤ wtA ds
  | [], _, no => absurd no (List.not_mem_nil)
  | x :: ds, d, h => by
    show wt d ≤ wt x + wtA ds
    (rcases List.mem_cons.mp h with z | z)
    · rw [z]; omega
    · have := wtA_mem z; omega
theorem wtA_sub {xs ys : List Dt} (h : xs.Sublist ys) : wtA xs ≤ wtA ys := by
  induction h with
  | slnil => exact Nat.le_refl _
  | cons a _ ih =>
    rename_i l1 l2 _
    show wtA l1 ≤ wt a + wtA l2
    omega
  | cons_cons a _ ih =>
    rename_i l1 l2 _
    show wt a + wtA l1 ≤ wt a + wtA l2
    omega
theorem wtA_rev (xs : List Dt) : wtA xs.reverse = wtA xs := by
  induction xs with
  | nil => rfl
  | cons x xs ih =>
    rw [List.reverse_cons, wtA_app, ih]
    show wtA xs + (wt x + 0) = wt x + wtA xs
    omega
theorem fine_mono {B C : Nat} (hB : B ≤ C) : ∀ {k m : Nat} {d : Dt}, k ≤ m → fine B k d = true → fine C m d = true
  | 0, _, .none, _, _ => by unfold fine; rfl
  | k + 1, _, .none, _, _ => by unfold fine; rfl
  | 0, _, .bool _, _, _ => by unfold fine; rfl
  | k + 1, _, .bool _, _, _ => by unfold fine; rfl
  | 0, _, .int i, _, h => by unfold fine at *; exact decide_eq_true (Nat.le_trans (of_decide_eq_true h) hB)
  | k + 1, _, .int i, _, h => by unfold fine at *; exact decide_eq_true (Nat.le_trans (of_decide_eq_true h) hB)
  | 0, _, .str z, _, h => by unfold fine at *; exact h
  | k + 1, _, .str z, _, h => by unfold fine at *; exact h
  | 0, _, .list _, _, h => absurd h Bool.false_ne_true
  | 0, _, .tuple _, _, h => absurd h Bool.false_ne_true
  | 0, _, .dict _, _, h => absurd h Bool.false_ne_true
  | k + 1, _, .dict _, _, h => absurd h Bool.false_ne_true
  | k + 1, 0, _, hm, _ => absurd hm (by omega)
  | k + 1, m + 1, .list ds, hm, h => by
    have h' : ds.all (fine B k) = true := h
    show ds.all (fine C m) = true
    exact all_imp h' fun x hx => fine_mono hB (k := k) (m := m) (by omega) hx
  | k + 1, m + 1, .tuple ds, hm, h => by
    have h' : ds.all (fine B k) = true := h
    show ds.all (fine C m) = true
    exact all_imp h' fun x hx => fine_mono hB (k := k) (m := m) (by omega) hx
theorem Gd.mono {W B k W' B' k' : Nat} {d : Dt} (h : Gd W B k d) (h1 : W ≤ W') (h2 : B ≤ B') (h3 : k ≤ k') : Gd W' B' k' d := ⟨Nat.le_trans h.w h1, fine_mono h2 h3 h.f⟩
/-- what a row's items are -/
theorem fine_row {B k : Nat} {d : Dt} {ds : List Dt} (hd : d = .list ds ∨ d = .tuple ds) (h : fine B k d = true) : ∃ m, k = m + 1 ∧ ds.all (fine B m) = true := by
  cases k with
  | zero => rcases hd with rfl | rfl <;> exact absurd h Bool.false_ne_true
  | succ m => rcases hd with rfl | rfl <;> exact ⟨m, rfl, h⟩
theorem fine_lay {B : Nat} : ∀ {k : Nat} {d : Dt}, fine B k d = true → wt d ≤ 100000 → smD d = true ∧ PyData.canLay0 d = true ∧ PyData.depth d ≤ k
  | _, .none, _, _ => ⟨rfl, rfl, Nat.zero_le _⟩
  | _, .bool _, _, _ => ⟨rfl, rfl, Nat.zero_le _⟩
  | _, .int _, _, _ => ⟨rfl, rfl, Nat.zero_le _⟩
  | k, .str z, h, hw => by
    have h' : (z.cps.toList.all fun c => decide (c < 128)) = true := by cases k <;> exact h
    have hl : PyData.canLay0 (.str z) = true := by
      show z.cps.all (· < 0x110000) = true
      rw [← Array.all_toList]
      exact all_imp h' fun c hc => decide_eq_true (Nat.lt_trans (of_decide_eq_true hc) (by decide))
    refine ⟨?_, hl, Nat.zero_le _⟩
    show (decide (z.length ≤ 100000) && PyData.canLay0 (.str z)) = true
    have hw' : z.length + 1 ≤ 100000 := hw
    rw [hl, decide_eq_true (show z.length ≤ 100000 by omega)]
    rfl
  | 0, .list _, h, _ => absurd h Bool.false_ne_true
  | 0, .tuple _, h, _ => absurd h Bool.false_ne_true
  | 0, .dict _, h, _ => absurd h Bool.false_ne_true
  | k + 1, .dict _, h, _ => absurd h Bool.false_ne_true
  | k + 1, .list ds, h, hw => by
    have h' : ds.all (fine B k) = true := h
    have hw' : wtA ds + 1 ≤ 100000 := hw
    have each : ∀ d ∈ ds, smD d = true ∧ PyData.canLay0 d = true ∧ PyData.depth d ≤ k := fun d hd => fine_lay (List.all_eq_true.mp h' d hd) (by have := wtA_mem hd; omega)
    have hl := wtA_len ds
    refine ⟨?_, ?_, ?_⟩
    · show (decide (ds.length ≤ 100000) && smAll ds) = true
      rw [decide_eq_true (show ds.length ≤ 100000 by omega), Bool.true_and]
      clear h h' hw hw' hl
      induction ds with
      | nil => rfl
      | cons x xs ih =>
        show (smD x && smAll xs) = true
        rw [(each x List.mem_cons_self).1, ih fun d hd => each d (List.mem_cons_of_mem _ hd)]
        rfl
    · show PyData.canLayAll0 ds = true
      clear h h' hw hw' hl
      induction ds with
      | nil => rfl
      | cons x xs ih =>
        show (PyData.canLay0 x && PyData.canLayAll0 xs) = true
        rw [(each x List.mem_cons_self).2.1, ih fun d hd => each d (List.mem_cons_of_mem _ hd)]
        rfl
    · show PyData.depthAll ds + 1 ≤ k + 1
      refine Nat.succ_le_succ ?_
      clear h h' hw hw' hl
      induction ds with
      | nil => exact Nat.zero_le _
      | cons x xs ih =>
        show max (PyData.depth x) (PyData.depthAll xs) ≤ k
        exact Nat.max_le.mpr ⟨(each x List.mem_cons_self).2.2, ih fun d hd => each d (List.mem_cons_of_mem _ hd)⟩
  | k + 1, .tuple ds, h, hw => by
    have h' : ds.all (fine B k) = true := h
    have hw' : wtA ds + 1 ≤ 100000 := hw
    have each : ∀ d ∈ ds, smD d = true ∧ PyData.canLay0 d = true ∧ PyData.depth d ≤ k := fun d hd => fine_lay (List.all_eq_true.mp h' d hd) (by have := wtA_mem hd; omega)
    have hl := wtA_len ds
    refine ⟨?_, ?_, ?_⟩
    · show (decide (ds.length ≤ 100000) && smAll ds) = true
      rw [decide_eq_true (show ds.length ≤ 100000 by omega), Bool.true_and]
      clear h h' hw hw' hl
      induction ds with
      | nil => rfl
      | cons x xs ih =>
        show (smD x && smAll xs) = true
        rw [(each x List.mem_cons_self).1, ih fun d hd => each d (List.mem_cons_of_mem _ hd)]
        rfl
    · show PyData.canLayAll0 ds = true
      clear h h' hw hw' hl
      induction ds with
      | nil => rfl
      | cons x xs ih =>
        show (PyData.canLay0 x && PyData.canLayAll0 xs) = true
        rw [(each x List.mem_cons_self).2.1, ih fun d hd => each d (List.mem_cons_of_mem _ hd)]
        rfl
    · show PyData.depthAll ds + 1 ≤ k + 1
      refine Nat.succ_le_succ ?_
      clear h h' hw hw' hl
      induction ds with
      | nil => exact Nat.zero_le _
      | cons x xs ih =>
        show max (PyData.depth x) (PyData.depthAll xs) ≤ k
        exact Nat.max_le.mpr ⟨(each x List.mem_cons_self).2.2, ih fun d hd => each d (List.mem_cons_of_mem _ hd)⟩
theorem Gd.ok {W B k : Nat} {d : Dt} (h : Gd W B k d) (hW : W ≤ 100000) (hk : k ≤ 64) : okB d = true := by
  obtain ⟨a, b, c⟩ := fine_lay h.f (Nat.le_trans h.w hW)
  unfold okB SeqAt.shaped
  rw [a, b, decide_eq_true (show PyData.depth d ≤ 64 by omega)]
  rfl
/-! ### repr -/
theorem textFrom_le : ∀ (ts : List Str) (k : Nat) (acc : Str), (textFrom k acc ts).length ≤ acc.length + piled ts
  | [], k, acc => Nat.le_refl _
  | t :: ts, k, acc => by
    rw [piled_cons]
    refine Nat.le_trans (textFrom_le ts (k + 1) _) ?_
    have e : (acc ++ (if k > 0 then ", " else "" : String) ++ t).length ≤ acc.length + 2 + t.length := by
      (rw [strLen_append, strLen_append])
      have : ((if k > 0 then ", " else "" : String) : Str).length ≤ 2 := by split <;> decide +kernel
      omega
    omega
theorem listText_le (ts : List Str) : (listText ts).length ≤ piled ts + 2 := by
  unfold listText
  rw [strLen_append]
  have a := textFrom_le ts 0 "["
  have b : (("[" : String) : Str).length = 1 := by decide +kernel
  have c : (("]" : String) : Str).length = 1 := by decide +kernel
  omega
theorem tupText_le (ts : List Str) : (tupleText ts).length ≤ piled ts + 3 := by
  unfold tupleText
  (rw [strLen_append, strLen_append])
  have a : (("(" : String) : Str).length = 1 := by decide +kernel
  have b : (((if ts.length == 1 then ",)" else ")" : String) : Str)).length ≤ 2 := by split <;> decide +kernel
  by_cases h : ts = []
  · subst h
    decide +kernel
  · have c := join_length_add ts h
    omega
theorem shown_le {B : Nat} (hB : B < 10 ^ 10) : ∀ {k : Nat} {d : Dt}, fine B k d = true → d.showable = true ∧ d.shown.length + 2 ≤ 14 * wt d
  | _, .none, _ => ⟨rfl, by show 4 + 2 ≤ 14; decide⟩
  | _, .bool true, _ => ⟨rfl, by show 4 + 2 ≤ 14; decide⟩
  | _, .bool false, _ => ⟨rfl, by show 5 + 2 ≤ 14; decide⟩
  | k, .int i, h => by
    have h' : i.natAbs ≤ B := by cases k <;> exact of_decide_eq_true h
    have h2 : i.natAbs < 10 ^ 10 := by omega
    refine ⟨decide_eq_true ?_, ?_⟩
    · by_cases h0 : i.natAbs = 0
      · rw [h0]
        decide
      · exact Nat.lt_of_lt_of_le ((Nat.log2_lt h0).mpr (Nat.lt_trans h2 (by decide : 10 ^ 10 < 2 ^ 34))) (by decide)
    · have e := int_text_length_le10 (a := i) (k := 10) (by decide) h2
      show (Str.ofString (toString i)).length + 2 ≤ 14 * 1
      rw [PySem.ofString_length]
      omega
  | k, .str z, h => by
    have h' : (z.cps.toList.all fun c => decide (c < 128)) = true := by cases k <;> exact h
    have e := StrLaws.reprText_len z fun c hc => Nat.lt_trans (of_decide_eq_true (List.all_eq_true.mp h' c hc)) (by decide)
    refine ⟨rfl, ?_⟩
    show (reprText z).length + 2 ≤ 14 * (z.length + 1)
    omega
  | 0, .list _, h => absurd h Bool.false_ne_true
  | 0, .tuple _, h => absurd h Bool.false_ne_true
  | 0, .dict _, h => absurd h Bool.false_ne_true
  | k + 1, .dict _, h => absurd h Bool.false_ne_true
  | k + 1, .list ds, h => by
    have h' : ds.all (fine B k) = true := h
    have each : ∀ d ∈ ds, d.showable = true ∧ d.shown.length + 2 ≤ 14 * wt d := fun d hd => shown_le hB (List.all_eq_true.mp h' d hd)
    have go : PyData.showableAll ds = true ∧ piled (PyData.shownAll ds) ≤ 14 * wtA ds := by
      clear h h'
      induction ds with
      | nil => exact ⟨rfl, Nat.le_refl _⟩
      | cons x xs ih =>
        obtain ⟨a, b⟩ := ih fun d hd => each d (List.mem_cons_of_mem _ hd)
        obtain ⟨c, e⟩ := each x List.mem_cons_self
        refine ⟨?_, ?_⟩
        · show (x.showable && PyData.showableAll xs) = true
          rw [a, c]
          rfl
        · show piled (x.shown :: PyData.shownAll xs) ≤ 14 * (wt x + wtA xs)
          rw [piled_cons]
          omega
    refine ⟨go.1, ?_⟩
    have e := listText_le (PyData.shownAll ds)
    show (listText (PyData.shownAll ds)).length + 2 ≤ 14 * (wtA ds + 1)
    omega
  | k + 1, .tuple ds, h => by
    have h' : ds.all (fine B k) = true := h
    have each : ∀ d ∈ ds, d.showable = true ∧ d.shown.length + 2 ≤ 14 * wt d := fun d hd => shown_le hB (List.all_eq_true.mp h' d hd)
    have go : PyData.showableAll ds = true ∧ piled (PyData.shownAll ds) ≤ 14 * wtA ds := by
      clear h h'
      induction ds with
      | nil => exact ⟨rfl, Nat.le_refl _⟩
      | cons x xs ih =>
        obtain ⟨a, b⟩ := ih fun d hd => each d (List.mem_cons_of_mem _ hd)
        obtain ⟨c, e⟩ := each x List.mem_cons_self
        refine ⟨?_, ?_⟩
        · show (x.showable && PyData.showableAll xs) = true
          rw [a, c]
          rfl
        · show piled (x.shown :: PyData.shownAll xs) ≤ 14 * (wt x + wtA xs)
          rw [piled_cons]
          omega
    refine ⟨go.1, ?_⟩
    have e := tupText_le (PyData.shownAll ds)
    show (tupleText (PyData.shownAll ds)).length + 2 ≤ 14 * (wtA ds + 1)
    omega
/-- what is asked about here -/
def gdB (d : Dt) : Bool := decide (wt d ≤ 60000) && fine 100000 60 d
theorem gdB_ok {d : Dt} (h : gdB d = true) : okB d = true ∧ d.showable = true ∧ d.hasDict = false ∧ d.depth ≤ 64 ∧ d.shown.length ≤ sizeLine := by
  unfold gdB at h
  (rw [Bool.and_eq_true, decide_eq_true_eq] at h)
  obtain ⟨a, b⟩ := shown_le (B := 100000) (by decide) h.2
  obtain ⟨c, e, f⟩ := fine_lay h.2 (by omega)
  refine ⟨Gd.ok (W := 60000) (B := 100000) (k := 60) ⟨h.1, h.2⟩ (by decide) (by decide), a, PyData.hasDict_of_canLay d e, by omega, Nat.le_trans (show d.shown.length ≤ 840000 by omega) (by decide)⟩
theorem gdB_of {W B k : Nat} {d : Dt} (h : Gd W B k d) (h1 : W ≤ 60000) (h2 : B ≤ 100000) (h3 : k ≤ 60) : gdB d = true := by
  obtain ⟨a, b⟩ := h.mono h1 h2 h3
  unfold gdB
  rw [b, decide_eq_true a]
  rfl
end LH

namespace LH
open PySem PySem.Spec L2 PyProof.Rows
/-! ### blocks with draws within -/
def RtS (K : PySem.W.Frag) (ts : TS) (env : Env0') (j n : Nat) (R : Dt → Prop) : Prop := ∀ sd ca T σ G H (D : Ends), T + n ≤ 100000 → Sv sd ca T G H → Sd K G σ env → σ[j]? = some (some (.ref sd)) → (∀ v d G' H', Gs sd ca G H G' H' → Sv sd ca (T + n) G' H' → Dq K G' v d → R d → D.rt v H') → ts D σ H
section
variable {K : PySem.W.Frag} {env : Env0'} {ta tb te : TE} {t : TT} {a b c : TS} {d : Dt} {i j l n m : Nat} {R R1 : Dt → Prop}
theorem rs_ret (h : EvS K te env j n R) : RtS K (tRet te) env j n R := fun sd ca T σ G H D l s e x q => h sd ca T σ G H l s e x _ q
theorem rs_is (h : RtS K a env j n R) (hn : n ≤ m) (hr : ∀ d, R d → R1 d) : RtS K a env j m R1 := fun sd ca T σ G H D l s e x q => h sd ca T σ G H D (by omega) s e x fun v d G' H' w s' dv rd => q v d G' H' w (s'.le (by omega)) dv (hr d rd)
theorem rs_asg (h : EvS K te env j n R1) (hij : j ≠ i) (hb : ∀ d, R1 d → RtS K b (env.set i (some d)) j m R) : RtS K (tSeq (tAsg te (gName i)) b) env j (n + m) R := fun sd ca T σ G H D l s e x q =>
  h sd ca T σ G H (by omega) s e x _ fun v d G1 H1 w1 s1 dv rd => hb d rd sd ca (T + n) _ G1 H1 D (by omega) s1 ((e.mono w1.gg).set i dv) (by rw [List.getElem?_set_ne (fun z => hij z.symm)]; exact x) fun v' d' G' H' w s' dv' rd' => q v' d' G' H' (w1.trans w) (by rw [← Nat.add_assoc]; exact s') dv' rd'
theorem rs_par {ta : TA} {RA : List Dt → Prop} (h : EvSA K ta env j n RA) (h2 : ∀ ds, RA ds → ∃ x y, ds = [x, y]) (hij : j ≠ i) (hlj : j ≠ l) (hb : ∀ x y, RA [x, y] → RtS K b ((env.set i (some x)).set l (some y)) j m R) : RtS K (tSeq (tPar i l ta) b) env j (n + m) R := fun sd ca T σ G H D l' s e x q =>
  h sd ca T σ G H (by omega) s e x _ fun vs ds G1 H1 w1 s1 dv rd => by
    obtain ⟨d1, d2, rfl⟩ := h2 ds rd
    cases dv with
    | cons dv1 r =>
      cases r with
      | cons dv2 r =>
        cases r
        exact ⟨_, _, rfl, hb d1 d2 rd sd ca (T + n) _ G1 H1 D (by omega) s1 (((e.mono w1.gg).set i dv1).set l dv2) (by rw [List.getElem?_set_ne (fun z => hlj z.symm), List.getElem?_set_ne (fun z => hij z.symm)]; exact x) fun v' d' G' H' w s' dv' rd' => q v' d' G' H' (w1.trans w) (by rw [← Nat.add_assoc]; exact s') dv' rd'⟩
/-- if .. : return, then the rest -/
theorem rs_if {Rb : Bool → Prop} (h : EvSB K t env j n Rb) (h1 : Rb true → RtS K a env j m R) (h2 : Rb false → RtS K b env j m R) : RtS K (tSeq (tIfS t a tNext) b) env j (n + m) R := fun sd ca T σ G H D l s e x q =>
  h sd ca T σ G H (by omega) s e x _ fun k G1 H1 w1 s1 rb => by
    cases k with
    | true => exact h1 rb sd ca (T + n) σ G1 H1 _ (by omega) s1 (e.mono w1.gg) x fun v' d' G' H' w s' dv' rd' => q v' d' G' H' (w1.trans w) (by rw [← Nat.add_assoc]; exact s') dv' rd'
    | false => exact h2 rb sd ca (T + n) σ G1 H1 D (by omega) s1 (e.mono w1.gg) x fun v' d' G' H' w s' dv' rd' => q v' d' G' H' (w1.trans w) (by rw [← Nat.add_assoc]; exact s') dv' rd'
/-- if .. else .., then the rest -/
theorem rs_branch {Rb : Bool → Prop} (h : EvSB K t env j n Rb) (h1 : Rb true → RtS K (tSeq a c) env j m R) (h2 : Rb false → RtS K (tSeq b c) env j m R) : RtS K (tSeq (tIfS t a b) c) env j (n + m) R := fun sd ca T σ G H D l s e x q =>
  h sd ca T σ G H (by omega) s e x _ fun k G1 H1 w1 s1 rb => by
    cases k with
    | true => exact h1 rb sd ca (T + n) σ G1 H1 D (by omega) s1 (e.mono w1.gg) x fun v' d' G' H' w s' dv' rd' => q v' d' G' H' (w1.trans w) (by rw [← Nat.add_assoc]; exact s') dv' rd'
    | false => exact h2 rb sd ca (T + n) σ G1 H1 D (by omega) s1 (e.mono w1.gg) x fun v' d' G' H' w s' dv' rd' => q v' d' G' H' (w1.trans w) (by rw [← Nat.add_assoc]; exact s') dv' rd'
theorem rs_yes (h : EvB K t env true) (h1 : RtS K a env j m R) : RtS K (tSeq (tIfS t a tNext) b) env j m R := rs_is (rs_if (esb_pure h) (fun _ => h1) (fun z => by cases z)) (by omega) fun _ r => r
theorem rs_no (h : EvB K t env false) (h1 : RtS K b env j m R) : RtS K (tSeq (tIfS t a tNext) b) env j m R := rs_is (rs_if (esb_pure h) (fun z => by cases z) (fun _ => h1)) (by omega) fun _ r => r
theorem rs_then (h : EvB K t env true) (h1 : RtS K (tSeq a c) env j m R) : RtS K (tSeq (tIfS t a b) c) env j m R := rs_is (rs_branch (esb_pure h) (fun _ => h1) (fun z => by cases z)) (by omega) fun _ r => r
theorem rs_else (h : EvB K t env false) (h1 : RtS K (tSeq b c) env j m R) : RtS K (tSeq (tIfS t a b) c) env j m R := rs_is (rs_branch (esb_pure h) (fun z => by cases z) (fun _ => h1)) (by omega) fun _ r => r
theorem rs_pasg (h : EvE K te env d) (hij : j ≠ i) (hb : RtS K b (env.set i (some d)) j m R) : RtS K (tSeq (tAsg te (gName i)) b) env j m R := rs_is (rs_asg (es_pure h) hij fun z hz => by rw [hz]; exact hb) (by omega) fun _ r => r
/-! ### a loop over data, whatever is kept beside -/
theorem for_S {wi : TI} {ds : List Dt} {D : Ends} {σ : L2.St} {G H : Hp} (h : EvI K wi env ds) (gh : Same G H) (sd : Sd K G σ env) (I : Nat → L2.St → Hp → Hp → Prop) (h0 : ∀ G1 H1, Gw G H G1 H1 → I 0 σ G1 H1)
    (hs : ∀ (k : Nat) (d : Dt) (x : V) (σ' : L2.St) (G' H' : Hp) (D' : Ends), ds[k]? = some d → Same G' H' → I k σ' G' H' → Dq K G' x d → D'.rt = D.rt → (∀ σ2 G2 H2, Same G' G2 → Same G2 H2 → I (k + 1) σ2 G2 H2 → D'.nx σ2 H2) → a D' (σ'.set i (some x)) H')
    (he : ∀ σ' G' H', Same G' H' → I ds.length σ' G' H' → D.nx σ' H') : tFor wi (gName i) a D σ H := by
  refine h σ G H gh sd _ fun J G1 H1 w1 wk => ?_
  refine for_it (n := ds.length) wk (fun k σ' H' => ∃ G2, Same G1 G2 ∧ Same G2 H' ∧ I k σ' G2 H') ⟨G1, Same.refl _, w1.gh, h0 G1 H1 w1⟩ (fun k σ' H' _ ⟨G2, g2, s2, _⟩ => g2.trans s2) ?_ ?_
  · rintro k x σ' H' H'' hk ⟨G2, g2, s2, iv⟩ ⟨rfl, d, hd, dd⟩
    exact hs k d x σ' G2 H'' _ hd s2 iv (dpM g2 dd) rfl fun σ3 G3 H3 g3 s3 i3 => ⟨G3, g2.trans g3, s3, i3⟩
  · rintro σ' H' ⟨G2, g2, s2, iv⟩
    exact he σ' G2 H' s2 iv
end
/-! ### a def with draws within -/
def startS (n : Nat) (ds : List Dt) : Env0' := none :: startD (n - 1) ds
theorem Sd.cons {K : PySem.W.Frag} {G : Hp} {σ : L2.St} {env : Env0'} {o : Option V} (h : Sd K G σ env) : Sd K G (o :: σ) (none :: env) := ⟨congrArg (· + 1) h.len, fun i d z => by
  match i, z with
  | 0, z => cases z
  | i + 1, z => exact h.at' i d z⟩
theorem start_cons {N : List Str} {v : V} {us : List V} (h : us.length + 1 ≤ N.length) : L2.start N (v :: us) = some v :: L2.start N.tail us := by
  unfold L2.start
  rw [List.map_cons, List.cons_append, List.length_cons, List.length_tail]
  congr 3
  omega
section
variable {w : World} {P : Program} {K : PySem.W.Frag} {mg : Str → Option Value} {base : Heap}
theorem calS {x : Str} {st : Stmt} {N ps : List Str} {k : Nat} {pre : List Dt → Prop} {nn : List Dt → Nat} {RR : List Dt → Dt → Prop} (F : Dfn K mg x st ps) (S : FnScope N ps (defScope st)) (hlen : ∀ ds, pre ds → ds.length + 1 = ps.length) (hN : ps.length ≤ N.length)
    (hbody : ∀ (f : Addr) (cdv : Value) (A : Around) (outer : List Env) (s : Shared) (H : Hp) (E : XK), Room k (A.deeper (envOfC x (defScope st) s.heap.objs.size f cdv)) → ∀ ds, pre ds →
      ∃ t, PSs (cxOf L2.CX0 P w K mg base N x (defScope st) f cdv A outer s H E).nox (defBody st) t ∧ RtS K t (startS N.length ds) 0 (nn ds) (RR ds)) : C8.Cal P w K mg base (k + 1) x (spS K pre nn RR) [] := by
  obtain ⟨f, fd, F, hm, b⟩ := F.ex
  refine ⟨f, fd, ps, [], F.ok S (fun vs H Q E h => ?_) (fun cdv A outer s H vs Q E hr h => ?_), hm, F.kp, b, .nil⟩
  · obtain ⟨sd, ca, T, G, us, ds, rfl, _, du, hp, _⟩ := h
    rw [List.length_cons, dpsLen du]
    exact hlen ds hp
  · obtain ⟨sd, ca, T, G, us, ds, rfl, sv, du, hp, hT, q⟩ := h
    obtain ⟨t, ht, hv⟩ := hbody f cdv A outer s H E hr ds hp
    refine ⟨t, ht, ?_⟩
    have hl := hlen ds hp
    have e := start_cons (N := N) (v := .ref sd) (us := us) (by rw [dpsLen du]; omega)
    rw [e]
    refine hv sd ca T _ G H _ hT sv ?_ rfl q
    unfold startS
    have e2 : N.length - 1 = N.tail.length := (List.length_tail ..).symm
    rw [e2]
    exact (sdStart du).cons
end
end LH

namespace K04
open PySem PySem.Spec PyProof.Rows L2 LH C8
def topS (i : Nat) : Stmt := PySem.Challenge.pw_letterhall_k04_what_bodies_and_letters_a.main.body.getD i (.Pass ⟨0, 0, 0, 0⟩)
abbrev s_is_number : Stmt := topS 4
abbrev n_is_number : List Str := ["thing"]
theorem sc_is_number : FnScope n_is_number ["thing"] (defScope s_is_number) := ⟨rfl, rfl, rfl, by decide +kernel, rfl, by decide +kernel, by decide +kernel⟩
abbrev s_is_within : Stmt := topS 5
abbrev n_is_within : List Str := ["thing", "least", "most"]
theorem sc_is_within : FnScope n_is_within ["thing", "least", "most"] (defScope s_is_within) := ⟨rfl, rfl, rfl, by decide +kernel, rfl, by decide +kernel, by decide +kernel⟩
abbrev s_is_name : Stmt := topS 6
abbrev n_is_name : List Str := ["thing", "letter"]
theorem sc_is_name : FnScope n_is_name ["thing"] (defScope s_is_name) := ⟨rfl, rfl, rfl, by decide +kernel, rfl, by decide +kernel, by decide +kernel⟩
abbrev s_is_plain_text : Stmt := topS 7
abbrev n_is_plain_text : List Str := ["thing", "least", "most", "sign"]
theorem sc_is_plain_text : FnScope n_is_plain_text ["thing", "least", "most"] (defScope s_is_plain_text) := ⟨rfl, rfl, rfl, by decide +kernel, rfl, by decide +kernel, by decide +kernel⟩
abbrev s_is_tuple : Stmt := topS 8
abbrev n_is_tuple : List Str := ["thing", "least", "most"]
theorem sc_is_tuple : FnScope n_is_tuple ["thing", "least", "most"] (defScope s_is_tuple) := ⟨rfl, rfl, rfl, by decide +kernel, rfl, by decide +kernel, by decide +kernel⟩
abbrev s_is_head : Stmt := topS 16
abbrev n_is_head : List Str := ["thing"]
theorem sc_is_head : FnScope n_is_head ["thing"] (defScope s_is_head) := ⟨rfl, rfl, rfl, by decide +kernel, rfl, by decide +kernel, by decide +kernel⟩
abbrev s_is_heads : Stmt := topS 17
abbrev n_is_heads : List Str := ["thing", "head"]
theorem sc_is_heads : FnScope n_is_heads ["thing"] (defScope s_is_heads) := ⟨rfl, rfl, rfl, by decide +kernel, rfl, by decide +kernel, by decide +kernel⟩
abbrev s_is_writing : Stmt := topS 18
abbrev n_is_writing : List Str := ["thing", "sign"]
theorem sc_is_writing : FnScope n_is_writing ["thing"] (defScope s_is_writing) := ⟨rfl, rfl, rfl, by decide +kernel, rfl, by decide +kernel, by decide +kernel⟩
abbrev s_is_part : Stmt := topS 19
abbrev n_is_part : List Str := ["thing", "deep"]
theorem sc_is_part : FnScope n_is_part ["thing", "deep"] (defScope s_is_part) := ⟨rfl, rfl, rfl, by decide +kernel, rfl, by decide +kernel, by decide +kernel⟩
abbrev s_is_parts : Stmt := topS 20
abbrev n_is_parts : List Str := ["thing", "deep", "part"]
theorem sc_is_parts : FnScope n_is_parts ["thing", "deep"] (defScope s_is_parts) := ⟨rfl, rfl, rfl, by decide +kernel, rfl, by decide +kernel, by decide +kernel⟩
abbrev s_is_body_within : Stmt := topS 21
abbrev n_is_body_within : List Str := ["thing", "deep"]
theorem sc_is_body_within : FnScope n_is_body_within ["thing", "deep"] (defScope s_is_body_within) := ⟨rfl, rfl, rfl, by decide +kernel, rfl, by decide +kernel, by decide +kernel⟩
abbrev s_is_body : Stmt := topS 22
abbrev n_is_body : List Str := ["thing"]
theorem sc_is_body : FnScope n_is_body ["thing"] (defScope s_is_body) := ⟨rfl, rfl, rfl, by decide +kernel, rfl, by decide +kernel, by decide +kernel⟩
abbrev s_is_letter : Stmt := topS 23
abbrev n_is_letter : List Str := ["thing"]
theorem sc_is_letter : FnScope n_is_letter ["thing"] (defScope s_is_letter) := ⟨rfl, rfl, rfl, by decide +kernel, rfl, by decide +kernel, by decide +kernel⟩
def plains : Str := " !\"#$&'()*+,-./0123456789:;<=>?@ABCDEFGHIJKLMNOPQRSTUVWXYZ[\\]^_`abcdefghijklmnopqrstuvwxyz{|}~"
structure Tx (K : PySem.W.Frag) (mg : Str → Option Value) : Prop where
  m_isinstance : mg "isinstance" = none
  m_int : mg "int" = none
  m_bool : mg "bool" = none
  m_str : mg "str" = none
  m_tuple : mg "tuple" = none
  m_len : mg "len" = none
  m_all : mg "all" = none
  g_MOST_NAME : ∃ u, mg "MOST_NAME" = some u ∧ RelV (.int 8) u
  g_MOST_WRITING : ∃ u, mg "MOST_WRITING" = some u ∧ RelV (.int 300) u
  g_MOST_SIGN : ∃ u, mg "MOST_SIGN" = some u ∧ RelV (.int 65535) u
  g_MOST_HEADS : ∃ u, mg "MOST_HEADS" = some u ∧ RelV (.int 60) u
  g_MOST_VALUE : ∃ u, mg "MOST_VALUE" = some u ∧ RelV (.int 300) u
  g_MOST_PARTS : ∃ u, mg "MOST_PARTS" = some u ∧ RelV (.int 4) u
  g_MOST_DEEP : ∃ u, mg "MOST_DEEP" = some u ∧ RelV (.int 3) u
  g_SMALL_LETTERS : ∃ u, mg "SMALL_LETTERS" = some u ∧ RelV (.str "abcdefghijklmnopqrstuvwxyz") u
  g_PLAIN_SIGNS : ∃ u, mg "PLAIN_SIGNS" = some u ∧ RelV (.str plains) u
def isPlainD (d : Dt) (a b : Int) : Bool := match d with
  | .str z => (decide (a ≤ (z.length : Int)) && decide ((z.length : Int) ≤ b)) && (signsD z).all (signIn plains)
  | _ => false
def eqS (d : Dt) (z : Str) : Bool := PyData.eqv d (.str z)
def headD : Dt → Bool
  | .tuple [n, v] => isNameD n && isPlainD v 0 300
  | _ => false
def headsD : Dt → Bool
  | .tuple ds => isTupD (.tuple ds) 0 60 && ds.all headD
  | _ => false
def writD : Dt → Bool
  | .tuple ds => isTupD (.tuple ds) 0 300 && ds.all fun d => isWithinD d 0 65535
  | _ => false
def partG (b : Dt → Bool) : Dt → Bool
  | .tuple [h, y] => headsD h && b y
  | _ => false
def partsG (b : Dt → Bool) : Dt → Bool
  | .tuple ds => isTupD (.tuple ds) 1 4 && ds.all (partG b)
  | _ => false
def body2 (b : Dt → Bool) (w x : Dt) : Bool := bif eqS w "words" then writD x else eqS w "parts" && partsG b x
def bodyD : Nat → Dt → Bool
  | 0, _ => false
  | n + 1, .tuple [w, x] => body2 (bodyD n) w x
  | _ + 1, _ => false
def mPlain : List Dt → Option Dt
  | [d, .int a, .int b] => if smD d = true then some (.bool (isPlainD d a b)) else none
  | _ => none
def mHead : List Dt → Option Dt
  | [d] => if smD d = true then some (.bool (headD d)) else none
  | _ => none
def mHeads : List Dt → Option Dt
  | [d] => if smD d = true then some (.bool (headsD d)) else none
  | _ => none
def mWrit : List Dt → Option Dt
  | [d] => if smD d = true then some (.bool (writD d)) else none
  | _ => none
def mPart (m : Nat) : List Dt → Option Dt
  | [d, .int (.ofNat n)] => if okB d = true ∧ n < m then some (.bool (partG (bodyD n) d)) else none
  | _ => none
def mParts (m : Nat) : List Dt → Option Dt
  | [d, .int (.ofNat n)] => if okB d = true ∧ n < m then some (.bool (partsG (bodyD n) d)) else none
  | _ => none
def mBodyW (m : Nat) : List Dt → Option Dt
  | [d, .int (.ofNat n)] => if okB d = true ∧ n < m then some (.bool (bodyD n d)) else none
  | _ => none
def mBody : List Dt → Option Dt
  | [d] => if okB d = true then some (.bool (bodyD 3 d)) else none
  | _ => none
def mLetter : List Dt → Option Dt
  | [d] => if okB d = true then some (.bool (partG (bodyD 3) d)) else none
  | _ => none
theorem sh_words : SeqAt.shaped (.str "words") = true := by decide +kernel
theorem sh_parts : SeqAt.shaped (.str "parts") = true := by decide +kernel
theorem headD_n {d : Dt} (h : isTupD d 2 2 = false) : headD d = false := by
  unfold headD
  split
  · exact Bool.noConfusion (show true = false from h)
  · rfl
theorem partG_n {b : Dt → Bool} {d : Dt} (h : isTupD d 2 2 = false) : partG b d = false := by
  unfold partG
  split
  · exact Bool.noConfusion (show true = false from h)
  · rfl
theorem bodyD_n {n : Nat} {d : Dt} (h : isTupD d 2 2 = false) : bodyD n d = false := by
  cases n with
  | zero => rfl
  | succ n =>
    unfold bodyD
    split
    · rename_i e
      cases e
    · exact Bool.noConfusion (show true = false from h)
    · rfl
section
variable {w : World} {P : Program} {K : PySem.W.Frag} {mg : Str → Option Value} {base : Heap}
theorem c_is_number (T : Tx K mg) (F : Dfn K mg "is_number" s_is_number ["thing"]) : Cal P w K mg base 1 "is_number" (spF K mIsNumber) [] := by
  refine calF mIsNumber F sc_is_number (fun ds d h => ?_) fun f cdv A outer s H E hr ds d h => ?_
  · match ds, h with
    | [_], _ => rfl
  · match ds, h with
    | [x], h =>
      cases h
      refine ⟨_, (pss_one (ps_ret (pe_and (pe_callB call_isi (by rfl) T.m_isinstance (by decide +kernel) (pa_cons (pv 0) (pa_cons (pe_tyN "int" (by rfl) T.m_int (by decide +kernel)) pa_nil))) (pe_one (pe_not (pe_callB call_isi (by rfl) T.m_isinstance (by decide +kernel) (pa_cons (pv 0) (pa_cons (pe_tyN "bool" (by rfl) T.m_bool (by decide +kernel)) pa_nil)))))))), ?_⟩
      refine rt_ret ?_
      exact ee_is (ee_and (ee_isInt (ee_var rfl)) fun _ => ee_not (ee_isBool (ee_var rfl))) (by cases x <;> rfl)
theorem c_is_within (T : Tx K mg) (F : Dfn K mg "is_within" s_is_within ["thing", "least", "most"]) (C_is_number : Cal P w K mg base 1 "is_number" (spF K mIsNumber) []) : Cal P w K mg base 2 "is_within" (spF K mIsWithin) [] := by
  refine calF mIsWithin F sc_is_within (fun ds d h => ?_) fun f cdv A outer s H E hr ds d h => ?_
  · unfold mIsWithin at h
    split at h
    · rfl
    · cases h
  · match ds, h with
    | [x, .int a, .int b], h =>
      cases h
      refine ⟨_, (pss_one (ps_ret (pe_and (pe_c C_is_number hr (by decide) (by rfl) (pa_cons (pv 0) pa_nil)) (pe_one (pe_chain op_le op_le (pv 1) (pv 0) (pv 2)))))), ?_⟩
      refine rt_ret ?_
      cases x with
      | int i => exact ee_is (ee_and (ee_call (ea_cons (ee_var rfl) ea_nil) rfl) fun _ => ee_chain (ee_var rfl) (ee_var rfl) rd_le (fun _ => ee_var rfl) (fun _ => rd_le)) rfl
      | _ => exact ee_andF (ee_call (ea_cons (ee_var rfl) ea_nil) rfl)
theorem c_is_tuple (T : Tx K mg) (F : Dfn K mg "is_tuple" s_is_tuple ["thing", "least", "most"]) : Cal P w K mg base 1 "is_tuple" (spF K mIsTuple) [] := by
  refine calF mIsTuple F sc_is_tuple (fun ds d h => ?_) fun f cdv A outer s H E hr ds d h => ?_
  · unfold mIsTuple at h
    split at h
    · rfl
    · cases h
  · match ds, h with
    | [x, .int a, .int b], h =>
      cases h
      refine ⟨_, (pss_one (ps_ret (pe_and (pe_callB call_isi (by rfl) T.m_isinstance (by decide +kernel) (pa_cons (pv 0) (pa_cons (pe_tyN "tuple" (by rfl) T.m_tuple (by decide +kernel)) pa_nil))) (pe_one (pe_chain op_le op_le (pv 1) (pe_callB call_lenA (by rfl) T.m_len (by decide +kernel) (pa_cons (pv 0) pa_nil)) (pv 2)))))), ?_⟩
      refine rt_ret ?_
      cases x with
      | tuple i => exact ee_is (ee_and (ee_isTuple (ee_var rfl)) fun _ => ee_chain (ee_var rfl) (ee_len (ee_var rfl) rfl) rd_le (fun _ => ee_var rfl) (fun _ => rd_le)) rfl
      | _ => exact ee_andF (ee_is (ee_isTuple (ee_var rfl)) rfl)
/-- a text of so many signs, each of some -/
theorem ee_signs {env : Env0'} {z sg : Str} {i j : Nat} {a b : Int} {tl th tg : TE} (hs : smD (.str z) = true) (hi : env[i]? = some (some (.str z))) (hl : EvE K tl env (.int a)) (hh : EvE K th env (.int b)) (hg : ∀ c : Nat, EvE K tg (env.set j (some (.str ⟨#[c]⟩))) (.str sg)) (hj : ∀ d : Dt, (env.set j (some d))[j]? = some (some d)) :
    EvE K (tAndV (tChain (rI0 fun i j => .bl (decide (i ≤ j))) (rI0 fun i j => .bl (decide (i ≤ j))) tl (tCB (rLen K) (tCons (tVar i) tNil)) th) (tCB (rAll K) (tCons (tLc (iStr (tVar i)) (gName j) tYes (tOp (fun x y H Q => ∃ (c : Nat) (z : Str), x = .str ⟨#[c]⟩ ∧ y = .str z ∧ Q (.bl (decide (c ∈ z.cps.toList))) H) (tVar j) tg) [j]) tNil))) env (.bool ((decide (a ≤ (z.length : Int)) && decide ((z.length : Int) ≤ b)) && (signsD z).all (signIn sg))) := by
  refine ee_and (ee_chain hl (ee_len (ee_var hi) (lenD_str hs)) rd_le (fun _ => hh) (fun _ => rd_le)) fun _ => ee_allc (g := signIn sg) (en_map _ (ei_str (ee_var hi)) ?_ ?_)
  · unfold signsD
    (rw [List.length_map, Array.length_toList])
    exact (smD_str hs).1
  · intro d hd
    obtain ⟨c, _, rfl⟩ := List.mem_map.mp hd
    exact ee_op (ee_var (hj _)) (hg c) rd_sign
theorem c_is_name (T : Tx K mg) (F : Dfn K mg "is_name" s_is_name ["thing"]) : Cal P w K mg base 1 "is_name" (spF K mIsName) [] := by
  refine calF mIsName F sc_is_name (fun ds d h => ?_) fun f cdv A outer s H E hr ds d h => ?_
  · match ds, h with
    | [_], _ => rfl
  · match ds, h with
    | [x], h =>
      obtain ⟨hs, rfl⟩ := if_some (p := smD x = true) h
      refine ⟨_, (pss_cons (ps_if (pt_not (pt_val (pe_callB call_isi (by rfl) T.m_isinstance (by decide +kernel) (pa_cons (pv 0) (pa_cons (pe_tyN "str" (by rfl) T.m_str (by decide +kernel)) pa_nil))))) (pss_one (ps_ret (pe_bl))) (pss_nil)) (pss_one (ps_ret (pe_and (pe_chain op_le op_le (pe_int) (pe_callB call_lenA (by rfl) T.m_len (by decide +kernel) (pa_cons (pv 0) pa_nil)) (pe_gc (by rfl) T.g_MOST_NAME)) (pe_one (pe_callB (cr_all rfl) (by rfl) T.m_all (by decide +kernel) (pa_cons (pe_lc (own := [("letter", 1)]) (g := gName 1) (by rfl) sc_is_name.nd (pi_str (pv 0)) (blkOk_by (own := [("letter", 1)]) (N := n_is_name) (sc := defScope s_is_name) (by decide +kernel)) (fun _ _ _ _ _ => pg_name (i := 1) sc_is_name.nd rfl (Or.inl rfl)) (fun _ _ _ _ _ => pts_nil) (fun _ _ _ _ _ => pe_cmpR op_in_sign (pv 1) (pe_gc (by rfl) T.g_SMALL_LETTERS) rfl)) pa_nil))))))), ?_⟩
      cases x with
      | str z => exact rt_no (eb_is (eb_not (eb_B (ee_isStr (ee_var rfl)))) rfl) (rt_ret (ee_is (ee_signs hs rfl ee_int ee_int (fun c => ee_str) fun _ => rfl) rfl))
      | _ => exact rt_yes (eb_is (eb_not (eb_B (ee_isStr (ee_var rfl)))) rfl) (rt_ret ee_bl)
theorem c_is_plain_text (T : Tx K mg) (F : Dfn K mg "is_plain_text" s_is_plain_text ["thing", "least", "most"]) : Cal P w K mg base 1 "is_plain_text" (spF K mPlain) [] := by
  refine calF mPlain F sc_is_plain_text (fun ds d h => ?_) fun f cdv A outer s H E hr ds d h => ?_
  · unfold mPlain at h
    split at h
    · rfl
    · cases h
  · match ds, h with
    | [x, .int a, .int b], h =>
      obtain ⟨hs, rfl⟩ := if_some (p := smD x = true) h
      refine ⟨_, (pss_cons (ps_if (pt_not (pt_val (pe_callB call_isi (by rfl) T.m_isinstance (by decide +kernel) (pa_cons (pv 0) (pa_cons (pe_tyN "str" (by rfl) T.m_str (by decide +kernel)) pa_nil))))) (pss_one (ps_ret (pe_bl))) (pss_nil)) (pss_one (ps_ret (pe_and (pe_chain op_le op_le (pv 1) (pe_callB call_lenA (by rfl) T.m_len (by decide +kernel) (pa_cons (pv 0) pa_nil)) (pv 2)) (pe_one (pe_callB (cr_all rfl) (by rfl) T.m_all (by decide +kernel) (pa_cons (pe_lc (own := [("sign", 3)]) (g := gName 3) (by rfl) sc_is_plain_text.nd (pi_str (pv 0)) (blkOk_by (own := [("sign", 3)]) (N := n_is_plain_text) (sc := defScope s_is_plain_text) (by decide +kernel)) (fun _ _ _ _ _ => pg_name (i := 3) sc_is_plain_text.nd rfl (Or.inl rfl)) (fun _ _ _ _ _ => pts_nil) (fun _ _ _ _ _ => pe_cmpR op_in_sign (pv 3) (pe_gc (by rfl) T.g_PLAIN_SIGNS) rfl)) pa_nil))))))), ?_⟩
      cases x with
      | str z => exact rt_no (eb_is (eb_not (eb_B (ee_isStr (ee_var rfl)))) rfl) (rt_ret (ee_is (ee_signs hs rfl (ee_var rfl) (ee_var rfl) (fun c => ee_str) fun _ => rfl) rfl))
      | _ => exact rt_yes (eb_is (eb_not (eb_B (ee_isStr (ee_var rfl)))) rfl) (rt_ret ee_bl)
theorem c_is_head (T : Tx K mg) (F : Dfn K mg "is_head" s_is_head ["thing"]) (C_is_tuple : Cal P w K mg base 1 "is_tuple" (spF K mIsTuple) []) (C_is_name : Cal P w K mg base 1 "is_name" (spF K mIsName) []) (C_is_plain_text : Cal P w K mg base 1 "is_plain_text" (spF K mPlain) []) : Cal P w K mg base 2 "is_head" (spF K mHead) [] := by
  refine calF mHead F sc_is_head (fun ds d h => ?_) fun f cdv A outer s H E hr ds d h => ?_
  · match ds, h with
    | [_], _ => rfl
  · match ds, h with
    | [d], h =>
      obtain ⟨hs, rfl⟩ := if_some (p := smD d = true) h
      refine ⟨_, (pss_one (ps_ret (pe_and (pe_c C_is_tuple hr (by decide) (by rfl) (pa_cons (pv 0) (pa_cons (pe_int) (pa_cons (pe_int) pa_nil)))) (pe_and (pe_c C_is_name hr (by decide) (by rfl) (pa_cons (pe_ix ix_seq (pv 0) (pe_int) (fun _ _ => rfl)) pa_nil)) (pe_one (pe_c C_is_plain_text hr (by decide) (by rfl) (pa_cons (pe_ix ix_seq (pv 0) (pe_int) (fun _ _ => rfl)) (pa_cons (pe_int) (pa_cons (pe_gc (by rfl) T.g_MOST_VALUE) pa_nil))))))))), rt_ret ?_⟩
      rcases pair_or d with ⟨a, b, rfl⟩ | hn
      · have sa := (smD_tup hs).2 a (by simp)
        have sb := (smD_tup hs).2 b (by simp)
        refine ee_andT (ee_call (ea_cons (ee_var rfl) (ea_cons ee_int (ea_cons ee_int ea_nil))) rfl) ?_
        exact ee_and (ee_call (ea_cons (ee_op (ee_var rfl) ee_int (rd_ix rfl)) ea_nil) (if_pos sa)) fun _ => ee_call (ea_cons (ee_op (ee_var rfl) ee_int (rd_ix rfl)) (ea_cons ee_int (ea_cons ee_int ea_nil))) (if_pos sb)
      · rw [headD_n hn]
        exact ee_andF (ee_call (ea_cons (ee_var rfl) (ea_cons ee_int (ea_cons ee_int ea_nil))) (by show some (PyData.bool _) = _; rw [hn]))
theorem c_is_heads (T : Tx K mg) (F : Dfn K mg "is_heads" s_is_heads ["thing"]) (C_is_tuple : Cal P w K mg base 1 "is_tuple" (spF K mIsTuple) []) (C_is_head : Cal P w K mg base 2 "is_head" (spF K mHead) []) : Cal P w K mg base 3 "is_heads" (spF K mHeads) [] := by
  refine calF mHeads F sc_is_heads (fun ds d h => ?_) fun f cdv A outer s H E hr ds d h => ?_
  · match ds, h with
    | [_], _ => rfl
  · match ds, h with
    | [d], h =>
      obtain ⟨hs, rfl⟩ := if_some (p := smD d = true) h
      refine ⟨_, (pss_one (ps_ret (pe_and (pe_c C_is_tuple hr (by decide) (by rfl) (pa_cons (pv 0) (pa_cons (pe_int) (pa_cons (pe_gc (by rfl) T.g_MOST_HEADS) pa_nil)))) (pe_one (pe_callB (cr_all rfl) (by rfl) T.m_all (by decide +kernel) (pa_cons (pe_lc (own := [("head", 1)]) (g := gName 1) (by rfl) sc_is_heads.nd (pi_tup (pv 0)) (blkOk_by (own := [("head", 1)]) (N := n_is_heads) (sc := defScope s_is_heads) (by decide +kernel)) (fun _ _ _ _ _ => pg_name (i := 1) sc_is_heads.nd rfl (Or.inl rfl)) (fun _ _ _ _ _ => pts_nil) (fun _ _ _ _ _ => pe_c C_is_head hr (by decide) (by rfl) (pa_cons (pv 1) pa_nil))) pa_nil)))))), rt_ret ?_⟩
      cases d with
      | tuple bs => exact ee_and (ee_call (ea_cons (ee_var rfl) (ea_cons ee_int (ea_cons ee_int ea_nil))) rfl) fun _ => ee_allc (g := headD) (en_map _ (ei_tup (ee_var rfl)) (smD_tup hs).1 fun d hd => ee_call (ea_cons (ee_var rfl) ea_nil) (if_pos ((smD_tup hs).2 d hd)))
      | _ => exact ee_andF (ee_call (ea_cons (ee_var rfl) (ea_cons ee_int (ea_cons ee_int ea_nil))) rfl)
theorem c_is_writing (T : Tx K mg) (F : Dfn K mg "is_writing" s_is_writing ["thing"]) (C_is_tuple : Cal P w K mg base 1 "is_tuple" (spF K mIsTuple) []) (C_is_within : Cal P w K mg base 2 "is_within" (spF K mIsWithin) []) : Cal P w K mg base 3 "is_writing" (spF K mWrit) [] := by
  refine calF mWrit F sc_is_writing (fun ds d h => ?_) fun f cdv A outer s H E hr ds d h => ?_
  · match ds, h with
    | [_], _ => rfl
  · match ds, h with
    | [d], h =>
      obtain ⟨hs, rfl⟩ := if_some (p := smD d = true) h
      refine ⟨_, (pss_one (ps_ret (pe_and (pe_c C_is_tuple hr (by decide) (by rfl) (pa_cons (pv 0) (pa_cons (pe_int) (pa_cons (pe_gc (by rfl) T.g_MOST_WRITING) pa_nil)))) (pe_one (pe_callB (cr_all rfl) (by rfl) T.m_all (by decide +kernel) (pa_cons (pe_lc (own := [("sign", 1)]) (g := gName 1) (by rfl) sc_is_writing.nd (pi_tup (pv 0)) (blkOk_by (own := [("sign", 1)]) (N := n_is_writing) (sc := defScope s_is_writing) (by decide +kernel)) (fun _ _ _ _ _ => pg_name (i := 1) sc_is_writing.nd rfl (Or.inl rfl)) (fun _ _ _ _ _ => pts_nil) (fun _ _ _ _ _ => pe_c C_is_within hr (by decide) (by rfl) (pa_cons (pv 1) (pa_cons (pe_int) (pa_cons (pe_gc (by rfl) T.g_MOST_SIGN) pa_nil))))) pa_nil)))))), rt_ret ?_⟩
      cases d with
      | tuple bs => exact ee_and (ee_call (ea_cons (ee_var rfl) (ea_cons ee_int (ea_cons ee_int ea_nil))) rfl) fun _ => ee_allc (g := fun d => isWithinD d 0 65535) (en_map _ (ei_tup (ee_var rfl)) (smD_tup hs).1 fun d hd => ee_call (ea_cons (ee_var rfl) (ea_cons ee_int (ea_cons ee_int ea_nil))) rfl)
      | _ => exact ee_andF (ee_call (ea_cons (ee_var rfl) (ea_cons ee_int (ea_cons ee_int ea_nil))) rfl)
theorem m_len2 {m : Nat} {g : Nat → Dt → Bool} {ds : List Dt} {d : Dt} (h : (match ds with | [x, .int (.ofNat n)] => if okB x = true ∧ n < m then some (PyData.bool (g n x)) else none | _ => none) = some d) : ∃ x n, ds = [x, .int ((n : Nat) : Int)] ∧ okB x = true ∧ n < m ∧ d = .bool (g n x) := by
  split at h
  · rename_i x n
    obtain ⟨⟨a, b⟩, e⟩ := if_some (p := okB x = true ∧ n < m) h
    exact ⟨x, n, rfl, a, b, e.symm⟩
  · cases h
theorem c_is_part {m k : Nat} (hk : 3 ≤ k) (T : Tx K mg) (F : Dfn K mg "is_part" s_is_part ["thing", "deep"]) (C_is_tuple : Cal P w K mg base 1 "is_tuple" (spF K mIsTuple) []) (C_is_heads : Cal P w K mg base 3 "is_heads" (spF K mHeads) []) (C_is_body_within : Cal P w K mg base k "is_body_within" (spF K (mBodyW m)) []) : Cal P w K mg base (k + 1) "is_part" (spF K (mPart m)) [] := by
  refine calF (mPart m) F sc_is_part (fun ds d h => ?_) fun f cdv A outer s H E hr ds d h => ?_
  · obtain ⟨x, n, rfl, _⟩ := m_len2 (g := fun n => partG (bodyD n)) h
    rfl
  · obtain ⟨d, n, rfl, ho, hm, rfl⟩ := m_len2 (g := fun n => partG (bodyD n)) h
    refine ⟨_, (pss_one (ps_ret (pe_and (pe_c C_is_tuple hr (by omega) (by rfl) (pa_cons (pv 0) (pa_cons (pe_int) (pa_cons (pe_int) pa_nil)))) (pe_and (pe_c C_is_heads hr (by omega) (by rfl) (pa_cons (pe_ix ix_seq (pv 0) (pe_int) (fun _ _ => rfl)) pa_nil)) (pe_one (pe_c C_is_body_within hr (by omega) (by rfl) (pa_cons (pe_ix ix_seq (pv 0) (pe_int) (fun _ _ => rfl)) (pa_cons (pv 1) pa_nil)))))))), rt_ret ?_⟩
    rcases pair_or d with ⟨a, b, rfl⟩ | hn
    · have oa := okB_mem ho (d := a) (by simp)
      have ob := okB_mem ho (d := b) (by simp)
      refine ee_andT (ee_call (ea_cons (ee_var rfl) (ea_cons ee_int (ea_cons ee_int ea_nil))) rfl) ?_
      exact ee_and (ee_call (ea_cons (ee_op (ee_var rfl) ee_int (rd_ix rfl)) ea_nil) (if_pos (okB_sm oa))) fun _ => ee_call (ea_cons (ee_op (ee_var rfl) ee_int (rd_ix rfl)) (ea_cons (ee_var rfl) ea_nil)) (if_pos ⟨ob, hm⟩)
    · rw [partG_n hn]
      exact ee_andF (ee_call (ea_cons (ee_var rfl) (ea_cons ee_int (ea_cons ee_int ea_nil))) (by show some (PyData.bool _) = _; rw [hn]))
theorem c_is_parts {m k : Nat} (hk : 1 ≤ k) (T : Tx K mg) (F : Dfn K mg "is_parts" s_is_parts ["thing", "deep"]) (C_is_tuple : Cal P w K mg base 1 "is_tuple" (spF K mIsTuple) []) (C_is_part : Cal P w K mg base k "is_part" (spF K (mPart m)) []) : Cal P w K mg base (k + 1) "is_parts" (spF K (mParts m)) [] := by
  refine calF (mParts m) F sc_is_parts (fun ds d h => ?_) fun f cdv A outer s H E hr ds d h => ?_
  · obtain ⟨x, n, rfl, _⟩ := m_len2 (g := fun n => partsG (bodyD n)) h
    rfl
  · obtain ⟨d, n, rfl, ho, hm, rfl⟩ := m_len2 (g := fun n => partsG (bodyD n)) h
    refine ⟨_, (pss_one (ps_ret (pe_and (pe_c C_is_tuple hr (by omega) (by rfl) (pa_cons (pv 0) (pa_cons (pe_int) (pa_cons (pe_gc (by rfl) T.g_MOST_PARTS) pa_nil)))) (pe_one (pe_callB (cr_all rfl) (by rfl) T.m_all (by decide +kernel) (pa_cons (pe_lc (own := [("part", 2)]) (g := gName 2) (by rfl) sc_is_parts.nd (pi_tup (pv 0)) (blkOk_by (own := [("part", 2)]) (N := n_is_parts) (sc := defScope s_is_parts) (by decide +kernel)) (fun _ _ _ _ _ => pg_name (i := 2) sc_is_parts.nd rfl (Or.inl rfl)) (fun _ _ _ _ _ => pts_nil) (fun _ _ _ _ _ => pe_c C_is_part hr (by omega) (by rfl) (pa_cons (pv 2) (pa_cons (pv 1) pa_nil)))) pa_nil)))))), rt_ret ?_⟩
    cases d with
    | tuple bs => exact ee_and (ee_call (ea_cons (ee_var rfl) (ea_cons ee_int (ea_cons ee_int ea_nil))) rfl) fun _ => ee_allc (g := partG (bodyD n)) (en_map _ (ei_tup (ee_var rfl)) (smD_tup (okB_sm ho)).1 fun d hd => ee_call (ea_cons (ee_var rfl) (ea_cons (ee_var rfl) ea_nil)) (if_pos ⟨okB_mem ho hd, hm⟩))
    | _ => exact ee_andF (ee_call (ea_cons (ee_var rfl) (ea_cons ee_int (ea_cons ee_int ea_nil))) rfl)
theorem eqv_int (i j : Int) : PyData.eqv (.int i) (.int j) = decide (i = j) := rfl
theorem c_body_step {m k : Nat} (hk : 3 ≤ k) (T : Tx K mg) (F : Dfn K mg "is_body_within" s_is_body_within ["thing", "deep"]) (C_is_tuple : Cal P w K mg base 1 "is_tuple" (spF K mIsTuple) []) (C_is_writing : Cal P w K mg base 3 "is_writing" (spF K mWrit) []) (C_is_parts : Cal P w K mg base k "is_parts" (spF K (mParts m)) []) : Cal P w K mg base (k + 1) "is_body_within" (spF K (mBodyW (m + 1))) [] := by
  refine calF (mBodyW (m + 1)) F sc_is_body_within (fun ds d h => ?_) fun f cdv A outer s H E hr ds d h => ?_
  · obtain ⟨x, n, rfl, _⟩ := m_len2 (g := bodyD) h
    rfl
  · obtain ⟨d, n, rfl, ho, hm, rfl⟩ := m_len2 (g := bodyD) h
    refine ⟨_, (pss_cons (ps_if (PW.pt (pw_or (pt_cmpR (op_eqD hr.units) (pv 1) (pe_int) (nomark _)) (pw_or1 (pt_not (pt_val (pe_c C_is_tuple hr (by omega) (by rfl) (pa_cons (pv 0) (pa_cons (pe_int) (pa_cons (pe_int) pa_nil))))))))) (pss_one (ps_ret (pe_bl))) (pss_nil)) (pss_cons (ps_if (pt_cmpR (op_eqD hr.units) (pe_ix ix_seq (pv 0) (pe_int) (fun _ _ => rfl)) (pe_str) (nomark _)) (pss_one (ps_ret (pe_c C_is_writing hr (by omega) (by rfl) (pa_cons (pe_ix ix_seq (pv 0) (pe_int) (fun _ _ => rfl)) pa_nil)))) (pss_nil)) (pss_one (ps_ret (pe_and (pe_cmpR (op_eqD hr.units) (pe_ix ix_seq (pv 0) (pe_int) (fun _ _ => rfl)) (pe_str) (nomark _)) (pe_one (pe_c C_is_parts hr (by omega) (by rfl) (pa_cons (pe_ix ix_seq (pv 0) (pe_int) (fun _ _ => rfl)) (pa_cons (pe_op op_sub (pv 1) (pe_int)) pa_nil))))))))), ?_⟩
    have t2 : ∀ ev : Env0', ev[0]? = some (some d) → EvB K (tNot (tB (tCall (spF K mIsTuple) [] C8.E0 (tCons (tVar 0) (tCons (tC (.int 2)) (tCons (tC (.int 2)) tNil)))))) ev (!isTupD d 2 2) := fun ev h => eb_not (eb_B (ee_call (ea_cons (ee_var h) (ea_cons ee_int (ea_cons ee_int ea_nil))) rfl))
    cases n with
    | zero => exact rt_yes (eb_orT (eb_is (eb_test (ee_op (ee_var rfl) ee_int (rd_eqD rfl rfl))) rfl)) (rt_ret ee_bl)
    | succ n =>
      have hd0 : EvB K (tTest (tOp (rEqD K) (tVar 1) (tC (.int 0)))) [some d, some (.int ((n + 1 : Nat) : Int))] false := eb_is (eb_test (ee_op (ee_var rfl) ee_int (rd_eqD rfl rfl))) (by rw [eqv_int]; exact decide_eq_false (by omega))
      rcases pair_or d with ⟨x, y, rfl⟩ | hn
      · have ox := okB_mem ho (d := x) (by simp)
        have oy := okB_mem ho (d := y) (by simp)
        have q : ∀ z : Str, SeqAt.shaped (.str z) = true → EvE K (tOp (rEqD K) (tOp (rIx K) (tVar 0) (tC (.int 0))) (tC (.str z))) [some (.tuple [x, y]), some (.int ((n + 1 : Nat) : Int))] (.bool (eqS x z)) := fun z hz => ee_op (ee_op (ee_var rfl) ee_int (rd_ix (d := x) rfl)) ee_str (rd_eqD (okB_sh ox) hz)
        refine rt_no (eb_orF hd0 (eb_is (t2 _ rfl) rfl)) ?_
        show RtE K _ _ [] (.bool (body2 (bodyD n) x y))
        unfold body2
        cases h1 : eqS x "words" with
        | true => exact rt_yes (eb_is (eb_test (q _ sh_words)) h1) (rt_ret (ee_call (ea_cons (ee_op (ee_var rfl) ee_int (rd_ix (d := y) rfl)) ea_nil) (if_pos (okB_sm oy))))
        | false => exact rt_no (eb_is (eb_test (q _ sh_words)) h1) (rt_ret (ee_and (q _ sh_parts) fun _ => ee_call (ds := [y, .int ((n : Nat) : Int)]) (ea_cons (ee_op (ee_var rfl) ee_int (rd_ix (d := y) rfl)) (ea_cons (ee_is (ee_op (ee_var rfl) ee_int rd_sub) (by rw [show ((n + 1 : Nat) : Int) - 1 = (n : Int) by omega])) ea_nil)) (if_pos ⟨oy, by omega⟩)))
      · rw [bodyD_n hn]
        exact rt_yes (eb_orF hd0 (eb_is (t2 _ rfl) (by rw [hn]; rfl))) (rt_ret ee_bl)
theorem cal_none {x : Str} {st : Stmt} {ps : List Str} {k : Nat} {sp : Sp} (F : Dfn K mg x st ps) (h : ∀ vs H Q E, ¬ sp vs H Q E) : Cal P w K mg base k x sp [] := by
  obtain ⟨f, fd, F, hm, b⟩ := F.ex
  exact ⟨f, fd, ps, [], ⟨fun vs H Q E z => absurd z (h vs H Q E), fun A outer s H args us vs Q E hr he hb hv hs => absurd hs (h vs H Q E)⟩, hm, F.kp, b, .nil⟩
theorem c_bodies (T : Tx K mg) (F : Dfn K mg "is_body_within" s_is_body_within ["thing", "deep"]) (F1 : Dfn K mg "is_part" s_is_part ["thing", "deep"]) (F2 : Dfn K mg "is_parts" s_is_parts ["thing", "deep"]) (C_is_tuple : Cal P w K mg base 1 "is_tuple" (spF K mIsTuple) []) (C_is_heads : Cal P w K mg base 3 "is_heads" (spF K mHeads) []) (C_is_writing : Cal P w K mg base 3 "is_writing" (spF K mWrit) []) : ∀ m, Cal P w K mg base (3 + 3 * m) "is_body_within" (spF K (mBodyW m)) []
  | 0 => cal_none F fun vs H Q E ⟨G, ds, d, _, _, h, _⟩ => by
    obtain ⟨_, _, _, _, h, _⟩ := m_len2 (g := bodyD) h
    exact Nat.not_lt_zero _ h
  | m + 1 => c_body_step (k := 3 + 3 * m + 2) (by omega) T F C_is_tuple C_is_writing (c_is_parts (k := 3 + 3 * m + 1) (by omega) T F2 C_is_tuple (c_is_part (by omega) T F1 C_is_tuple C_is_heads (c_bodies T F F1 F2 C_is_tuple C_is_heads C_is_writing m)))
theorem c_is_body (T : Tx K mg) (F : Dfn K mg "is_body" s_is_body ["thing"]) (C_is_body_within : Cal P w K mg base 15 "is_body_within" (spF K (mBodyW 4)) []) : Cal P w K mg base 16 "is_body" (spF K mBody) [] := by
  refine calF mBody F sc_is_body (fun ds d h => ?_) fun f cdv A outer s H E hr ds d h => ?_
  · match ds, h with
    | [_], _ => rfl
  · match ds, h with
    | [d], h =>
      obtain ⟨ho, rfl⟩ := if_some (p := okB d = true) h
      refine ⟨_, (pss_one (ps_ret (pe_c C_is_body_within hr (by decide) (by rfl) (pa_cons (pv 0) (pa_cons (pe_gc (by rfl) T.g_MOST_DEEP) pa_nil))))), rt_ret ?_⟩
      exact ee_call (ds := [d, .int ((3 : Nat) : Int)]) (ea_cons (ee_var rfl) (ea_cons ee_int ea_nil)) (if_pos ⟨ho, by decide⟩)
theorem c_is_letter (T : Tx K mg) (F : Dfn K mg "is_letter" s_is_letter ["thing"]) (C_is_part : Cal P w K mg base 16 "is_part" (spF K (mPart 4)) []) : Cal P w K mg base 17 "is_letter" (spF K mLetter) [] := by
  refine calF mLetter F sc_is_letter (fun ds d h => ?_) fun f cdv A outer s H E hr ds d h => ?_
  · match ds, h with
    | [_], _ => rfl
  · match ds, h with
    | [d], h =>
      obtain ⟨ho, rfl⟩ := if_some (p := okB d = true) h
      refine ⟨_, (pss_one (ps_ret (pe_c C_is_part hr (by decide) (by rfl) (pa_cons (pv 0) (pa_cons (pe_gc (by rfl) T.g_MOST_DEEP) pa_nil))))), rt_ret ?_⟩
      exact ee_call (ds := [d, .int ((3 : Nat) : Int)]) (ea_cons (ee_var rfl) (ea_cons ee_int ea_nil)) (if_pos ⟨ho, by decide⟩)
end
end K04

namespace LH
open PySem PySem.Spec L2 PyProof.Rows
/-! ### truths reckoned with -/
def b2n (b : Bool) : Int := if b = true then 1 else 0
def rNB (g : Int → Int → Int) : R2 := fun x y H Q => (∃ i j, x = .int i ∧ y = .int j ∧ Q (.int (g i j)) H) ∨ (∃ b j, x = .bl b ∧ y = .int j ∧ Q (.int (g (b2n b) j)) H) ∨ (∃ i b, x = .int i ∧ y = .bl b ∧ Q (.int (g i (b2n b))) H)
section
variable {X : Cx}
theorem op_addNB : OpR X (binaryOp .Add) (rNB fun i j => i + j) := by
  (intro pins s σ H x y v u Q I rx ry h)
  rcases h with ⟨i, j, rfl, rfl, q⟩ | ⟨b, j, rfl, rfl, q⟩ | ⟨i, b, rfl, rfl, q⟩
  · exact op_add pins s σ H _ _ v u Q I rx ry ⟨i, j, rfl, rfl, q⟩
  · cases rx
    obtain ⟨t, rfl⟩ := ry
    exact PySem.IntBool.add_bool_int ⟨.int _, H, I.tok _, ⟨_, rfl⟩, q⟩
  · cases ry
    obtain ⟨t, rfl⟩ := rx
    exact add_int_bool ⟨.int _, H, I.tok _, ⟨_, rfl⟩, q⟩
theorem op_subNB : OpR X (binaryOp .Sub) (rNB fun i j => i - j) := by
  (intro pins s σ H x y v u Q I rx ry h)
  rcases h with ⟨i, j, rfl, rfl, q⟩ | ⟨b, j, rfl, rfl, q⟩ | ⟨i, b, rfl, rfl, q⟩
  · exact op_sub pins s σ H _ _ v u Q I rx ry ⟨i, j, rfl, rfl, q⟩
  · cases rx
    obtain ⟨t, rfl⟩ := ry
    exact PySem.IntBool.sub_bool_int ⟨.int _, H, I.tok _, ⟨_, rfl⟩, q⟩
  · cases ry
    obtain ⟨t, rfl⟩ := rx
    exact PySem.IntBool.sub_int_bool ⟨.int _, H, I.tok _, ⟨_, rfl⟩, q⟩
def rStrN : List V → Hp → VK → Prop := fun xs H Q => (∃ i : Int, xs = [.int i] ∧ i.natAbs.log2 < 1920 ∧ Q (.str (toString i)) H) ∨ ∃ b : Bool, xs = [.bl b] ∧ Q (.str (if b then "True" else "False")) H
theorem call_strN : CallR X (.type "str") rStrN := by
  (intro pins s σ H xs us Q I r h)
  rcases h with ⟨i, rfl, hz, q⟩ | ⟨b, rfl, q⟩
  · exact call_str_int pins s σ H _ us Q I r ⟨i, rfl, hz, q⟩
  · obtain ⟨u, rfl, e⟩ := vals1 r
    cases e
    exact PySem.P.str_of_bool ⟨.str _, H, I.tok _, ⟨_, rfl⟩, q⟩
/-! ### a list so many times, whatever it is -/
theorem list_mul_any (l : Addr) (items : Array Value) (n : Nat) (sl : Array (Option Value)) (x : Int) (u : Tok) (hc0 : ¬(!Builtin.List.listFitsIndex x) = true) (hc1 : ¬items.size * x.toNat > (2 ^ 63 - 1) / 8) (hc2 : ¬Builtin.List.listTooLong (items.size * x.toNat) = true) :
    Meets (Builtin.«list.__mul__» ⟨[.ref l, .int x u], []⟩) (fun _ R s => s.heap.get? l = some { cls := .type "list", dict := none, data := .seq items n, slots := sl } ∧ R (.ok (.ret (Value.ref s.heap.objs.size))) { s with heap := s.heap.push { cls := Value.type "list", data := Data.seq (List.foldl (fun x1 x2 => x1 ++ x2) #[] (List.replicate (if items.isEmpty = true then 0 else x.toNat) items)) }, toks := s.toks }) :=
  .of_wp fun P w A R st won => by
    obtain ⟨hp, g, d, tk, os⟩ := st
    obtain ⟨hl, h⟩ := won
    have hsz := PySem.AutoListH.joined_fits hc2
    wp_walk
    refine wpAny_ite_false (decide_eq_false (Nat.not_lt.mpr hsz)) ?_
    wp_walk
    exact ⟨_, rfl, h⟩
theorem rmul_any (a : Int) (t : Tok) (l : Addr) (items : Array Value) (n : Nat) (sl : Array (Option Value)) :
    Meets (Builtin.«int.__rmul__» ⟨[.int a t, .ref l], []⟩) (fun _ R s => s.heap.get? l = some { cls := .type "list", dict := none, data := .seq items n, slots := sl } ∧ R (.ok (.ret Value.notImplemented)) s) :=
  .of_wp fun P w A R st won => by
    obtain ⟨hp, g, d, tk, os⟩ := st
    obtain ⟨hl, h⟩ := won
    wp_walk
    exact ⟨_, rfl, h⟩
def rRepL (K : PySem.W.Frag) : R2 := fun x y H Q => ∃ l k xs, x = .ref l ∧ y = .int k ∧ SqL K H l xs ∧ 0 ≤ k ∧ k ≤ 1000 ∧ xs.length ≤ 1000 ∧ ∀ p, H p = none → Q (.ref p) (upd H p (.lst (List.replicate k.toNat xs).flatten))
theorem rep_fold (its : List Value) (m : Nat) : List.foldl (fun x1 x2 => x1 ++ x2) #[] (List.replicate (if its.toArray.isEmpty = true then 0 else m) its.toArray) = (List.replicate m its).flatten.toArray := by
  have each : ∀ c : Nat, List.foldl (fun u v => u ++ v) #[] (List.replicate c its.toArray) = (List.replicate c its).flatten.toArray := fun c => by
    have z := foldl_rep its c []
    rwa [List.nil_append] at z
  rw [each]
  cases its with
  | nil => simp
  | cons a r => rw [if_neg (by simp)]
theorem op_repL : OpR X (binaryOp .Mult) (rRepL X.K) := by
  (intro pins s σ H x y v u Q I rx ry h)
  obtain ⟨l, k, xs, rfl, rfl, hl, h1, h2, hz, q⟩ := h
  cases rx
  obtain ⟨t, rfl⟩ := ry
  obtain ⟨its, r1, p1, z1⟩ := I.list hl
  have k1 := r1.length
  obtain ⟨⟨c1, d1, a1, l1⟩, n1, o1, e1, e2, e3⟩ := p1
  simp only at e1 e2 e3
  subst e1 e2 e3
  have hlen : its.length * k.toNat ≤ 1000000 := by
    rw [← k1]
    exact Nat.le_trans (Nat.mul_le_mul hz (show k.toNat ≤ 1000 by omega)) (by decide)
  have sz : its.toArray.size = its.length := List.size_toArray
  have fits : ¬ (!Builtin.List.listFitsIndex k) = true := by
    rw [fitsIndex_both (by omega) (by omega)]
    exact Bool.false_ne_true
  have short : ¬ Builtin.List.listTooLong (its.toArray.size * k.toNat) = true := by
    rw [notLongL (by rw [sz]; exact Nat.le_trans hlen (by decide))]
    exact Bool.false_ne_true
  have room : ¬ its.toArray.size * k.toNat > (2 ^ 63 - 1) / 8 := by
    rw [sz]
    have : (1000000 : Nat) ≤ (2 ^ 63 - 1) / 8 := by decide
    omega
  refine wpAny_binaryOp_repeat_ref (T := "list") (U := "int") (by decide) ⟨_, o1, rfl⟩ (fun s' => typeIs_int s' k t) noFill_list_mul PySem.F.fills_int_mul PySem.F.slot_int_rmul repeat_list PySem.F.slot_int_index.lookup
    (call_meets PySem.F.slot_int_rmul (typeIs_int s k t) PySem.F.entry_int_rmul (PySem.F.args_int_rmul_2 _ _) (rmul_any k t l its.toArray n1 l1)
      ⟨o1, rfl, ⟨_, o1, rfl⟩, call_meets PySem.F.slot_list_mul ⟨_, o1, rfl⟩ PySem.F.entry_list_mul (PySem.F.args_list_mul_2 _ _) (list_mul_any l its.toArray n1 l1 k t fits room short) ⟨o1, ?_⟩⟩)
  rw [rep_fold]
  exact ⟨.ref _, _, I.lnew (t' := s.toks) (r1.rep k.toNat) (by rw [PyProof.Rows.lm_len_rep_flat, Nat.mul_comm, k1]; exact Nat.le_trans hlen (by decide)), rfl, q _ I.fresh⟩
end
section
variable {K : PySem.W.Frag} {env : Env0'} {ta : TE}
def numD : Dt → Option Int
  | .int i => some i
  | .bool b => some (b2n b)
  | _ => none
theorem rd_NB1 {g : Int → Int → Int} {x : Dt} {i j : Int} (h : numD x = some i) : RD K (rNB g) x (.int j) (.int (g i j)) := fun a b G H gh da db Q q => by
  cases db
  cases da with
  | int i' =>
    cases h
    exact .inl ⟨_, _, rfl, rfl, q _ G H (Gw.refl gh) (.int _)⟩
  | bl b =>
    cases h
    exact .inr (.inl ⟨_, _, rfl, rfl, q _ G H (Gw.refl gh) (.int _)⟩)
  | _ => cases h
theorem rd_NB2 {g : Int → Int → Int} {x : Dt} {i j : Int} (h : numD x = some j) : RD K (rNB g) (.int i) x (.int (g i j)) := fun a b G H gh da db Q q => by
  cases da
  cases db with
  | int i' =>
    cases h
    exact .inl ⟨_, _, rfl, rfl, q _ G H (Gw.refl gh) (.int _)⟩
  | bl b =>
    cases h
    exact .inr (.inr ⟨_, _, rfl, rfl, q _ G H (Gw.refl gh) (.int _)⟩)
  | _ => cases h
def strD : Dt → Str
  | .int i => toString i
  | .bool true => "True"
  | .bool false => "False"
  | _ => ""
theorem ee_strN {d : Dt} {i : Int} (h : EvE K ta env d) (hn : numD d = some i) (hz : i.natAbs.log2 < 1920) : EvE K (tCB rStrN (tCons ta tNil)) env (.str (strD d)) := fun σ G H gh s Q q => h σ G H gh s _ fun v G2 H2 e dv => by
  cases dv with
  | int i' =>
    cases hn
    exact .inl ⟨_, rfl, hz, q _ G2 H2 e (.str _)⟩
  | bl b =>
    refine .inr ⟨b, rfl, ?_⟩
    cases b <;> exact q _ G2 H2 e (.str _)
  | _ => cases hn
theorem en_repL {ds : List Dt} {k : Nat} (h : EvE K ta env (.list ds)) (hk : k ≤ 1000) (hl : ds.length ≤ 1000) : EvN K (tOp (rRepL K) ta (tC (.int (k : Int)))) env (List.replicate k ds).flatten := fun σ G H gh s Q q => h σ G H gh s _ fun v G' H' w dv => by
  cases dv with
  | @lst p xs _ hs hd =>
    refine ⟨p, (k : Int), xs, rfl, rfl, w.gh.seq hs, by omega, by omega, by rw [dpsLen hd]; exact hl, fun l nl => ?_⟩
    rw [Int.toNat_natCast]
    exact q l _ G' _ (w.trans (Gw.out w.gh nl)) (w.hh.free nl) (w.gh.free nl) upd_same (dpsRep hd k)
theorem ee_neg {i : Int} (h : EvE K ta env (.int i)) : EvE K (tUn (rU fun i => .int (-i)) ta) env (.int (-i)) := fun σ G H gh s Q q => h σ G H gh s _ fun v G' H' w dv => by
  cases dv
  exact ⟨i, rfl, q _ G' H' w (.int _)⟩
/-- isinstance(x, (tuple, list)) -/
def isSeqD : Dt → Bool
  | .tuple _ => true
  | .list _ => true
  | _ => false
theorem ee_isTL {d : Dt} (h : EvE K ta env d) : EvE K (tCB (rIsiT K) (tCons ta (tCons (tTup (tCons (tC (.ty "tuple")) (tCons (tC (.ty "list")) tNil))) tNil))) env (.bool (isSeqD d)) := fun σ G H gh s Q q => h σ G H gh s _ fun v G2 H2 e dv => by
  refine ⟨(by show 2 ≤ sizeLine; decide), fun p np => ?_⟩
  have w3 := Gw.out (o := HO.tup [V.ty "tuple", V.ty "list"]) e.gh np
  refine ⟨v, p, [V.ty "tuple", V.ty "list"], .type (tyN d), [.type "tuple", .type "list"], isSeqD d, rfl, upd_same, .cons (.ty "tuple") (.cons (.ty "list") .nil), tyX (dpM (e.gh.trans w3.hh) dv), ?_, q _ G2 _ (e.trans w3) (.bl _)⟩
  have k1 : kitB (tyN d) "tuple" = some (isTupleD d) := match d with
    | .none => (by decide +kernel : kitB "NoneType" "tuple" = some false)
    | .bool _ => (by decide +kernel : kitB "bool" "tuple" = some false)
    | .int _ => (by decide +kernel : kitB "int" "tuple" = some false)
    | .str _ => (by decide +kernel : kitB "str" "tuple" = some false)
    | .list _ => (by decide +kernel : kitB "list" "tuple" = some false)
    | .tuple _ => (by decide +kernel : kitB "tuple" "tuple" = some true)
    | .dict _ => (by decide +kernel : kitB "dict" "tuple" = some false)
  have k2 : kitB (tyN d) "list" = some (isListD d) := match d with
    | .none => (by decide +kernel : kitB "NoneType" "list" = some false)
    | .bool _ => (by decide +kernel : kitB "bool" "list" = some false)
    | .int _ => (by decide +kernel : kitB "int" "list" = some false)
    | .str _ => (by decide +kernel : kitB "str" "list" = some false)
    | .list _ => (by decide +kernel : kitB "list" "list" = some true)
    | .tuple _ => (by decide +kernel : kitB "tuple" "list" = some false)
    | .dict _ => (by decide +kernel : kitB "dict" "list" = some false)
  have k3 : PySem.W.kitAny K (.type (tyN d)) [.type "list"] = some (isListD d) := kitAny_cons (kit_ty k2) (fun z => by rw [z]; exact kitAny_nil) (fun z => z)
  refine kitAny_cons (kit_ty k1) (fun z => ?_) (fun z => ?_)
  · rw [k3]
    cases d <;> first | rfl | exact absurd z.symm Bool.false_ne_true
  · cases d <;> first | rfl | exact absurd z Bool.false_ne_true
end
end LH

namespace LH
open PySem PySem.Spec L2 PyProof.Rows
theorem sd_weak {K : PySem.W.Frag} {G : Hp} {σ : L2.St} {env env1 : Env0'} (h : Sd K G σ env) (hl : env1.length = env.length) (hk : ∀ (k : Nat) (e : Dt), env1[k]? = some (some e) → env[k]? = some (some e)) : Sd K G σ env1 := ⟨h.len.trans hl.symm, fun k e z => h.at' k e (hk k e z)⟩
structure Ow (K : PySem.W.Frag) (sd ca : Addr) (G0 H0 : Hp) (p : Addr) (l T : Nat) (env : Env0') (ds : List Dt) (σ : L2.St) (G H : Hp) : Prop where
  gs : Gs sd ca G0 H0 G H
  sv : Sv sd ca T G H
  se : Sd K G σ env
  h0 : σ[0]? = some (some (.ref sd))
  own : σ[l]? = some (some (.ref p))
  ng : G p = none
  ex : ∃ vs, H p = some (.lst vs) ∧ DqAll K G vs ds
section
variable {K : PySem.W.Frag} {sd ca p : Addr} {G0 H0 G H G' H' : Hp} {l T T' : Nat} {env : Env0'} {ds : List Dt} {σ : L2.St}
theorem Ow.step (o : Ow K sd ca G0 H0 p l T env ds σ G H) (p1 : p ≠ sd) (p2 : p ≠ ca) (g : Gs sd ca G H G' H') (s : Sv sd ca T' G' H') : Ow K sd ca G0 H0 p l T' env ds σ G' H' := by
  obtain ⟨vs, hp, dv⟩ := o.ex
  exact ⟨o.gs.trans g, s, o.se.mono g.gg, o.h0, o.own, g.keeps hp o.ng, vs, g.hh _ _ hp p1 p2, dpsM g.gg dv⟩
theorem Ow.gw (o : Ow K sd ca G0 H0 p l T env ds σ G H) (p1 : p ≠ sd) (p2 : p ≠ ca) (w : Gw G H G' H') : Ow K sd ca G0 H0 p l T env ds σ G' H' := o.step p1 p2 w.gs (o.sv.gw w)
theorem Ow.le (o : Ow K sd ca G0 H0 p l T env ds σ G H) (h : T ≤ T') : Ow K sd ca G0 H0 p l T' env ds σ G H := ⟨o.gs, o.sv.le h, o.se, o.h0, o.own, o.ng, o.ex⟩
theorem Ow.set {i : Nat} {v : V} {d : Dt} (o : Ow K sd ca G0 H0 p l T env ds σ G H) (h1 : 0 ≠ i) (h2 : l ≠ i) (hv : Dq K G v d) : Ow K sd ca G0 H0 p l T (env.set i (some d)) ds (σ.set i (some v)) G H :=
  ⟨o.gs, o.sv, o.se.set i hv, by rw [List.getElem?_set_ne (fun z => h1 z.symm)]; exact o.h0, by rw [List.getElem?_set_ne (fun z => h2 z.symm)]; exact o.own, o.ng, o.ex⟩
theorem Ow.forget {i : Nat} {v : Option V} (o : Ow K sd ca G0 H0 p l T env ds σ G H) (h1 : 0 ≠ i) (h2 : l ≠ i) : Ow K sd ca G0 H0 p l T (env.set i none) ds (σ.set i v) G H :=
  ⟨o.gs, o.sv, o.se.forget, by rw [List.getElem?_set_ne (fun z => h1 z.symm)]; exact o.h0, by rw [List.getElem?_set_ne (fun z => h2 z.symm)]; exact o.own, o.ng, o.ex⟩
theorem Ow.weak {env1 : Env0'} (o : Ow K sd ca G0 H0 p l T env ds σ G H) (hl : env1.length = env.length) (hk : ∀ (k : Nat) (e : Dt), env1[k]? = some (some e) → env[k]? = some (some e)) : Ow K sd ca G0 H0 p l T env1 ds σ G H := ⟨o.gs, o.sv, sd_weak o.se hl hk, o.h0, o.own, o.ng, o.ex⟩
/-- x.append(..), by draws -/
theorem Ow.app {te : TE} {n : Nat} {R : Dt → Prop} {D : Ends} (o : Ow K sd ca G0 H0 p l T env ds σ G H) (np : H0 p = none) (p1 : p ≠ sd) (p2 : p ≠ ca) (hT : T + n ≤ 100000) (hl : ds.length < 1000) (h : EvS K te env 0 n R) (q : ∀ (d : Dt) (G' H' : Hp), Same G G' → R d → Ow K sd ca G0 H0 p l (T + n) env (ds ++ [d]) σ G' H' → D.nx σ H') :
    tDrop (tBM K "list" rAppend (tVar l) (tCons te tNil)) D σ H := by
  obtain ⟨vs, hp, dv⟩ := o.ex
  refine ⟨.ref p, o.own, .inl ⟨rfl, vs, .inl (.inl hp)⟩, ?_⟩
  refine h sd ca T σ G H hT o.sv o.se o.h0 _ fun v d G1 H1 w1 s1 dd rd => ?_
  have ng1 := w1.keeps hp o.ng
  have hp1 := w1.hh _ _ hp p1 p2
  refine ⟨p, vs, v, rfl, rfl, hp1, by rw [dpsLen dv]; exact Nat.lt_of_lt_of_le hl (by decide), ?_⟩
  have g := o.gs.trans w1
  refine q d G1 _ w1.gg rd ⟨⟨g.gg, fun c x z a b => by rw [upd_ne (ne_of_none z np)]; exact g.hh c x z a b, g.nw, fun c z => ?_⟩, s1.mut ng1 p1 p2, o.se.mono w1.gg, o.h0, o.own, ng1, _, upd_same, dpsApp (dpsM w1.gg dv) (.cons dd .nil)⟩
  by_cases hc : c = p
  · rw [hc, upd_same]; exact fun z => nomatch z
  · rw [upd_ne hc]; exact g.nn c z
/-- the list becomes a datum -/
theorem Ow.put (o : Ow K sd ca G0 H0 p l T env ds σ G H) (np : H0 p = none) (p1 : p ≠ sd) (p2 : p ≠ ca) : ∃ G', Gs sd ca G0 H0 G' H ∧ Sv sd ca T G' H ∧ Sd K G' σ (env.set l (some (.list ds))) ∧ σ[0]? = some (some (.ref sd)) := by
  obtain ⟨vs, hp, dv⟩ := o.ex
  have gp : Same G (upd G p (.lst vs)) := sameU o.ng
  refine ⟨upd G p (.lst vs), ⟨o.gs.gg.trans gp, o.gs.hh, fun c h1 h2 => ?_, o.gs.nn⟩, o.sv.put hp o.ng p1 p2, ?_, o.h0⟩
  · rw [upd_ne (fun z => h1 (by rw [z]; exact np))]
    exact o.gs.nw c h1 h2
  · have s := (o.se.mono gp).set (v := .ref p) (d := .list ds) l (.lst (.inl (.inl upd_same)) (dpsM gp dv))
    have e2 : σ.set l (some (V.ref p)) = σ := by
      apply List.ext_getElem?
      intro k
      rw [List.getElem?_set]
      by_cases hk : l = k
      · rw [if_pos hk, ← hk, o.own, if_pos (List.getElem?_eq_some_iff.mp o.own).1]
      · rw [if_neg hk]
    rw [e2] at s
    exact s
/-- tuple(a list), by draws -/
theorem es_tupleL {ta : TE} {j n : Nat} {R : Dt → Prop} (h : EvS K ta env j n R) (hr : ∀ d, R d → ∃ es, d = .list es) : EvS K (tThen ta (kTup K)) env j n (fun d => ∃ es, d = .tuple es ∧ R (.list es)) := fun sd ca T σ G H l s e x Q q => h sd ca T σ G H l s e x _ fun v d G2 H2 w2 s2 dv rd => by
  obtain ⟨es, rfl⟩ := hr d rd
  cases dv with
  | @lst p xs _ hs hd =>
    refine .inl ⟨p, xs, rfl, s2.gh.seq hs, fun l nl => ?_⟩
    have w3 := Gw.new (o := HO.tup xs) s2.gh nl
    exact q _ _ _ _ (w2.trans w3.gs) (s2.gw w3) (.tup (.inl (.inl upd_same)) (dpsM w3.gg hd)) ⟨es, rfl, rd⟩
theorem cut_from {xs : List Dt} (n : Nat) : LH.cutD xs (some (n : Int)) none = xs.drop n := by
  have e : HT.sIx xs.length 0 (some (n : Int)) = min n xs.length := by
    show (if (n : Int) < 0 then ((n : Int) + xs.length).toNat else min (n : Int).toNat xs.length) = _
    (rw [if_neg (by omega), Int.toNat_natCast])
  unfold LH.cutD
  rw [e]
  show (xs.drop (min n xs.length)).take (xs.length - min n xs.length) = _
  rw [List.take_of_length_le (by rw [List.length_drop]; omega)]
  by_cases h : n ≤ xs.length
  · rw [Nat.min_eq_left h]
  · rw [Nat.min_eq_right (by omega), List.drop_eq_nil_of_le (Nat.le_refl _), List.drop_eq_nil_of_le (by omega)]
end
theorem seq_asgG {te : TE} {b : TS} {D : Ends} {σ : L2.St} {H : Hp} {g : TG} (h : te σ H fun x H1 => g x σ H1 (fun σ' H' => b D σ' H')) : tSeq (tAsg te g) b D σ H := h
theorem cut_to {xs : List Dt} (n : Nat) : LH.cutD xs none (some (n : Int)) = xs.take n := by
  unfold LH.cutD
  rw [HT.sIx_nat, HT.sIx_none, List.drop_zero, Nat.sub_zero]
  by_cases h : n ≤ xs.length
  · rw [Nat.min_eq_left h]
  · (rw [Nat.min_eq_right (by omega), List.take_of_length_le (Nat.le_refl _), List.take_of_length_le (by omega)])
section
variable {K : PySem.W.Frag} {sd ca p : Addr} {G0 H0 G H : Hp} {l T n i j : Nat} {env : Env0'} {ds : List Dt} {σ : L2.St} {D : Ends} {b : TS} {te : TE} {R : Dt → Prop}
theorem Ow.asgT (o : Ow K sd ca G0 H0 p l T env ds σ G H) (p1 : p ≠ sd) (p2 : p ≠ ca) (hT : T + n ≤ 100000) (h1 : 0 ≠ i) (h2 : l ≠ i) (h3 : 0 ≠ j) (h4 : l ≠ j) (h : EvS K te env 0 n R) (hR : ∀ d, R d → ∃ x y, d = .tuple [x, y])
    (q : ∀ (x y : Dt) (v u : V) (G' H' : Hp), Same G G' → R (.tuple [x, y]) → Ow K sd ca G0 H0 p l (T + n) ((env.set i (some x)).set j (some y)) ds ((σ.set i (some v)).set j (some u)) G' H' → b D ((σ.set i (some v)).set j (some u)) H') :
    tSeq (tAsg te (gTup K 2 (gCons (gName i) (gCons (gName j) gNil)))) b D σ H := seq_asgG (h sd ca T σ G H hT o.sv o.se o.h0 _ fun v d G' H' w s dv rd => by
  obtain ⟨x, y, rfl⟩ := hR d rd
  cases dv with
  | @tup a xs _ hs hd =>
    cases hd with
    | cons d1 r =>
      cases r with
      | cons d2 r =>
        cases r
        exact ⟨a, _, rfl, sameT s.gh hs, rfl, _, _, rfl, _, _, rfl, rfl, q x y _ _ G' H' w.gg rd (((o.step p1 p2 w s).set h1 h2 d1).set h3 h4 d2)⟩)
end
section
variable {P : Program} {w : World} {K : PySem.W.Frag} {mg : Str → Option Value} {base : Heap} {env : Env0'}
theorem rd_catL {as bs : List Dt} (hl : as.length + bs.length ≤ 100000) : RD K (rCatL K) (.list as) (.list bs) (.list (as ++ bs)) := fun a b G H gh da db Q q => by
  cases da with
  | @lst p xs _ hs hd =>
    cases db with
    | @lst p' ys _ hs' hd' =>
      refine ⟨p, p', xs, ys, rfl, rfl, gh.seq hs, gh.seq hs', by rw [dpsLen hd, dpsLen hd']; exact Nat.le_trans hl (by decide), fun l nl => ?_⟩
      exact q _ _ _ (Gw.new gh nl) (.lst (.inl (.inl upd_same)) (dpsM (sameU (gh.free nl)) (dpsApp hd hd')))
theorem dpsRev {H : Hp} : ∀ {vs : List V} {ds : List Dt}, DqAll K H vs ds → DqAll K H vs.reverse ds.reverse
  | _, _, .nil => .nil
  | _, _, .cons a b => by
    (rw [List.reverse_cons, List.reverse_cons])
    exact dpsApp (dpsRev b) (.cons a .nil)
theorem ee_revL {env : Env0'} {te : TE} {ds : List Dt} (h : EvE K te env (.list ds)) : EvE K (tRevL K te) env (.list ds.reverse) := fun σ G H gh s Q q => h σ G H gh s _ fun v G2 H2 e dv => by
  cases dv with
  | @lst p xs _ hs hd =>
    refine ⟨p, xs, rfl, e.gh.seq hs, fun l nl => q _ _ _ (e.trans (Gw.new e.gh nl)) (.lst (.inl (.inl upd_same)) (dpsM (sameU (e.gh.free nl)) (dpsRev hd)))⟩
theorem seq_par2 {ta tb : TE} {b : TS} {D : Ends} {σ : L2.St} {H : Hp} {i j : Nat} (h : ta σ H fun x H1 => tb σ H1 fun y H2 => ∃ v w, [x, y] = [v, w] ∧ b D ((σ.set i (some v)).set j (some w)) H2) : tSeq (tPar i j (tCons ta (tCons tb tNil))) b D σ H := h
theorem if_no {t : TT} {a u : TS} {D : Ends} {σ : L2.St} {G H : Hp} {env : Env0'} (e : EvB K t env false) (gh : Same G H) (sd : Sd K G σ env) (h : ∀ G2 H2, Gw G H G2 H2 → u D σ H2) : tSeq (tIfS t a tNext) u D σ H := e σ G H gh sd _ fun G2 H2 w => h G2 H2 w
theorem if_else {t : TT} {a b u : TS} {D : Ends} {σ : L2.St} {G H : Hp} {env : Env0'} (e : EvB K t env false) (gh : Same G H) (sd : Sd K G σ env) (h : ∀ G2 H2, Gw G H G2 H2 → tSeq b u D σ H2) : tSeq (tIfS t a b) u D σ H := e σ G H gh sd _ fun G2 H2 w => h G2 H2 w
theorem dpsSet {H : Hp} : ∀ {vs : List V} {ds : List Dt} {a : Nat} {v : V} {d : Dt}, DqAll K H vs ds → Dq K H v d → DqAll K H (vs.set a v) (ds.set a d)
  | _, _, _, _, _, .nil, _ => .nil
  | _, _, 0, _, _, .cons _ t, h => .cons h t
  | _, _, a + 1, _, _, .cons x t, h => .cons x (dpsSet (a := a) t h)
theorem seq_or (d : Dt) : (∃ ds, d = .list ds ∨ d = .tuple ds) ∨ isSeqD d = false := by
  cases d with
  | list ds => exact .inl ⟨ds, .inl rfl⟩
  | tuple ds => exact .inl ⟨ds, .inr rfl⟩
  | _ => exact .inr rfl
theorem rs_ppar {ta : TA} {env : Env0'} {x y : Dt} {b : TS} {i l j m : Nat} {R : Dt → Prop} (h : EvAs K ta env [x, y]) (hij : j ≠ i) (hlj : j ≠ l) (hb : RtS K b ((env.set i (some x)).set l (some y)) j m R) : RtS K (tSeq (tPar i l ta) b) env j m R :=
  rs_is (rs_par (esa_pure h) (fun ds hd => ⟨x, y, hd⟩) hij hlj fun x' y' e => by
    cases e
    exact hb) (by omega) fun _ r => r
theorem rs_unpk {te : TE} {b : TS} {j n m : Nat} {R R1 : Dt → Prop} {is : List Nat} (h : EvS K te env j n R1) (hr : ∀ d, R1 d → ∃ ds, d = .tuple ds ∧ is.length = ds.length) (hj : j ∉ is) (hb : ∀ ds, R1 (.tuple ds) → RtS K b (setsD env is ds) j m R) : RtS K (tSeq (tAsg te (gTup K is.length (gNames is))) b) env j (n + m) R := fun sd ca T σ G H D l s e x q => h sd ca T σ G H (by omega) s e x _ fun v d G1 H1 w1 s1 dv rd => by
  obtain ⟨ds, rfl, hl⟩ := hr d rd
  cases dv with
  | @tup p xs _ hs hd =>
    refine ⟨p, xs, rfl, sameT s1.gh hs, by rw [dpsLen hd, hl], ?_⟩
    exact gs_names hl hd (e.mono w1.gg) fun σ' se k => hb ds rd sd ca (T + n) σ' G1 H1 D (by omega) s1 se (by rw [k j hj]; exact x) fun v d G' H' w s' dv rd => q v d G' H' (w1.trans w) (by rw [← Nat.add_assoc]; exact s') dv rd
theorem ee_split {to te : TE} {a b : Str} {ys : List Str} (h : EvE K to env (.str a)) (h2 : EvE K te env (.str b)) (hb : (b.length == 0) = false) (ha : a.length ≤ 1000) (hy : Txt.split a b = ys) : EvE K (tM1 (fun x xs H Q => ∃ a b, x = .str a ∧ xs = [.str b] ∧ (b.length == 0) = false ∧ a.length + 2 ≤ sizeLine ∧ rNewStrs (Txt.split a b) H Q) to te) env (.list (ys.map PyData.str)) := fun σ G H gh s Q q => h σ G H gh s _ fun v G2 H2 e dv => by
  cases dv
  refine ⟨⟨a, rfl⟩, h2 σ G2 H2 e.gh (s.mono e.gg) _ fun u G3 H3 e3 du => ?_⟩
  cases du
  refine ⟨a, b, rfl, rfl, hb, Nat.le_trans (show a.length + 2 ≤ 1002 by omega) (by decide), fun p np => ?_⟩
  rw [hy]
  exact q _ _ _ ((e.trans e3).trans (Gw.new e3.gh np)) (.lst (.inl (.inl upd_same)) (dpsOfStrs ys))
end
theorem set4 {α : Type} (σ : List α) {i j : Nat} (hij : i ≠ j) (a b c d : α) : (((σ.set i a).set j b).set i c).set j d = (σ.set i c).set j d := by
  have e1 : (σ.set i a).set j b = (σ.set j b).set i a := List.set_comm _ _ hij
  have e2 : (σ.set j b).set i c = (σ.set i c).set j b := List.set_comm _ _ hij.symm
  rw [e1, List.set_set, e2, List.set_set]
theorem wipe2 (σ : L2.St) {i j : Nat} (hij : i ≠ j) : wipe σ [i, j] = (σ.set i none).set j none := by
  first | rfl | exact List.set_comm _ _ hij.symm
section
variable {K : PySem.W.Frag} {env : Env0'}
theorem en_zip {ta : TA} {te : TE} {ds es : List Dt} {i j : Nat} (g : Dt → Dt → Dt) (h : EvAs K ta env [.list ds, .list es]) (hl : ds.length ≤ 1000) (hij : i ≠ j) (he : ∀ x y : Dt, x ∈ ds → y ∈ es → EvE K te ((env.set i (some x)).set j (some y)) (g x y)) : EvN K (tLc (iZip K ta) (gTup K 2 (gCons (gName i) (gCons (gName j) gNil))) tYes te [i, j]) env (List.zipWith g ds es) := fun σ G H gh s Q q => h σ G H gh s _ fun vs G0 H0 e0 dvs => by
  cases dvs with
  | cons d1 r =>
    cases r with
    | cons d2 r =>
      cases r
      cases d1 with
      | @lst a xs _ hs hd =>
        cases d2 with
        | @lst b ys _ hs2 hd2 =>
          refine ⟨a, b, xs, ys, rfl, e0.gh.seq hs, e0.gh.seq hs2, fun D nD => ?_⟩
          have ng1 : G0 D = none := e0.gh.free nD
          refine lc_it (n := min ds.length es.length) (walk_zip (xs := xs) (ys := ys) (by rw [dpsLen hd, dpsLen hd2])) (fun k H' => ∃ G2 us, Gw G0 H0 G2 H' ∧ G2 D = none ∧ H' D = some (.lst us) ∧ DqAll K G2 us ((List.zipWith g ds es).take k)) ⟨G0, [], (Gw.refl e0.gh).mut nD ng1, ng1, upd_same, .nil⟩ (fun k H' _ ⟨G2, _, w2, _⟩ => ⟨(w2.gg.trans w2.gh).seq hs, (w2.gg.trans w2.gh).seq hs2⟩) ?_ ?_
          · rintro k x H2 H2' hk ⟨G2, us, w2, ng2, hD, du⟩ ⟨Tp, x1, y1, rfl, nT, rfl, e1, e2⟩
            obtain ⟨dx, hx, dqx⟩ := dpsGet' hd e1
            obtain ⟨dy, hy, dqy⟩ := dpsGet' hd2 e2
            have w3 := Gw.out (o := HO.tup [x1, y1]) w2.gh nT
            have hset : ((wipe σ [i, j]).set i (some x1)).set j (some y1) = (σ.set i (some x1)).set j (some y1) := by rw [wipe2 σ hij]; exact set4 σ hij _ _ _ _
            refine ⟨Tp, [x1, y1], rfl, .inl (.inl upd_same), rfl, x1, [y1], rfl, y1, [], rfl, rfl, ?_⟩
            have s2 : Sd K G2 (((wipe σ [i, j]).set i (some x1)).set j (some y1)) ((env.set i (some dx)).set j (some dy)) := by
              rw [hset]
              exact ((s.mono (e0.gg.trans w2.gg)).set i (dpM w2.gg dqx)).set j (dpM w2.gg dqy)
            refine ⟨by rw [hset, wipe2 _ hij, wipe2 σ hij]; exact set4 σ hij _ _ _ _, ?_⟩
            refine (eb_yes (K := K) (env := (env.set i (some dx)).set j (some dy))) _ G2 _ w3.gh s2 _ fun G3 H3 w4 => ?_
            refine iteT ?_
            refine he dx dy (List.mem_of_getElem? hx) (List.mem_of_getElem? hy) _ G3 H3 w4.gh (s2.mono w4.gg) _ fun u G4 H4 w5 dqu => ?_
            have w6 := (w3.trans w4).trans w5
            have ng4 := w6.keeps hD ng2
            have hD4 := w6.hh _ _ hD
            have hz : (List.zipWith g ds es)[k]? = some (g dx dy) := by
              rw [List.getElem?_zipWith, hx, hy]
            refine ⟨us, hD4, ?_, G4, us ++ [u], (w2.trans w6).mut nD ng4, ng4, upd_same, ?_⟩
            · rw [dpsLen du, List.length_take, List.length_zipWith]
              exact Nat.lt_of_le_of_lt (show min k (min ds.length es.length) ≤ 1000 by omega) (by decide)
            · rw [take_next' hz]
              exact dpsApp (dpsM w6.gg du) (.cons dqu .nil)
          · rintro H2 ⟨G2, us, w2, ng2, hD, du⟩
            rw [List.take_of_length_le (by rw [List.length_zipWith]; exact Nat.le_refl _)] at du
            exact q D us G2 H2 (e0.trans w2) (e0.hh.free nD) ng2 hD du
end
section
variable {w : World} {P : Program} {K : PySem.W.Frag} {mg : Str → Option Value} {base : Heap}
theorem calSG {x : Str} {st : Stmt} {N ps : List Str} {k : Nat} {pre : List Dt → Prop} {nn : List Dt → Nat} {RR : List Dt → Dt → Prop} (F : Dfn K mg x st ps) (S : FnScope N ps (defScope st)) (hlen : ∀ ds, pre ds → ds.length + 1 = ps.length) (hN : ps.length ≤ N.length)
    (hbody : ∀ (f : Addr) (cdv : Value) (A : Around) (outer : List Env) (s : Shared) (H : Hp) (E : XK), Clr A → Room k (A.deeper (envOfC x (defScope st) s.heap.objs.size f cdv)) → ∀ ds, pre ds →
      ∃ t, PSs (cxOf L2.CX0 P w K mg base N x (defScope st) f cdv A outer s H E).nox (defBody st) t ∧ RtS K t (startS N.length ds) 0 (nn ds) (RR ds)) : CalG P w K mg base (k + 1) x (spS K pre nn RR) := by
  obtain ⟨f, fd, F, hm, b⟩ := F.ex
  refine ⟨f, fd, ps, FnG.of F S (fun vs H Q E h => ?_) (fun cdv A outer s H vs Q E hcl hr h => ?_), hm, F.kp, b⟩
  · obtain ⟨sd, ca, T, G, us, ds, rfl, _, du, hp, _⟩ := h
    rw [List.length_cons, dpsLen du]
    exact hlen ds hp
  · obtain ⟨sd, ca, T, G, us, ds, rfl, sv, du, hp, hT, q⟩ := h
    obtain ⟨t, ht, hv⟩ := hbody f cdv A outer s H E hcl hr ds hp
    refine ⟨t, ht, ?_⟩
    have hl := hlen ds hp
    have e := start_cons (N := N) (v := .ref sd) (us := us) (by rw [dpsLen du]; omega)
    rw [e]
    refine hv sd ca T _ G H _ hT sv ?_ rfl q
    unfold startS
    have e2 : N.length - 1 = N.tail.length := (List.length_tail ..).symm
    rw [e2]
    exact (sdStart du).cons
end
section
variable {K : PySem.W.Frag} {env : Env0'} {te : TE} {t u : TT} {j n m : Nat}
theorem esb_B {R : Dt → Prop} (h : EvS K te env j n R) (hi : ∀ d, R d → ∃ b, d = .bool b) : EvSB K (tB te) env j n (fun b => R (.bool b)) := fun sd ca T σ G H l s e x Q q => h sd ca T σ G H l s e x _ fun v d G' H' w s' dv rd => by
  obtain ⟨b, rfl⟩ := hi d rd
  cases dv
  exact ⟨b, rfl, q _ G' H' w s' rd⟩
theorem esb_not {R : Bool → Prop} (h : EvSB K t env j n R) : EvSB K (tNot t) env j n (fun b => R (!b)) := fun sd ca T σ G H l s e x Q q => h sd ca T σ G H l s e x _ fun b G' H' w s' rb => q (!b) G' H' w s' (by show R (!(!b)); rw [Bool.not_not]; exact rb)
theorem esb_orF (h1 : EvSB K t env j n (· = false)) (h2 : EvSB K u env j m (· = false)) : EvSB K (tOr t u) env j (n + m) (· = false) := fun sd ca T σ G H l s e x Q q => h1 sd ca T σ G H (by omega) s e x _ fun b G1 H1 w1 s1 rb => by
  subst rb
  exact h2 sd ca (T + n) σ G1 H1 (by omega) s1 (e.mono w1.gg) x Q fun b G2 H2 w2 s2 rb => q b G2 H2 (w1.trans w2) (by rw [← Nat.add_assoc]; exact s2) rb
theorem es_callF {f : List Dt → Option Dt} {E : XK} {z : Dt} {R : Dt → Prop} (h : EvS K te env j n R) (hf : ∀ d, R d → f [d] = some z) : EvS K (tCall (spF K f) [] E (tCons te tNil)) env j n (· = z) := fun sd ca T σ G H l s e x Q q => h sd ca T σ G H l s e x _ fun v d G1 H1 w1 s1 dv rd => ⟨G1, [d], z, s1.gh, .cons dv .nil, hf d rd, fun u G2 H2 w2 du => q u z G2 H2 (w1.trans w2.gs) (s1.gw w2) du rfl⟩
end
end LH

namespace LH
open PySem PySem.Spec L2 PyProof.Rows
/-- what is told of env is told of env' too -/
structure Wk (env env' : Env0') : Prop where
  len : env.length = env'.length
  at' : ∀ (k : Nat) (d : Dt), env[k]? = some (some d) → env'[k]? = some (some d)
theorem Wk.refl (env : Env0') : Wk env env := ⟨rfl, fun _ _ h => h⟩
theorem Wk.trans {a b c : Env0'} (h : Wk a b) (k : Wk b c) : Wk a c := ⟨h.len.trans k.len, fun i d z => k.at' i d (h.at' i d z)⟩
theorem Wk.set {a b : Env0'} {i : Nat} {o : Option Dt} (h : Wk a b) (hi : a[i]? = some none) : Wk a (b.set i o) := ⟨by rw [List.length_set]; exact h.len, fun k d z => by
  rw [List.getElem?_set]
  by_cases hk : i = k
  · rw [hk] at hi
    rw [hi] at z
    cases z
  · rw [if_neg hk]
    exact h.at' k d z⟩
theorem wk_nil : Wk [] [] := Wk.refl []
theorem wk_s {o : Option Dt} {a b : Env0'} (h : Wk a b) : Wk (o :: a) (o :: b) := ⟨congrArg (· + 1) h.len, fun k d z => by
  match k, z with
  | 0, z => exact z
  | k + 1, z => exact h.at' k d z⟩
theorem wk_n {o : Option Dt} {a b : Env0'} (h : Wk a b) : Wk (none :: a) (o :: b) := ⟨congrArg (· + 1) h.len, fun k d z => by
  match k, z with
  | 0, z => cases z
  | k + 1, z => exact h.at' k d z⟩
/-! ### blocks that go on, with draws -/
def GoS (K : PySem.W.Frag) (ts : TS) (env : Env0') (j n : Nat) (R : Env0' → Prop) : Prop := ∀ sd ca T σ G H (D : Ends), T + n ≤ 100000 → Sv sd ca T G H → Sd K G σ env → σ[j]? = some (some (.ref sd)) → (∀ env' σ' G' H', Gs sd ca G H G' H' → Sv sd ca (T + n) G' H' → Sd K G' σ' env' → σ'[j]? = some (some (.ref sd)) → R env' → D.nx σ' H') → ts D σ H
section
variable {K : PySem.W.Frag} {env env1 : Env0'} {ta te : TE} {t : TT} {a b : TS} {i l j n m : Nat} {R R1 : Env0' → Prop} {Rd : Dt → Prop}
theorem gs_is (h : GoS K a env j n R1) (hn : n ≤ m) (hr : ∀ e, R1 e → R e) : GoS K a env j m R := fun sd ca T σ G H D hT s e x q => h sd ca T σ G H D (by omega) s e x fun env' σ' G' H' w s' e' x' r => q env' σ' G' H' w (s'.le (by omega)) e' x' (hr env' r)
/-- names forgotten -/
theorem gs_forget (h : GoS K a env j n fun e => Wk env1 e) : GoS K a env j n (· = env1) := fun sd ca T σ G H D hT s e x q => h sd ca T σ G H D hT s e x fun env' σ' G' H' w s' e' x' r => q env1 σ' G' H' w s' (sd_weak e' r.len r.at') x' rfl
theorem gs_seq (h : GoS K a env j n R1) (h2 : ∀ e, R1 e → GoS K b e j m R) : GoS K (tSeq a b) env j (n + m) R := fun sd ca T σ G H D hT s e x q => h sd ca T σ G H _ (by omega) s e x fun env' σ' G' H' w s' e' x' r => h2 env' r sd ca (T + n) σ' G' H' D (by omega) s' e' x' fun env2 σ2 G2 H2 w2 s2 e2 x2 r2 => q env2 σ2 G2 H2 (w.trans w2) (by rw [← Nat.add_assoc]; exact s2) e2 x2 r2
theorem gs_next : GoS K tNext env j 0 (· = env) := fun sd ca T σ G H D hT s e x q => q env σ G H Gs.refl s e x rfl
theorem gs_asg (h : EvS K te env j n Rd) (hij : j ≠ i) : GoS K (tAsg te (gName i)) env j n (fun e => ∃ d, Rd d ∧ e = env.set i (some d)) := fun sd ca T σ G H D hT s e x q => h sd ca T σ G H hT s e x _ fun v d G1 H1 w1 s1 dv rd => q _ _ G1 H1 w1 s1 ((e.mono w1.gg).set i dv) (by rw [List.getElem?_set_ne (fun z => hij z.symm)]; exact x) ⟨d, rd, rfl⟩
theorem gs_par {ta : TA} {RA : List Dt → Prop} (h : EvSA K ta env j n RA) (h2 : ∀ ds, RA ds → ∃ x y, ds = [x, y]) (hij : j ≠ i) (hlj : j ≠ l) : GoS K (tPar i l ta) env j n (fun e => ∃ x y, RA [x, y] ∧ e = (env.set i (some x)).set l (some y)) := fun sd ca T σ G H D hT s e x q => h sd ca T σ G H hT s e x _ fun vs ds G1 H1 w1 s1 dv rd => by
  obtain ⟨d1, d2, rfl⟩ := h2 ds rd
  cases dv with
  | cons dv1 r =>
    cases r with
    | cons dv2 r =>
      cases r
      exact ⟨_, _, rfl, q _ _ G1 H1 w1 s1 (((e.mono w1.gg).set i dv1).set l dv2) (by rw [List.getElem?_set_ne (fun z => hlj z.symm), List.getElem?_set_ne (fun z => hij z.symm)]; exact x) ⟨d1, d2, rd, rfl⟩⟩
/-- if .. : that isn't so -/
theorem gs_skip (h : EvSB K t env j n (· = false)) : GoS K (tIfS t a tNext) env j n (· = env) := fun sd ca T σ G H D hT s e x q => h sd ca T σ G H hT s e x _ fun k G1 H1 w1 s1 rb => by
  subst rb
  exact q env σ G1 H1 w1 s1 (e.mono w1.gg) x rfl
theorem gs_if {Rb : Bool → Prop} (h : EvSB K t env j n Rb) (h1 : Rb true → GoS K a env j m R) (h2 : Rb false → GoS K b env j m R) : GoS K (tIfS t a b) env j (n + m) R := fun sd ca T σ G H D hT s e x q => h sd ca T σ G H (by omega) s e x _ fun k G1 H1 w1 s1 rb => by
  cases k with
  | true => exact h1 rb sd ca (T + n) σ G1 H1 D (by omega) s1 (e.mono w1.gg) x fun env' σ' G' H' w s' e' x' r => q env' σ' G' H' (w1.trans w) (by rw [← Nat.add_assoc]; exact s') e' x' r
  | false => exact h2 rb sd ca (T + n) σ G1 H1 D (by omega) s1 (e.mono w1.gg) x fun env' σ' G' H' w s' e' x' r => q env' σ' G' H' (w1.trans w) (by rw [← Nat.add_assoc]; exact s') e' x' r
theorem gs_for {wi : TI} {es : List Dt} (h : EvI K wi env es) (hij : j ≠ i) (hb : ∀ (k : Nat) (e : Dt), es[k]? = some e → GoS K a (env.set i (some e)) j n fun e' => Wk env e') : GoS K (tFor wi (gName i) a) env j (es.length * n) (· = env) := fun sd ca T σ G H D hT s e x q => by
  refine for_S (K := K) (env := env) h s.gh e (fun k σ' G' H' => Gs sd ca G H G' H' ∧ Sv sd ca (T + k * n) G' H' ∧ Sd K G' σ' env ∧ σ'[j]? = some (some (.ref sd))) (fun G1 H1 w1 => ⟨w1.gs, (s.gw w1).le (by omega), e.mono w1.gg, x⟩) ?_ ?_
  · rintro k d xo σ' G' H' D' hk s' ⟨gs, sv', se', hj'⟩ dx hrt hnx
    have kl := (List.getElem?_eq_some_iff.mp hk).1
    have hb2 : (k + 1) * n ≤ es.length * n := Nat.mul_le_mul_right _ kl
    have e2 : (k + 1) * n = k * n + n := by rw [Nat.add_mul, Nat.one_mul]
    refine hb k d hk sd ca (T + k * n) _ G' H' D' (by omega) sv' (se'.set i dx) (by rw [List.getElem?_set_ne (fun z => hij z.symm)]; exact hj') fun env2 σ2 G2 H2 w2 s2 e2' x2 r2 => ?_
    exact hnx σ2 G2 H2 w2.gg s2.gh ⟨gs.trans w2, s2.le (by omega), sd_weak e2' r2.len r2.at', x2⟩
  · rintro σ' G' H' s' ⟨gs, sv', se', hj'⟩
    exact q env σ' G' H' gs sv' se' hj' rfl
theorem rs_go (h : GoS K a env j n R) (h2 : ∀ e, R e → RtS K b e j m Rd) : RtS K (tSeq a b) env j (n + m) Rd := fun sd ca T σ G H D hT s e x q => h sd ca T σ G H _ (by omega) s e x fun env' σ' G' H' w s' e' x' r => h2 env' r sd ca (T + n) σ' G' H' D (by omega) s' e' x' fun v d G2 H2 w2 s2 dv rd => q v d G2 H2 (w.trans w2) (by rw [← Nat.add_assoc]; exact s2) dv rd
end
/-! ### with a list of one's own at slot l -/
def GoO (K : PySem.W.Frag) (ts : TS) (l : Nat) (env : Env0') (ds : List Dt) (n : Nat) (R : Env0' → List Dt → Prop) : Prop := ∀ sd ca G0 H0 p T σ G H (D : Ends), H0 p = none → p ≠ sd → p ≠ ca → T + n ≤ 100000 → Ow K sd ca G0 H0 p l T env ds σ G H → (∀ env' ds' σ' G' H', Same G G' → R env' ds' → Ow K sd ca G0 H0 p l (T + n) env' ds' σ' G' H' → D.nx σ' H') → ts D σ H
def RtO (K : PySem.W.Frag) (ts : TS) (l : Nat) (env : Env0') (ds : List Dt) (n : Nat) (R : Dt → Prop) : Prop := ∀ sd ca G0 H0 p T σ G H (D : Ends), H0 p = none → p ≠ sd → p ≠ ca → T + n ≤ 100000 → Ow K sd ca G0 H0 p l T env ds σ G H → (∀ v d G' H', Gs sd ca G0 H0 G' H' → Sv sd ca (T + n) G' H' → Dq K G' v d → R d → D.rt v H') → ts D σ H
section
variable {K : PySem.W.Frag} {env env1 : Env0'} {ta te : TE} {t : TT} {a b : TS} {i l l2 n m : Nat} {ds : List Dt} {R R1 : Env0' → List Dt → Prop} {Rd : Dt → Prop}
theorem go_is (h : GoO K a l env ds n R1) (hn : n ≤ m) (hr : ∀ e d, R1 e d → R e d) : GoO K a l env ds m R := fun sd ca G0 H0 p T σ G H D np p1 p2 hT o q => h sd ca G0 H0 p T σ G H D np p1 p2 (by omega) o fun e' d' σ' G' H' g r o' => q e' d' σ' G' H' g (hr e' d' r) (o'.le (by omega))
theorem go_seqO (h : GoO K a l env ds n R1) (h2 : ∀ e d, R1 e d → GoO K b l e d m R) : GoO K (tSeq a b) l env ds (n + m) R := fun sd ca G0 H0 p T σ G H D np p1 p2 hT o q => h sd ca G0 H0 p T σ G H _ np p1 p2 (by omega) o fun e' d' σ' G' H' g r o' => h2 e' d' r sd ca G0 H0 p (T + n) σ' G' H' D np p1 p2 (by omega) o' fun e2 d2 σ2 G2 H2 g2 r2 o2 => q e2 d2 σ2 G2 H2 (g.trans g2) r2 (by rw [← Nat.add_assoc]; exact o2)
theorem go_nextO : GoO K tNext l env ds 0 (fun e d => e = env ∧ d = ds) := fun sd ca G0 H0 p T σ G H D np p1 p2 hT o q => q env ds σ G H (Same.refl G) ⟨rfl, rfl⟩ o
theorem go_asgO (h : EvS K te env 0 n Rd) (h1 : 0 ≠ i) (h2 : l ≠ i) : GoO K (tAsg te (gName i)) l env ds n (fun e d => ∃ z, Rd z ∧ e = env.set i (some z) ∧ d = ds) := fun sd ca G0 H0 p T σ G H D np p1 p2 hT o q => h sd ca T σ G H hT o.sv o.se o.h0 _ fun v d G1 H1 w1 s1 dv rd => q _ ds _ G1 H1 w1.gg ⟨d, rd, rfl, rfl⟩ ((o.step p1 p2 w1 s1).set h1 h2 dv)
theorem go_parO {ta : TA} {RA : List Dt → Prop} (h : EvSA K ta env 0 n RA) (h2 : ∀ ds, RA ds → ∃ x y, ds = [x, y]) (hi0 : 0 ≠ i) (hil : l ≠ i) (hj0 : 0 ≠ l2) (hjl : l ≠ l2) : GoO K (tPar i l2 ta) l env ds n (fun e d => ∃ x y, RA [x, y] ∧ e = (env.set i (some x)).set l2 (some y) ∧ d = ds) := fun sd ca G0 H0 p T σ G H D np p1 p2 hT o q => h sd ca T σ G H hT o.sv o.se o.h0 _ fun vs es G1 H1 w1 s1 dv rd => by
  obtain ⟨d1, d2, rfl⟩ := h2 es rd
  cases dv with
  | cons dv1 r =>
    cases r with
    | cons dv2 r =>
      cases r
      exact ⟨_, _, rfl, q _ ds _ G1 H1 w1.gg ⟨d1, d2, rd, rfl, rfl⟩ (((o.step p1 p2 w1 s1).set hi0 hil dv1).set hj0 hjl dv2)⟩
theorem go_appO (h : EvS K te env 0 n Rd) (hl : ds.length < 1000) : GoO K (tDrop (tBM K "list" rAppend (tVar l) (tCons te tNil))) l env ds n (fun e d => ∃ z, Rd z ∧ e = env ∧ d = ds ++ [z]) := fun sd ca G0 H0 p T σ G H D np p1 p2 hT o q => o.app np p1 p2 hT hl h fun d G' H' g rd o' => q env (ds ++ [d]) σ G' H' g ⟨d, rd, rfl, rfl⟩ o'
theorem go_ifO {Rb : Bool → Prop} (h : EvSB K t env 0 n Rb) (h1 : Rb true → GoO K a l env ds m R) (h2 : Rb false → GoO K b l env ds m R) : GoO K (tIfS t a b) l env ds (n + m) R := fun sd ca G0 H0 p T σ G H D np p1 p2 hT o q => h sd ca T σ G H (by omega) o.sv o.se o.h0 _ fun k G1 H1 w1 s1 rb => by
  cases k with
  | true => exact h1 rb sd ca G0 H0 p (T + n) σ G1 H1 D np p1 p2 (by omega) (o.step p1 p2 w1 s1) fun e' d' σ' G' H' g r o' => q e' d' σ' G' H' (w1.gg.trans g) r (by rw [← Nat.add_assoc]; exact o')
  | false => exact h2 rb sd ca G0 H0 p (T + n) σ G1 H1 D np p1 p2 (by omega) (o.step p1 p2 w1 s1) fun e' d' σ' G' H' g r o' => q e' d' σ' G' H' (w1.gg.trans g) r (by rw [← Nat.add_assoc]; exact o')
theorem go_forO {wi : TI} {es : List Dt} (I : Nat → List Dt → Prop) (h : EvI K wi env es) (h0 : I 0 ds) (h1 : 0 ≠ i) (h2 : l ≠ i) (hb : ∀ (k : Nat) (e : Dt) (ds' : List Dt), es[k]? = some e → I k ds' → GoO K a l (env.set i (some e)) ds' n fun e' d' => Wk env e' ∧ I (k + 1) d') : GoO K (tFor wi (gName i) a) l env ds (es.length * n) (fun e d => e = env ∧ I es.length d) := fun sd ca G0 H0 p T σ G H D np p1 p2 hT o q => by
  refine for_S (K := K) (env := env) h o.sv.gh o.se (fun k σ' G' H' => ∃ ds', Same G G' ∧ I k ds' ∧ Ow K sd ca G0 H0 p l (T + k * n) env ds' σ' G' H') (fun G1 H1 w1 => ⟨ds, w1.gg, h0, (o.gw p1 p2 w1).le (by omega)⟩) ?_ ?_
  · rintro k d xo σ' G' H' D' hk s' ⟨ds', g', hi, o'⟩ dx hrt hnx
    have kl := (List.getElem?_eq_some_iff.mp hk).1
    have hb2 : (k + 1) * n ≤ es.length * n := Nat.mul_le_mul_right _ kl
    have e2 : (k + 1) * n = k * n + n := by rw [Nat.add_mul, Nat.one_mul]
    refine hb k d ds' hk hi sd ca G0 H0 p (T + k * n) _ G' H' D' np p1 p2 (by omega) (o'.set h1 h2 dx) fun env2 d2 σ2 G2 H2 g2 r2 o2 => ?_
    exact hnx σ2 G2 H2 g2 o2.sv.gh ⟨d2, g'.trans g2, r2.2, (o2.weak r2.1.len r2.1.at').le (by omega)⟩
  · rintro σ' G' H' s' ⟨ds', g', hi, o'⟩
    exact q env ds' σ' G' H' g' ⟨rfl, hi⟩ o'
theorem ro_go (h : GoO K a l env ds n R) (h2 : ∀ e d, R e d → RtO K b l e d m Rd) : RtO K (tSeq a b) l env ds (n + m) Rd := fun sd ca G0 H0 p T σ G H D np p1 p2 hT o q => h sd ca G0 H0 p T σ G H _ np p1 p2 (by omega) o fun e' d' σ' G' H' g r o' => h2 e' d' r sd ca G0 H0 p (T + n) σ' G' H' D np p1 p2 (by omega) o' fun v d G2 H2 w2 s2 dv rd => q v d G2 H2 w2 (by rw [← Nat.add_assoc]; exact s2) dv rd
/-- it is a datum from now on -/
theorem ro_put (h : RtS K a (env.set l (some (.list ds))) 0 n Rd) : RtO K a l env ds n Rd := fun sd ca G0 H0 p T σ G H D np p1 p2 hT o q => by
  obtain ⟨G', g', s', e', j'⟩ := o.put np p1 p2
  exact h sd ca T σ G' H D hT s' e' j' fun v d G2 H2 w2 s2 dv rd => q v d G2 H2 (g'.trans w2) s2 dv rd
theorem rs_own (hl : l < env.length) (h0 : 0 ≠ l) (h : RtO K b l (env.set l none) [] n Rd) : RtS K (tSeq (tAsg (tLst tNil) (gName l)) b) env 0 n Rd := fun sd ca T σ G H D hT s e x q => by
  refine ⟨Nat.zero_le _, fun p np => ?_⟩
  obtain ⟨p1, p2⟩ := s.fresh np
  have w := Gw.out (o := HO.lst []) s.gh np
  exact h sd ca G H p T _ G _ D np p1 p2 hT ⟨w.gs, s.gw w, e.forget, by rw [List.getElem?_set_ne (fun z => h0 z.symm)]; exact x, by rw [List.getElem?_set, if_pos rfl, if_pos (by rw [e.len]; exact hl)], s.gh.free np, [], upd_same, .nil⟩ q
/-- a list of one's own and two data at once -/
theorem rs_own3 {tb tc : TE} {x y : Dt} (hx : EvE K tb env x) (hy : EvE K tc env y) (hl : l < env.length) (h0 : 0 ≠ l) (hi : 0 ≠ i) (hj : 0 ≠ l2) (hli : l ≠ i) (hlj : l ≠ l2) (h : RtO K b l (((env.set l none).set i (some x)).set l2 (some y)) [] n Rd) : RtS K (tSeq (tPar3 l i l2 (tCons (tLst tNil) (tCons tb (tCons tc tNil)))) b) env 0 n Rd := fun sd ca T σ G H D hT s e z q => by
  refine ⟨Nat.zero_le _, fun p np => ?_⟩
  obtain ⟨p1, p2⟩ := s.fresh np
  have w := Gw.out (o := HO.lst []) s.gh np
  have ng : G p = none := s.gh.free np
  refine hx σ G _ w.gh e _ fun vx G1 H1 w1 dvx => hy σ G1 H1 w1.gh (e.mono w1.gg) _ fun vy G2 H2 w2 dvy => ⟨_, _, _, rfl, ?_⟩
  have w12 := w1.trans w2
  have hp2 := w12.hh _ _ (upd_same (H := H) (a := p) (o := HO.lst []))
  have ng2 : G2 p = none := w12.keeps (upd_same (H := H) (a := p) (o := HO.lst [])) ng
  refine h sd ca G H p T _ G2 H2 D np p1 p2 hT ⟨(w.trans w12).gs, s.gw (w.trans w12), (((e.mono w12.gg).forget (j := l)).set i (dpM w2.gg dvx)).set l2 dvy, ?_, ?_, ng2, [], hp2, .nil⟩ q
  · rw [List.getElem?_set_ne (fun z => hj z.symm), List.getElem?_set_ne (fun z => hi z.symm), List.getElem?_set_ne (fun z => h0 z.symm)]
    exact z
  · rw [List.getElem?_set_ne (fun z => hlj z.symm), List.getElem?_set_ne (fun z => hli z.symm), List.getElem?_set, if_pos rfl, if_pos (by rw [e.len]; exact hl)]
/-- for .. in range(..), drawn -/
theorem go_forD {ta : TA} {g : TG} {RA : List Dt → Prop} (h : EvSA K ta env 0 n RA) (hr : ∀ es, RA es → ∃ r : Nat, es = [.int (r : Int)] ∧ GoO K (tFor (iRng1 (tCons (tC (.int (r : Int))) tNil)) g a) l env ds m R) : GoO K (tFor (iRng1 ta) g a) l env ds (n + m) R := fun sd ca G0 H0 p T σ G H D np p1 p2 hT o q => h sd ca T σ G H (by omega) o.sv o.se o.h0 _ fun vs es G1 H1 w1 s1 dv rd => by
  obtain ⟨r, rfl, hg⟩ := hr es rd
  cases dv with
  | cons da db =>
    cases db
    cases da
    exact hg sd ca G0 H0 p (T + n) σ G1 H1 D np p1 p2 (by omega) (o.step p1 p2 w1 s1) fun e' d' σ' G' H' g' r' o' => q e' d' σ' G' H' (w1.gg.trans g') r' (by rw [← Nat.add_assoc]; exact o')
theorem gs_forD {ta : TA} {g : TG} {RA : List Dt → Prop} {j : Nat} {Re : Env0' → Prop} (h : EvSA K ta env j n RA) (hr : ∀ es, RA es → ∃ r : Nat, es = [.int (r : Int)] ∧ GoS K (tFor (iRng1 (tCons (tC (.int (r : Int))) tNil)) g a) env j m Re) : GoS K (tFor (iRng1 ta) g a) env j (n + m) Re := fun sd ca T σ G H D hT s e x q => h sd ca T σ G H (by omega) s e x _ fun vs es G1 H1 w1 s1 dv rd => by
  obtain ⟨r, rfl, hg⟩ := hr es rd
  cases dv with
  | cons da db =>
    cases db
    cases da
    exact hg sd ca (T + n) σ G1 H1 D (by omega) s1 (e.mono w1.gg) x fun e' σ' G' H' g' s' se' x' r' => q e' σ' G' H' (w1.trans g') (by rw [← Nat.add_assoc]; exact s') se' x' r'
end
section
variable {K : PySem.W.Frag} {env : Env0'} {te : TE} {j n : Nat}
/-- a text joined of drawn texts -/
theorem es_join {a : Str} {P : List Str → Prop} (h : EvS K te env j n (fun d => ∃ ys : List Str, d = .list (ys.map PyData.str) ∧ P ys)) (hl : ∀ ys, P ys → (ys.map (·.length)).sum + ys.length * a.length ≤ 100000) : EvS K (tM1 (fun x xs H Q => ∃ a p, ∃ ys : List Str, x = .str a ∧ xs = [.ref p] ∧ (SqL K H p (ys.map V.str) ∨ SqT K H p (ys.map V.str)) ∧ (ys.map (·.length)).sum + ys.length * a.length ≤ 16777216 ∧ Q (.str (Txt.join a ys)) H) (tC (.str a)) te) env j n (fun d => ∃ ys, P ys ∧ d = .str (Txt.join a ys)) := fun sd ca T σ G H l s e x Q q => ⟨⟨a, rfl⟩, h sd ca T σ G H l s e x _ fun v d G' H' w s' dv rd => by
  obtain ⟨ys, rfl, hp⟩ := rd
  cases dv with
  | @lst p xs _ hs hd =>
    have ex := dpsStrs hd
    subst ex
    exact ⟨a, p, ys, rfl, rfl, .inl (s'.gh.seq hs), Nat.le_trans (hl ys hp) (by decide), q _ _ G' H' w s' (.str _) ⟨ys, hp, rfl⟩⟩⟩
/-- what a comprehension of drawn things is: so many, each so -/
theorem LcR.all {P : Dt → Prop} {Rt : Dt → Bool → Prop} {Re : Dt → Dt → Prop} {ds es : List Dt} (h : LcR Rt Re ds es) (ht : ∀ d b, Rt d b → b = true) (hp : ∀ d e, Re d e → P e) : es.length = ds.length ∧ ∀ e ∈ es, P e := by
  induction h with
  | nil => exact ⟨rfl, fun e he => absurd he List.not_mem_nil⟩
  | yes _ _ re ih =>
    refine ⟨by rw [List.length_append, List.length_append, ih.1]; rfl, fun e he => ?_⟩
    rcases List.mem_append.mp he with z | z
    · exact ih.2 e z
    · (rw [List.mem_singleton.mp z])
      exact hp _ _ re
  | no _ rt _ => exact absurd (ht _ _ rt) Bool.false_ne_true
theorem strs_ex {P : Str → Prop} : ∀ {es : List Dt}, (∀ e ∈ es, ∃ z, e = .str z ∧ P z) → ∃ ys : List Str, es = ys.map PyData.str ∧ ys.length = es.length ∧ ∀ y ∈ ys, P y
  | [], _ => ⟨[], rfl, rfl, fun _ h => absurd h List.not_mem_nil⟩
  | e :: es, h => by
    obtain ⟨z, rfl, hz⟩ := h e List.mem_cons_self
    obtain ⟨ys, e1, e2, e3⟩ := strs_ex fun x hx => h x (List.mem_cons_of_mem _ hx)
    exact ⟨z :: ys, by rw [e1]; rfl, by rw [List.length_cons, e2]; rfl, fun y hy => by
      rcases List.mem_cons.mp hy with q | q
      · rw [q]; exact hz
      · exact e3 y q⟩
end
end LH

namespace LH
open PySem PySem.Spec L2 PyProof.Rows
/-! ### calls without arguments, by keyword -/
section
variable {X : Cx} {k j : Nat} {x : Str} {sp : Sp} {dvs : List V} {p pos : Pos}
theorem pe_c0 (c : C8.Cal X.prog X.w X.K X.mg X.base k x sp dvs) (hr : Room j X.A) (hk : k ≤ j) (hg : Gl X x) (hdb : (x == ("__debug__" : Str)) = false := by decide) : PE X (.Call (.Name x p) [] [] pos) (tCall sp dvs C8.E0 tNil) := by
  (obtain ⟨f, fd, ps, ds, F, hm, kp, b, d⟩ := c.ex)
  exact pe_call0 F (hr.mono hk) hg hm kp b d C8.pass0 hdb
/-- a def that may be called by keywords alone -/
structure CalK (P : Program) (w : World) (K : PySem.W.Frag) (mg : Str → Option Value) (base : Heap) (k : Nat) (x : Str) (sp : Sp) (ks : List Str) (g : List Value → List Value → List Value) (gV : List V → List V → List V) : Prop where
  ex : ∃ (f : Addr) (fd : FuncData) (ps : List Str), FnOk P w K mg base C8.CX0 k f fd ps sp ∧ mg x = some (.ref f) ∧ PySem.W.keepIn K (.ref f) = true ∧ KBinds K fd ps ks g gV
theorem pe_cK {ks : List Str} {g : List Value → List Value → List Value} {gV : List V → List V → List V} {kws : List Keyword} {tk : TA} (c : CalK X.prog X.w X.K X.mg X.base k x sp ks g gV) (hr : Room j X.A) (hk : k ≤ j) (hg : Gl X x) (hkw : PK X kws tk)
    (hall : (backToKw pos (keywordEach kws X.env)).all (·.1.isSome) = true := by rfl) (hks : (backToKw pos (keywordEach kws X.env)).filterMap (·.1) = ks := by rfl)
    (hdb : (x == ("__debug__" : Str)) = false := by decide) (hpl : ((backTo pos (starEach [] X.env)).any (·.1) || (backToKw pos (keywordEach kws X.env)).any (·.1.isNone)) = false := by rfl) :
    PE X (.Call (.Name x p) [] kws pos) (tCallK sp gV C8.E0 tNil tk) := by
  obtain ⟨f, fd, ps, F, hm, kp, b⟩ := c.ex
  (refine ⟨fun pins s σ H Q I h => ?_⟩)
  (refine wpAny_Call_Name_kw (ld_glob I hg hm ?_ hdb))
  refine PySem.W.callWith_KW0 (h₀ := X.base) I.ok.mod.kin kp hall ?_ hpl
  refine thn (hkw.run pos pins s σ H _ I h) fun ws s2 ⟨zs, H2, I2, rz, q2⟩ => ⟨I2.kIn, ?_⟩
  rw [hks]
  exact run_fnk (us := []) F (hr.mono hk) b C8.pass0 I2 .nil rz q2
end
section
variable {K : PySem.W.Frag} {env : Env0'}
theorem ee_callK1 {f : List Dt → Option Dt} {te : TE} {z d : Dt} (h : EvE K te env d) (hf : f [d] = some z) : EvE K (tCallK (spF K f) (fun vs zs => vs ++ zs) C8.E0 tNil (tCons te tNil)) env z := fun σ G H gh s Q q =>
  h σ G H gh s _ fun v G2 H2 e dv => ⟨G2, [d], z, e.gh, .cons dv .nil, hf, fun v G3 H3 e3 dv => q v G3 H3 (e.trans e3) dv⟩
/-! ### x.strip(some signs) == "" -/
theorem ee_strip {to te : TE} {a b : Str} (h : EvE K to env (.str a)) (h2 : EvE K te env (.str b)) (ha : a.length ≤ 100000) : EvE K (tM1 (fun x xs H Q => ∃ a b, x = .str a ∧ xs = [.str b] ∧ a.length ≤ sizeLine ∧ Q (.str (Txt.stripChars a b)) H) to te) env (.str (Txt.stripChars a b)) := fun σ G H gh s Q q => h σ G H gh s _ fun v G2 H2 e dv => by
  cases dv
  refine ⟨⟨a, rfl⟩, h2 σ G2 H2 e.gh (s.mono e.gg) _ fun u G3 H3 e3 du => ?_⟩
  cases du
  exact ⟨a, b, rfl, rfl, Nat.le_trans ha (by decide), q _ _ _ (e.trans e3) (.str _)⟩
end
theorem strip_all (z w : Str) : PyData.eqv (.str (Txt.stripChars z w)) (.str "") = (signsD z).all (signIn w) := by
  have e0 : PyData.eqv (.str (Txt.stripChars z w)) (.str "") = (Txt.stripChars z w == ("" : Str)) := rfl
  have e1 : (signsD z).all (signIn w) = z.cps.toList.all fun c => w.cps.contains c := by
    unfold signsD
    rw [List.all_map]
    congr 1
    funext c
    show decide (c ∈ w.cps.toList) = w.cps.contains c
    rw [Bool.eq_iff_iff, decide_eq_true_eq, Array.contains_iff_mem, Array.mem_toList_iff]
  rw [e0, e1]
  have st : Txt.stripChars z w = Builtin.Str.strSub z (stripLo w.cps.contains true z) (stripHi w.cps.contains true z (stripLo w.cps.contains true z)) := stripBy_eq _ _ _ z
  rw [st]
  obtain ⟨l1, l2, l3⟩ := lo_facts w.cps.contains z
  obtain ⟨h1, h2, h3, h4⟩ := hi_facts w.cps.contains z _ l1
  generalize stripLo w.cps.contains true z = lo at *
  generalize stripHi w.cps.contains true z lo = hi at *
  have hlen : z.cps.toList.length = z.length := by rw [Array.length_toList]; rfl
  have hget : ∀ k, z.cps.toList.getD k 0 = z.cps.getD k 0 := fun k => getD_list z k
  rw [Bool.eq_iff_iff, beq_iff_eq, List.all_eq_true]
  constructor
  · intro e c hc
    have hz : hi = lo := by
      have q := congrArg (fun s : Str => s.cps.toList.length) e
      simp only [strSub_mk] at q
      have q' : ((z.cps.toList.drop lo).take (hi - lo)).length = 0 := q
      rw [List.length_take, List.length_drop, hlen] at q'
      omega
    obtain ⟨k, hk, rfl⟩ := List.getElem_of_mem hc
    have e2 : z.cps.toList[k] = z.cps.getD k 0 := by rw [← hget k, List.getD_eq_getElem?_getD, List.getElem?_eq_getElem hk]; rfl
    rw [e2]
    by_cases hkl : k < lo
    · exact l2 k hkl
    · exact h3 k (by omega) (by omega)
  · intro all
    have at' : ∀ k, k < z.length → w.cps.contains (z.cps.getD k 0) = true := fun k hk => by
      rw [← hget k]
      have hk' : k < z.cps.toList.length := by omega
      rw [List.getD_eq_getElem?_getD, List.getElem?_eq_getElem hk']
      exact all _ (List.getElem_mem hk')
    have hlo : lo = z.length := by
      rcases l3 with h | h
      · exact h
      · by_cases hz : lo < z.length
        · rw [at' lo hz] at h
          cases h
        · omega
    rw [strSub_mk]
    have e3 : (z.cps.toList.drop lo).take (hi - lo) = [] := by
      rw [List.drop_eq_nil_of_le (by omega)]
      exact List.take_nil
    rw [e3]
    rfl
end LH

namespace K04
open PySem PySem.Spec PyProof.Rows L2 LH C8
abbrev s_l_signs : Stmt := topS 29
abbrev n_l_signs : List Str := ["_law_found"]
theorem sc_l_signs : FnScope n_l_signs [] (defScope s_l_signs) := ⟨rfl, rfl, rfl, by decide +kernel, rfl, by decide +kernel, by decide +kernel⟩
abbrev s_l_is_name : Stmt := topS 37
abbrev n_l_is_name : List Str := ["_law_matter", "_law_fine"]
theorem sc_l_is_name : FnScope n_l_is_name ["_law_matter"] (defScope s_l_is_name) := ⟨rfl, rfl, rfl, by decide +kernel, rfl, by decide +kernel, by decide +kernel⟩
abbrev s_l_is_heads : Stmt := topS 38
abbrev n_l_is_heads : List Str := ["_law_matter", "_law_signs_here", "_law_head", "_law_sign"]
theorem sc_l_is_heads : FnScope n_l_is_heads ["_law_matter"] (defScope s_l_is_heads) := ⟨rfl, rfl, rfl, by decide +kernel, rfl, by decide +kernel, by decide +kernel⟩
abbrev s_l_is_body : Stmt := topS 39
abbrev n_l_is_body : List Str := ["_law_matter", "_law_deep", "_law_word", "_law_told", "_law_whole", "_law_one"]
theorem sc_l_is_body : FnScope n_l_is_body ["_law_matter", "_law_deep"] (defScope s_l_is_body) := ⟨rfl, rfl, rfl, by decide +kernel, rfl, by decide +kernel, by decide +kernel⟩
abbrev s_l_is_part : Stmt := topS 40
abbrev n_l_is_part : List Str := ["_law_matter", "_law_deep"]
theorem sc_l_is_part : FnScope n_l_is_part ["_law_matter", "_law_deep"] (defScope s_l_is_part) := ⟨rfl, rfl, rfl, by decide +kernel, rfl, by decide +kernel, by decide +kernel⟩
abbrev s_l_told_right : Stmt := topS 43
abbrev n_l_told_right : List Str := ["_law_matter", "_law_kept", "_law_found", "_law_due"]
theorem sc_l_told_right : FnScope n_l_told_right ["_law_matter"] (defScope s_l_told_right) := ⟨rfl, rfl, rfl, by decide +kernel, rfl, by decide +kernel, by decide +kernel⟩
section
variable {K : PySem.W.Frag} {env : Env0'}
theorem rd_eqS {z : Str} : RD K rEq (.str z) (.str z) (.bool true) := fun a b G H gh da db Q q => by
  cases da
  cases db
  refine ⟨rfl, ?_⟩
  rw [decide_eq_true rfl]
  exact q _ G H (Gw.refl gh) (.bl _)
theorem ee_repr {ta : TE} {d : Dt} (h : EvE K ta env d) (hg : gdB d = true) : EvE K (tCB (rRepr K) (tCons ta tNil)) env (.str d.shown) := fun σ G H gh s Q q => h σ G H gh s _ fun v G2 H2 e dv => by
  obtain ⟨a, b, c, f, g⟩ := gdB_ok hg
  exact ⟨v, d, rfl, dqDp (SeqAt.canLay_of_shaped (okB_sh a)) (dpM e.gh dv), b, c, f, g, q _ G2 H2 e (.str _)⟩
end
theorem le_lt (i j k : Int) : (decide (i + 1 ≤ j) && decide (j ≤ k)) = (decide (i < j) && decide (j < k + 1)) := by
  rw [show decide (i + 1 ≤ j) = decide (i < j) from decide_eq_decide.mpr (by omega), show decide (j ≤ k) = decide (j < k + 1) from decide_eq_decide.mpr (by omega)]

def mSigns : List Dt → Option Dt
  | [] => some (.str plains)
  | _ => none
def mLB (m : Nat) : List Dt → Option Dt
  | [d, .int (.ofNat k)] => if okB d = true ∧ k ≤ 4 ∧ 4 - k < m then some (.bool (bodyD (4 - k) d)) else none
  | _ => none
def mLP (m : Nat) : List Dt → Option Dt
  | [d, .int (.ofNat k)] => if okB d = true ∧ k ≤ 4 ∧ 4 - k < m then some (.bool (partG (bodyD (4 - k)) d)) else none
  | _ => none
theorem m_lenL {m : Nat} {g : Nat → Dt → Bool} {ds : List Dt} {d : Dt} (h : (match ds with | [x, .int (.ofNat k)] => if okB x = true ∧ k ≤ 4 ∧ 4 - k < m then some (PyData.bool (g (4 - k) x)) else none | _ => none) = some d) : ∃ x k, ds = [x, .int ((k : Nat) : Int)] ∧ okB x = true ∧ k ≤ 4 ∧ 4 - k < m ∧ d = .bool (g (4 - k) x) := by
  split at h
  · rename_i x k
    obtain ⟨⟨a, b, c⟩, e⟩ := if_some (p := okB x = true ∧ k ≤ 4 ∧ 4 - k < m) h
    exact ⟨x, k, rfl, a, b, c, e.symm⟩
  · cases h
theorem eqS_o {x : Dt} (h : isStrD x = false) (z : Str) : eqS x z = false := by cases x <;> first | rfl | exact Bool.noConfusion (show true = false from h)
theorem two_or (es : List Dt) : (∃ a b, es = [a, b]) ∨ es.length ≠ 2 := match es with
  | [] => .inr (by simp)
  | [_] => .inr (by simp)
  | [a, b] => .inl ⟨a, b, rfl⟩
  | _ :: _ :: _ :: _ => .inr (by simp)
theorem len_tup {es : List Dt} (h : es.length ≠ 2) : isTupD (.tuple es) 2 2 = false := by
  show (decide ((2 : Int) ≤ (es.length : Int)) && decide ((es.length : Int) ≤ 2)) = false
  by_cases h1 : (2 : Int) ≤ (es.length : Int)
  · rw [decide_eq_false (show ¬ ((es.length : Int) ≤ 2) by omega), Bool.and_false]
  · rw [decide_eq_false h1, Bool.false_and]
theorem tup_up (ds : List Dt) (n : Int) : isTupD (.tuple ds) 0 n = decide ((ds.length : Int) < n + 1) := by
  show (decide ((0 : Int) ≤ (ds.length : Int)) && decide ((ds.length : Int) ≤ n)) = _
  rw [decide_eq_true (show (0 : Int) ≤ (ds.length : Int) by omega), Bool.true_and]
  (exact decide_eq_decide.mpr (by omega))
theorem tup_no {x : Dt} {a b : Int} (h : isTupleD x = false) : isTupD x a b = false := by cases x <;> first | rfl | exact Bool.noConfusion (show true = false from h)
structure Tl (mg : Str → Option Value) : Prop where
  m_isinstance : mg "isinstance" = none
  m_int : mg "int" = none
  m_bool : mg "bool" = none
  m_str : mg "str" = none
  m_tuple : mg "tuple" = none
  m_len : mg "len" = none
  m_all : mg "all" = none
def ixT (K : PySem.W.Frag) (i : Int) : TE := tOp (rIx K) (tVar 2) (tC (.int i))
def tsHead (K : PySem.W.Frag) : TS := tSeq (tIfS (tOr (tNot (tB (tCB (rIsi K) (tCons (tVar 2) (tCons (tC (.ty "tuple")) tNil))))) (tOr (tTest (tOp (rNeD K) (tCB (rLen K) (tCons (tVar 2) tNil)) (tC (.int 2)))) (tNot (tB (tCall (spF K mIsName) [] C8.E0 (tCons (ixT K 0) tNil)))))) (tRet (tC (.bl false))) tNext)
  (tIfS (tOr (tNot (tB (tCB (rIsi K) (tCons (ixT K 1) (tCons (tC (.ty "str")) tNil))))) (tOr (tTest (tOp (rI0 fun i j => .bl (decide (j < i))) (tCB (rLen K) (tCons (ixT K 1) tNil)) (tC (.int 300)))) (tNot (tB (tCB (rAll K) (tCons (tLc (iStr (ixT K 1)) (gName 3) tYes (tOp (fun x y H Q => ∃ (c : Nat) (z : Str), x = .str ⟨#[c]⟩ ∧ y = .str z ∧ Q (.bl (decide (c ∈ z.cps.toList))) H) (tVar 3) (tVar 1)) [3]) tNil)))))) (tRet (tC (.bl false))) tNext)
section
variable {w : World} {P : Program} {K : PySem.W.Frag} {mg : Str → Option Value} {base : Heap}
theorem c_l_signs (F : Dfn K mg "_law_signs" s_l_signs []) : Cal P w K mg base 1 "_law_signs" (spF K mSigns) [] := by
  refine calF mSigns F sc_l_signs (fun ds d h => ?_) fun f cdv A outer s H E hr ds d h => ?_
  · match ds, h with
    | [], _ => rfl
  · match ds, h with
    | [], h =>
      cases h
      refine ⟨_, (pss_cons (ps_set (i := 0) sc_l_signs.nd rfl (Or.inl rfl) (pe_str)) (pss_one (ps_ret (pv 0)))), ?_⟩
      exact rt_seq (go_asg (d := .str plains) ee_str (fun m hm => nomatch hm)) (rt_ret (ee_var rfl))
theorem c_l_is_name (T : Tl mg) (F : Dfn K mg "_law_is_name" s_l_is_name ["_law_matter"]) : Cal P w K mg base 1 "_law_is_name" (spF K mIsName) [] := by
  refine calF mIsName F sc_l_is_name (fun ds d h => ?_) fun f cdv A outer s H E hr ds d h => ?_
  · match ds, h with
    | [_], _ => rfl
  · match ds, h with
    | [x], h =>
      obtain ⟨hs, rfl⟩ := if_some (p := smD x = true) h
      refine ⟨_, (pss_cons (ps_set (i := 1) sc_l_is_name.nd rfl (Or.inl rfl) (pe_and (pe_callB call_isi (by rfl) T.m_isinstance (by decide +kernel) (pa_cons (pv 0) (pa_cons (pe_tyN "str" (by rfl) T.m_str (by decide +kernel)) pa_nil))) (pe_one (pe_chain op_lt op_lt (pe_int) (pe_callB call_lenA (by rfl) T.m_len (by decide +kernel) (pa_cons (pv 0) pa_nil)) (pe_int))))) (pss_one (ps_ret (pe_and (pv 1) (pe_one (pe_cmpR (op_eqD hr.units) (pe_m1 PySem.F.slot_str_strip PySem.F.type_str_strip mt_stripChars (pv 0) (pe_str)) (pe_str) (nomark _))))))), ?_⟩
      cases x with
      | str z =>
        refine rt_seq (go_asg (ee_andT (ee_is (ee_isStr (ee_var rfl)) rfl) (ee_chain (ee_int (i := 0)) (ee_len (ee_var rfl) (lenD_str hs)) rd_lt (fun _ => ee_int (i := 9)) (fun _ => rd_lt))) (fun m hm => nomatch hm)) (rt_ret ?_)
        have hl := len_stripChars z "abcdefghijklmnopqrstuvwxyz"
        have sm : SeqAt.shaped (.str (Txt.stripChars z "abcdefghijklmnopqrstuvwxyz")) = true := by
          obtain ⟨_, hc⟩ := smD_str hs
          unfold SeqAt.shaped
          have hc' : z.cps.all (fun c => decide (c < 0x110000)) = true := hc
          rw [← Array.all_toList, List.all_eq_true] at hc'
          have e : PyData.canLay0 (.str (Txt.stripChars z "abcdefghijklmnopqrstuvwxyz")) = true := by
            show (Txt.stripChars z "abcdefghijklmnopqrstuvwxyz").cps.all (fun c => decide (c < 0x110000)) = true
            (rw [← Array.all_toList, List.all_eq_true])
            intro c hm
            refine hc' c ?_
            have st : Txt.stripChars z "abcdefghijklmnopqrstuvwxyz" = _ := stripBy_eq _ _ _ z
            rw [st, strSub_mk] at hm
            exact List.mem_of_mem_drop (List.mem_of_mem_take hm)
          rw [e]
          rfl
        refine ee_is (ee_and (ee_var rfl) fun _ => ee_op (ee_strip (ee_var rfl) ee_str (smD_str hs).1) ee_str (rd_eqD sm (by decide +kernel))) ?_
        rw [strip_all]
        exact congrArg (fun q => PyData.bool (q && (signsD z).all (signIn lowers))) (le_lt 0 _ 8).symm
      | _ => exact rt_seq (go_asg (ee_andF (ee_is (ee_isStr (ee_var rfl)) rfl)) (fun m hm => nomatch hm)) (rt_ret (ee_andF (ee_var rfl)))
theorem head_body {x0 : Dt} {e : Dt} (oe : smD e = true) : (headD e = true → GoE K (tsHead K) [some x0, some (.str plains), some e, none] [] [some x0, some (.str plains), some e, none] []) ∧ (headD e = false → RtE K (tsHead K) [some x0, some (.str plains), some e, none] [] (.bool false)) := by
  have nT : EvB K (tNot (tB (tCB (rIsi K) (tCons (tVar 2) (tCons (tC (.ty "tuple")) tNil))))) [some x0, some (.str plains), some e, none] (!isTupleD e) := eb_not (eb_B (ee_isTuple (ee_var rfl)))
  cases e with
  | tuple gs =>
    have ln : EvB K (tTest (tOp (rNeD K) (tCB (rLen K) (tCons (tVar 2) tNil)) (tC (.int 2)))) [some x0, some (.str plains), some (.tuple gs), none] (!PyData.eqv (.int (gs.length : Int)) (.int 2)) := eb_test (ee_op (ee_len (ee_var rfl) rfl) ee_int (rd_neD rfl rfl))
    rcases two_or gs with ⟨a, b, rfl⟩ | hn
    · have sa := (smD_tup oe).2 a (by simp)
      have sb := (smD_tup oe).2 b (by simp)
      let ev : Env0' := [some x0, some (.str plains), some (.tuple [a, b]), none]
      have ix1 : ∀ ev : Env0', ev[2]? = some (some (.tuple [a, b])) → EvE K (ixT K 1) ev b := fun ev h => ee_op (ee_var h) ee_int (rd_ix rfl)
      have tn : EvB K (tNot (tB (tCall (spF K mIsName) [] C8.E0 (tCons (ixT K 0) tNil)))) ev (!isNameD a) := eb_not (eb_B (ee_call (ea_cons (ee_op (ee_var rfl) ee_int (rd_ix (d := a) rfl)) ea_nil) (if_pos sa)))
      show (((isNameD a && isPlainD b 0 300) = true) → _) ∧ _
      have e0 : headD (.tuple [a, b]) = (isNameD a && isPlainD b 0 300) := rfl
      rw [e0]
      cases ha : isNameD a with
      | false => exact ⟨fun z => absurd z Bool.false_ne_true, fun _ => rt_yes (eb_orF (eb_is nT rfl) (eb_orF (eb_is ln rfl) (eb_is tn (by rw [ha]; rfl)))) (rt_ret ee_bl)⟩
      | true =>
        have first : EvB K _ ev false := eb_orF (eb_is nT rfl) (eb_orF (eb_is ln rfl) (eb_is tn (by rw [ha]; rfl)))
        rw [Bool.true_and]
        have tS : EvB K (tNot (tB (tCB (rIsi K) (tCons (ixT K 1) (tCons (tC (.ty "str")) tNil))))) ev (!isStrD b) := eb_not (eb_B (ee_isStr (ix1 _ rfl)))
        cases b with
        | str z =>
          have zl := (smD_str sb).1
          have tL : EvB K (tTest (tOp (rI0 fun i j => .bl (decide (j < i))) (tCB (rLen K) (tCons (ixT K 1) tNil)) (tC (.int 300)))) ev (decide ((300 : Int) < (z.length : Int))) := eb_test (ee_op (ee_len (ix1 _ rfl) (lenD_str sb)) ee_int rd_gt)
          have tA : EvB K (tNot (tB (tCB (rAll K) (tCons (tLc (iStr (ixT K 1)) (gName 3) tYes (tOp (fun x y H Q => ∃ (c : Nat) (z : Str), x = .str ⟨#[c]⟩ ∧ y = .str z ∧ Q (.bl (decide (c ∈ z.cps.toList))) H) (tVar 3) (tVar 1)) [3]) tNil)))) ev (!(signsD z).all (signIn plains)) := by
            refine eb_not (eb_B (ee_allc (g := signIn plains) (en_map _ (ei_str (ix1 _ rfl)) ?_ ?_)))
            · unfold signsD
              (rw [List.length_map, Array.length_toList])
              exact zl
            · intro d hd
              obtain ⟨c, _, rfl⟩ := List.mem_map.mp hd
              exact ee_op (ee_var rfl) (ee_var rfl) rd_sign
          have ep : isPlainD (.str z) 0 300 = (!decide ((300 : Int) < (z.length : Int)) && (signsD z).all (signIn plains)) := by
            show ((decide ((0 : Int) ≤ (z.length : Int)) && decide ((z.length : Int) ≤ 300)) && _) = _
            rw [decide_eq_true (show (0 : Int) ≤ (z.length : Int) by omega), Bool.true_and, ← decide_not]
            congr 1
            (exact decide_eq_decide.mpr (by omega))
          rw [ep]
          cases h1 : decide ((300 : Int) < (z.length : Int)) with
          | true => exact ⟨fun z => absurd z Bool.false_ne_true, fun _ => rt_no first (rt_if (eb_orF (eb_is tS rfl) (eb_orT (eb_is tL h1))) (fun _ => rt_ret ee_bl) fun q => absurd q.symm Bool.false_ne_true)⟩
          | false =>
            cases h2 : (signsD z).all (signIn plains) with
            | true => exact ⟨fun _ => go_no first (go_if (eb_orF (eb_is tS rfl) (eb_orF (eb_is tL h1) (eb_is tA (by rw [h2]; rfl)))) (fun q => absurd q Bool.false_ne_true) fun _ => go_next), fun z => absurd z.symm Bool.false_ne_true⟩
            | false => exact ⟨fun z => absurd z Bool.false_ne_true, fun _ => rt_no first (rt_if (eb_orF (eb_is tS rfl) (eb_orF (eb_is tL h1) (eb_is tA (by rw [h2]; rfl)))) (fun _ => rt_ret ee_bl) fun q => absurd q.symm Bool.false_ne_true)⟩
        | _ => exact ⟨fun z => absurd z Bool.false_ne_true, fun _ => rt_no first (rt_if (eb_orT (eb_is tS rfl)) (fun _ => rt_ret ee_bl) fun q => absurd q.symm Bool.false_ne_true)⟩
    · rw [headD_n (len_tup hn)]
      refine ⟨fun z => absurd z Bool.false_ne_true, fun _ => rt_yes (eb_orF (eb_is nT rfl) (eb_orT (eb_is ln ?_))) (rt_ret ee_bl)⟩
      rw [eqv_int, decide_eq_false (show ¬ ((gs.length : Int) = 2) by omega)]
      rfl
  | _ => exact ⟨fun z => absurd z Bool.false_ne_true, fun _ => rt_yes (eb_orT (eb_is nT rfl)) (rt_ret ee_bl)⟩
theorem c_l_is_heads (T : Tl mg) (F : Dfn K mg "_law_is_heads" s_l_is_heads ["_law_matter"]) (C_l_signs : Cal P w K mg base 1 "_law_signs" (spF K mSigns) []) (C_l_is_name : Cal P w K mg base 1 "_law_is_name" (spF K mIsName) []) : Cal P w K mg base 2 "_law_is_heads" (spF K mHeads) [] := by
  refine calF mHeads F sc_l_is_heads (fun ds d h => ?_) fun f cdv A outer s H E hr ds d h => ?_
  · match ds, h with
    | [_], _ => rfl
  · match ds, h with
    | [d], h =>
      obtain ⟨hs, rfl⟩ := if_some (p := smD d = true) h
      refine ⟨_, (pss_cons (ps_if (PW.pt (pw_or (pt_not (pt_val (pe_callB call_isi (by rfl) T.m_isinstance (by decide +kernel) (pa_cons (pv 0) (pa_cons (pe_tyN "tuple" (by rfl) T.m_tuple (by decide +kernel)) pa_nil))))) (pw_or1 (pt_cmpR op_gt (pe_callB call_lenA (by rfl) T.m_len (by decide +kernel) (pa_cons (pv 0) pa_nil)) (pe_int) (nomark _))))) (pss_one (ps_ret (pe_bl))) (pss_nil)) (pss_cons (ps_set (i := 1) sc_l_is_heads.nd rfl (Or.inr rfl) (pe_c0 C_l_signs hr (by decide) (by rfl))) (pss_cons (ps_for PassesOwn.never rfl (pi_tup (pv 0)) (pg_name (i := 2) sc_l_is_heads.nd rfl (Or.inl rfl)) (pss_cons (ps_if (PW.pt (pw_or (pt_not (pt_val (pe_callB call_isi (by rfl) T.m_isinstance (by decide +kernel) (pa_cons (pv 2) (pa_cons (pe_tyN "tuple" (by rfl) T.m_tuple (by decide +kernel)) pa_nil))))) (pw_or (pt_cmpR (op_neD hr.units) (pe_callB call_lenA (by rfl) T.m_len (by decide +kernel) (pa_cons (pv 2) pa_nil)) (pe_int) (nomark _)) (pw_or1 (pt_not (pt_val (pe_c C_l_is_name hr (by decide) (by rfl) (pa_cons (pe_ix ix_seq (pv 2) (pe_int) (fun _ _ => rfl)) pa_nil)))))))) (pss_one (ps_ret (pe_bl))) (pss_nil)) (pss_one (ps_if (PW.pt (pw_or (pt_not (pt_val (pe_callB call_isi (by rfl) T.m_isinstance (by decide +kernel) (pa_cons (pe_ix ix_seq (pv 2) (pe_int) (fun _ _ => rfl)) (pa_cons (pe_tyN "str" (by rfl) T.m_str (by decide +kernel)) pa_nil))))) (pw_or (pt_cmpR op_gt (pe_callB call_lenA (by rfl) T.m_len (by decide +kernel) (pa_cons (pe_ix ix_seq (pv 2) (pe_int) (fun _ _ => rfl)) pa_nil)) (pe_int) (nomark _)) (pw_or1 (pt_not (pt_val (pe_callB (cr_all rfl) (by rfl) T.m_all (by decide +kernel) (pa_cons (pe_lc (own := [("_law_sign", 3)]) (g := gName 3) (by rfl) sc_l_is_heads.nd (pi_str (pe_ix ix_seq (pv 2) (pe_int) (fun _ _ => rfl))) (blkOk_by (own := [("_law_sign", 3)]) (N := n_l_is_heads) (sc := defScope s_l_is_heads) (by decide +kernel)) (fun _ _ _ _ _ => pg_name (i := 3) sc_l_is_heads.nd rfl (Or.inl rfl)) (fun _ _ _ _ _ => pts_nil) (fun _ _ _ _ _ => pe_cmpR op_in_sign (pv 3) (pv 1) rfl)) pa_nil)))))))) (pss_one (ps_ret (pe_bl))) (pss_nil))))) (pss_one (ps_ret (pe_bl)))))), ?_⟩
      have ev0 : startD n_l_is_heads.length [d] = [some d, none, none, none] := rfl
      rw [ev0]
      have tT : EvB K _ [some d, none, none, none] (!isTupleD d) := eb_not (eb_B (ee_isTuple (K := K) (ee_var (i := 0) rfl)))
      cases d with
      | tuple bs =>
        have tL : EvB K _ [some (.tuple bs), none, none, none] (decide ((60 : Int) < (bs.length : Int))) := eb_test (ee_op (K := K) (ee_len (ee_var (i := 0) rfl) rfl) (ee_int (i := 60)) rd_gt)
        have eh : headsD (.tuple bs) = (!decide ((60 : Int) < (bs.length : Int)) && bs.all headD) := by
          show (isTupD (.tuple bs) 0 60 && _) = _
          rw [tup_up, ← decide_not]
          congr 1
          (exact decide_eq_decide.mpr (by omega))
        rw [eh]
        cases hl : decide ((60 : Int) < (bs.length : Int)) with
        | true => exact rt_yes (eb_orF (eb_is tT rfl) (eb_is tL hl)) (rt_ret ee_bl)
        | false =>
          refine rt_no (eb_orF (eb_is tT rfl) (eb_is tL hl)) ?_
          refine rt_seq (go_asg (d := .str plains) (ee_call (f := mSigns) (ds := []) ea_nil rfl) (fun m hm => nomatch hm)) ?_
          show RtE K _ [some (.tuple bs), some (.str plains), none, none] [] (.bool (bs.all headD))
          refine rt_forR (a := tsHead K) (j := 2) (d := .bool (bs.all headD)) headD (ei_tup (ee_var rfl)) (fun _ => [some (.tuple bs), some (.str plains), none, none]) (fun _ => []) rfl rfl (fun k e he hd => go_weak ((head_body ((smD_tup hs).2 e (List.mem_of_getElem? he))).1 hd) rfl fun i e' z => ?_) (fun k e he hd => ?_) (fun _ m hm => nomatch hm) fun hall => ?_
          · match i, z with
            | 0, z => exact z
            | 1, z => exact z
            | 2, z => cases z
            | 3, z => cases z
            | i + 4, z => cases z
          · have hf : bs.all headD = false := by
              cases hb : bs.all headD with
              | false => rfl
              | true =>
                have := List.all_eq_true.mp hb e (List.mem_of_getElem? he)
                rw [hd] at this
                cases this
            rw [hf]
            exact (head_body ((smD_tup hs).2 e (List.mem_of_getElem? he))).2 hd
          · rw [hall]
            exact rt_ret ee_bl
      | _ => exact rt_yes (eb_orT (eb_is tT rfl)) (rt_ret ee_bl)
theorem c_l_is_part {m k : Nat} (hk : 2 ≤ k) (T : Tl mg) (F : Dfn K mg "_law_is_part" s_l_is_part ["_law_matter", "_law_deep"]) (C_l_is_heads : Cal P w K mg base 2 "_law_is_heads" (spF K mHeads) []) (C_l_is_body : Cal P w K mg base k "_law_is_body" (spF K (mLB m)) []) : Cal P w K mg base (k + 1) "_law_is_part" (spF K (mLP m)) [] := by
  refine calF (mLP m) F sc_l_is_part (fun ds d h => ?_) fun f cdv A outer s H E hr ds d h => ?_
  · obtain ⟨x, n, rfl, _⟩ := m_lenL (g := fun n => partG (bodyD n)) h
    rfl
  · obtain ⟨d, n, rfl, ho, h4, hm, rfl⟩ := m_lenL (g := fun n => partG (bodyD n)) h
    refine ⟨_, (pss_cons (ps_if (PW.pt (pw_or (pt_not (pt_val (pe_callB call_isi (by rfl) T.m_isinstance (by decide +kernel) (pa_cons (pv 0) (pa_cons (pe_tyN "tuple" (by rfl) T.m_tuple (by decide +kernel)) pa_nil))))) (pw_or1 (pt_cmpR (op_neD hr.units) (pe_callB call_lenA (by rfl) T.m_len (by decide +kernel) (pa_cons (pv 0) pa_nil)) (pe_int) (nomark _))))) (pss_one (ps_ret (pe_bl))) (pss_nil)) (pss_one (ps_ret (pe_and (pe_c C_l_is_heads hr (by omega) (by rfl) (pa_cons (pe_ix ix_seq (pv 0) (pe_int) (fun _ _ => rfl)) pa_nil)) (pe_one (pe_c C_l_is_body hr (by omega) (by rfl) (pa_cons (pe_ix ix_seq (pv 0) (pe_int) (fun _ _ => rfl)) (pa_cons (pv 1) pa_nil)))))))), ?_⟩
    have tT : EvB K _ [some d, some (.int (n : Int))] (!isTupleD d) := eb_not (eb_B (ee_isTuple (K := K) (ee_var (i := 0) rfl)))
    cases d with
    | tuple es =>
      have ln : EvB K _ [some (.tuple es), some (.int (n : Int))] (!PyData.eqv (.int (es.length : Int)) (.int 2)) := eb_test (ee_op (K := K) (ee_len (ee_var (i := 0) rfl) rfl) (ee_int (i := 2)) (rd_neD rfl rfl))
      rcases two_or es with ⟨a, b, rfl⟩ | hn
      · have oa := okB_mem ho (d := a) (by simp)
        have ob := okB_mem ho (d := b) (by simp)
        refine rt_no (eb_orF (eb_is tT rfl) (eb_is ln rfl)) (rt_ret ?_)
        exact ee_and (ee_call (ea_cons (ee_op (ee_var rfl) ee_int (rd_ix (d := a) rfl)) ea_nil) (if_pos (okB_sm oa))) fun _ => ee_call (ea_cons (ee_op (ee_var rfl) ee_int (rd_ix (d := b) rfl)) (ea_cons (ee_var rfl) ea_nil)) (if_pos ⟨ob, h4, hm⟩)
      · rw [partG_n (len_tup hn)]
        refine rt_yes (eb_orF (eb_is tT rfl) (eb_is ln ?_)) (rt_ret ee_bl)
        rw [eqv_int, decide_eq_false (show ¬ ((es.length : Int) = 2) by omega)]
        rfl
    | _ => exact rt_yes (eb_orT (eb_is tT rfl)) (rt_ret ee_bl)
theorem c_lbody_step {m k : Nat} (hk : 1 ≤ k) (T : Tl mg) (F : Dfn K mg "_law_is_body" s_l_is_body ["_law_matter", "_law_deep"]) (C_l_is_part : Cal P w K mg base k "_law_is_part" (spF K (mLP m)) []) : Cal P w K mg base (k + 1) "_law_is_body" (spF K (mLB (m + 1))) [] := by
  refine calF (mLB (m + 1)) F sc_l_is_body (fun ds d h => ?_) fun f cdv A outer s H E hr ds d h => ?_
  · obtain ⟨x, n, rfl, _⟩ := m_lenL (g := bodyD) h
    rfl
  · obtain ⟨d, n, rfl, ho, h4, hm, rfl⟩ := m_lenL (g := bodyD) h
    refine ⟨_, (pss_cons (ps_if (PW.pt (pw_or (pt_not (pt_val (pe_callB call_isi (by rfl) T.m_isinstance (by decide +kernel) (pa_cons (pv 0) (pa_cons (pe_tyN "tuple" (by rfl) T.m_tuple (by decide +kernel)) pa_nil))))) (pw_or (pt_cmpR (op_neD hr.units) (pe_callB call_lenA (by rfl) T.m_len (by decide +kernel) (pa_cons (pv 0) pa_nil)) (pe_int) (nomark _)) (pw_or (pt_not (pt_val (pe_callB call_isi (by rfl) T.m_isinstance (by decide +kernel) (pa_cons (pe_ix ix_seq (pv 0) (pe_int) (fun _ _ => rfl)) (pa_cons (pe_tyN "str" (by rfl) T.m_str (by decide +kernel)) pa_nil))))) (pw_or1 (pt_cmpR op_gt (pv 1) (pe_int) (nomark _))))))) (pss_one (ps_ret (pe_bl))) (pss_nil)) (pss_cons (ps_asg (pv 0) (pg_tup (by rfl) (pgs_cons (pg_name (i := 2) sc_l_is_body.nd rfl (Or.inl rfl)) (pgs_cons (pg_name (i := 3) sc_l_is_body.nd rfl (Or.inl rfl)) (pgs_nil))))) (pss_cons (ps_if (pt_not (pt_val (pe_callB call_isi (by rfl) T.m_isinstance (by decide +kernel) (pa_cons (pv 3) (pa_cons (pe_tyN "tuple" (by rfl) T.m_tuple (by decide +kernel)) pa_nil))))) (pss_one (ps_ret (pe_bl))) (pss_nil)) (pss_cons (ps_if (pt_cmpR (op_eqD hr.units) (pv 2) (pe_str) (nomark _)) (pss_cons (ps_setLc (i := 4) (own := [("_law_one", 5)]) (g := gName 5) (by rfl) sc_l_is_body.nd rfl rfl (by rfl) (pi_tup (pv 3)) (blkOk_by (own := [("_law_one", 5)]) (N := n_l_is_body) (sc := defScope s_l_is_body) (by decide +kernel)) (fun _ _ _ _ _ => pg_name (i := 5) sc_l_is_body.nd rfl (Or.inl rfl)) (fun _ _ _ _ _ => pts_nil) (fun _ _ _ _ _ => pe_and (pe_callB (@id (CallR _ _ (rIsi K)) call_isi) (by rfl) T.m_isinstance (by decide +kernel) (pa_cons (pv 5) (pa_cons (pe_tyN "int" (by rfl) T.m_int (by decide +kernel)) pa_nil))) (pe_and (pe_not (pe_callB (@id (CallR _ _ (rIsi K)) call_isi) (by rfl) T.m_isinstance (by decide +kernel) (pa_cons (pv 5) (pa_cons (pe_tyN "bool" (by rfl) T.m_bool (by decide +kernel)) pa_nil)))) (pe_one (pe_chain op_le op_lt (pe_int) (pv 5) (pe_int)))))) (pss_one (ps_ret (pe_and (pe_cmpR op_lt (pe_callB call_lenA (by rfl) T.m_len (by decide +kernel) (pa_cons (pv 3) pa_nil)) (pe_int) (nomark _)) (pe_one (pe_callB (cr_all rfl) (by rfl) T.m_all (by decide +kernel) (pa_cons (pv 4) pa_nil))))))) (pss_nil)) (pss_one (ps_ret (pe_and (pe_cmpR (op_eqD hr.units) (pv 2) (pe_str) (nomark _)) (pe_and (pe_chain op_lt op_lt (pe_int) (pe_callB call_lenA (by rfl) T.m_len (by decide +kernel) (pa_cons (pv 3) pa_nil)) (pe_int)) (pe_one (pe_callB (cr_all rfl) (by rfl) T.m_all (by decide +kernel) (pa_cons (pe_lc (own := [("_law_one", 5)]) (g := gName 5) (by rfl) sc_l_is_body.nd (pi_tup (pv 3)) (blkOk_by (own := [("_law_one", 5)]) (N := n_l_is_body) (sc := defScope s_l_is_body) (by decide +kernel)) (fun _ _ _ _ _ => pg_name (i := 5) sc_l_is_body.nd rfl (Or.inl rfl)) (fun _ _ _ _ _ => pts_nil) (fun _ _ _ _ _ => pe_c C_l_is_part hr (by omega) (by rfl) (pa_cons (pv 5) (pa_cons (pe_op op_add (pv 1) (pe_int)) pa_nil)))) pa_nil))))))))))), ?_⟩
    show RtE K _ [some d, some (.int (n : Int)), none, none, none, none] [] _
    have tT : EvB K _ [some d, some (.int (n : Int)), none, none, none, none] (!isTupleD d) := eb_not (eb_B (ee_isTuple (K := K) (ee_var (i := 0) rfl)))
    cases d with
    | tuple es =>
      have ln : EvB K _ [some (.tuple es), some (.int (n : Int)), none, none, none, none] (!PyData.eqv (.int (es.length : Int)) (.int 2)) := eb_test (ee_op (K := K) (ee_len (ee_var (i := 0) rfl) rfl) (ee_int (i := 2)) (rd_neD rfl rfl))
      rcases two_or es with ⟨x, y, rfl⟩ | hn
      · have ox := okB_mem ho (d := x) (by simp)
        have oy := okB_mem ho (d := y) (by simp)
        have tS : EvB K _ [some (.tuple [x, y]), some (.int (n : Int)), none, none, none, none] (!isStrD x) := eb_not (eb_B (ee_isStr (K := K) (ee_op (ee_var (i := 0) rfl) (ee_int (i := 0)) (rd_ix (d := x) rfl))))
        have t3 : EvB K _ [some (.tuple [x, y]), some (.int (n : Int)), none, none, none, none] (decide ((3 : Int) < (n : Int))) := eb_test (ee_op (K := K) (ee_var (i := 1) rfl) (ee_int (i := 3)) rd_gt)
        cases hx : isStrD x with
        | false =>
          have e0 : bodyD (4 - n) (.tuple [x, y]) = false := by
            cases 4 - n with
            | zero => rfl
            | succ q =>
              show (bif eqS x "words" then _ else (eqS x "parts" && _)) = false
              rw [eqS_o hx, eqS_o hx]
              rfl
          rw [e0]
          exact rt_yes (eb_orF (eb_is tT rfl) (eb_orF (eb_is ln rfl) (eb_orT (eb_is tS (by rw [hx]; rfl))))) (rt_ret ee_bl)
        | true =>
          cases h3 : decide ((3 : Int) < (n : Int)) with
          | true =>
            have e4 : 4 - n = 0 := by have := of_decide_eq_true h3; omega
            rw [e4]
            exact rt_yes (eb_orF (eb_is tT rfl) (eb_orF (eb_is ln rfl) (eb_orF (eb_is tS (by rw [hx]; rfl)) (eb_is t3 h3)))) (rt_ret ee_bl)
          | false =>
            have n3 : ¬ ((3 : Int) < (n : Int)) := of_decide_eq_false h3
            obtain ⟨q, hq⟩ : ∃ q, 4 - n = q + 1 := ⟨3 - n, by omega⟩
            have hq2 : q = 4 - (n + 1) := by omega
            rw [hq]
            refine rt_no (eb_orF (eb_is tT rfl) (eb_orF (eb_is ln rfl) (eb_orF (eb_is tS (by rw [hx]; rfl)) (eb_is t3 h3)))) ?_
            refine rt_seq (go_unpack (is := [2, 3]) (ee_var rfl) rfl rfl (fun m hm => nomatch hm)) ?_
            let ev : Env0' := [some (.tuple [x, y]), some (.int (n : Int)), some x, some y, none, none]
            show RtE K _ ev [] (.bool (body2 (bodyD q) x y))
            have qq : ∀ z : Str, SeqAt.shaped (.str z) = true → EvE K (tOp (rEqD K) (tVar 2) (tC (.str z))) ev (.bool (eqS x z)) := fun z hz => ee_op (ee_var rfl) ee_str (rd_eqD (okB_sh ox) hz)
            have tY : EvB K _ ev (!isTupleD y) := eb_not (eb_B (ee_isTuple (K := K) (ee_var (i := 3) rfl)))
            cases y with
            | tuple ys =>
              refine rt_no (eb_is tY rfl) ?_
              have hle : ys.length ≤ 100000 := (smD_tup (okB_sm oy)).1
              unfold body2
              cases h1 : eqS x "words" with
              | true =>
                refine rt_yes (eb_is (eb_test (qq _ sh_words)) h1) ?_
                refine rt_seq (go_asg (d := .list (ys.map fun d => .bool (isWithinD d 0 65535))) (ee_of (en_map (fun d => .bool (isWithinD d 0 65535)) (ei_tup (ee_var rfl)) hle fun d hd => ?_)) (fun m hm => nomatch hm)) (rt_ret ?_)
                · cases d with
                  | int i =>
                    refine ee_is (ee_andT (ee_is (ee_isInt (ee_var rfl)) rfl) (ee_andT (ee_is (ee_not (ee_isBool (ee_var rfl))) rfl) (ee_chain ee_int (ee_var rfl) rd_le (fun _ => ee_int) (fun _ => rd_lt)))) ?_
                    show PyData.bool (decide ((0 : Int) ≤ i) && decide (i < 65536)) = .bool (decide ((0 : Int) ≤ i) && decide (i ≤ 65535))
                    rw [show decide (i < 65536) = decide (i ≤ 65535) from decide_eq_decide.mpr (by omega)]
                  | bool i => exact ee_andT (ee_is (ee_isInt (ee_var rfl)) rfl) (ee_andF (ee_is (ee_not (ee_isBool (ee_var rfl))) rfl))
                  | _ => exact ee_andF (ee_is (ee_isInt (ee_var rfl)) rfl)
                · have ea : EvE K _ (ev.set 4 (some (.list (ys.map fun d => PyData.bool (isWithinD d 0 65535))))) (.bool ((ys.map fun d => isWithinD d 0 65535).all id)) := ee_all (K := K) (ee_is (ee_var (i := 4) rfl) (by rw [List.map_map]; rfl))
                  refine ee_is (ee_and (ee_op (ee_len (ee_var rfl) rfl) ee_int rd_lt) fun _ => ea) ?_
                  rw [List.all_map]
                  show PyData.bool _ = .bool (isTupD (.tuple ys) 0 300 && _)
                  rw [tup_up]
                  rfl
              | false =>
                refine rt_no (eb_is (eb_test (qq _ sh_words)) h1) (rt_ret ?_)
                refine ee_is (ee_and (qq _ sh_parts) fun _ => ee_and (ee_chain (ee_int (i := 0)) (ee_len (ee_var rfl) rfl) rd_lt (fun _ => ee_int (i := 5)) (fun _ => rd_lt)) fun _ => ee_allc (g := partG (bodyD q)) (en_map _ (ei_tup (ee_var rfl)) hle fun d hd => ee_call (ds := [d, .int ((n + 1 : Nat) : Int)]) (ea_cons (ee_var rfl) (ea_cons (ee_op (ee_var rfl) ee_int rd_add) ea_nil)) ?_)) ?_
                · rw [hq2]
                  exact if_pos ⟨okB_mem oy hd, by omega, by omega⟩
                · show PyData.bool _ = .bool (eqS x "parts" && ((decide ((1 : Int) ≤ (ys.length : Int)) && decide ((ys.length : Int) ≤ 4)) && _))
                  rw [show (decide ((1 : Int) ≤ (ys.length : Int)) && decide ((ys.length : Int) ≤ 4)) = _ from le_lt 0 _ 4]
                  rfl
            | _ =>
              have e0 : ∀ u : Dt, isTupleD u = false → body2 (bodyD q) x u = false := fun u hu => by
                unfold body2
                have w0 : writD u = false := by cases u <;> first | rfl | exact Bool.noConfusion (show true = false from hu)
                have p0 : partsG (bodyD q) u = false := by cases u <;> first | rfl | exact Bool.noConfusion (show true = false from hu)
                rw [w0, p0, Bool.and_false]
                cases eqS x "words" <;> rfl
              rw [e0 _ rfl]
              exact rt_yes (eb_is tY rfl) (rt_ret ee_bl)
      · rw [bodyD_n (len_tup hn)]
        refine rt_yes (eb_orF (eb_is tT rfl) (eb_orT (eb_is ln ?_))) (rt_ret ee_bl)
        rw [eqv_int, decide_eq_false (show ¬ ((es.length : Int) = 2) by omega)]
        rfl
    | _ =>
      rw [bodyD_n rfl]
      exact rt_yes (eb_orT (eb_is tT rfl)) (rt_ret ee_bl)
theorem c_lbodies (T : Tl mg) (F : Dfn K mg "_law_is_body" s_l_is_body ["_law_matter", "_law_deep"]) (F1 : Dfn K mg "_law_is_part" s_l_is_part ["_law_matter", "_law_deep"]) (C_l_is_heads : Cal P w K mg base 2 "_law_is_heads" (spF K mHeads) []) : ∀ m, Cal P w K mg base (2 + 2 * m) "_law_is_body" (spF K (mLB m)) []
  | 0 => cal_none F fun vs H Q E ⟨G, ds, d, _, _, h, _⟩ => by
    obtain ⟨_, _, _, _, _, h, _⟩ := m_lenL (g := bodyD) h
    exact Nat.not_lt_zero _ h
  | m + 1 => c_lbody_step (k := 2 + 2 * m + 1) (by omega) T F (c_l_is_part (by omega) T F1 C_l_is_heads (c_lbodies T F F1 C_l_is_heads m))
structure Tq (mg : Str → Option Value) : Prop where
  m_repr : mg "repr" = none
def mTold : List Dt → Option Dt
  | [d] => if gdB d = true then some (.bool true) else none
  | _ => none
theorem gd_bools (a b : Bool) : gdB (.list [.bool a, .bool b]) = true := by cases a <;> cases b <;> decide +kernel
theorem c_l_told_right (T : Tq mg) (F : Dfn K mg "_law_told_right" s_l_told_right ["_law_matter"]) (C_is_letter : Cal P w K mg base 17 "is_letter" (spF K mLetter) []) (C_is_body : Cal P w K mg base 16 "is_body" (spF K mBody) []) (C_l_is_part : Cal P w K mg base 13 "_law_is_part" (spF K (mLP 5)) []) (C_l_is_body : Cal P w K mg base 12 "_law_is_body" (spF K (mLB 5)) []) : CalG P w K mg base 18 "_law_told_right" (spF K mTold) := by
  obtain ⟨f, fd, F, hm, b⟩ := F.ex
  refine ⟨f, fd, ["_law_matter"], FnG.of F sc_l_told_right (fun vs H Q E h => ?_) (fun cdv A outer s H vs Q E hcl hr h => ?_), hm, F.kp, b⟩
  · obtain ⟨G, ds, d, gh, hd, hf, _⟩ := h
    rw [dpsLen hd]
    match ds, hf with
    | [_], _ => rfl
  · obtain ⟨G, ds, d, gh, hd, hf, q⟩ := h
    match ds, hf, hd with
    | [x], hf, hd =>
      obtain ⟨hg, rfl⟩ := if_some (p := gdB x = true) hf
      obtain ⟨ho, _⟩ := gdB_ok hg
      refine ⟨_, (pss_cons (ps_par (i := 1) (j := 2) (by rfl) sc_l_told_right.nd rfl rfl (by decide) rfl rfl (pa_cons (pe_callB (call_repr hcl hr) (by rfl) T.m_repr (by decide +kernel) (pa_cons (pv 0) pa_nil)) (pa_cons (pe_lst (pa_cons (pe_c C_is_letter hr (by decide) (by rfl) (pa_cons (pv 0) pa_nil)) (pa_cons (pe_c C_is_body hr (by decide) (by rfl) (pa_cons (pv 0) pa_nil)) pa_nil))) pa_nil)) (by rfl)) (pss_cons (ps_set (i := 3) sc_l_told_right.nd rfl (Or.inl rfl) (pe_lst (pa_cons (pe_c C_l_is_part hr (by decide) (by rfl) (pa_cons (pv 0) (pa_cons (pe_int) pa_nil))) (pa_cons (pe_c C_l_is_body hr (by decide) (by rfl) (pa_cons (pv 0) (pa_cons (pe_int) pa_nil))) pa_nil)))) (pss_one (ps_ret (pe_and (pe_cmpR op_eq (pe_callB (call_repr hcl hr) (by rfl) T.m_repr (by decide +kernel) (pa_cons (pv 2) pa_nil)) (pe_callB (call_repr hcl hr) (by rfl) T.m_repr (by decide +kernel) (pa_cons (pv 3) pa_nil)) (nomark _)) (pe_one (pe_cmpR op_eq (pe_callB (call_repr hcl hr) (by rfl) T.m_repr (by decide +kernel) (pa_cons (pv 0) pa_nil)) (pv 1) (nomark _)))))))), ?_⟩
      refine (?hrt : RtE K _ (startD n_l_told_right.length [x]) [] (.bool true)) H G _ G H _ (Gw.refl gh) ⟨gh, sdStart hd, [], .nil⟩ q
      refine rt_seq (go_par (ea_cons (ee_repr (ee_var rfl) hg) (ea_cons (ee_lst (ea_cons (ee_call (ea_cons (ee_var rfl) ea_nil) (if_pos ho)) (ea_cons (ee_call (ea_cons (ee_var rfl) ea_nil) (if_pos ho)) ea_nil)) (by show 2 ≤ 100000; decide)) ea_nil)) (fun m hm => nomatch hm) (fun m hm => nomatch hm)) ?_
      refine rt_seq (go_asg (d := .list [.bool (partG (bodyD 3) x), .bool (bodyD 3 x)]) (ee_lst (ea_cons (ee_call (ds := [x, .int ((1 : Nat) : Int)]) (ea_cons (ee_var rfl) (ea_cons ee_int ea_nil)) (if_pos ⟨ho, by decide, by decide⟩)) (ea_cons (ee_call (ds := [x, .int ((1 : Nat) : Int)]) (ea_cons (ee_var rfl) (ea_cons ee_int ea_nil)) (if_pos ⟨ho, by decide, by decide⟩)) ea_nil)) (by show 2 ≤ 100000; decide)) (fun m hm => nomatch hm)) ?_
      have gb := gd_bools (partG (bodyD 3) x) (bodyD 3 x)
      exact rt_ret (ee_andT (ee_op (ee_repr (ee_var rfl) gb) (ee_repr (ee_var rfl) gb) rd_eqS) (ee_op (ee_repr (ee_var rfl) hg) (ee_var rfl) rd_eqS))
end
end K04

namespace K04
open PySem PySem.Spec PyProof.Rows L2 LH C8
abbrev s_l_bounds_right : Stmt := topS 44
abbrev n_l_bounds_right : List Str := ["_law_bare", "_law_deep", "_law_turn", "_law_some", "_law_dues", "_law_one", "_law_matter"]
theorem sc_l_bounds_right : FnScope n_l_bounds_right [] (defScope s_l_bounds_right) := ⟨rfl, rfl, rfl, by decide +kernel, rfl, by decide +kernel, by decide +kernel⟩
def bare : Dt := .tuple [.str "words", .tuple []]
def nextB (x : Dt) : Dt := .tuple [.str "parts", .tuple [.tuple [.tuple [], x]]]
def deepB : Nat → List Dt
  | 0 => [bare]
  | n + 1 => deepB n ++ [nextB ((deepB n).getLastD .none)]
def abT : Dt := .tuple [.str "a", .str "b"]
def someA : List Dt := [.tuple [.tuple (List.replicate 60 [abT]).flatten, bare], .tuple [.tuple (List.replicate 61 [abT]).flatten, bare], .tuple [.tuple [], .tuple [.str "words", .tuple (List.replicate 300 [PyData.int 1]).flatten]]]
def someB : List Dt := [.tuple [.tuple [], .tuple [.str "words", .tuple (List.replicate 301 [PyData.int 1]).flatten]]]
def emB : Dt := .tuple [.tuple [], bare]
def someC : List Dt := [.tuple [.tuple [], .tuple [.str "parts", .tuple (List.replicate 4 [emB]).flatten]], .tuple [.tuple [], .tuple [.str "parts", .tuple (List.replicate 5 [emB]).flatten]]]
theorem let_dues : ((someA ++ someB ++ someC).map fun d => partG (bodyD 3) d) = [true, false, true, false, true, false] := by decide +kernel
theorem ok_some : ∀ d ∈ someA ++ someB ++ someC, okB d = true := by
  have q : ((someA ++ someB ++ someC).all fun d => okB d) = true := by decide +kernel
  exact fun d hd => List.all_eq_true.mp q d hd
def sndOf : Dt → Dt
  | .tuple [_, y] => y
  | _ => .none
def isTwo : Dt → Bool
  | .tuple [_, _] => true
  | _ => false
theorem two_some : ∀ d ∈ (someA ++ someB ++ someC).drop 2, isTwo d = true := by
  have q : (((someA ++ someB ++ someC).drop 2).all isTwo) = true := by decide +kernel
  exact fun d hd => List.all_eq_true.mp q d hd
theorem bod_dues : (((someA ++ someB ++ someC).drop 2).map fun d => bodyD 3 (sndOf d)) = [true, false, true, false] := by decide +kernel
theorem deep_dues : ((deepB 4).map fun d => bodyD 3 d) = [true, true, true, false, false] := by decide +kernel
theorem deep_let : ((deepB 4).map fun d => partG (bodyD 3) (.tuple [.tuple [], d])) = [true, true, true, false, false] := by decide +kernel
theorem ok_deep : ∀ d ∈ deepB 4, okB d = true ∧ okB (.tuple [.tuple [], d]) = true := by
  have q : ((deepB 4).all fun d => okB d && okB (.tuple [.tuple [], d])) = true := by decide +kernel
  exact fun d hd => Bool.and_eq_true_iff.mp (List.all_eq_true.mp q d hd)
def mBR : List Dt → Option Dt
  | [] => some (.bool true)
  | _ => none
structure Tb (mg : Str → Option Value) : Prop where
  m_range : mg "range" = none
section
variable {w : World} {P : Program} {K : PySem.W.Frag} {mg : Str → Option Value} {base : Heap}
theorem atI_last' {xs : List V} {v : V} : atI (xs ++ [v]) (-1) = some v := by
  unfold atI ixN
  rw [if_neg (by decide)]
  have h : -((-1 : Int)) = 1 := rfl
  simp only [List.length_append, List.length_cons, List.length_nil]
  rw [if_pos (by omega), show ((-1 : Int) + ((xs.length + (0 + 1) : Nat) : Int)).toNat = xs.length by omega]
  simp
theorem go_appL {env : Env0'} {M : MuL} {i : Nat} {ds : List Dt} {x : Dt} (hl : ds.length < 1000) : GoE K (tDrop (tBM K "list" rAppend (tVar i) (tCons (tTup (tCons (tC (.str "parts")) (tCons (tTup (tCons (tTup (tCons (tTup tNil) (tCons (tOp (rIx K) (tVar i) (tUn (rU fun i => .int (-i)) (tC (.int 1)))) tNil))) tNil)) tNil))) tNil))) env ((i, ds ++ [x]) :: M) env ((i, ds ++ [x] ++ [nextB x]) :: M) := fun H0 G0 σ G H D w f q => by
  obtain ⟨ps, m⟩ := f.mu
  cases m with
  | @cons _ p xs _ _ ps a b c e g n m =>
    refine ⟨.ref p, a, .inl ⟨rfl, xs, .inl (.inl e)⟩, ?_⟩
    obtain ⟨ys, v, rfl, dv⟩ : ∃ ys v, xs = ys ++ [v] ∧ Dq K G v x := by
      have hlen := dpsLen g
      have hx : (ds ++ [x])[ds.length]? = some x := by simp
      obtain ⟨v, hv, dv⟩ := dpsGet g hx
      refine ⟨xs.take ds.length, v, ?_, dv⟩
      rw [List.length_append] at hlen
      have h1 : xs.take (ds.length + 1) = xs.take ds.length ++ [v] := take_next' hv
      rw [← h1, List.take_of_length_le (by rw [hlen]; exact Nat.le_refl _)]
    refine ⟨Nat.zero_le _, fun p1 n1 => ?_⟩
    have w1 := Gw.new (o := HO.tup []) f.gh n1
    have e1 := w1.hh _ _ e
    refine ⟨.ref p, a, 1, rfl, .inl ⟨p, _, -1, v, rfl, rfl, .inl (.inl e1), atI_last', ?_⟩⟩
    refine ⟨(by show 2 ≤ sizeLine; decide), fun p2 n2 => ?_⟩
    have d1 : Dq K (upd G p1 (.tup [])) (.ref p1) (.tuple []) := .tup (.inl (.inl upd_same)) .nil
    have w2 := Gw.new (o := HO.tup [.ref p1, v]) w1.gh n2
    refine ⟨(by show 1 ≤ sizeLine; decide), fun p3 n3 => ?_⟩
    have d2 : Dq K (upd (upd G p1 (.tup [])) p2 (.tup [.ref p1, v])) (.ref p2) (.tuple [.tuple [], x]) := .tup (.inl (.inl upd_same)) (.cons (dpM w2.gg d1) (.cons (dpM (w1.trans w2).gg dv) .nil))
    have w3 := Gw.new (o := HO.tup [.ref p2]) w2.gh n3
    refine ⟨(by show 2 ≤ sizeLine; decide), fun p4 n4 => ?_⟩
    have d3 : Dq K (upd (upd (upd G p1 (.tup [])) p2 (.tup [.ref p1, v])) p3 (.tup [.ref p2])) (.ref p3) (.tuple [.tuple [.tuple [], x]]) := .tup (.inl (.inl upd_same)) (.cons (dpM w3.gg d2) .nil)
    have w4 := Gw.new (o := HO.tup [.str "parts", .ref p3]) w3.gh n4
    have d4 : Dq K (upd (upd (upd (upd G p1 (.tup [])) p2 (.tup [.ref p1, v])) p3 (.tup [.ref p2])) p4 (.tup [.str "parts", .ref p3])) (.ref p4) (nextB x) := .tup (.inl (.inl upd_same)) (.cons (.str _) (.cons (dpM w4.gg d3) .nil))
    have w' := ((w1.trans w2).trans w3).trans w4
    have hp := w'.hh _ _ e
    have ng := w'.keeps e c
    have w5 := (w.trans w').mut (o := HO.lst (ys ++ [v] ++ [.ref p4])) b ng
    refine ⟨p, ys ++ [v], .ref p4, rfl, rfl, hp, ?_, q σ _ _ w'.gg w5 ⟨w5.gh, f.sd.mono w'.gg, p :: ps, .cons a b ng upd_same (dpsApp (dpsM w'.gg g) (.cons d4 .nil)) n ((m.grow w').other n)⟩⟩
    rw [dpsLen g, List.length_append]
    exact Nat.lt_of_lt_of_le (show ds.length + 1 < 100000 by omega) (by decide)
theorem deep_split : ∀ n : Nat, ∃ ds x, deepB n = ds ++ [x] ∧ ds.length = n ∧ deepB (n + 1) = ds ++ [x] ++ [nextB x]
  | 0 => ⟨[], bare, rfl, rfl, rfl⟩
  | n + 1 => by
    obtain ⟨ds, x, h1, h2, h3⟩ := deep_split n
    refine ⟨ds ++ [x], nextB x, h3, by rw [List.length_append, h2]; rfl, ?_⟩
    show deepB (n + 1) ++ [nextB ((deepB (n + 1)).getLastD .none)] = _
    rw [h3]
    congr 3
    simp
theorem bools_map {L : List Dt} {g : Dt → Bool} {bs : List Bool} (h : L.map g = bs) : (L.map fun d => PyData.bool (g d)) = bs.map PyData.bool := by
  rw [← h, List.map_map]
  rfl
theorem c_l_bounds_right (T : Tb mg) (F : Dfn K mg "_law_bounds_right" s_l_bounds_right []) (C_is_letter : Cal P w K mg base 17 "is_letter" (spF K mLetter) []) (C_is_body : Cal P w K mg base 16 "is_body" (spF K mBody) []) : Cal P w K mg base 18 "_law_bounds_right" (spF K mBR) [] := by
  refine calF mBR F sc_l_bounds_right (fun ds d h => ?_) fun f cdv A outer s H E hr ds d h => ?_
  · match ds, h with
    | [], _ => rfl
  · match ds, h with
    | [], h =>
      cases h
      refine ⟨_, (pss_cons (ps_set (i := 0) sc_l_bounds_right.nd rfl (Or.inl rfl) (pe_tup (pa_cons (pe_str) (pa_cons (pe_tup (pa_nil)) pa_nil)))) (pss_cons (ps_set (i := 1) sc_l_bounds_right.nd rfl (Or.inl rfl) (pe_lst (pa_cons (pv 0) pa_nil))) (pss_cons (ps_for PassesOwn.never rfl (pi_range1 (by rfl) T.m_range (pa_cons (pe_int) pa_nil)) (pg_name (i := 2) sc_l_bounds_right.nd rfl (Or.inl rfl)) (pss_one (ps_expr (pe_bm PySem.F.plainAttrs_list PySem.F.slot_list_append PySem.F.type_list_append mt_append (pv 1) (pa_cons (pe_tup (pa_cons (pe_str) (pa_cons (pe_tup (pa_cons (pe_tup (pa_cons (pe_tup (pa_nil)) (pa_cons (pe_ix ix_seq (pv 1) (pe_un un_neg (pe_int)) (fun _ _ => rfl)) pa_nil))) pa_nil)) pa_nil))) pa_nil))))) (pss_cons (ps_set (i := 3) sc_l_bounds_right.nd rfl (Or.inl rfl) (pe_lst (pa_cons (pe_tup (pa_cons (pe_op op_repT (pe_tup (pa_cons (pe_tup (pa_cons (pe_str) (pa_cons (pe_str) pa_nil))) pa_nil)) (pe_int)) (pa_cons (pv 0) pa_nil))) (pa_cons (pe_tup (pa_cons (pe_op op_repT (pe_tup (pa_cons (pe_tup (pa_cons (pe_str) (pa_cons (pe_str) pa_nil))) pa_nil)) (pe_int)) (pa_cons (pv 0) pa_nil))) (pa_cons (pe_tup (pa_cons (pe_tup (pa_nil)) (pa_cons (pe_tup (pa_cons (pe_str) (pa_cons (pe_op op_repT (pe_tup (pa_cons (pe_int) pa_nil)) (pe_int)) pa_nil))) pa_nil))) pa_nil))))) (pss_cons (ps_set (i := 3) sc_l_bounds_right.nd rfl (Or.inl rfl) (pe_op op_catL (pv 3) (pe_lst (pa_cons (pe_tup (pa_cons (pe_tup (pa_nil)) (pa_cons (pe_tup (pa_cons (pe_str) (pa_cons (pe_op op_repT (pe_tup (pa_cons (pe_int) pa_nil)) (pe_int)) pa_nil))) pa_nil))) pa_nil)))) (pss_cons (ps_set (i := 3) sc_l_bounds_right.nd rfl (Or.inl rfl) (pe_op op_catL (pv 3) (pe_lst (pa_cons (pe_tup (pa_cons (pe_tup (pa_nil)) (pa_cons (pe_tup (pa_cons (pe_str) (pa_cons (pe_op op_repT (pe_tup (pa_cons (pe_tup (pa_cons (pe_tup (pa_nil)) (pa_cons (pv 0) pa_nil))) pa_nil)) (pe_int)) pa_nil))) pa_nil))) (pa_cons (pe_tup (pa_cons (pe_tup (pa_nil)) (pa_cons (pe_tup (pa_cons (pe_str) (pa_cons (pe_op op_repT (pe_tup (pa_cons (pe_tup (pa_cons (pe_tup (pa_nil)) (pa_cons (pv 0) pa_nil))) pa_nil)) (pe_int)) pa_nil))) pa_nil))) pa_nil))))) (pss_cons (ps_set (i := 4) sc_l_bounds_right.nd rfl (Or.inl rfl) (pe_lst (pa_cons (pe_bl) (pa_cons (pe_bl) (pa_cons (pe_bl) (pa_cons (pe_bl) (pa_cons (pe_bl) (pa_cons (pe_bl) pa_nil)))))))) (pss_cons (ps_if (PW.pt (pw_or (pt_cmpR (op_neD hr.units) (pe_lc (own := [("_law_matter", 6)]) (g := gName 6) (by rfl) sc_l_bounds_right.nd (pi_list (pv 3)) (blkOk_by (own := [("_law_matter", 6)]) (N := n_l_bounds_right) (sc := defScope s_l_bounds_right) (by decide +kernel)) (fun _ _ _ _ _ => pg_name (i := 6) sc_l_bounds_right.nd rfl (Or.inl rfl)) (fun _ _ _ _ _ => pts_nil) (fun _ _ _ _ _ => pe_c C_is_letter hr (by decide) (by rfl) (pa_cons (pv 6) pa_nil))) (pv 4) (nomark _)) (pw_or1 (pt_cmpR (op_neD hr.units) (pe_lc (own := [("_law_matter", 6)]) (g := gName 6) (by rfl) sc_l_bounds_right.nd (pi_list (pe_slice sl_list (pv 3) (po_some (pe_int)) po_none)) (blkOk_by (own := [("_law_matter", 6)]) (N := n_l_bounds_right) (sc := defScope s_l_bounds_right) (by decide +kernel)) (fun _ _ _ _ _ => pg_name (i := 6) sc_l_bounds_right.nd rfl (Or.inl rfl)) (fun _ _ _ _ _ => pts_nil) (fun _ _ _ _ _ => pe_c C_is_body hr (by decide) (by rfl) (pa_cons (pe_ix (@id (IxR _ (rIx K)) ix_seq) (pv 6) (pe_int) (fun _ _ => rfl)) pa_nil))) (pe_slice sl_list (pv 4) (po_some (pe_int)) po_none) (nomark _))))) (pss_one (ps_ret (pe_bl))) (pss_nil)) (pss_one (ps_ret (pe_chain (op_eqD hr.units) (op_eqD hr.units) (pe_lc (own := [("_law_one", 5)]) (g := gName 5) (by rfl) sc_l_bounds_right.nd (pi_list (pv 1)) (blkOk_by (own := [("_law_one", 5)]) (N := n_l_bounds_right) (sc := defScope s_l_bounds_right) (by decide +kernel)) (fun _ _ _ _ _ => pg_name (i := 5) sc_l_bounds_right.nd rfl (Or.inl rfl)) (fun _ _ _ _ _ => pts_nil) (fun _ _ _ _ _ => pe_c C_is_body hr (by decide) (by rfl) (pa_cons (pv 5) pa_nil))) (pe_lst (pa_cons (pe_bl) (pa_cons (pe_bl) (pa_cons (pe_bl) (pa_cons (pe_bl) (pa_cons (pe_bl) pa_nil)))))) (pe_lc (own := [("_law_one", 5)]) (g := gName 5) (by rfl) sc_l_bounds_right.nd (pi_list (pv 1)) (blkOk_by (own := [("_law_one", 5)]) (N := n_l_bounds_right) (sc := defScope s_l_bounds_right) (by decide +kernel)) (fun _ _ _ _ _ => pg_name (i := 5) sc_l_bounds_right.nd rfl (Or.inl rfl)) (fun _ _ _ _ _ => pts_nil) (fun _ _ _ _ _ => pe_c C_is_letter hr (by decide) (by rfl) (pa_cons (pe_tup (pa_cons (pe_tup (pa_nil)) (pa_cons (pv 5) pa_nil))) pa_nil)))))))))))))), ?_⟩
      refine rt_seq (go_asg (d := bare) (ee_tup (ea_cons ee_str (ea_cons (ee_tup ea_nil (by decide)) ea_nil)) (by show 2 ≤ 100000; decide)) (fun m hm => nomatch hm)) ?_
      let ev0 : Env0' := [some bare, none, none, none, none, none, none]
      show RtE K _ ev0 [] (.bool true)
      refine rt_seq (go_asgN (ds := [bare]) (en_lst (ea_cons (ee_var rfl) ea_nil) (by show 1 ≤ 100000; decide)) (fun m hm => nomatch hm) (by decide)) ?_
      show RtE K _ ev0 [(1, deepB 0)] (.bool true)
      refine rt_seq (go_for (ds := (List.range 4).map fun (i : Nat) => PyData.int (i : Int)) (j := 2) (ei_range1 (n := 4) (ea_cons ee_int ea_nil) (by decide)) (fun _ => ev0) (fun k => [(1, deepB k)]) rfl rfl (fun k e he => ?_) (fun k m hm => ?_)) ?_
      · obtain ⟨ds, x, h1, h2, h3⟩ := deep_split k
        rw [h1, h3]
        have kl := (List.getElem?_eq_some_iff.mp he).1
        rw [List.length_map, List.length_range] at kl
        exact go_weak (go_appL (by omega)) rfl fun i e' z => by
          match i, z with
          | 0, z => exact z
          | 1, z => cases z
          | 2, z => cases z
          | 3, z => cases z
          | 4, z => cases z
          | 5, z => cases z
          | 6, z => cases z
          | i + 7, z => cases z
      · (rw [List.mem_singleton.mp hm])
        show (1 : Nat) ≠ 2
        decide
      show RtE K _ ev0 [(1, deepB 4)] (.bool true)
      refine rt_freeze ?_
      have abR : ∀ (n : Nat) (ev : Env0'), Nat.ble 2 n = true → Nat.ble n 1000 = true → EvE K (tOp (rRepT K) (tTup (tCons (tTup (tCons (tC (.str "a")) (tCons (tC (.str "b")) tNil))) tNil)) (tC (.int (n : Int)))) ev (.tuple (List.replicate n [abT]).flatten) := fun n ev h1 h2 => ee_op (ee_tup (ea_cons (ee_tup (ea_cons ee_str (ea_cons ee_str ea_nil)) (by show 2 ≤ 100000; decide)) ea_nil) (by show 1 ≤ 100000; decide)) (ee_int (i := (n : Int))) (rd_repT h1 h2 rfl rfl)
      have onR : ∀ (n : Nat) (ev : Env0'), Nat.ble 2 n = true → Nat.ble n 1000 = true → EvE K (tTup (tCons (tTup tNil) (tCons (tTup (tCons (tC (.str "words")) (tCons (tOp (rRepT K) (tTup (tCons (tC (.int 1)) tNil)) (tC (.int (n : Int)))) tNil))) tNil))) ev (.tuple [.tuple [], .tuple [.str "words", .tuple (List.replicate n [PyData.int 1]).flatten]]) := fun n ev h1 h2 => ee_tup (ea_cons (ee_tup ea_nil (by decide)) (ea_cons (ee_tup (ea_cons ee_str (ea_cons (ee_op (ee_tup (ea_cons ee_int ea_nil) (by show 1 ≤ 100000; decide)) (ee_int (i := (n : Int))) (rd_repT h1 h2 rfl rfl)) ea_nil)) (by show 2 ≤ 100000; decide)) ea_nil)) (by show 2 ≤ 100000; decide)
      have emR : ∀ (n : Nat) (ev : Env0'), ev[0]? = some (some bare) → Nat.ble 2 n = true → Nat.ble n 1000 = true → EvE K (tTup (tCons (tTup tNil) (tCons (tTup (tCons (tC (.str "parts")) (tCons (tOp (rRepT K) (tTup (tCons (tTup (tCons (tTup tNil) (tCons (tVar 0) tNil))) tNil)) (tC (.int (n : Int)))) tNil))) tNil))) ev (.tuple [.tuple [], .tuple [.str "parts", .tuple (List.replicate n [emB]).flatten]]) := fun n ev h0 h1 h2 => ee_tup (ea_cons (ee_tup ea_nil (by decide)) (ea_cons (ee_tup (ea_cons ee_str (ea_cons (ee_op (ee_tup (ea_cons (ee_tup (ea_cons (ee_tup ea_nil (by decide)) (ea_cons (ee_var h0) ea_nil)) (by show 2 ≤ 100000; decide)) ea_nil) (by show 1 ≤ 100000; decide)) (ee_int (i := (n : Int))) (rd_repT h1 h2 rfl rfl)) ea_nil)) (by show 2 ≤ 100000; decide)) ea_nil)) (by show 2 ≤ 100000; decide)
      let ev1 : Env0' := [some bare, some (.list (deepB 4)), none, none, none, none, none]
      show RtE K _ ev1 [] (.bool true)
      refine rt_seq (go_asg (d := .list someA) (ee_lst (ea_cons (ee_tup (ea_cons (abR 60 _ rfl rfl) (ea_cons (ee_var rfl) ea_nil)) (by show 2 ≤ 100000; decide)) (ea_cons (ee_tup (ea_cons (abR 61 _ rfl rfl) (ea_cons (ee_var rfl) ea_nil)) (by show 2 ≤ 100000; decide)) (ea_cons (onR 300 _ rfl rfl) ea_nil))) (by show 3 ≤ 100000; decide)) (fun m hm => nomatch hm)) ?_
      refine rt_seq (go_asg (d := .list (someA ++ someB)) (ee_of (en_cat (ee_var rfl) (ee_lst (ea_cons (onR 301 _ rfl rfl) ea_nil) (by show 1 ≤ 100000; decide)) (by show 3 + 1 ≤ 100000; decide))) (fun m hm => nomatch hm)) ?_
      refine rt_seq (go_asg (d := .list (someA ++ someB ++ someC)) (ee_of (en_cat (ee_var rfl) (ee_lst (ea_cons (emR 4 _ rfl rfl rfl) (ea_cons (emR 5 _ rfl rfl rfl) ea_nil)) (by show 2 ≤ 100000; decide)) (by show 4 + 2 ≤ 100000; decide))) (fun m hm => nomatch hm)) ?_
      refine rt_seq (go_asg (d := .list [.bool true, .bool false, .bool true, .bool false, .bool true, .bool false]) (ee_lst (ea_cons ee_bl (ea_cons ee_bl (ea_cons ee_bl (ea_cons ee_bl (ea_cons ee_bl (ea_cons ee_bl ea_nil)))))) (by show 6 ≤ 100000; decide)) (fun m hm => nomatch hm)) ?_
      let ev2 : Env0' := [some bare, some (.list (deepB 4)), none, some (.list (someA ++ someB ++ someC)), some (.list [.bool true, .bool false, .bool true, .bool false, .bool true, .bool false]), none, none]
      show RtE K _ ev2 [] (.bool true)
      have L6 : (someA ++ someB ++ someC).length = 6 := by decide +kernel
      have ok6 := ok_some
      have du6 := let_dues
      have tw6 := two_some
      have bo6 := bod_dues
      have c1 : EvE K _ ev2 (.list ([true, false, true, false, true, false].map PyData.bool)) := ee_is (ee_of (en_map (K := K) (j := 6) (fun d => .bool (partG (bodyD 3) d)) (ei_list (ee_var (i := 3) rfl)) (by rw [L6]; decide) fun d hd => ee_call (f := mLetter) (E := C8.E0) (ea_cons (ee_var (i := 6) rfl) ea_nil) (if_pos (ok6 d hd)))) (congrArg PyData.list (bools_map du6))
      have sl : EvE K (tSl (rSlL K) (tVar 3) (tPart (tC (.int 2))) tNoPart) ev2 (.list ((someA ++ someB ++ someC).drop 2)) := ee_is (ee_of (en_slL (ee_var rfl) (eo_some ee_int) eo_none)) (by
        have e : LH.cutD (someA ++ someB ++ someC) (some ((2 : Nat) : Int)) none = (someA ++ someB ++ someC).drop 2 := cut_from 2
        exact congrArg PyData.list e)
      have c2 : EvE K _ ev2 (.list ([true, false, true, false].map PyData.bool)) := ee_is (ee_of (en_map (K := K) (j := 6) (fun d => .bool (bodyD 3 (sndOf d))) (ei_list sl) (by rw [List.length_drop, L6]; decide) fun d hd => by
        have h2 := tw6 d hd
        have ho := ok6 d (List.mem_of_mem_drop hd)
        match d, h2, ho with
        | .tuple [a, b], _, ho => exact ee_call (f := mBody) (E := C8.E0) (ea_cons (ee_op (ee_var (i := 6) rfl) (ee_int (i := 1)) (rd_ix (d := b) rfl)) ea_nil) (if_pos (okB_mem ho (by simp))))) (congrArg PyData.list (bools_map bo6))
      refine rt_no (eb_orF (eb_is (eb_test (ee_op c1 (ee_var rfl) (rd_neD (by decide +kernel) (by decide +kernel)))) (by decide +kernel)) (eb_is (eb_test (ee_op c2 (ee_is (ee_of (en_slL (ee_var rfl) (eo_some ee_int) eo_none)) (show _ = PyData.list [.bool true, .bool false, .bool true, .bool false] from rfl)) (rd_neD (by decide +kernel) (by decide +kernel)))) (by decide +kernel))) (rt_ret ?_)
      have d5 : (deepB 4).length = 5 := by decide +kernel
      have okd := ok_deep
      have c3 : EvE K _ ev2 (.list ([true, true, true, false, false].map PyData.bool)) := ee_is (ee_of (en_map (K := K) (j := 5) (fun d => .bool (bodyD 3 d)) (ei_list (ee_var (i := 1) rfl)) (by rw [d5]; decide) fun d hd => ee_call (f := mBody) (E := C8.E0) (ea_cons (ee_var (i := 5) rfl) ea_nil) (if_pos (okd d hd).1))) (congrArg PyData.list (bools_map deep_dues))
      have c4 : EvE K _ ev2 (.list ([true, true, true, false, false].map PyData.bool)) := ee_is (ee_of (en_map (K := K) (j := 5) (fun d => .bool (partG (bodyD 3) (.tuple [.tuple [], d]))) (ei_list (ee_var (i := 1) rfl)) (by rw [d5]; decide) fun d hd => ee_call (f := mLetter) (E := C8.E0) (ea_cons (ee_tup (ea_cons (ee_tup ea_nil (by decide)) (ea_cons (ee_var (i := 5) rfl) ea_nil)) (by show 2 ≤ 100000; decide)) ea_nil) (if_pos (okd d hd).2))) (congrArg PyData.list (bools_map deep_let))
      exact ee_is (ee_chain c3 (ee_lst (ea_cons ee_bl (ea_cons ee_bl (ea_cons ee_bl (ea_cons ee_bl (ea_cons ee_bl ea_nil))))) (by show 5 ≤ 100000; decide)) (rd_eqD (by decide +kernel) (by decide +kernel)) (fun _ => c4) (fun _ => rd_eqD (by decide +kernel) (by decide +kernel))) (congrArg PyData.bool (by decide +kernel))
end
end K04

namespace LH
open PySem PySem.Spec L2 PyProof.Rows
/-! ### a tuple so many times, none and once too -/
theorem tuple_mul0 (l : Addr) (items : Array Value) (n : Nat) (dd : Option Addr) (sl : Array (Option Value)) (u : Tok) (hi : (items.isEmpty || (0 : Int) == 1) = false) :
    Meets (Builtin.«tuple.__mul__» ⟨[.ref l, .int 0 u], []⟩) (fun _ R s => s.heap.get? l = some { cls := .type "tuple", dict := dd, data := .seq items n, slots := sl } ∧
      R (.ok (.ret (Value.ref s.heap.objs.size))) { s with heap := s.heap.push { cls := Value.type "tuple", data := Data.seq #[] }, toks := s.toks }) :=
  .of_wp fun pg wd A R s hy => by
    (obtain ⟨hp, g, d, tk, os⟩ := s)
    obtain ⟨held, h⟩ := hy
    have f1 := AutoSeq1.idx_int
    wp_walk using wpAny_loadPart' held
    repeat (first
      | (refine wpAny_ite_false (decide_eq_false (by rw [hi]; exact Bool.false_ne_true)) ?_; wp_walk using wpAny_loadPart' held)
      | (refine wpAny_ite_true (decide_eq_true (by rfl)) ?_; wp_walk using wpAny_loadPart' held))
    exact ⟨_, rfl, h⟩
theorem tuple_mul1 (l : Addr) (items : Array Value) (n : Nat) (dd : Option Addr) (sl : Array (Option Value)) (u : Tok) :
    Meets (Builtin.«tuple.__mul__» ⟨[.ref l, .int 1 u], []⟩) (fun _ R s => s.heap.get? l = some { cls := .type "tuple", dict := dd, data := .seq items n, slots := sl } ∧ R (.ok (.ret (Value.ref l))) s) :=
  .of_wp fun pg wd A R s hy => by
    (obtain ⟨hp, g, d, tk, os⟩ := s)
    obtain ⟨held, h⟩ := hy
    have f1 := AutoSeq1.idx_int
    wp_walk using wpAny_loadPart' held
    repeat (first
      | (refine wpAny_ite_true (decide_eq_true (by simp)) ?_; wp_walk using wpAny_loadPart' held))
    exact ⟨_, rfl, h⟩
def rRepA (K : PySem.W.Frag) : R2 := fun x y H Q => ∃ (l : Addr) (k : Nat) (xs : List V), x = .ref l ∧ y = .int (k : Int) ∧ SqT K H l xs ∧ xs ≠ [] ∧ k ≤ 1000 ∧ xs.length ≤ 1000 ∧ (k = 0 → ∀ p, H p = none → Q (.ref p) (upd H p (.tup []))) ∧ (k = 1 → Q (.ref l) H) ∧ (2 ≤ k → ∀ p, H p = none → Q (.ref p) (upd H p (.tup (List.replicate k xs).flatten)))
section
variable {X : Cx}
theorem op_repA : OpR X (binaryOp .Mult) (rRepA X.K) := by
  (intro pins s σ H x y v u Q I rx ry h)
  obtain ⟨l, k, xs, rfl, rfl, hT, hne, h1, hz, q0, q1, q2⟩ := h
  by_cases hk : 2 ≤ k
  · exact op_repT pins s σ H _ _ v u Q I rx ry ⟨l, (k : Int), xs, rfl, rfl, hT, hne, by omega, by omega, hz, fun p np => by rw [Int.toNat_natCast]; exact q2 hk p np⟩
  cases rx
  obtain ⟨t, rfl⟩ := ry
  (obtain ⟨its, r, ⟨⟨cls, dd, data, sl⟩, ho, hc, n, hd⟩, hs⟩ := I.tuple hT)
  simp only at hc hd
  subst hc hd
  have hlen : its.length = xs.length := r.length.symm
  have hem : its.toArray.isEmpty = false := by
    cases its with
    | nil => exact absurd (List.eq_nil_of_length_eq_zero hlen.symm) hne
    | cons a b => rfl
  have k01 : k = 0 ∨ k = 1 := by omega
  rcases k01 with rfl | rfl
  · refine wpAny_binaryOp_repeat_ref (T := "tuple") (U := "int") (by decide) ⟨_, ho, rfl⟩ (fun s' => typeIs_int s' _ t) noFill_tuple_mul F.fills_int_mul F.slot_int_rmul repeat_tuple F.slot_int_index.lookup
      (call_meets F.slot_int_rmul (typeIs_int s _ t) F.entry_int_rmul (F.args_int_rmul_2 _ _) (int_rmul_tuple _ t l its.toArray n dd sl)
        ⟨ho, rfl, ⟨_, ho, rfl⟩, call_meets F.slot_tuple_mul ⟨_, ho, rfl⟩ F.entry_tuple_mul (F.args_tuple_mul_2 _ _) (tuple_mul0 l its.toArray n dd sl t (by rw [hem]; rfl)) ⟨ho, ?_⟩⟩)
    exact ⟨.ref s.heap.objs.size, _, I.laid (t' := s.toks) (o := .tup []) (fun b ob q => Heap.get?_push_of_some _ q) (Nat.le_refl _) ⟨Nat.zero_le _, _, .nil, IsTup.new _ _⟩, rfl, q0 rfl _ (I.hok.fresh (Nat.le_refl _))⟩
  · refine wpAny_binaryOp_repeat_ref (T := "tuple") (U := "int") (by decide) ⟨_, ho, rfl⟩ (fun s' => typeIs_int s' _ t) noFill_tuple_mul F.fills_int_mul F.slot_int_rmul repeat_tuple F.slot_int_index.lookup
      (call_meets F.slot_int_rmul (typeIs_int s _ t) F.entry_int_rmul (F.args_int_rmul_2 _ _) (int_rmul_tuple _ t l its.toArray n dd sl)
        ⟨ho, rfl, ⟨_, ho, rfl⟩, call_meets F.slot_tuple_mul ⟨_, ho, rfl⟩ F.entry_tuple_mul (F.args_tuple_mul_2 _ _) (tuple_mul1 l its.toArray n dd sl t) ⟨ho, ?_⟩⟩)
    exact ⟨.ref l, H, I, rfl, q1 rfl⟩
end
/-! ### a text so many times -/
def rMulS : R2 := fun x y H Q => ∃ (z : Str) (n : Nat), x = .str z ∧ y = .int (n : Int) ∧ z.length ≤ 100000 ∧ n ≤ 100 ∧ Q (.str (Txt.mul z (n : Int))) H
theorem op_mulS {X : Cx} : OpR X (binaryOp .Mult) rMulS := by
  (intro pins s σ H x y v u Q I rx ry h)
  obtain ⟨z, n, rfl, rfl, h1, h2, q⟩ := h
  obtain ⟨t, rfl⟩ := rx
  obtain ⟨t', rfl⟩ := ry
  refine SB.mul ⟨?_, fun a b => ?_, fun a b => ?_⟩ fun t2 k => ⟨.str _, H, I.tok _, ⟨_, rfl⟩, q⟩
  · rw [decide_eq_false (by omega), decide_eq_false (by omega)]
    rfl
  · show ¬ ((z.length : Int) > (2 ^ 63 - 1) / (n : Int))
    have h : (z.length : Int) ≤ (2 ^ 63 - 1) / (n : Int) := (Int.le_ediv_iff_mul_le (by omega)).mpr (by
      have e : (z.length : Int) * (n : Int) = ((z.length * n : Nat) : Int) := by rw [Int.natCast_mul]
      have l : z.length * n ≤ 100000 * 100 := Nat.mul_le_mul h1 h2
      omega)
    omega
  · refine short24 ?_
    show z.length * ((n : Int)).toNat ≤ _
    rw [Int.toNat_natCast]
    have l : z.length * n ≤ 100000 * 100 := Nat.mul_le_mul h1 h2
    omega
theorem mem_foldRep {c : Nat} {a : Array Nat} : ∀ (m : Nat) (b : Array Nat), c ∈ (List.foldl (· ++ ·) b (List.replicate m a)).toList → c ∈ b.toList ∨ c ∈ a.toList
  | 0, b, h => .inl h
  | m + 1, b, h => by
    rw [List.replicate_succ, List.foldl_cons] at h
    rcases mem_foldRep m (b ++ a) h with h | h
    · rw [Array.toList_append] at h
      exact List.mem_append.mp h
    · exact .inr h
theorem mem_mul {z : Str} {n : Int} {c : Nat} (h : c ∈ (Txt.mul z n).cps.toList) : c ∈ z.cps.toList := by
  unfold Txt.mul at h
  split at h
  · exact absurd h (by simp [Str.empty])
  · split at h
    · exact h
    · rcases mem_foldRep n.toNat #[] h with h | h
      · exact absurd h (by simp)
      · exact h
section
variable {K : PySem.W.Frag} {env : Env0'}
theorem rd_mulS {z : Str} {n : Nat} (h : z.length ≤ 100000) (hn : n ≤ 100) : RD K rMulS (.str z) (.int (n : Int)) (.str (Txt.mul z (n : Int))) := fun a b G H gh da db Q q => by
  cases da
  cases db
  exact ⟨z, n, rfl, rfl, h, hn, q _ G H (Gw.refl gh) (.str _)⟩
theorem rd_repA {ds : List Dt} {k : Nat} (h0 : ds ≠ []) (hk : k ≤ 1000) (hl : ds.length ≤ 1000) : RD K (rRepA K) (.tuple ds) (.int (k : Int)) (.tuple (List.replicate k ds).flatten) := fun a b G H gh da db Q q => by
  cases db
  cases da with
  | @tup p xs _ hs hd =>
    have len := dpsLen hd
    refine ⟨p, k, xs, rfl, rfl, sameT gh hs, fun e => ?_, hk, by rw [len]; exact hl, fun e l nl => ?_, fun e => ?_, fun _ l nl => ?_⟩
    · rw [e] at len
      exact h0 (List.eq_nil_of_length_eq_zero len.symm)
    · subst e
      exact q _ _ _ (Gw.new gh nl) (.tup (.inl (.inl upd_same)) .nil)
    · subst e
      have e1 : (List.replicate 1 ds).flatten = ds := by simp
      rw [e1] at q
      exact q _ G H (Gw.refl gh) (.tup hs hd)
    · exact q _ _ _ (Gw.new gh nl) (.tup (.inl (.inl upd_same)) (dpsM (sameU (gh.free nl)) (dpsRep hd k)))
def onPair (g : Dt → Dt → Dt) : Dt → Dt
  | .tuple [a, b] => g a b
  | _ => .none
/-- [.. for a, b in some pairs] -/
theorem en_mapP {wi : TI} {te : TE} {ds : List Dt} {i j : Nat} (g : Dt → Dt → Dt) (h : EvI K wi env ds) (hp : ∀ d ∈ ds, ∃ a b, d = .tuple [a, b]) (hl : ds.length ≤ 1000) (hij : i ≠ j) (he : ∀ a b : Dt, .tuple [a, b] ∈ ds → EvE K te ((env.set i (some a)).set j (some b)) (g a b)) : EvN K (tLc wi (gTup K 2 (gCons (gName i) (gCons (gName j) gNil))) tYes te [i, j]) env (ds.map (onPair g)) := fun σ G H gh s Q q => h σ G H gh s _ fun J G1 H1 e1 wk D nD => by
  have ng1 : G1 D = none := e1.gh.free nD
  refine lc_it (n := ds.length) wk (fun k H' => ∃ G2 us, Gw G1 H1 G2 H' ∧ G2 D = none ∧ H' D = some (.lst us) ∧ DqAll K G2 us ((ds.take k).map (onPair g))) ⟨G1, [], (Gw.refl e1.gh).mut nD ng1, ng1, upd_same, .nil⟩ (fun k H' _ ⟨G2, _, w2, _⟩ => w2.gg.trans w2.gh) ?_ ?_
  · rintro k x H2 H2' hk ⟨G2, us, w2, ng2, hD, du⟩ ⟨rfl, d, hd, dd⟩
    obtain ⟨a, b, rfl⟩ := hp d (List.mem_of_getElem? hd)
    cases dpM w2.gg dd with
    | @tup p xs _ hs hx =>
      cases hx with
      | @cons x1 _ _ _ dqa r =>
        cases r with
        | @cons y1 _ _ _ dqb r =>
          cases r
          have hset : ((wipe σ [i, j]).set i (some x1)).set j (some y1) = (σ.set i (some x1)).set j (some y1) := by rw [wipe2 σ hij]; exact set4 σ hij _ _ _ _
          refine ⟨p, [x1, y1], rfl, sameT w2.gh hs, rfl, x1, [y1], rfl, y1, [], rfl, rfl, ?_⟩
          have s2 : Sd K G2 (((wipe σ [i, j]).set i (some x1)).set j (some y1)) ((env.set i (some a)).set j (some b)) := by
            rw [hset]
            exact ((s.mono (e1.gg.trans w2.gg)).set i dqa).set j dqb
          refine ⟨by rw [hset, wipe2 _ hij, wipe2 σ hij]; exact set4 σ hij _ _ _ _, ?_⟩
          refine (eb_yes (K := K) (env := (env.set i (some a)).set j (some b))) _ G2 _ w2.gh s2 _ fun G3 H3 w4 => ?_
          refine iteT ?_
          refine he a b (List.mem_of_getElem? hd) _ G3 H3 w4.gh (s2.mono w4.gg) _ fun u G4 H4 w5 dqu => ?_
          have w6 := w4.trans w5
          have ng4 := w6.keeps hD ng2
          have hD4 := w6.hh _ _ hD
          refine ⟨us, hD4, ?_, G4, us ++ [u], (w2.trans w6).mut nD ng4, ng4, upd_same, ?_⟩
          · rw [dpsLen du, List.length_map, List.length_take]
            exact Nat.lt_of_le_of_lt (show min k ds.length ≤ 1000 by omega) (by decide)
          · rw [take_next' hd, List.map_append]
            exact dpsApp (dpsM w6.gg du) (.cons dqu .nil)
  · rintro H2 ⟨G2, us, w2, ng2, hD, du⟩
    rw [List.take_length] at du
    exact q D us G2 H2 (e1.trans w2) (e1.hh.free nD) ng2 hD du
end
end LH

namespace LH
open PySem PySem.Spec L2 PyProof.Rows
/-! ### draws by kinds of results -/
def preTake (ds : List Dt) : Prop := ∃ n : Nat, ds = [.int (n : Int)] ∧ 1 ≤ n ∧ n ≤ 100000
def resTake (ds : List Dt) (d : Dt) : Prop := ∃ n r : Nat, ds = [.int (n : Int)] ∧ d = .int (r : Int) ∧ r < n
abbrev spTk (K : PySem.W.Frag) : Sp := spS K preTake (fun _ => 1) resTake
def NatLt (n : Nat) (d : Dt) : Prop := ∃ r : Nat, d = .int (r : Int) ∧ r < n
def IntIn (a b : Int) (d : Dt) : Prop := ∃ i : Int, d = .int i ∧ a ≤ i ∧ i ≤ b
def LsE (P : Dt → Prop) (n : Nat) (d : Dt) : Prop := ∃ ds, d = .list ds ∧ ds.length = n ∧ ∀ x ∈ ds, P x
def LsL (P : Dt → Prop) (n : Nat) (d : Dt) : Prop := ∃ ds, d = .list ds ∧ ds.length ≤ n ∧ ∀ x ∈ ds, P x
def TpL (P : Dt → Prop) (n : Nat) (d : Dt) : Prop := ∃ ds, d = .tuple ds ∧ ds.length ≤ n ∧ ∀ x ∈ ds, P x
def AllE (P : Dt → Prop) (n : Nat) (ds : List Dt) : Prop := ds.length = n ∧ ∀ x ∈ ds, P x
theorem NatLt.intIn {n : Nat} {d : Dt} (h : NatLt n d) : IntIn 0 ((n : Int) - 1) d := by
  obtain ⟨r, rfl, hr⟩ := h
  exact ⟨_, rfl, by omega, by omega⟩
theorem LsE.le {P : Dt → Prop} {n : Nat} {d : Dt} (h : LsE P n d) : LsL P n d := by
  obtain ⟨ds, rfl, hl, hp⟩ := h
  exact ⟨ds, rfl, by omega, hp⟩
theorem LsL.mono {P R : Dt → Prop} {n m : Nat} {d : Dt} (h : LsL P n d) (hn : n ≤ m) (hp : ∀ x, P x → R x) : LsL R m d := by
  obtain ⟨ds, rfl, hl, h⟩ := h
  exact ⟨ds, rfl, by omega, fun x hx => hp x (h x hx)⟩
theorem TpL.mono {P R : Dt → Prop} {n m : Nat} {d : Dt} (h : TpL P n d) (hn : n ≤ m) (hp : ∀ x, P x → R x) : TpL R m d := by
  obtain ⟨ds, rfl, hl, h⟩ := h
  exact ⟨ds, rfl, by omega, fun x hx => hp x (h x hx)⟩
theorem IntIn.mono {a b c e : Int} {d : Dt} (h : IntIn a b d) (h1 : c ≤ a) (h2 : b ≤ e) : IntIn c e d := by
  obtain ⟨i, rfl, p, q⟩ := h
  exact ⟨i, rfl, by omega, by omega⟩
section
variable {K : PySem.W.Frag} {env : Env0'} {ta tb te : TE} {j n m k l : Nat} {P : Dt → Prop} {a b c d : Int}
theorem es_to {R R1 : Dt → Prop} (h : EvS K te env j n R) (hr : ∀ d, R d → R1 d) : EvS K te env j n R1 := es_is h (Nat.le_refl _) hr
theorem es_tk {E : XK} (h : EvE K te env (.int (n : Int))) (h1 : 1 ≤ n) (h2 : n ≤ 100000) : EvS K (tCall (spTk K) [] E (tCons (tVar j) (tCons te tNil))) env j 1 (NatLt n) :=
  es_is (es_call (ea_cons h ea_nil) ⟨n, rfl, h1, h2⟩) (Nat.le_refl _) fun d hd => by
    obtain ⟨m, r, e, rfl, hr⟩ := hd
    cases e
    exact ⟨r, rfl, by omega⟩
/-- .. by a written number -/
theorem es_tc {E : XK} (n : Nat) (h1 : Nat.ble 1 n = true) (h2 : Nat.ble n 100000 = true) : EvS K (tCall (spTk K) [] E (tCons (tVar j) (tCons (tC (.int (n : Int))) tNil))) env j 1 (NatLt n) := es_tk (ee_int (i := (n : Int))) (Nat.ble_eq.mp h1) (Nat.ble_eq.mp h2)
theorem es_ci (i : Int) : EvS K (tC (.int i)) env j 0 (IntIn i i) := es_is (es_pure ee_int) (Nat.le_refl _) fun d hd => ⟨i, hd, Int.le_refl _, Int.le_refl _⟩
theorem es_vi {i : Nat} {v : Dt} (h : env[i]? = some (some v)) : EvS K (tVar i) env j 0 (· = v) := es_pure (ee_var h)
theorem es_add (h1 : EvS K ta env j n (IntIn a b)) (h2 : EvS K tb env j m (IntIn c d)) : EvS K (tOp (rI0 fun i j => .int (i + j)) ta tb) env j (n + m) (IntIn (a + c) (b + d)) := es_op h1 (fun _ _ => h2) fun x y hx hy => by
  obtain ⟨i, rfl, _, _⟩ := hx
  obtain ⟨k, rfl, _, _⟩ := hy
  exact ⟨_, rd_add, _, rfl, by omega, by omega⟩
theorem esa_0 : EvSA K tNil env j 0 (AllE P 0) := fun sd ca T σ G H l s e x Q q => q [] [] G H Gs.refl s .nil ⟨rfl, fun _ h => absurd h List.not_mem_nil⟩
theorem esa_1 {tr : TA} (h : EvS K ta env j n P) (hr : EvSA K tr env j m (AllE P k)) : EvSA K (tCons ta tr) env j (n + m) (AllE P (k + 1)) := fun sd ca T σ G H l s e x Q q => esa_cons h (fun _ _ => hr) sd ca T σ G H l s e x Q fun vs ds G' H' w s' dv rd => q vs ds G' H' w s' dv (by
  obtain ⟨x, xs, rfl, px, hl, hp⟩ := rd
  refine ⟨congrArg (· + 1) hl, fun y hy => ?_⟩
  rcases List.mem_cons.mp hy with q | q
  · rw [q]; exact px
  · exact hp y q)
theorem es_ls {tr : TA} (h : EvSA K tr env j n (AllE P k)) (hk : k ≤ 100000) : EvS K (tLst tr) env j n (LsE P k) := es_to (es_lst h fun ds hd => by rw [hd.1]; exact hk) fun d hd => by
  obtain ⟨ds, rfl, h1, h2⟩ := hd
  exact ⟨ds, rfl, h1, h2⟩
theorem es_tp {tr : TA} (h : EvSA K tr env j n (AllE P k)) (hk : k ≤ 100000) : EvS K (tTup tr) env j n (fun d => ∃ ds, d = .tuple ds ∧ ds.length = k ∧ ∀ x ∈ ds, P x) := es_to (es_tup h fun ds hd => by rw [hd.1]; exact hk) fun d hd => by
  obtain ⟨ds, rfl, h1, h2⟩ := hd
  exact ⟨ds, rfl, h1, h2⟩
/-- one of a list, by a drawn place -/
theorem es_ix (h1 : EvS K ta env j n (LsE P k)) (h2 : EvS K tb env j m (NatLt k)) : EvS K (tOp (rIx K) ta tb) env j (n + m) P := es_op h1 (fun _ _ => h2) fun x y hx hy => by
  obtain ⟨ds, rfl, hl, hp⟩ := hx
  obtain ⟨r, rfl, hr⟩ := hy
  have hr' : r < ds.length := by omega
  exact ⟨ds[r], rd_ix (atI_nat (List.getElem?_eq_getElem hr')), hp _ (List.getElem_mem hr')⟩
theorem rd_cat {as bs : List Dt} (hl : as.length + bs.length ≤ 100000) : RD K (rCatL K) (.list as) (.list bs) (.list (as ++ bs)) := rd_catL hl
theorem es_cat (h1 : EvS K ta env j n (LsL P k)) (h2 : EvS K tb env j m (LsL P l)) (hl : k + l ≤ 100000) : EvS K (tOp (rCatL K) ta tb) env j (n + m) (LsL P (k + l)) := es_op h1 (fun _ _ => h2) fun x y hx hy => by
  obtain ⟨xs, rfl, lx, px⟩ := hx
  obtain ⟨ys, rfl, ly, py⟩ := hy
  refine ⟨_, rd_catL (by omega), _, rfl, by rw [List.length_append]; omega, fun z hz => ?_⟩
  rcases List.mem_append.mp hz with q | q
  · exact px z q
  · exact py z q
theorem rd_repL' {ds : List Dt} {k : Nat} (hk : k ≤ 1000) (hl : ds.length ≤ 1000) : RD K (rRepL K) (.list ds) (.int (k : Int)) (.list (List.replicate k ds).flatten) := fun a b G H gh da db Q q => by
  cases db
  cases da with
  | @lst p xs _ hs hd =>
    refine ⟨p, (k : Int), xs, rfl, rfl, gh.seq hs, by omega, by omega, by rw [dpsLen hd]; exact hl, fun l nl => ?_⟩
    rw [Int.toNat_natCast]
    exact q _ _ _ (Gw.new gh nl) (.lst (.inl (.inl upd_same)) (dpsM (sameU (gh.free nl)) (dpsRep hd k)))
theorem es_rep (h1 : EvS K ta env j n (LsL P k)) (h2 : EvS K tb env j m (IntIn 0 (l : Int))) (hk : k ≤ 1000) (hl : l ≤ 1000) : EvS K (tOp (rRepL K) ta tb) env j (n + m) (LsL P (l * k)) := es_op h1 (fun _ _ => h2) fun x y hx hy => by
  obtain ⟨xs, rfl, lx, px⟩ := hx
  obtain ⟨i, rfl, h0, hi⟩ := hy
  obtain ⟨r, rfl⟩ : ∃ r : Nat, i = (r : Int) := ⟨i.toNat, by omega⟩
  refine ⟨_, rd_repL' (by omega) (by omega), _, rfl, ?_, fun z hz => ?_⟩
  · rw [PyProof.Rows.lm_len_rep_flat]
    exact Nat.mul_le_mul (by omega) lx
  · obtain ⟨w, hw, hzw⟩ := List.mem_flatten.mp hz
    rw [(List.mem_replicate.mp hw).2] at hzw
    exact px z hzw
theorem es_tl (h : EvS K ta env j n (LsL P k)) : EvS K (tThen ta (kTup K)) env j n (TpL P k) := es_to (es_tupleL h fun d hd => by
  obtain ⟨ds, rfl, _⟩ := hd
  exact ⟨ds, rfl⟩) fun d hd => by
  obtain ⟨es, rfl, ds, e, hl, hp⟩ := hd
  cases e
  exact ⟨_, rfl, hl, hp⟩
/-- x[:k] -/
theorem es_slD {tl th : TO} {Ro Rp : Option Int → Prop} {R : Dt → Prop} (hR : ∀ d, R d → ∃ ds, d = .list ds) (h : EvS K te env j k R) (h1 : EvSO K tl env j n Ro) (h2 : EvSO K th env j m Rp) : EvS K (tSl (rSlL K) te tl th) env j (k + n + m) (fun d => ∃ ds lo hi, R (.list ds) ∧ Ro lo ∧ Rp hi ∧ d = .list (cutD ds lo hi)) := fun sd ca T σ G H l s e x Q q =>
  h sd ca T σ G H (by omega) s e x _ fun v d G0 H0 w0 s0 dv rd => h1 sd ca (T + k) σ G0 H0 (by omega) s0 (e.mono w0.gg) x _ fun lo G1 H1 w1 s1 r1 => h2 sd ca (T + k + n) σ G1 H1 (by omega) s1 (e.mono (w0.gg.trans w1.gg)) x _ fun hi G2 H2 w2 s2 r2 => by
    obtain ⟨ds, rfl⟩ := hR d rd
    cases dv with
    | @lst p xs _ hs hd =>
      have g2 : Same G0 G2 := w1.gg.trans w2.gg
      refine ⟨p, xs, rfl, (g2.trans s2.gh).seq hs, fun l' nl => ?_⟩
      have w3 := Gw.new (o := HO.lst (cutV xs lo hi)) s2.gh nl
      exact q _ _ _ _ ((w0.trans w1).trans (w2.trans w3.gs)) (by rw [← Nat.add_assoc, ← Nat.add_assoc]; exact s2.gw w3) (.lst (.inl (.inl upd_same)) (dpsM (g2.trans w3.gg) (dpsCut hd lo hi))) ⟨ds, lo, hi, rd, r1, r2, rfl⟩
theorem es_slDT {tl th : TO} {Ro Rp : Option Int → Prop} {R : Dt → Prop} (hR : ∀ d, R d → ∃ ds, d = .tuple ds) (h : EvS K te env j k R) (h1 : EvSO K tl env j n Ro) (h2 : EvSO K th env j m Rp) : EvS K (tSl (rSlA K) te tl th) env j (k + n + m) (fun d => ∃ ds lo hi, R (.tuple ds) ∧ Ro lo ∧ Rp hi ∧ d = .tuple (cutD ds lo hi)) := fun sd ca T σ G H l s e x Q q =>
  h sd ca T σ G H (by omega) s e x _ fun v d G0 H0 w0 s0 dv rd => h1 sd ca (T + k) σ G0 H0 (by omega) s0 (e.mono w0.gg) x _ fun lo G1 H1 w1 s1 r1 => h2 sd ca (T + k + n) σ G1 H1 (by omega) s1 (e.mono (w0.gg.trans w1.gg)) x _ fun hi G2 H2 w2 s2 r2 => by
    obtain ⟨ds, rfl⟩ := hR d rd
    cases dv with
    | @tup p xs _ hs hd =>
      have g2 : Same G0 G2 := w1.gg.trans w2.gg
      refine ⟨p, xs, rfl, sameT (g2.trans s2.gh) hs, fun hw => ?_, fun _ l' nl => ?_⟩
      · refine q _ _ G2 H2 ((w0.trans w1).trans w2) (by rw [← Nat.add_assoc, ← Nat.add_assoc]; exact s2) (.tup (sameT g2 hs) ?_) ⟨ds, lo, hi, rd, r1, r2, rfl⟩
        have c := dpsM g2 (dpsCut hd lo hi)
        rw [cutD_whole hw] at c
        exact c
      · have w3 := Gw.new (o := HO.tup (cutV xs lo hi)) s2.gh nl
        exact q _ _ _ _ ((w0.trans w1).trans (w2.trans w3.gs)) (by rw [← Nat.add_assoc, ← Nat.add_assoc]; exact s2.gw w3) (.tup (.inl (.inl upd_same)) (dpsM (g2.trans w3.gg) (dpsCut hd lo hi))) ⟨ds, lo, hi, rd, r1, r2, rfl⟩
theorem cut_mem {xs : List Dt} {lo hi : Option Int} {x : Dt} (h : x ∈ cutD xs lo hi) : x ∈ xs := by
  unfold cutD at h
  exact List.mem_of_mem_drop (List.mem_of_mem_take h)
theorem cut_le {xs : List Dt} {lo hi : Option Int} : (cutD xs lo hi).length ≤ xs.length := by
  unfold cutD
  (rw [List.length_take, List.length_drop])
  omega
theorem cut_to' {xs : List Dt} (n : Nat) : cutD xs none (some (n : Int)) = xs.take n := cut_to n
theorem es_slTo (h : EvS K te env j k (TpL P l)) (n : Nat) : EvS K (tSl (rSlA K) te tNoPart (tPart (tC (.int (n : Int))))) env j k (TpL P (min n l)) := es_is (n := k + 0 + 0) (es_slDT (Ro := (· = none)) (Rp := (· = some (n : Int))) (fun d hd => by
  obtain ⟨ds, rfl, _⟩ := hd
  exact ⟨ds, rfl⟩) h (eso_pure eo_none) (eso_pure (eo_some ee_int))) (by omega) fun d hd => by
  obtain ⟨ds, lo, hi, ⟨ds', e, hl, hp⟩, rfl, rfl, rfl⟩ := hd
  cases e
  refine ⟨_, rfl, ?_, fun x hx => hp x (cut_mem hx)⟩
  rw [cut_to', List.length_take]
  omega
theorem es_slLTo (h : EvS K te env j k (LsL P l)) (n : Nat) : EvS K (tSl (rSlL K) te tNoPart (tPart (tC (.int (n : Int))))) env j k (LsL P (min n l)) := es_is (n := k + 0 + 0) (es_slD (Ro := (· = none)) (Rp := (· = some (n : Int))) (fun d hd => by
  obtain ⟨ds, rfl, _⟩ := hd
  exact ⟨ds, rfl⟩) h (eso_pure eo_none) (eso_pure (eo_some ee_int))) (by omega) fun d hd => by
  obtain ⟨ds, lo, hi, ⟨ds', e, hl, hp⟩, rfl, rfl, rfl⟩ := hd
  cases e
  refine ⟨_, rfl, ?_, fun x hx => hp x (cut_mem hx)⟩
  rw [cut_to', List.length_take]
  omega
/-- a written list whose items are so -/
theorem es_con {R : Dt → Prop} (v : Dt) (h : EvE K te env v) (hv : R v) : EvS K te env j 0 R := es_to (es_pure h) fun d hd => by rw [hd]; exact hv
/-- [.. for _ in range(..)] of draws: so many, each so -/
theorem es_lcR {wi : TI} {i : Nat} {ds : List Dt} (h : EvI K wi env ds) (hl : ds.length ≤ 1000) (hij : j ≠ i) (he : ∀ d ∈ ds, EvS K te (env.set i (some d)) j m P) : EvS K (tLc wi (gName i) tYes te [i]) env j (ds.length * m) (LsE P ds.length) := es_is (n := ds.length * (0 + m)) (es_lc (n := 0) (m := m) (Rt := fun _ b => b = true) (Re := fun _ e => P e) h hl hij (fun d _ => esb_pure eb_yes) he) (by rw [Nat.zero_add]; exact Nat.le_refl _) fun d hd => by
  obtain ⟨es, rfl, lc⟩ := hd
  obtain ⟨h1, h2⟩ := lc.all (P := P) (fun _ _ h => h) (fun _ _ h => h)
  exact ⟨es, rfl, h1, h2⟩
/-- loops whose names change by turns -/
theorem gs_forI {wi : TI} {a : TS} {es : List Dt} {i : Nat} (I : Nat → Env0' → Prop) (h : EvI K wi env es) (h0 : I 0 env) (hij : j ≠ i) (hb : ∀ (k : Nat) (e : Dt) (env' : Env0'), es[k]? = some e → I k env' → GoS K a (env'.set i (some e)) j n fun e' => ∃ e'', Wk e'' e' ∧ I (k + 1) e'') : GoS K (tFor wi (gName i) a) env j (es.length * n) (fun e => I es.length e) := fun sd ca T σ G H D hT s e x q => by
  refine for_S (K := K) (env := env) h s.gh e (fun k σ' G' H' => ∃ env', I k env' ∧ Gs sd ca G H G' H' ∧ Sv sd ca (T + k * n) G' H' ∧ Sd K G' σ' env' ∧ σ'[j]? = some (some (.ref sd))) (fun G1 H1 w1 => ⟨env, h0, w1.gs, (s.gw w1).le (by omega), e.mono w1.gg, x⟩) ?_ ?_
  · rintro k d xo σ' G' H' D' hk s' ⟨env', hi, gs, sv', se', hj'⟩ dx hrt hnx
    have kl := (List.getElem?_eq_some_iff.mp hk).1
    have hb2 : (k + 1) * n ≤ es.length * n := Nat.mul_le_mul_right _ kl
    have e2 : (k + 1) * n = k * n + n := by rw [Nat.add_mul, Nat.one_mul]
    refine hb k d env' hk hi sd ca (T + k * n) _ G' H' D' (by omega) sv' (se'.set i dx) (by rw [List.getElem?_set_ne (fun z => hij z.symm)]; exact hj') fun env2 σ2 G2 H2 w2 s2 e2' x2 r2 => ?_
    obtain ⟨e3, wk, i3⟩ := r2
    exact hnx σ2 G2 H2 w2.gg s2.gh ⟨e3, i3, gs.trans w2, s2.le (by omega), sd_weak e2' wk.len wk.at', x2⟩
  · rintro σ' G' H' s' ⟨env', hi, gs, sv', se', hj'⟩
    exact q env' σ' G' H' gs sv' se' hj' hi
/-- one more argument behind drawn ones -/
theorem es_call1 {pre : List Dt → Prop} {nn : List Dt → Nat} {RR : List Dt → Dt → Prop} {E : XK} {R R1 : Dt → Prop} (h : EvS K te env j n R1) (hp : ∀ d, R1 d → pre [d]) (hk : ∀ d, R1 d → nn [d] ≤ k) (hr : ∀ d e, R1 d → RR [d] e → R e) : EvS K (tCall (spS K pre nn RR) [] E (tCons (tVar j) (tCons te tNil))) env j (n + 0 + k) R := es_callS (RA := fun ds => ∃ d, ds = [d] ∧ R1 d) (fun sd ca T σ G H l s e x Q q => esa_cons h (fun _ _ => esa_nil) sd ca T σ G H l s e x Q fun vs ds G' H' w s' dv rd => q vs ds G' H' w s' dv (by
  obtain ⟨x, xs, rfl, px, rfl⟩ := rd
  exact ⟨x, rfl, px⟩)) (fun ds hd => by
  obtain ⟨d, rfl, h⟩ := hd
  exact hp d h) (fun ds hd => by
  obtain ⟨d, rfl, h⟩ := hd
  exact hk d h) fun ds e hd he => by
  obtain ⟨d, rfl, h⟩ := hd
  exact hr d e h he
theorem es_call0 {pre : List Dt → Prop} {nn : List Dt → Nat} {RR : List Dt → Dt → Prop} {E : XK} (hp : pre []) : EvS K (tCall (spS K pre nn RR) [] E (tCons (tVar j) tNil)) env j (nn []) (RR []) := es_call ea_nil hp
end
end LH

namespace K04
open PySem PySem.Spec PyProof.Rows L2 LH C8
abbrev s_l_take : Stmt := topS 26
abbrev n_l_take : List Str := ["_law_box_here", "_law_many", "_law_mixed", "_law_found"]
theorem sc_l_take : FnScope n_l_take ["_law_box_here", "_law_many"] (defScope s_l_take) := ⟨rfl, rfl, rfl, by decide +kernel, rfl, by decide +kernel, by decide +kernel⟩
abbrev s_l_one_of : Stmt := topS 28
abbrev n_l_one_of : List Str := ["_law_box_here", "_law_some"]
theorem sc_l_one_of : FnScope n_l_one_of ["_law_box_here", "_law_some"] (defScope s_l_one_of) := ⟨rfl, rfl, rfl, by decide +kernel, rfl, by decide +kernel, by decide +kernel⟩
abbrev s_l_any_sign : Stmt := topS 30
abbrev n_l_any_sign : List Str := ["_law_box_here", "_law_some", "_law_way"]
theorem sc_l_any_sign : FnScope n_l_any_sign ["_law_box_here"] (defScope s_l_any_sign) := ⟨rfl, rfl, rfl, by decide +kernel, rfl, by decide +kernel, by decide +kernel⟩
abbrev s_l_plain_signs : Stmt := topS 31
abbrev n_l_plain_signs : List Str := ["_law_box_here", "_law_many", "_law_found", "_law_turn", "_law_number"]
theorem sc_l_plain_signs : FnScope n_l_plain_signs ["_law_box_here", "_law_many"] (defScope s_l_plain_signs) := ⟨rfl, rfl, rfl, by decide +kernel, rfl, by decide +kernel, by decide +kernel⟩
def spTake : Sp := fun vs H Q _ => ∃ (sd ca : Addr) (t size : Int), vs = [.ref sd, .int size] ∧ StAt H sd ca t ∧ 1 ≤ size ∧ size ≤ 100000 ∧ t ≤ 100000 ∧
  ∀ (r t' : Int) (H' : Hp), 0 ≤ r → r < size → t' ≤ t + 1 → StAt H' sd ca t' → (∀ b o, H b = some o → b ≠ sd → b ≠ ca → H' b = some o) → Q (.int r) H'
section
variable {w : World} {P : Program} {K : PySem.W.Frag} {mg : Str → Option Value} {base : Heap}
theorem cal_imp {k : Nat} {x : Str} {sp sp' : Sp} {dvs : List V} (c : Cal P w K mg base k x sp dvs) (h : ∀ vs H Q E, sp' vs H Q E → sp vs H Q E) : Cal P w K mg base k x sp' dvs := by
  (obtain ⟨f, fd, ps, ds, F, hm, kp, b, d⟩ := c.ex)
  exact ⟨f, fd, ps, ds, F.imp h, hm, kp, b, d⟩
theorem c_l_take (F : Dfn K mg "_law_take" s_l_take ["_law_box_here", "_law_many"]) : Cal P w K mg base 1 "_law_take" spTake [] := by
  obtain ⟨f, fd, F, hm, b⟩ := F.ex
  refine ⟨f, fd, ["_law_box_here", "_law_many"], [], F.ok sc_l_take (fun vs H Q E h => ?_) (fun cdv A outer s H vs Q E hr h => ?_), hm, F.kp, b, .nil⟩
  · obtain ⟨_, _, _, _, rfl, _⟩ := h
    rfl
  · obtain ⟨sd, ca, t, size, rfl, ⟨rfl, ⟨a, b, l, b0, b1⟩, t0⟩, h1, h2, h3, q⟩ := h
    refine ⟨_, (pss_cons (ps_if (pt_cmpR op_gt (pe_ix ix_seq (pv 0) (pe_int) (fun _ _ => rfl)) (pe_int) (nomark _)) (pss_cons (ps_set (i := 3) sc_l_take.nd rfl (Or.inl rfl) (pe_op op_mod (pe_ix ix_seq (pv 0) (pe_int) (fun _ _ => rfl)) (pv 1))) (pss_cons (ps_asg (pe_op op_fdivW (pe_ix ix_seq (pv 0) (pe_int) (fun _ _ => rfl)) (pv 1)) (pg_sub (pv 0) (pe_int) set_list)) (pss_one (ps_ret (pv 3))))) (pss_nil)) (pss_cons (ps_asg (pe_op op_add (pe_ix ix_seq (pv 0) (pe_int) (fun _ _ => rfl)) (pe_int)) (pg_sub (pv 0) (pe_int) set_list)) (pss_cons (ps_set (i := 2) sc_l_take.nd rfl (Or.inl rfl) (pe_op op_mod (pe_op op_add (pe_ix ix_seq (pv 0) (pe_int) (fun _ _ => rfl)) (pe_op op_mul (pe_int) (pe_ix ix_seq (pv 0) (pe_int) (fun _ _ => rfl)))) (pe_int))) (pss_cons (ps_set (i := 2) sc_l_take.nd rfl (Or.inl rfl) (pe_op op_mod (pe_op op_add (pe_op op_add (pe_op op_mul (pv 2) (pv 2)) (pe_op op_mul (pe_int) (pe_ix ix_seq (pv 0) (pe_int) (fun _ _ => rfl)))) (pe_int)) (pe_int))) (pss_cons (ps_set (i := 2) sc_l_take.nd rfl (Or.inl rfl) (pe_op op_mod (pe_op op_add (pe_op op_mul (pv 2) (pe_op op_add (pe_op op_fdivW (pv 2) (pe_int)) (pe_int))) (pe_ix ix_seq (pv 0) (pe_int) (fun _ _ => rfl))) (pe_int))) (pss_one (ps_ret (pe_op op_mod (pe_op op_fdivW (pv 2) (pe_int)) (pv 1))))))))), ?_⟩
    have at0 : ∀ x y z : V, atI [x, y, z] 0 = some x := fun _ _ _ => rfl
    have at1 : ∀ x y z : V, atI [x, y, z] 1 = some y := fun _ _ _ => rfl
    have at2 : ∀ x y z : V, atI [x, y, z] 2 = some z := fun _ _ _ => rfl
    have szW : ∀ i : Int, CDivW i size := fun i => wide_div (b := 20) (by omega) (by omega) (by decide) (by decide)
    refine ⟨.ref ca, rfl, .inl ⟨ca, _, 0, _, rfl, rfl, .inl (.inl l), at0 _ _ _, a, 0, rfl, rfl, _, rfl, ite2 (fun _ => ?_) (fun _ => ?_)⟩⟩
    · refine ⟨.ref ca, rfl, .inl ⟨ca, _, 0, _, rfl, rfl, .inl (.inl l), at0 _ _ _, _, rfl, a, size, rfl, rfl, (by show (0 : Int) < size; omega), ?_⟩⟩
      refine ⟨.ref ca, rfl, .inl ⟨ca, _, 0, _, rfl, rfl, .inl (.inl l), at0 _ _ _, _, rfl, a, size, rfl, rfl, szW a, ?_⟩⟩
      refine ⟨.ref ca, rfl, ca, _, 0, 0, rfl, rfl, l, rfl, _, rfl, ?_⟩
      refine q (a % size) t _ (Int.emod_nonneg a (by omega)) (Int.emod_lt_of_pos a (by omega)) (by omega) ⟨rfl, ⟨a / size, b, upd_same, b0, b1⟩, t0⟩ fun c o e hc _ => ?_
      rw [upd_ne hc]
      exact e
    · refine ⟨.ref ca, rfl, .inl ⟨ca, _, 2, _, rfl, rfl, .inl (.inl l), at2 _ _ _, t, 1, rfl, rfl, .ref ca, rfl, ca, _, 2, 2, rfl, rfl, l, rfl, ?_⟩⟩
      have mul : ∀ a b : Int, (0 ≤ a ∧ a < 2 ^ 64) → CMul a b := fun a b h => .inl ⟨by omega, h.2⟩
      have l2 : (upd H ca (.lst [.int a, .int b, .int (t + 1)])) ca = some (.lst [.int a, .int b, .int (t + 1)]) := upd_same
      have k2 : ∀ c o, H c = some o → c ≠ ca → (upd H ca (.lst [.int a, .int b, .int (t + 1)])) c = some o := fun c o e hc => by rw [upd_ne hc]; exact e
      show tSeq _ _ _ _ (upd H ca (.lst [.int a, .int b, .int (t + 1)]))
      generalize upd H ca (.lst [.int a, .int b, .int (t + 1)]) = H1 at l2 k2
      refine ⟨.ref ca, rfl, .inl ⟨ca, _, 1, _, rfl, rfl, .inl (.inl l2), at1 _ _ _, .ref ca, rfl, .inl ⟨ca, _, 2, _, rfl, rfl, .inl (.inl l2), at2 _ _ _, 1442695040888963407, t + 1, rfl, rfl, mul _ _ ⟨by decide, by decide⟩, b, _, rfl, rfl, _, 2305843009213693951, rfl, rfl, (show (0 : Int) < 2305843009213693951 by decide), ?_⟩⟩⟩
      have x0 := Int.emod_nonneg (b + 1442695040888963407 * (t + 1)) (show (2305843009213693951 : Int) ≠ 0 by decide)
      have x1 := Int.emod_lt_of_pos (b + 1442695040888963407 * (t + 1)) (show (0 : Int) < 2305843009213693951 by decide)
      dsimp only
      generalize (b + 1442695040888963407 * (t + 1)) % 2305843009213693951 = mx at x0 x1
      refine ⟨_, rfl, _, rfl, mx, mx, rfl, rfl, mul _ _ ⟨x0, by omega⟩, .ref ca, rfl, .inl ⟨ca, _, 2, _, rfl, rfl, .inl (.inl l2), at2 _ _ _, 39373, t + 1, rfl, rfl, mul _ _ ⟨by decide, by decide⟩, _, _, rfl, rfl, _, 7, rfl, rfl, _, 2305843009213693921, rfl, rfl, (show (0 : Int) < 2305843009213693921 by decide), ?_⟩⟩
      have y0 := Int.emod_nonneg (mx * mx + 39373 * (t + 1) + 7) (show (2305843009213693921 : Int) ≠ 0 by decide)
      have y1 := Int.emod_lt_of_pos (mx * mx + 39373 * (t + 1) + 7) (show (0 : Int) < 2305843009213693921 by decide)
      dsimp only
      generalize (mx * mx + 39373 * (t + 1) + 7) % 2305843009213693921 = my at y0 y1
      refine ⟨_, rfl, _, rfl, my, 65536, rfl, rfl, ⟨by decide, by decide⟩, _, 3, rfl, rfl, my, _, rfl, rfl, mul _ _ ⟨y0, by omega⟩, .ref ca, rfl, .inl ⟨ca, _, 2, _, rfl, rfl, .inl (.inl l2), at2 _ _ _, _, t + 1, rfl, rfl, _, 2305843009213693907, rfl, rfl, (show (0 : Int) < 2305843009213693907 by decide), ?_⟩⟩
      refine ⟨_, rfl, _, 1048576, rfl, rfl, ⟨by decide, by decide⟩, _, rfl, _, size, rfl, rfl, (by show (0 : Int) < size; omega), ?_⟩
      refine q _ (t + 1) H1 (Int.emod_nonneg _ (by omega)) (Int.emod_lt_of_pos _ (by omega)) (by omega) ⟨rfl, ⟨a, b, l2, b0, b1⟩, by omega⟩ fun c o e hc _ => k2 c o e hc
/-- a draw -/
theorem c_take (F : Dfn K mg "_law_take" s_l_take ["_law_box_here", "_law_many"]) : Cal P w K mg base 1 "_law_take" (spTk K) [] := by
  refine cal_imp (c_l_take F) fun vs H Q E h => ?_
  obtain ⟨sd, ca, T, G, us, ds, rfl, s, du, ⟨n, rfl, h1, h2⟩, hT, q⟩ := h
  obtain ⟨t, S, ht⟩ := s.st
  cases du with
  | cons a b =>
    cases b
    cases a
    refine ⟨sd, ca, t, (n : Int), rfl, S, by omega, by omega, by omega, fun r t' H' r0 r1 ht' S' kp => ?_⟩
    have e : ((r.toNat : Nat) : Int) = r := Int.toNat_of_nonneg r0
    have gh' : Same G H' := fun b o z => kp b o (s.gh b o z) (fun y => by rw [y, s.ns] at z; cases z) (fun y => by rw [y, s.nc] at z; cases z)
    refine q (.int r) (.int r) G H' ⟨Same.refl G, kp, fun _ _ z => z, fun c z => ?_⟩ ⟨gh', ⟨t', S', by show t' ≤ ((T + 1 : Nat) : Int); omega⟩, s.ns, s.nc⟩ (.int r) ⟨n, r.toNat, rfl, by rw [e], by omega⟩
    by_cases h1 : c = sd
    · rw [h1]; exact S'.has
    · by_cases h2 : c = ca
      · rw [h2, S'.eq]; exact S'.has
      · cases y : H c with
        | none => exact absurd y z
        | some o => rw [kp c o y h1 h2]; exact fun z => nomatch z
/-! ### one of some -/
def preOne (ds : List Dt) : Prop := (∃ L : List Dt, ds = [.list L] ∧ 1 ≤ L.length ∧ L.length ≤ 1000) ∨ ∃ z : Str, ds = [.str z] ∧ 1 ≤ z.length ∧ z.length ≤ 1000
def resOne (ds : List Dt) (d : Dt) : Prop := (∀ L : List Dt, ds = [.list L] → d ∈ L) ∧ ∀ z : Str, ds = [.str z] → ∃ c ∈ z.cps.toList, d = .str ⟨#[c]⟩
structure To1 (mg : Str → Option Value) : Prop where
  m_len : mg "len" = none
theorem c_l_one_of (T : To1 mg) (F : Dfn K mg "_law_one_of" s_l_one_of ["_law_box_here", "_law_some"]) (C_l_take : Cal P w K mg base 1 "_law_take" (spTk K) []) : Cal P w K mg base 2 "_law_one_of" (spS K preOne (fun _ => 1) resOne) [] := by
  refine calS F sc_l_one_of (fun ds h => ?_) (by decide) fun f cdv A outer s H E hr ds h => ?_
  · rcases h with ⟨L, rfl, _⟩ | ⟨z, rfl, _⟩ <;> rfl
  · refine ⟨_, (pss_one (ps_ret (pe_ix ix_seq (pv 1) (pe_c C_l_take hr (by decide) (by rfl) (pa_cons (pv 0) (pa_cons (pe_callB call_lenA (by rfl) T.m_len (by decide +kernel) (pa_cons (pv 1) pa_nil)) pa_nil))) (fun _ _ => rfl)))), rs_ret ?_⟩
    rcases h with ⟨L, rfl, h1, h2⟩ | ⟨z, rfl, h1, h2⟩
    · refine es_is (n := 0 + 1) (es_op (R1 := (· = .list L)) (es_pure (ee_var rfl)) (fun _ _ => es_tk (E := C8.E0) (n := L.length) (ee_len (ee_var rfl) rfl) h1 (by omega)) (R := fun e => e ∈ L) fun x y hx hy => by
        subst hx
        obtain ⟨r, rfl, hr⟩ := hy
        exact ⟨L[r], rd_ix (atI_nat (List.getElem?_eq_getElem hr)), List.getElem_mem hr⟩) (by decide) fun d hd => ⟨fun L' e => (by cases e; exact hd), fun z e => by cases e⟩
    · have sl : lenD (.str z) = some z.length := by
        show (if z.length ≤ 100000 then some z.length else none) = _
        rw [if_pos (by omega)]
      refine es_is (n := 0 + 1) (es_op (R1 := (· = .str z)) (es_pure (ee_var rfl)) (fun _ _ => es_tk (E := C8.E0) (n := z.length) (ee_len (ee_var rfl) sl) h1 (by omega)) (R := fun e => ∃ c ∈ z.cps.toList, e = .str ⟨#[c]⟩) fun x y hx hy => by
        subst hx
        obtain ⟨r, rfl, hr⟩ := hy
        have hr' : r < z.cps.toList.length := by rw [Array.length_toList]; exact hr
        refine ⟨.str ⟨#[z.cps.toList[r]]⟩, rd_ix ?_, _, List.getElem_mem hr', rfl⟩
        show (if z.length ≤ 100000 then (atI z.cps.toList (r : Int)).map (fun c => PyData.str ⟨#[c]⟩) else none) = _
        rw [if_pos (by omega), atI_nat (List.getElem?_eq_getElem hr')]
        rfl) (by decide) fun d hd => ⟨fun L' e => (by cases e), fun z' e => by cases e; exact hd⟩
theorem es_one {env : Env0'} {te : TE} {E : XK} {j n : Nat} {R : Dt → Prop} {P' : Dt → Prop} (h : EvS K te env j n R) (hr : ∀ d, R d → ∃ L, d = .list L ∧ 1 ≤ L.length ∧ L.length ≤ 1000 ∧ ∀ x ∈ L, P' x) : EvS K (tCall (spS K preOne (fun _ => 1) resOne) [] E (tCons (tVar j) (tCons te tNil))) env j (n + 0 + 1) P' := es_call1 h (fun d hd => by
  obtain ⟨L, rfl, h1, h2, _⟩ := hr d hd
  exact .inl ⟨L, rfl, h1, h2⟩) (fun _ _ => Nat.le_refl _) fun d e hd he => by
  obtain ⟨L, rfl, _, _, hp⟩ := hr d hd
  exact hp e (he.1 L rfl)
/-! ### signs -/
def sgn (d : Dt) : Prop := IntIn 0 65535 d
def anyA : List Dt := [.int 97, .int 122, .int 65, .int 48, .int 57, .int 32, .int 33, .int 126, .int 61, .int 61, .int 37, .int 10, .int 10, .int 0, .int 9, .int 31, .int 127, .int 128, .int 255, .int 256, .int 4095]
def anyB : List Dt := [.int 65535, .int 45, .int 46]
def isSgn : Dt → Bool
  | .int i => decide (0 ≤ i) && decide (i ≤ 65535)
  | _ => false
theorem sgn_of {d : Dt} (h : isSgn d = true) : sgn d := by
  cases d with
  | int i =>
    have h' : (decide ((0 : Int) ≤ i) && decide (i ≤ 65535)) = true := h
    rw [Bool.and_eq_true, decide_eq_true_eq, decide_eq_true_eq] at h'
    exact ⟨i, rfl, h'.1, h'.2⟩
  | _ => exact absurd h Bool.false_ne_true
theorem any_sgn : ∀ x ∈ anyA ++ anyB, sgn x := by
  have q : ((anyA ++ anyB).all isSgn) = true := by decide +kernel
  exact fun x hx => sgn_of (List.all_eq_true.mp q x hx)
def preNone (ds : List Dt) : Prop := ds = []
def resSgn (_ : List Dt) (d : Dt) : Prop := sgn d
theorem c_l_any_sign (F : Dfn K mg "_law_any_sign" s_l_any_sign ["_law_box_here"]) (C_l_take : Cal P w K mg base 1 "_law_take" (spTk K) []) (C_l_one_of : Cal P w K mg base 2 "_law_one_of" (spS K preOne (fun _ => 1) resOne) []) : Cal P w K mg base 3 "_law_any_sign" (spS K preNone (fun _ => 5) resSgn) [] := by
  refine calS F sc_l_any_sign (fun ds h => ?_) (by decide) fun f cdv A outer s H E hr ds h => ?_
  · rw [show ds = _ from h]
    rfl
  · rw [show ds = _ from h]
    refine ⟨_, (pss_cons (ps_set (i := 1) sc_l_any_sign.nd rfl (Or.inl rfl) (pe_lst (pa_cons (pe_int) (pa_cons (pe_int) (pa_cons (pe_int) (pa_cons (pe_int) (pa_cons (pe_int) (pa_cons (pe_int) (pa_cons (pe_int) (pa_cons (pe_int) (pa_cons (pe_int) (pa_cons (pe_int) (pa_cons (pe_int) (pa_cons (pe_int) (pa_cons (pe_int) (pa_cons (pe_int) (pa_cons (pe_int) (pa_cons (pe_int) (pa_cons (pe_int) (pa_cons (pe_int) (pa_cons (pe_int) (pa_cons (pe_int) (pa_cons (pe_int) pa_nil))))))))))))))))))))))) (pss_cons (ps_set (i := 1) sc_l_any_sign.nd rfl (Or.inl rfl) (pe_op op_catL (pv 1) (pe_lst (pa_cons (pe_int) (pa_cons (pe_int) (pa_cons (pe_int) pa_nil)))))) (pss_cons (ps_set (i := 2) sc_l_any_sign.nd rfl (Or.inl rfl) (pe_c C_l_take hr (by decide) (by rfl) (pa_cons (pv 0) (pa_cons (pe_int) pa_nil)))) (pss_one (ps_ret (pe_ix ix_seq (pe_lst (pa_cons (pe_c C_l_one_of hr (by decide) (by rfl) (pa_cons (pv 0) (pa_cons (pv 1) pa_nil))) (pa_cons (pe_op op_add (pe_int) (pe_c C_l_take hr (by decide) (by rfl) (pa_cons (pv 0) (pa_cons (pe_int) pa_nil)))) (pa_cons (pe_c C_l_take hr (by decide) (by rfl) (pa_cons (pv 0) (pa_cons (pe_int) pa_nil))) (pa_cons (pe_c C_l_one_of hr (by decide) (by rfl) (pa_cons (pv 0) (pa_cons (pe_slice sl_list (pv 1) po_none (po_some (pe_int))) pa_nil))) pa_nil))))) (pv 2) (fun _ _ => rfl))))))), ?_⟩
    refine rs_pasg (i := 1) (d := .list anyA) (ee_lst (ea_cons ee_int (ea_cons ee_int (ea_cons ee_int (ea_cons ee_int (ea_cons ee_int (ea_cons ee_int (ea_cons ee_int (ea_cons ee_int (ea_cons ee_int (ea_cons ee_int (ea_cons ee_int (ea_cons ee_int (ea_cons ee_int (ea_cons ee_int (ea_cons ee_int (ea_cons ee_int (ea_cons ee_int (ea_cons ee_int (ea_cons ee_int (ea_cons ee_int (ea_cons ee_int ea_nil))))))))))))))))))))) (by show 21 ≤ 100000; decide)) (by decide) ?_
    refine rs_pasg (i := 1) (d := .list (anyA ++ anyB)) (ee_of (en_cat (ee_var rfl) (ee_lst (ea_cons ee_int (ea_cons ee_int (ea_cons ee_int ea_nil))) (by show 3 ≤ 100000; decide)) (by show 21 + 3 ≤ 100000; decide))) (by decide) ?_
    let ev : Env0' := [none, some (.list (anyA ++ anyB)), none]
    show RtS K _ ev 0 5 (resSgn _)
    refine rs_is (n := 1 + 4) (rs_asg (i := 2) (es_tc (E := C8.E0) 4 rfl rfl) (by decide) fun d hd => ?_) (by decide) fun _ h => h
    obtain ⟨r, rfl, hr4⟩ := hd
    refine rs_ret (es_is (n := (0 + 0 + 1 + (0 + 1 + (1 + (0 + 0 + 1 + 0)))) + 0) (es_ix (k := 4) (P := sgn) (es_ls (esa_1 (es_one (E := C8.E0) (es_pure (ee_var rfl)) fun d hd => ⟨_, hd, by decide, by decide, any_sgn⟩) (esa_1 (es_to (es_add (es_ci 32) (es_to (es_tc (E := C8.E0) 95 rfl rfl) fun _ h => h.intIn)) fun _ h => h.mono (by decide) (by decide)) (esa_1 (es_to (es_tc (E := C8.E0) 65536 rfl rfl) fun _ h => h.intIn.mono (by decide) (by decide)) (esa_1 (es_one (E := C8.E0) (es_pure (d := .list ((anyA ++ anyB).take 12)) (ee_is (ee_of (en_slL (ee_var rfl) eo_none (eo_some ee_int))) (congrArg PyData.list (cut_to 12)))) fun d hd => ⟨_, hd, by decide, by decide, fun x hx => any_sgn x (List.mem_of_mem_take hx)⟩) esa_0)))) (by decide)) (es_con (R := NatLt 4) _ (ee_var rfl) ⟨r, rfl, hr4⟩)) (by decide) fun _ h => h)
/-! ### plain signs -/
def prePS (ds : List Dt) : Prop := ∃ n : Nat, ds = [.int (n : Int)] ∧ n ≤ 400
def nnPS : List Dt → Nat
  | [.int i] => i.toNat
  | _ => 0
def resPS (ds : List Dt) (d : Dt) : Prop := ∀ n : Nat, ds = [.int (n : Int)] → LsE sgn n d
structure Tr (mg : Str → Option Value) : Prop where
  m_range : mg "range" = none
  m_int : mg "int" = none
theorem ee_int1 {env : Env0'} {ta : TE} {b : Bool} (h : EvE K ta env (.bool b)) : EvE K (tCB (fun xs H Q => (∃ i, xs = [.int i] ∧ Q (.int i) H) ∨ ∃ k, xs = [.bl k] ∧ Q (.int (if k then 1 else 0)) H) (tCons ta tNil)) env (.int (if b then 1 else 0)) := fun σ G H gh s Q q => h σ G H gh s _ fun v G2 H2 e dv => by
  cases dv
  exact .inr ⟨b, rfl, q _ G2 H2 e (.int _)⟩
theorem c_l_plain_signs (T : Tr mg) (F : Dfn K mg "_law_plain_signs" s_l_plain_signs ["_law_box_here", "_law_many"]) (C_l_take : Cal P w K mg base 1 "_law_take" (spTk K) []) : Cal P w K mg base 2 "_law_plain_signs" (spS K prePS nnPS resPS) [] := by
  refine calS F sc_l_plain_signs (fun ds h => ?_) (by decide) fun f cdv A outer s H E hr ds h => ?_
  · obtain ⟨n, rfl, _⟩ := h
    rfl
  · obtain ⟨n, rfl, hn⟩ := h
    refine ⟨_, (pss_cons (ps_set (i := 2) sc_l_plain_signs.nd rfl (Or.inl rfl) (pe_lst (pa_nil))) (pss_cons (ps_for PassesOwn.never rfl (pi_range1 (by rfl) T.m_range (pa_cons (pv 1) pa_nil)) (pg_name (i := 3) sc_l_plain_signs.nd rfl (Or.inl rfl)) (pss_cons (ps_set (i := 4) sc_l_plain_signs.nd rfl (Or.inl rfl) (pe_op op_add (pe_int) (pe_c C_l_take hr (by decide) (by rfl) (pa_cons (pv 0) (pa_cons (pe_int) pa_nil))))) (pss_one (ps_expr (pe_bm PySem.F.plainAttrs_list PySem.F.slot_list_append PySem.F.type_list_append mt_append (pv 2) (pa_cons (pe_op op_add (pv 4) (pe_callTy call_int1 (by rfl) T.m_int (by decide +kernel) (pa_cons (pe_cmpR (op_eqD hr.units) (pv 4) (pe_int) (nomark _)) pa_nil))) pa_nil)))))) (pss_one (ps_ret (pv 2))))), ?_⟩
    show RtS K _ [none, some (.int (n : Int)), none, none, none] 0 n _
    refine rs_own (l := 2) (by show 2 < 5; decide) (by decide) ?_
    let ev : Env0' := [none, some (.int (n : Int)), none, none, none]
    show RtO K _ 2 ev [] n _
    refine (?go : RtO K _ 2 ev [] (n + 0) _)
    refine ro_go (n := n) (m := 0) (R := fun e ds => e = ev ∧ ds.length = n ∧ ∀ x ∈ ds, sgn x) (go_is (go_forO (n := 1) (i := 3) (fun k ds => ds.length = k ∧ ∀ x ∈ ds, sgn x) (ei_range1 (n := n) (ea_cons (ee_var rfl) ea_nil) (by omega)) ⟨rfl, fun x hx => absurd hx List.not_mem_nil⟩ (by decide) (by decide) fun k e ds' hk hI => ?_) (by rw [List.length_map, List.length_range]; omega) fun e ds h => ?_) fun e ds hd => ?_
    · obtain ⟨hl, hg⟩ := hI
      have kr : k < n := by
        have e := (List.getElem?_eq_some_iff.mp hk).1
        rw [List.length_map, List.length_range] at e
        exact e
      refine go_is (n := (0 + 1) + 0) (go_seqO (go_asgO (i := 4) (es_add (es_ci 32) (es_to (es_tc (E := C8.E0) 95 rfl rfl) fun _ h => h.intIn)) (by decide) (by decide)) fun e1 d1 h1 => ?_) (by decide) fun _ _ h => h
      obtain ⟨z, ⟨i, rfl, i1, i2⟩, rfl, rfl⟩ := h1
      refine go_is (go_appO (n := 0) (Rd := sgn) (es_con (.int (i + (if PyData.eqv (.int i) (.int 37) then 1 else 0))) (ee_op (ee_var rfl) (ee_int1 (ee_op (ee_var rfl) ee_int (rd_eqD rfl rfl))) rd_add) ⟨_, rfl, by split <;> omega, by split <;> omega⟩) (by omega)) (Nat.le_refl _) fun e' d' h => ?_
      obtain ⟨z, hz, rfl, rfl⟩ := h
      refine ⟨((Wk.refl ev).set rfl).set rfl, by rw [List.length_append, hl]; rfl, fun x hx => ?_⟩
      (rcases List.mem_append.mp hx with q | q)
      · exact hg x q
      · rw [List.mem_singleton.mp q]
        exact hz
    · obtain ⟨rfl, hl, hg⟩ := h
      rw [List.length_map, List.length_range] at hl
      exact ⟨rfl, hl, hg⟩
    · obtain ⟨rfl, hl, hg⟩ := hd
      refine ro_put (rs_ret (es_is (es_pure (ee_var rfl)) (Nat.le_refl _) fun d hd => ?_))
      rw [hd]
      intro n' e
      have e' : (n : Int) = (n' : Int) := by injection e with e _; injection e
      exact ⟨ds, rfl, by omega, hg⟩
end
end K04

namespace LH
open PySem PySem.Spec L2 PyProof.Rows
/-! ### the longest text within -/
mutual
def mx : Dt → Nat
  | .str z => z.length
  | .list ds => mxA ds
  | .tuple ds => mxA ds
  | _ => 0
def mxA : List Dt → Nat
  | [] => 0
  | d :: ds => max (mx d) (mxA ds)
end
theorem mxA_le {S : Nat} : ∀ {ds : List Dt}, mxA ds ≤ S ↔ ∀ d ∈ ds, mx d ≤ S
  | [] => ⟨fun _ d h => absurd h List.not_mem_nil, fun _ => Nat.zero_le _⟩
  | x :: ds => by
    show max (mx x) (mxA ds) ≤ S ↔ _
    rw [Nat.max_le, mxA_le (ds := ds)]
    constructor
    · rintro ⟨a, b⟩ d hd
      rcases List.mem_cons.mp hd with q | q
      · rw [q]; exact a
      · exact b d q
    · exact fun h => ⟨h x List.mem_cons_self, fun d hd => h d (List.mem_cons_of_mem _ hd)⟩
structure Gm (W B S k : Nat) (d : Dt) : Prop where
  g : Gd W B k d
  m : mx d ≤ S
theorem Gm.mono {W B S k W' B' S' k' : Nat} {d : Dt} (h : Gm W B S k d) (h1 : W ≤ W') (h2 : B ≤ B') (h3 : S ≤ S') (h4 : k ≤ k') : Gm W' B' S' k' d := ⟨h.g.mono h1 h2 h4, Nat.le_trans h.m h3⟩
theorem fineS {B k : Nat} {z : Str} (h : (z.cps.toList.all fun c => decide (c < 128)) = true) : fine B k (.str z) = true := by cases k <;> exact h
theorem strF {B k : Nat} {z : Str} (h : fine B k (.str z) = true) : (z.cps.toList.all fun c => decide (c < 128)) = true := by cases k <;> exact h
theorem fineI {B k : Nat} {i : Int} (h : i.natAbs ≤ B) : fine B k (.int i) = true := by cases k <;> exact decide_eq_true h
/-- a row of such things -/
theorem gm_row {W B S k : Nat} {ds : List Dt} (h : ∀ d ∈ ds, Gm W B S k d) : Gm (ds.length * W + 1) B S (k + 1) (.tuple ds) := by
  have go : wtA ds ≤ ds.length * W ∧ ds.all (fine B k) = true := by
    induction ds with
    | nil => exact ⟨Nat.zero_le _, rfl⟩
    | cons x xs ih =>
      obtain ⟨a, b⟩ := ih fun d hd => h d (List.mem_cons_of_mem _ hd)
      have g := (h x List.mem_cons_self).g
      refine ⟨?_, ?_⟩
      · have := g.w
        show wt x + wtA xs ≤ (xs.length + 1) * W
        rw [Nat.add_mul, Nat.one_mul]
        omega
      · rw [List.all_cons, g.f, b]
        rfl
  exact ⟨⟨by show wtA ds + 1 ≤ _; omega, go.2⟩, mxA_le.mpr fun d hd => (h d hd).m⟩
theorem gm_two {W V B S k : Nat} {x y : Dt} (h : Gm W B S k x) (g : Gm V B S k y) : Gm (W + V + 1) B S (k + 1) (.tuple [x, y]) := ⟨⟨by have := h.g.w; have := g.g.w; show wt x + (wt y + 0) + 1 ≤ _; omega, by show (fine B k x && (fine B k y && true)) = true; rw [h.g.f, g.g.f]; rfl⟩, mxA_le.mpr fun d hd => by
  simp only [List.mem_cons, List.not_mem_nil, or_false] at hd
  rcases hd with rfl | rfl
  · exact h.m
  · exact g.m⟩
theorem gm_str {B S k : Nat} {z : Str} (h : z.length ≤ S) (hf : (z.cps.toList.all fun c => decide (c < 128)) = true) : Gm (S + 1) B S k (.str z) := ⟨⟨by show z.length + 1 ≤ S + 1; omega, fineS hf⟩, h⟩
theorem gm_lt {W B S k : Nat} {ds : List Dt} : Gm W B S k (.tuple ds) ↔ Gm W B S k (.list ds) := ⟨fun h => ⟨⟨h.g.w, by have := h.g.f; cases k <;> exact this⟩, h.m⟩, fun h => ⟨⟨h.g.w, by have := h.g.f; cases k <;> exact this⟩, h.m⟩⟩
/-! ### near and far things -/
def NearM (d e : Dt) : Prop := ∀ W B S k, Gm W B S k d → 70000 ≤ B → B ≤ 99999 → 301 ≤ S → S ≤ 10000 → Gm (W + 9 * S + 400) (B + 1) (9 * S) (k + 3) e
def FarM (d e : Dt) : Prop := ∀ W B S k, Gm W B S k d → 70000 ≤ B → B ≤ 99999 → 301 ≤ S → S ≤ 10000 → Gm (max (2 * W) (W + 9 * S + 400)) (B + 1) (9 * S) (k + 3) e
theorem NearM.far {d e : Dt} (h : NearM d e) : FarM d e := fun W B S k g h1 h2 h3 h4 => (h W B S k g h1 h2 h3 h4).mono (Nat.le_max_right _ _) (Nat.le_refl _) (Nat.le_refl _) (Nat.le_refl _)
def RowM (ds es : List Dt) : Prop := FarM (.list ds) (.list es)
theorem far_rowM {d e : Dt} {ds es : List Dt} (hd : d = .list ds ∨ d = .tuple ds) (he : e = .list es ∨ e = .tuple es) (h : RowM ds es) : FarM d e := fun W B S k g h1 h2 h3 h4 => by
  have g' : Gm W B S k (.list ds) := by
    rcases hd with rfl | rfl
    · exact g
    · exact gm_lt.mp g
  have r := h W B S k g' h1 h2 h3 h4
  rcases he with rfl | rfl
  · exact r
  · exact gm_lt.mpr r
/-- a row's items in another order, fewer, some twice -/
theorem row_memM {ds es : List Dt} (hw : wtA es + 1 ≤ 2 * (wtA ds + 1)) (hs : ∀ e ∈ es, e ∈ ds) : RowM ds es := fun W B S k g h1 h2 h3 h4 => by
  obtain ⟨m, rfl, hm⟩ := fine_row (.inl rfl) g.g.f
  refine ⟨⟨?_, ?_⟩, mxA_le.mpr fun e he => Nat.le_trans (mxA_le.mp g.m e (hs e he)) (by omega)⟩
  · have e : wtA ds + 1 ≤ W := g.g.w
    refine Nat.le_trans ?_ (Nat.le_max_left _ _)
    show wtA es + 1 ≤ 2 * W
    omega
  · show es.all (fine (B + 1) (m + 3)) = true
    exact List.all_eq_true.mpr fun e he => fine_mono (Nat.le_succ B) (by omega) (List.all_eq_true.mp hm e (hs e he))
theorem wtA_set : ∀ (ds : List Dt) (a : Nat) (x y : Dt), ds[a]? = some x → wtA (ds.set a y) + wt x = wtA ds + wt y
  | [], a, x, y, h => by simp at h
  | d :: ds, 0, x, y, h => by
    cases h
    show wt y + wtA ds + wt d = wt d + wtA ds + wt y
    omega
  | d :: ds, a + 1, x, y, h => by
    have := wtA_set ds a x y h
    show wt d + wtA (ds.set a y) + wt x = wt d + wtA ds + wt y
    omega
theorem row_setM {ds : List Dt} {a : Nat} {x y : Dt} (hx : ds[a]? = some x) (h : FarM x y) : RowM ds (ds.set a y) := fun W B S k g h1 h2 h3 h4 => by
  obtain ⟨m, rfl, hm⟩ := fine_row (.inl rfl) g.g.f
  have hxm : x ∈ ds := List.mem_of_getElem? hx
  have gy := h (wt x) B S m ⟨⟨Nat.le_refl _, List.all_eq_true.mp hm x hxm⟩, mxA_le.mp g.m x hxm⟩ h1 h2 h3 h4
  refine ⟨⟨?_, ?_⟩, mxA_le.mpr fun e he => ?_⟩
  · have e : wtA ds + 1 ≤ W := g.g.w
    have w1 := gy.g.w
    have w2 := wtA_set ds a x y hx
    have w3 := wtA_mem hxm
    show wtA (ds.set a y) + 1 ≤ max (2 * W) (W + 9 * S + 400)
    omega
  · show (ds.set a y).all (fine (B + 1) (m + 3)) = true
    refine List.all_eq_true.mpr fun e he => ?_
    rcases List.mem_or_eq_of_mem_set he with z | z
    · exact fine_mono (Nat.le_succ B) (by omega) (List.all_eq_true.mp hm e z)
    · rw [z]; exact gy.g.f
  · rcases List.mem_or_eq_of_mem_set he with z | z
    · exact Nat.le_trans (mxA_le.mp g.m e z) (by omega)
    · rw [z]; exact gy.m
theorem row_sameM (ds : List Dt) : RowM ds ds := row_memM (by omega) fun _ h => h
theorem row_revM (ds : List Dt) : RowM ds ds.reverse := row_memM (by rw [wtA_rev]; omega) fun _ h => List.mem_reverse.mp h
theorem row_popM (ds : List Dt) (a : Nat) : RowM ds (ds.eraseIdx a) := row_memM (by have := wtA_sub (List.eraseIdx_sublist ds a); omega) fun _ h => List.mem_of_mem_eraseIdx h
theorem row_insM {ds : List Dt} {a : Nat} {x : Dt} (h : x ∈ ds) : RowM ds (ds.take a ++ x :: ds.drop a) := by
  refine row_memM ?_ fun e he => ?_
  · have h1 : wtA (ds.take a ++ x :: ds.drop a) = wtA (ds.take a) + (wt x + wtA (ds.drop a)) := by rw [wtA_app]; rfl
    have h2 : wtA (ds.take a) + wtA (ds.drop a) = wtA ds := by rw [← wtA_app, List.take_append_drop]
    have := wtA_mem h
    omega
  · rcases List.mem_append.mp he with z | z
    · exact List.mem_of_mem_take z
    · rcases List.mem_cons.mp z with q | q
      · rw [q]; exact h
      · exact List.mem_of_mem_drop q
end LH

namespace K04
open PySem PySem.Spec PyProof.Rows L2 LH C8
abbrev s_l_writing : Stmt := topS 32
abbrev n_l_writing : List Str := ["_law_box_here", "_law_way", "_law_many", "_law_found", "_law_some", "_law_row", "_law_turn"]
theorem sc_l_writing : FnScope n_l_writing ["_law_box_here"] (defScope s_l_writing) := ⟨rfl, rfl, rfl, by decide +kernel, rfl, by decide +kernel, by decide +kernel⟩
abbrev s_l_plain_text : Stmt := topS 33
abbrev n_l_plain_text : List Str := ["_law_box_here", "_law_many", "_law_signs_here", "_law_some", "_law_turn"]
theorem sc_l_plain_text : FnScope n_l_plain_text ["_law_box_here", "_law_many"] (defScope s_l_plain_text) := ⟨rfl, rfl, rfl, by decide +kernel, rfl, by decide +kernel, by decide +kernel⟩
abbrev s_l_heads : Stmt := topS 34
abbrev n_l_heads : List Str := ["_law_box_here", "_law_found", "_law_turn", "_law_name", "_law_many"]
theorem sc_l_heads : FnScope n_l_heads ["_law_box_here"] (defScope s_l_heads) := ⟨rfl, rfl, rfl, by decide +kernel, rfl, by decide +kernel, by decide +kernel⟩
structure Tw1 (mg : Str → Option Value) : Prop where
  m_range : mg "range" = none
  m_int : mg "int" = none
  m_min : mg "min" = none
  m_tuple : mg "tuple" = none
def resW (_ : List Dt) (d : Dt) : Prop := TpL sgn 300 d
def oddL : List Dt := [.list [], .list [], .list [.int 32, .int 101, .int 110, .int 100], .list [.int 10], .list [.int 32, .int 101, .int 110, .int 100, .int 115], .list [.int 48], .list [.int 32]]
def isSgL : Dt → Bool
  | .list ds => decide (ds.length ≤ 5) && ds.all isSgn
  | _ => false
theorem sgL_of {d : Dt} (h : isSgL d = true) : LsL sgn 5 d := by
  cases d with
  | list ds =>
    have h' : (decide (ds.length ≤ 5) && ds.all isSgn) = true := h
    (rw [Bool.and_eq_true, decide_eq_true_eq] at h')
    exact ⟨ds, rfl, h'.1, fun x hx => sgn_of (List.all_eq_true.mp h'.2 x hx)⟩
  | _ => exact absurd h Bool.false_ne_true
theorem odd_sg : ∀ x ∈ oddL, LsL sgn 5 x := by
  have q : (oddL.all isSgL) = true := by decide +kernel
  exact fun x hx => sgL_of (List.all_eq_true.mp q x hx)
section
variable {w : World} {P : Program} {K : PySem.W.Frag} {mg : Str → Option Value} {base : Heap}
theorem es_sig {env : Env0'} {j : Nat} {R : Dt → Prop} (i : Int) (h : isSgn (.int i) = true) : EvS K (tLst (tCons (tC (.int i)) tNil)) env j (0 + 0) (LsL sgn 1) := es_to (es_ls (esa_1 (es_con (.int i) ee_int (sgn_of h)) esa_0) (by decide)) fun _ h => h.le
theorem es_any {env : Env0'} {E : XK} {j : Nat} : EvS K (tCall (spS K preNone (fun _ => 5) resSgn) [] E (tCons (tVar j) tNil)) env j 5 sgn := es_call0 rfl
theorem es_ps {env : Env0'} {E : XK} {te : TE} {j n k : Nat} {a b : Int} (h : EvS K te env j n (IntIn a b)) (ha : 0 ≤ a) (hb : b ≤ (k : Int)) (hk : k ≤ 400) : EvS K (tCall (spS K prePS nnPS resPS) [] E (tCons (tVar j) (tCons te tNil))) env j (n + 0 + k) (LsL sgn k) := es_call1 h (fun d hd => by
  obtain ⟨i, rfl, h1, h2⟩ := hd
  exact ⟨i.toNat, by rw [Int.toNat_of_nonneg (by omega)], by omega⟩) (fun d hd => by
  obtain ⟨i, rfl, h1, h2⟩ := hd
  show i.toNat ≤ k
  omega) fun d e hd he => by
  obtain ⟨i, rfl, h1, h2⟩ := hd
  exact (he i.toNat (by rw [Int.toNat_of_nonneg (by omega)])).le.mono (by omega) fun _ h => h
theorem c_l_writing (T : Tw1 mg) (F : Dfn K mg "_law_writing" s_l_writing ["_law_box_here"]) (C_l_take : Cal P w K mg base 1 "_law_take" (spTk K) []) (C_l_one_of : Cal P w K mg base 2 "_law_one_of" (spS K preOne (fun _ => 1) resOne) []) (C_l_any_sign : Cal P w K mg base 3 "_law_any_sign" (spS K preNone (fun _ => 5) resSgn) []) (C_l_plain_signs : Cal P w K mg base 2 "_law_plain_signs" (spS K prePS nnPS resPS) []) : Cal P w K mg base 4 "_law_writing" (spS K preNone (fun _ => 460) resW) [] := by
  refine calS F sc_l_writing (fun ds h => ?_) (by decide) fun f cdv A outer s H E hr ds h => ?_
  · rw [show ds = _ from h]
    rfl
  · rw [show ds = _ from h]
    refine ⟨_, (pss_cons (ps_par (i := 1) (j := 2) (by rfl) sc_l_writing.nd rfl rfl (by decide) rfl rfl (pa_cons (pe_c C_l_take hr (by decide) (by rfl) (pa_cons (pv 0) (pa_cons (pe_int) pa_nil))) (pa_cons (pe_ix ix_seq (pe_lst (pa_cons (pe_c C_l_take hr (by decide) (by rfl) (pa_cons (pv 0) (pa_cons (pe_int) pa_nil))) (pa_cons (pe_c C_l_take hr (by decide) (by rfl) (pa_cons (pv 0) (pa_cons (pe_int) pa_nil))) (pa_cons (pe_c C_l_take hr (by decide) (by rfl) (pa_cons (pv 0) (pa_cons (pe_int) pa_nil))) pa_nil)))) (pe_c C_l_take hr (by decide) (by rfl) (pa_cons (pv 0) (pa_cons (pe_int) pa_nil))) (fun _ _ => rfl)) pa_nil)) (by rfl)) (pss_cons (ps_if (pt_cmpR (op_eqD hr.units) (pv 1) (pe_int) (nomark _)) (pss_one (ps_ret (pe_slice sl_tupA (pe_tupleOf (by rfl) T.m_tuple (pe_c C_l_plain_signs hr (by decide) (by rfl) (pa_cons (pv 0) (pa_cons (pv 2) pa_nil)))) po_none (po_some (pe_int))))) (pss_nil)) (pss_cons (ps_if (pt_cmpR op_lt (pv 1) (pe_int) (nomark _)) (pss_one (ps_ret (pe_tupleOf (by rfl) T.m_tuple (pe_lc (own := [("_law_turn", 6)]) (g := gName 6) (by rfl) sc_l_writing.nd (pi_range1 (by rfl) T.m_range (pa_cons (pe_callB (call_min2 rfl) (by rfl) T.m_min (by decide +kernel) (pa_cons (pv 2) (pa_cons (pe_int) pa_nil))) pa_nil)) (blkOk_by (own := [("_law_turn", 6)]) (N := n_l_writing) (sc := defScope s_l_writing) (by decide +kernel)) (fun _ _ _ _ _ => pg_name (i := 6) sc_l_writing.nd rfl (Or.inl rfl)) (fun _ _ _ _ _ => pts_nil) (fun _ _ _ _ _ => pe_c C_l_any_sign hr (by decide) (by rfl) (pa_cons (pv 0) pa_nil)))))) (pss_nil)) (pss_cons (ps_if (pt_cmpR (op_eqD hr.units) (pv 1) (pe_int) (nomark _)) (pss_cons (ps_set (i := 3) sc_l_writing.nd rfl (Or.inl rfl) (pe_op op_catL (pe_op op_catL (pe_c C_l_plain_signs hr (by decide) (by rfl) (pa_cons (pv 0) (pa_cons (pe_op op_add (pe_int) (pe_c C_l_take hr (by decide) (by rfl) (pa_cons (pv 0) (pa_cons (pe_int) pa_nil)))) pa_nil))) (pe_lst (pa_cons (pe_int) pa_nil))) (pe_c C_l_plain_signs hr (by decide) (by rfl) (pa_cons (pv 0) (pa_cons (pe_op op_add (pe_int) (pe_c C_l_take hr (by decide) (by rfl) (pa_cons (pv 0) (pa_cons (pe_int) pa_nil)))) pa_nil))))) (pss_one (ps_ret (pe_tupleOf (by rfl) T.m_tuple (pe_op op_catL (pe_slice sl_list (pv 3) po_none (po_some (pe_int))) (pe_op op_repL (pe_lst (pa_cons (pe_c C_l_any_sign hr (by decide) (by rfl) (pa_cons (pv 0) pa_nil)) pa_nil)) (pe_c C_l_take hr (by decide) (by rfl) (pa_cons (pv 0) (pa_cons (pe_int) pa_nil))))))))) (pss_nil)) (pss_cons (ps_if (pt_cmpR (op_eqD hr.units) (pv 1) (pe_int) (nomark _)) (pss_one (ps_ret (pe_op op_repA (pe_tup (pa_cons (pe_c C_l_any_sign hr (by decide) (by rfl) (pa_cons (pv 0) pa_nil)) pa_nil)) (pv 2)))) (pss_nil)) (pss_cons (ps_if (pt_cmpR (op_eqD hr.units) (pv 1) (pe_int) (nomark _)) (pss_cons (ps_set (i := 4) sc_l_writing.nd rfl (Or.inl rfl) (pe_lst (pa_cons (pe_lst (pa_nil)) (pa_cons (pe_lst (pa_nil)) (pa_cons (pe_lst (pa_cons (pe_int) (pa_cons (pe_int) (pa_cons (pe_int) (pa_cons (pe_int) pa_nil))))) (pa_cons (pe_lst (pa_cons (pe_int) pa_nil)) (pa_cons (pe_lst (pa_cons (pe_int) (pa_cons (pe_int) (pa_cons (pe_int) (pa_cons (pe_int) (pa_cons (pe_int) pa_nil)))))) (pa_cons (pe_lst (pa_cons (pe_int) pa_nil)) (pa_cons (pe_lst (pa_cons (pe_int) pa_nil)) pa_nil))))))))) (pss_cons (ps_set (i := 5) sc_l_writing.nd rfl (Or.inl rfl) (pe_op op_catL (pe_op op_catL (pe_lst (pa_cons (pe_int) pa_nil)) (pe_lst (pa_cons (pe_op op_add (pe_int) (pe_c C_l_take hr (by decide) (by rfl) (pa_cons (pv 0) (pa_cons (pe_int) pa_nil)))) pa_nil))) (pe_c C_l_one_of hr (by decide) (by rfl) (pa_cons (pv 0) (pa_cons (pv 4) pa_nil))))) (pss_one (ps_ret (pe_tupleOf (by rfl) T.m_tuple (pe_op op_catL (pe_op op_repL (pe_op op_catL (pv 5) (pe_lst (pa_cons (pe_int) pa_nil))) (pe_op op_add (pe_int) (pe_c C_l_take hr (by decide) (by rfl) (pa_cons (pv 0) (pa_cons (pe_int) pa_nil))))) (pv 5))))))) (pss_nil)) (pss_cons (ps_if (pt_cmpR (op_eqD hr.units) (pv 1) (pe_int) (nomark _)) (pss_cons (ps_set (i := 3) sc_l_writing.nd rfl (Or.inl rfl) (pe_lst (pa_nil))) (pss_cons (ps_for PassesOwn.never rfl (pi_range1 (by rfl) T.m_range (pa_cons (pe_op op_add (pe_int) (pe_c C_l_take hr (by decide) (by rfl) (pa_cons (pv 0) (pa_cons (pe_int) pa_nil)))) pa_nil)) (pg_name (i := 6) sc_l_writing.nd rfl (Or.inl rfl)) (pss_one (ps_set (i := 3) sc_l_writing.nd rfl (Or.inl rfl) (pe_op op_catL (pe_op op_catL (pv 3) (pe_c C_l_plain_signs hr (by decide) (by rfl) (pa_cons (pv 0) (pa_cons (pe_c C_l_take hr (by decide) (by rfl) (pa_cons (pv 0) (pa_cons (pe_int) pa_nil))) pa_nil)))) (pe_lst (pa_cons (pe_int) pa_nil)))))) (pss_one (ps_ret (pe_tupleOf (by rfl) T.m_tuple (pv 3)))))) (pss_nil)) (pss_one (ps_ret (pe_slice sl_tupA (pe_tupleOf (by rfl) T.m_tuple (pe_op op_catL (pe_op op_catL (pe_op op_repL (pe_lst (pa_cons (pe_op op_add (pe_int) (pe_c C_l_take hr (by decide) (by rfl) (pa_cons (pv 0) (pa_cons (pe_int) pa_nil)))) pa_nil)) (pe_op op_add (pe_int) (pe_c C_l_take hr (by decide) (by rfl) (pa_cons (pv 0) (pa_cons (pe_int) pa_nil))))) (pe_slice sl_list (pe_lst (pa_cons (pe_int) (pa_cons (pe_int) pa_nil))) po_none (po_some (pe_c C_l_take hr (by decide) (by rfl) (pa_cons (pv 0) (pa_cons (pe_int) pa_nil)))))) (pe_op op_repL (pe_lst (pa_cons (pe_int) pa_nil)) (pv 2)))) po_none (po_some (pe_int)))))))))))), ?_⟩
    have tk : ∀ (env : Env0') (n : Nat), Nat.ble 1 n = true → Nat.ble n 100000 = true → EvS K (tCall (spTk K) [] C8.E0 (tCons (tVar 0) (tCons (tC (.int (n : Int))) tNil))) env 0 1 (IntIn 0 ((n : Int) - 1)) := fun env n h1 h2 => es_to (es_tc (E := C8.E0) n h1 h2) fun _ h => h.intIn
    refine rs_is (n := (1 + ((1 + (1 + (1 + 0)) + 1) + 0)) + 455) (rs_par (i := 1) (l := 2) (esa_cons (es_tc (E := C8.E0) 8 rfl rfl) fun _ _ => esa_cons (es_ix (k := 3) (P := IntIn 0 300) (es_ls (esa_1 (es_to (tk _ 9 rfl rfl) fun _ h => h.mono (by decide) (by decide)) (esa_1 (es_to (tk _ 40 rfl rfl) fun _ h => h.mono (by decide) (by decide)) (esa_1 (es_to (tk _ 301 rfl rfl) fun _ h => h.mono (by decide) (by decide)) esa_0))) (by decide)) (es_tc (E := C8.E0) 3 rfl rfl)) fun _ _ => esa_nil) (fun ds h => by
        obtain ⟨x, xs, rfl, _, y, ys, rfl, _, rfl⟩ := h
        exact ⟨x, y, rfl⟩) (by decide) (by decide) fun x y hxy => ?_) (by decide) fun _ h => h
    obtain ⟨x', xs, e1, ⟨r, rfl, hr8⟩, y', ys, e2, ⟨mi, rfl, m0, m1⟩, e3⟩ := hxy
    cases e1
    cases e2
    obtain ⟨m, rfl⟩ : ∃ m : Nat, mi = (m : Int) := ⟨mi.toNat, by omega⟩
    have m300 : m ≤ 300 := by omega
    let ev : Env0' := [none, some (.int (r : Int)), some (.int (m : Int)), none, none, none, none]
    show RtS K _ ev 0 455 (resW _)
    have teq : ∀ c : Nat, EvB K (tTest (tOp (rEqD K) (tVar 1) (tC (.int (c : Int))))) ev (decide ((r : Int) = (c : Int))) := fun c => eb_is (eb_test (ee_op (ee_var rfl) ee_int (rd_eqD rfl rfl))) (by rw [eqv_int])
    have yes : ∀ c : Nat, r = c → EvB K (tTest (tOp (rEqD K) (tVar 1) (tC (.int (c : Int))))) ev true := fun c hc => eb_is (teq c) (decide_eq_true (by omega))
    have no : ∀ c : Nat, r ≠ c → EvB K (tTest (tOp (rEqD K) (tVar 1) (tC (.int (c : Int))))) ev false := fun c hc => eb_is (teq c) (decide_eq_false (by omega))
    have lt3 : EvB K (tTest (tOp (rI0 fun i j => .bl (decide (i < j))) (tVar 1) (tC (.int 3)))) ev (decide ((r : Int) < 3)) := eb_test (ee_op (ee_var rfl) ee_int rd_lt)
    have many : EvS K (tVar 2) ev 0 0 (IntIn 0 300) := es_con _ (ee_var rfl) ⟨_, rfl, by omega, by omega⟩
    by_cases r0 : r = 0
    · exact rs_yes (yes 0 r0) (rs_is (n := 0 + 0 + 300) (rs_ret (es_to (es_slTo (es_tl (es_ps (E := C8.E0) (k := 300) many (by decide) (by decide) (by decide))) 60) fun d hd => hd.mono (by decide) fun _ h => h)) (by decide) fun _ h => h)
    refine rs_no (no 0 r0) ?_
    by_cases r3 : r < 3
    · refine rs_yes (eb_is lt3 (decide_eq_true (by omega))) ?_
      have e1 : EvE K (tCB (fun xs H Q => ∃ i j, xs = [.int i, .int j] ∧ Q (.int (if j < i then j else i)) H) (tCons (tVar 2) (tCons (tC (.int 90)) tNil))) ev (.int ((min m 90 : Nat) : Int)) := ee_is (ee_cb (z := .int (if (90 : Int) < (m : Int) then 90 else (m : Int))) (ea_cons (ee_var rfl) (ea_cons (ee_int (i := 90)) ea_nil)) fun vs G H gh dvs Q q => by
        cases dvs with
        | cons d1 r =>
          cases r with
          | cons d2 r =>
            cases r
            cases d1
            cases d2
            exact ⟨_, _, rfl, q _ G H (Gw.refl gh) (.int _)⟩) (by
        congr 1
        split <;> omega)
      refine rs_is (n := ((List.range (min m 90)).map fun (i : Nat) => PyData.int (i : Int)).length * 5) (rs_ret (es_to (es_tl (es_to (es_lcR (i := 6) (P := sgn) (ei_range1 (n := min m 90) (ea_cons e1 ea_nil) (by omega)) (by rw [List.length_map, List.length_range]; omega) (by decide) fun d hd => es_any (E := C8.E0)) fun _ h => h.le)) fun d hd => hd.mono (by rw [List.length_map, List.length_range]; omega) fun _ h => h)) (by rw [List.length_map, List.length_range]; omega) fun _ h => h
    refine rs_no (eb_is lt3 (decide_eq_false (by omega))) ?_
    by_cases r3' : r = 3
    · refine rs_yes (yes 3 r3') ?_
      refine rs_is (n := ((0 + 1) + 0 + 61 + (0 + 0)) + ((0 + 1) + 0 + 61) + (0 + ((5 + 0) + 1))) (rs_asg (i := 3) (R1 := LsL sgn 123) (es_cat (es_cat (es_ps (E := C8.E0) (k := 61) (es_add (es_ci 58) (tk _ 4 rfl rfl)) (by decide) (by decide) (by decide)) (es_sig (R := fun _ => True) 10 rfl) (by decide)) (es_ps (E := C8.E0) (k := 61) (es_add (es_ci 59) (tk _ 3 rfl rfl)) (by decide) (by decide) (by decide)) (by decide)) (by decide) fun d hd => ?_) (by decide) fun _ h => h
      exact rs_ret (es_to (es_tl (es_cat (es_slLTo (es_con (R := LsL sgn 123) _ (ee_var rfl) hd) 300) (es_rep (k := 1) (l := 2) (es_to (es_ls (esa_1 (es_any (E := C8.E0)) esa_0) (by decide)) fun _ h => h.le) (tk _ 3 rfl rfl) (by decide) (by decide)) (by decide))) fun d hd => hd.mono (by decide) fun _ h => h)
    refine rs_no (no 3 r3') ?_
    by_cases r4 : r = 4
    · refine rs_yes (yes 4 r4) (rs_is (n := (5 + 0) + 0) (rs_ret (es_op (R1 := fun d => ∃ x, d = .tuple [x] ∧ sgn x) (es_to (es_tp (k := 1) (esa_1 (es_any (E := C8.E0)) esa_0) (by decide)) fun d hd => ?_) (fun _ _ => es_pure (ee_var rfl)) fun x y hx hy => ?_)) (by decide) fun _ h => h)
      · obtain ⟨ds, rfl, hl, hp⟩ := hd
        match ds, hl, hp with
        | [x], _, hp => exact ⟨x, rfl, hp x List.mem_cons_self⟩
      · obtain ⟨x, rfl, hs⟩ := hx
        subst hy
        refine ⟨_, rd_repA (k := m) (by simp) (by omega) (by show 1 ≤ 1000; decide), _, rfl, ?_, fun z hz => ?_⟩
        · rw [PyProof.Rows.lm_len_rep_flat]
          show m * 1 ≤ 300
          omega
        · obtain ⟨l, hl, hz⟩ := List.mem_flatten.mp hz
          rw [(List.mem_replicate.mp hl).2] at hz
          rw [List.mem_singleton.mp hz]
          exact hs
    refine rs_no (no 4 r4) ?_
    by_cases r5 : r = 5
    · refine rs_yes (yes 5 r5) ?_
      refine rs_pasg (i := 4) (d := .list oddL) (ee_lst (ea_cons (ee_lst ea_nil (by decide)) (ea_cons (ee_lst ea_nil (by decide)) (ea_cons (ee_lst (ea_cons ee_int (ea_cons ee_int (ea_cons ee_int (ea_cons ee_int ea_nil)))) (by show 4 ≤ 100000; decide)) (ea_cons (ee_lst (ea_cons ee_int ea_nil) (by show 1 ≤ 100000; decide)) (ea_cons (ee_lst (ea_cons ee_int (ea_cons ee_int (ea_cons ee_int (ea_cons ee_int (ea_cons ee_int ea_nil))))) (by show 5 ≤ 100000; decide)) (ea_cons (ee_lst (ea_cons ee_int ea_nil) (by show 1 ≤ 100000; decide)) (ea_cons (ee_lst (ea_cons ee_int ea_nil) (by show 1 ≤ 100000; decide)) ea_nil))))))) (by show 7 ≤ 100000; decide)) (by decide) ?_
      refine rs_is (n := ((0 + 0) + ((0 + 1) + 0)) + (0 + 0 + 1) + ((0 + (0 + 0)) + (0 + 1) + 0)) (rs_asg (i := 5) (R1 := LsL sgn 7) (es_cat (es_cat (es_sig (R := fun _ => True) 45 rfl) (es_to (es_ls (P := sgn) (esa_1 (es_to (es_add (es_ci 48) (tk _ 3 rfl rfl)) fun _ h => h.mono (by decide) (by decide)) esa_0) (by decide)) fun _ h => h.le) (by decide)) (es_one (E := C8.E0) (es_pure (ee_var rfl)) fun d hd => ⟨_, hd, by decide, by decide, odd_sg⟩) (by decide)) (by decide) fun d hd => ?_) (by decide) fun _ h => h
      have row : ∀ ev2 : Env0', ev2[5]? = some (some d) → EvS K (tVar 5) ev2 0 0 (LsL sgn 7) := fun ev2 h => es_con _ (ee_var h) hd
      exact rs_ret (es_to (es_tl (es_cat (es_rep (k := 8) (l := 4) (es_cat (row _ rfl) (es_sig (R := fun _ => True) 10 rfl) (by decide)) (es_to (es_add (es_ci 1) (tk _ 4 rfl rfl)) fun _ h => h.mono (by decide) (by decide)) (by decide) (by decide)) (row _ rfl) (by decide))) fun d hd => hd.mono (by decide) fun _ h => h)
    refine rs_no (no 5 r5) ?_
    by_cases r6 : r = 6
    · refine rs_yes (yes 6 r6) ?_
      refine rs_pasg (i := 3) (d := .list []) (ee_lst ea_nil (by decide)) (by decide) ?_
      let ev6 : Dt → Env0' := fun L => [none, some (.int (r : Int)), some (.int (m : Int)), some L, none, none, none]
      show RtS K _ (ev6 (.list [])) 0 455 (resW _)
      refine rs_is (n := ((0 + 1) + 0 + 120) + 0) (rs_go (R := fun e => ∃ L, e = ev6 L ∧ LsL sgn 120 L) (gs_forD (m := 120) (RA := fun ds => ∃ q : Nat, ds = [.int (q : Int)] ∧ q ≤ 4) (fun sd ca T σ G H l s e x Q q => esa_cons (es_add (es_ci 1) (tk _ 4 rfl rfl)) (fun _ _ => esa_nil) sd ca T σ G H l s e x Q fun vs ds G' H' w s' dv rd => q vs ds G' H' w s' dv (by
          obtain ⟨x, xs, rfl, ⟨i, rfl, i0, i1⟩, rfl⟩ := rd
          exact ⟨i.toNat, by rw [Int.toNat_of_nonneg (by omega)], by omega⟩)) fun es hes => ?_) fun e he => ?_) (by decide) fun _ h => h
      · obtain ⟨q, rfl, q4⟩ := hes
        refine ⟨q, rfl, gs_is (gs_forI (n := 30) (i := 6) (fun k e => ∃ L, e = ev6 L ∧ LsL sgn (30 * k) L) (ei_range1 (n := q) (ea_cons ee_int ea_nil) (by omega)) ⟨_, rfl, [], rfl, Nat.zero_le _, fun x h => absurd h List.not_mem_nil⟩ (by decide) fun k e env' hk hI => ?_) (by rw [List.length_map, List.length_range]; omega) fun e he => ?_⟩
        · obtain ⟨L, rfl, hL⟩ := hI
          have kq : k < q := by
            have e := (List.getElem?_eq_some_iff.mp hk).1
            rw [List.length_map, List.length_range] at e
            exact e
          refine gs_is (n := 0 + (1 + 0 + 29) + (0 + 0)) (gs_asg (i := 3) (Rd := LsL sgn (30 * k + 29 + 1)) (es_cat (es_cat (es_con (R := LsL sgn (30 * k)) _ (ee_var rfl) hL) (es_ps (E := C8.E0) (k := 29) (tk _ 30 rfl rfl) (by decide) (by decide) (by decide)) (by omega)) (es_sig (R := fun _ => True) 10 rfl) (by omega)) (by decide)) (by decide) fun e' he => ?_
          obtain ⟨L', hL', rfl⟩ := he
          exact ⟨ev6 L', wk_s (wk_s (wk_s (wk_s (wk_s (wk_s (wk_n wk_nil)))))), L', rfl, hL'.mono (by omega) fun _ h => h⟩
        · obtain ⟨L, rfl, hL⟩ := he
          rw [List.length_map, List.length_range] at hL
          exact ⟨L, rfl, hL.mono (by omega) fun _ h => h⟩
      · obtain ⟨L, rfl, hL⟩ := he
        exact rs_ret (es_to (es_tl (es_con (R := LsL sgn 120) _ (ee_var rfl) hL)) fun d hd => hd.mono (by decide) fun _ h => h)
    refine rs_no (no 6 r6) ?_
    have sl2 : EvS K (tSl (rSlL K) (tLst (tCons (tC (.int 61)) (tCons (tC (.int 61)) tNil))) tNoPart (tPart (tCall (spTk K) [] C8.E0 (tCons (tVar 0) (tCons (tC (.int 3)) tNil))))) ev 0 1 (LsL sgn 2) := es_is (n := 0 + 0 + 1) (es_slD (Ro := (· = none)) (R := LsL sgn 2) (fun d hd => by
        obtain ⟨ds, rfl, _⟩ := hd
        exact ⟨ds, rfl⟩) (es_con (.list [.int 61, .int 61]) (ee_lst (ea_cons ee_int (ea_cons ee_int ea_nil)) (by show 2 ≤ 100000; decide)) ⟨_, rfl, by decide, fun x hx => by
          simp only [List.mem_cons, List.not_mem_nil, or_false, or_self] at hx
          rw [hx]
          exact ⟨61, rfl, by decide, by decide⟩⟩) (eso_pure eo_none) (eso_some (tk _ 3 rfl rfl) fun d hd => by
        obtain ⟨i, rfl, _⟩ := hd
        exact ⟨i, rfl⟩)) (by decide) fun d hd => by
      obtain ⟨ds, lo, hi, ⟨ds', e, hl, hp⟩, _, _, rfl⟩ := hd
      cases e
      exact ⟨_, rfl, Nat.le_trans cut_le hl, fun x hx => hp x (cut_mem hx)⟩
    exact rs_is (n := ((((0 + 1) + 0) + (0 + 1)) + 1) + ((0 + 0) + 0)) (rs_ret (es_to (es_slTo (es_tl (es_cat (es_cat (es_rep (k := 1) (l := 61) (es_to (es_ls (P := sgn) (esa_1 (es_to (es_add (es_ci 97) (tk _ 3 rfl rfl)) fun _ h => h.mono (by decide) (by decide)) esa_0) (by decide)) fun _ h => h.le) (es_to (es_add (es_ci 54) (tk _ 8 rfl rfl)) fun _ h => h.mono (by decide) (by decide)) (by decide) (by decide)) sl2 (by decide)) (es_rep (k := 1) (l := 300) (es_sig (R := fun _ => True) 98 rfl) (es_to many fun _ h => h.mono (by decide) (by decide)) (by decide) (by decide)) (by decide))) 300) fun d hd => hd.mono (by decide) fun _ h => h)) (by decide) fun _ h => h
end
end K04

namespace K04
open PySem PySem.Spec PyProof.Rows L2 LH C8
abbrev s_l_body : Stmt := topS 35
abbrev n_l_body : List Str := ["_law_box_here", "_law_deep", "_law_many", "_law_turn"]
theorem sc_l_body : FnScope n_l_body ["_law_box_here", "_law_deep"] (defScope s_l_body) := ⟨rfl, rfl, rfl, by decide +kernel, rfl, by decide +kernel, by decide +kernel⟩
abbrev s_l_letter : Stmt := topS 36
abbrev n_l_letter : List Str := ["_law_box_here", "_law_deep", "_law_heads_here", "_law_name", "_law_value"]
theorem sc_l_letter : FnScope n_l_letter ["_law_box_here", "_law_deep"] (defScope s_l_letter) := ⟨rfl, rfl, rfl, by decide +kernel, rfl, by decide +kernel, by decide +kernel⟩
/-! ### plain texts -/
def plainC (c : Nat) : Prop := c ∈ plains.cps.toList
def prePT (ds : List Dt) : Prop := ∃ n : Nat, ds = [.int (n : Int)] ∧ n ≤ 300
def nnPT : List Dt → Nat
  | [.int i] => i.toNat + 1
  | _ => 0
def PlT (s : Nat) (d : Dt) : Prop := ∃ z : Str, d = .str z ∧ z.length ≤ s ∧ ∀ c ∈ z.cps.toList, plainC c
def resPT (_ : List Dt) (d : Dt) : Prop := PlT 300 d
def signSet (d : Dt) : Prop := ∃ z : Str, d = .str z ∧ 1 ≤ z.length ∧ z.length ≤ 1000 ∧ ∀ c ∈ z.cps.toList, plainC c
def isSet : Dt → Bool
  | .str z => decide (1 ≤ z.length) && decide (z.length ≤ 1000) && z.cps.toList.all fun c => decide (c ∈ plains.cps.toList)
  | _ => false
theorem set_of {d : Dt} (h : isSet d = true) : signSet d := by
  cases d with
  | str z =>
    have h' : (decide (1 ≤ z.length) && decide (z.length ≤ 1000) && z.cps.toList.all fun c => decide (c ∈ plains.cps.toList)) = true := h
    rw [Bool.and_eq_true, Bool.and_eq_true, decide_eq_true_eq, decide_eq_true_eq] at h'
    exact ⟨z, rfl, h'.1.1, h'.1.2, fun c hc => (of_decide_eq_true (List.all_eq_true.mp h'.2 c hc) : c ∈ plains.cps.toList)⟩
  | _ => exact absurd h Bool.false_ne_true
theorem plain_asc {z : Str} (h : ∀ c ∈ z.cps.toList, plainC c) : (z.cps.toList.all fun c => decide (c < 128)) = true := by
  have r : (plains.cps.toList.all fun c => decide (c < 128)) = true := by decide +kernel
  exact List.all_eq_true.mpr fun c hc => List.all_eq_true.mp r c (h c hc)
theorem sum_ones {L : List Nat} {ys : List Str} (h : ∀ y ∈ ys, ∃ c, c ∈ L ∧ y = (⟨#[c]⟩ : Str)) : (ys.map (·.length)).sum = ys.length := by
  induction ys with
  | nil => rfl
  | cons y r ih =>
    obtain ⟨c, _, rfl⟩ := h y List.mem_cons_self
    rw [List.map_cons, List.sum_cons, ih fun z hz => h z (List.mem_cons_of_mem _ hz), List.length_cons]
    show (1 : Nat) + r.length = r.length + 1
    omega
section
variable {w : World} {P : Program} {K : PySem.W.Frag} {mg : Str → Option Value} {base : Heap}
theorem c_l_plain_text (T : Tr mg) (F : Dfn K mg "_law_plain_text" s_l_plain_text ["_law_box_here", "_law_many"]) (C_l_take : Cal P w K mg base 1 "_law_take" (spTk K) []) (C_l_one_of : Cal P w K mg base 2 "_law_one_of" (spS K preOne (fun _ => 1) resOne) []) (C_l_signs : Cal P w K mg base 1 "_law_signs" (spF K mSigns) []) : Cal P w K mg base 3 "_law_plain_text" (spS K prePT nnPT resPT) [] := by
  refine calS F sc_l_plain_text (fun ds h => ?_) (by decide) fun f cdv A outer s H E hr ds h => ?_
  · obtain ⟨n, rfl, _⟩ := h
    rfl
  · obtain ⟨n, rfl, hn⟩ := h
    refine ⟨_, (pss_cons (ps_set (i := 2) sc_l_plain_text.nd rfl (Or.inl rfl) (pe_c0 C_l_signs hr (by decide) (by rfl))) (pss_cons (ps_set (i := 3) sc_l_plain_text.nd rfl (Or.inr rfl) (pe_ix ix_seq (pe_lst (pa_cons (pv 2) (pa_cons (pe_str) (pa_cons (pe_str) pa_nil)))) (pe_c C_l_take hr (by decide) (by rfl) (pa_cons (pv 0) (pa_cons (pe_int) pa_nil))) (fun _ _ => rfl))) (pss_one (ps_ret (pe_join (pe_str) (pe_lc (own := [("_law_turn", 4)]) (g := gName 4) (by rfl) sc_l_plain_text.nd (pi_range1 (by rfl) T.m_range (pa_cons (pv 1) pa_nil)) (blkOk_by (own := [("_law_turn", 4)]) (N := n_l_plain_text) (sc := defScope s_l_plain_text) (by decide +kernel)) (fun _ _ _ _ _ => pg_name (i := 4) sc_l_plain_text.nd rfl (Or.inl rfl)) (fun _ _ _ _ _ => pts_nil) (fun _ _ _ _ _ => pe_c C_l_one_of hr (by decide) (by rfl) (pa_cons (pv 0) (pa_cons (pv 3) pa_nil))))))))), ?_⟩
    show RtS K _ [none, some (.int (n : Int)), none, none, none] 0 (n + 1) _
    refine rs_pasg (i := 2) (d := .str plains) (ee_call (f := mSigns) (ds := []) ea_nil rfl) (by decide) ?_
    refine rs_is (n := ((0 + (0 + (0 + 0))) + 1) + n) (rs_asg (i := 3) (R1 := signSet) (es_ix (k := 3) (es_ls (esa_1 (es_con _ (ee_var rfl) (set_of (by decide +kernel))) (esa_1 (es_con _ ee_str (set_of (by decide +kernel))) (esa_1 (es_con _ ee_str (set_of (by decide +kernel))) esa_0))) (by decide)) (es_tc (E := C8.E0) 3 rfl rfl)) (by decide) fun d hd => ?_) (by omega) fun _ h => h
    obtain ⟨z, rfl, z1, z2, zp⟩ := hd
    let ev : Env0' := [none, some (.int (n : Int)), some (.str plains), some (.str z), none]
    show RtS K _ ev 0 n _
    refine rs_ret (es_is (es_join (P := fun ys => ys.length = n ∧ ∀ y ∈ ys, ∃ c, c ∈ plains.cps.toList ∧ y = (⟨#[c]⟩ : Str)) (es_is (m := n) (es_lcR (i := 4) (m := 0 + 0 + 1) (P := fun e => ∃ y : Str, e = .str y ∧ ∃ c, c ∈ plains.cps.toList ∧ y = (⟨#[c]⟩ : Str)) (ei_range1 (n := n) (ea_cons (ee_var rfl) ea_nil) (by omega)) (by rw [List.length_map, List.length_range]; omega) (by decide) fun d hd => es_call1 (E := C8.E0) (R1 := (· = .str z)) (es_pure (ee_var rfl)) (fun d hd => .inr ⟨z, by rw [hd], z1, z2⟩) (fun _ _ => Nat.le_refl _) fun d e hd he => by
        obtain ⟨c, hc, rfl⟩ := he.2 z (by rw [hd])
        exact ⟨_, rfl, c, zp c hc, rfl⟩) (by rw [List.length_map, List.length_range]; omega) fun d hd => by
        obtain ⟨es, rfl, hl, ha⟩ := hd
        obtain ⟨ys, e1, e2, e3⟩ := strs_ex ha
        exact ⟨ys, by rw [e1], by rw [e2, hl, List.length_map, List.length_range], e3⟩) (fun ys h => by
        rw [sum_ones h.2, h.1]
        show n + n * 0 ≤ 100000
        omega)) (Nat.le_refl _) fun d hd => ?_)
    obtain ⟨ys, ⟨hl, ha⟩, rfl⟩ := hd
    obtain ⟨a, b⟩ := join_one ys ha
    have ej : Txt.join "" ys = Str.join "" ys := StrLaws.glued_eq_join _ _
    refine ⟨_, rfl, ?_, ?_⟩
    · rw [ej]
      have a' : (Str.join "" ys).length = ys.length := by
        rw [← a, Array.length_toList]
        rfl
      rw [a', hl]
      exact hn
    · rw [ej]
      exact fun c hc => b c hc
/-! ### heads -/
def HdR (s : Nat) (d : Dt) : Prop := ∃ n z : Str, d = .tuple [.str n, .str z] ∧ isNameD (.str n) = true ∧ n.length ≤ 8 ∧ (n.cps.toList.all fun c => decide (c < 128)) = true ∧ z.length ≤ s ∧ ∀ c ∈ z.cps.toList, plainC c
def NmR (d : Dt) : Prop := ∃ n : Str, d = .str n ∧ isNameD (.str n) = true ∧ n.length ≤ 8 ∧ (n.cps.toList.all fun c => decide (c < 128)) = true
def isNm : Dt → Bool
  | .str n => isNameD (.str n) && decide (n.length ≤ 8) && n.cps.toList.all fun c => decide (c < 128)
  | _ => false
theorem nm_of {d : Dt} (h : isNm d = true) : NmR d := by
  cases d with
  | str n =>
    have h' : (isNameD (.str n) && decide (n.length ≤ 8) && n.cps.toList.all fun c => decide (c < 128)) = true := h
    rw [Bool.and_eq_true, Bool.and_eq_true, decide_eq_true_eq] at h'
    exact ⟨n, rfl, h'.1.1, h'.1.2, h'.2⟩
  | _ => exact absurd h Bool.false_ne_true
def names8 : List Dt := [.str "from", .str "to", .str "about", .str "a", .str "words", .str "parts", .str "abcdefgh", .str "x"]
theorem names8_nm : ∀ x ∈ names8, NmR x := by
  have q : (names8.all isNm) = true := by decide +kernel
  exact fun x hx => nm_of (List.all_eq_true.mp q x hx)
def resHd (_ : List Dt) (d : Dt) : Prop := TpL (HdR 300) 4 d
structure Th (mg : Str → Option Value) : Prop where
  m_range : mg "range" = none
  m_tuple : mg "tuple" = none
theorem c_l_heads (T : Th mg) (F : Dfn K mg "_law_heads" s_l_heads ["_law_box_here"]) (C_l_take : Cal P w K mg base 1 "_law_take" (spTk K) []) (C_l_one_of : Cal P w K mg base 2 "_law_one_of" (spS K preOne (fun _ => 1) resOne) []) (C_l_plain_text : Cal P w K mg base 3 "_law_plain_text" (spS K prePT nnPT resPT) []) : Cal P w K mg base 4 "_law_heads" (spS K preNone (fun _ => 1230) resHd) [] := by
  refine calS F sc_l_heads (fun ds h => ?_) (by decide) fun f cdv A outer s H E hr ds h => ?_
  · rw [show ds = _ from h]
    rfl
  · rw [show ds = _ from h]
    refine ⟨_, (pss_cons (ps_set (i := 1) sc_l_heads.nd rfl (Or.inl rfl) (pe_lst (pa_nil))) (pss_cons (ps_for PassesOwn.never rfl (pi_range1 (by rfl) T.m_range (pa_cons (pe_ix ix_seq (pe_lst (pa_cons (pe_int) (pa_cons (pe_int) (pa_cons (pe_int) (pa_cons (pe_c C_l_take hr (by decide) (by rfl) (pa_cons (pv 0) (pa_cons (pe_int) pa_nil))) pa_nil))))) (pe_c C_l_take hr (by decide) (by rfl) (pa_cons (pv 0) (pa_cons (pe_int) pa_nil))) (fun _ _ => rfl)) pa_nil)) (pg_name (i := 2) sc_l_heads.nd rfl (Or.inl rfl)) (pss_cons (ps_set (i := 3) sc_l_heads.nd rfl (Or.inl rfl) (pe_c C_l_one_of hr (by decide) (by rfl) (pa_cons (pv 0) (pa_cons (pe_lst (pa_cons (pe_str) (pa_cons (pe_str) (pa_cons (pe_str) (pa_cons (pe_str) (pa_cons (pe_str) (pa_cons (pe_str) (pa_cons (pe_str) (pa_cons (pe_str) pa_nil))))))))) pa_nil)))) (pss_cons (ps_set (i := 4) sc_l_heads.nd rfl (Or.inl rfl) (pe_lst (pa_cons (pe_c C_l_take hr (by decide) (by rfl) (pa_cons (pv 0) (pa_cons (pe_int) pa_nil))) (pa_cons (pe_op op_add (pe_int) (pe_c C_l_take hr (by decide) (by rfl) (pa_cons (pv 0) (pa_cons (pe_int) pa_nil)))) (pa_cons (pe_op op_add (pe_int) (pe_c C_l_take hr (by decide) (by rfl) (pa_cons (pv 0) (pa_cons (pe_int) pa_nil)))) (pa_cons (pe_c C_l_take hr (by decide) (by rfl) (pa_cons (pv 0) (pa_cons (pe_int) pa_nil))) (pa_cons (pe_int) pa_nil))))))) (pss_one (ps_expr (pe_bm PySem.F.plainAttrs_list PySem.F.slot_list_append PySem.F.type_list_append mt_append (pv 1) (pa_cons (pe_tup (pa_cons (pv 3) (pa_cons (pe_c C_l_plain_text hr (by decide) (by rfl) (pa_cons (pv 0) (pa_cons (pe_ix ix_seq (pv 4) (pe_c C_l_take hr (by decide) (by rfl) (pa_cons (pv 0) (pa_cons (pe_int) pa_nil))) (fun _ _ => rfl)) pa_nil))) pa_nil))) pa_nil))))))) (pss_one (ps_ret (pe_tupleOf (by rfl) T.m_tuple (pv 1)))))), ?_⟩
    refine rs_own (l := 1) (by show 1 < 5; decide) (by decide) ?_
    let ev : Env0' := [none, none, none, none, none]
    show RtO K _ 1 ev [] 1230 (resHd _)
    have tk : ∀ (env : Env0') (n : Nat), Nat.ble 1 n = true → Nat.ble n 100000 = true → EvS K (tCall (spTk K) [] C8.E0 (tCons (tVar 0) (tCons (tC (.int (n : Int))) tNil))) env 0 1 (IntIn 0 ((n : Int) - 1)) := fun env n h1 h2 => es_to (es_tc (E := C8.E0) n h1 h2) fun _ h => h.intIn
    refine (?go : RtO K _ 1 ev [] (((0 + (0 + (0 + (1 + 0)))) + 1 + 0 + 1228) + 0) _)
    refine ro_go (R := fun e ds => e = ev ∧ ds.length ≤ 4 ∧ ∀ x ∈ ds, HdR 300 x) (go_forD (m := 1228) (RA := fun ds => ∃ r : Nat, ds = [.int (r : Int)] ∧ r ≤ 4) (fun sd ca T σ G H l s e x Q q => esa_cons (es_ix (k := 4) (P := IntIn 0 4) (es_ls (esa_1 (es_to (es_ci 0) fun _ h => h.mono (by decide) (by decide)) (esa_1 (es_to (es_ci 1) fun _ h => h.mono (by decide) (by decide)) (esa_1 (es_to (es_ci 2) fun _ h => h.mono (by decide) (by decide)) (esa_1 (es_to (tk _ 5 rfl rfl) fun _ h => h.mono (by decide) (by decide)) esa_0)))) (by decide)) (es_tc (E := C8.E0) 4 rfl rfl)) (fun _ _ => esa_nil) sd ca T σ G H l s e x Q fun vs ds G' H' w s' dv rd => q vs ds G' H' w s' dv (by
        obtain ⟨x, xs, rfl, ⟨i, rfl, i0, i1⟩, rfl⟩ := rd
        exact ⟨i.toNat, by rw [Int.toNat_of_nonneg (by omega)], by omega⟩)) fun es hes => ?_) fun e ds hd => ?_
    · obtain ⟨r, rfl, r4⟩ := hes
      refine ⟨r, rfl, go_is (go_forO (n := 307) (i := 2) (fun k ds => ds.length = k ∧ ∀ x ∈ ds, HdR 300 x) (ei_range1 (n := r) (ea_cons ee_int ea_nil) (by omega)) ⟨rfl, fun x hx => absurd hx List.not_mem_nil⟩ (by decide) (by decide) fun k e ds' hk hI => ?_) (by rw [List.length_map, List.length_range]; omega) fun e ds h => ?_⟩
      · obtain ⟨hl, hg⟩ := hI
        have kr : k < r := by
          have e := (List.getElem?_eq_some_iff.mp hk).1
          rw [List.length_map, List.length_range] at e
          exact e
        refine go_is (n := (0 + 0 + 1) + ((1 + ((0 + 1) + ((0 + 1) + (1 + (0 + 0))))) + 302)) (go_seqO (go_asgO (i := 3) (es_one (E := C8.E0) (P' := NmR) (es_pure (d := .list names8) (ee_lst (ea_cons ee_str (ea_cons ee_str (ea_cons ee_str (ea_cons ee_str (ea_cons ee_str (ea_cons ee_str (ea_cons ee_str (ea_cons ee_str ea_nil)))))))) (by show 8 ≤ 100000; decide))) fun d hd => ⟨_, hd, by decide, by decide, names8_nm⟩) (by decide) (by decide)) fun e1 d1 h1 => ?_) (by decide) fun _ _ h => h
        obtain ⟨nm, hnm, rfl, rfl⟩ := h1
        refine go_seqO (go_asgO (i := 4) (Rd := LsE (IntIn 0 300) 5) (es_ls (esa_1 (es_to (tk _ 9 rfl rfl) fun _ h => h.mono (by decide) (by decide)) (esa_1 (es_to (es_add (es_ci 59) (tk _ 3 rfl rfl)) fun _ h => h.mono (by decide) (by decide)) (esa_1 (es_to (es_add (es_ci 118) (tk _ 4 rfl rfl)) fun _ h => h.mono (by decide) (by decide)) (esa_1 (es_to (tk _ 301 rfl rfl) fun _ h => h.mono (by decide) (by decide)) (esa_1 (es_to (es_ci 0) fun _ h => h.mono (by decide) (by decide)) esa_0))))) (by decide)) (by decide) (by decide)) fun e2 d2 h2 => ?_
        obtain ⟨mn, hmn, rfl, rfl⟩ := h2
        refine go_is (go_appO (n := 302) (Rd := HdR 300) (es_is (n := 0 + (((0 + 1) + 0 + 301) + 0)) (es_tup (esa_cons (es_con (R := NmR) _ (ee_var rfl) hnm) fun _ _ => esa_cons (es_call1 (E := C8.E0) (k := 301) (R := PlT 300) (es_ix (k := 5) (P := IntIn 0 300) (es_con (R := LsE (IntIn 0 300) 5) _ (ee_var rfl) hmn) (es_tc (E := C8.E0) 5 rfl rfl)) (fun d hd => by
            obtain ⟨i, rfl, i0, i1⟩ := hd
            exact ⟨i.toNat, by rw [Int.toNat_of_nonneg (by omega)], by omega⟩) (fun d hd => by
            obtain ⟨i, rfl, i0, i1⟩ := hd
            show i.toNat + 1 ≤ 301
            omega) fun d e hd he => he) fun _ _ => esa_nil) (fun ds h => by
            obtain ⟨x, xs, rfl, _, y, ys, rfl, _, rfl⟩ := h
            show 2 ≤ 100000
            decide)) (by decide) fun d hd => by
            obtain ⟨ds, rfl, x, xs, rfl, ⟨n, rfl, n1, n2, n3⟩, y, ys, rfl, ⟨z, rfl, z1, z2⟩, rfl⟩ := hd
            exact ⟨n, z, rfl, n1, n2, n3, z1, z2⟩) (by omega)) (Nat.le_refl _) fun e' d' h => ?_
        obtain ⟨z, hz, rfl, rfl⟩ := h
        refine ⟨((((Wk.refl ev).set rfl).set rfl).set rfl), by rw [List.length_append, hl]; rfl, fun x hx => ?_⟩
        (rcases List.mem_append.mp hx with q | q)
        · exact hg x q
        · rw [List.mem_singleton.mp q]
          exact hz
      · obtain ⟨rfl, hl, hg⟩ := h
        rw [List.length_map, List.length_range] at hl
        exact ⟨rfl, by omega, hg⟩
    · obtain ⟨rfl, l4, hg⟩ := hd
      refine ro_put (rs_ret (es_is (es_pure (ee_tupleL (ee_var rfl))) (Nat.le_refl _) fun d hd => ?_))
      rw [hd]
      exact ⟨ds, rfl, l4, hg⟩
end
/-! ### bodies and letters -/
def wB : Nat → Nat
  | 0 => 0
  | 1 => 48
  | 2 => 1336
  | _ => 6488
def wL : Nat → Nat
  | 0 => 0
  | 1 => 332
  | 2 => 1620
  | _ => 7734
structure BdR (k : Nat) (d : Dt) : Prop where
  b : bodyD k d = true
  g : Gm (wB k) 70000 301 (3 * k - 1) d
structure LtR (k : Nat) (d : Dt) : Prop where
  b : partG (bodyD k) d = true
  g : Gm (wL k) 70000 301 (3 * k) d
  t : ∃ h y, d = .tuple [h, y] ∧ BdR k y
theorem plainD_of {s : Nat} {z : Str} (hs : s ≤ 300) (h : z.length ≤ s) (hp : ∀ c ∈ z.cps.toList, plainC c) : isPlainD (.str z) 0 300 = true := by
  show ((decide ((0 : Int) ≤ (z.length : Int)) && decide ((z.length : Int) ≤ 300)) && (signsD z).all (signIn plains)) = true
  rw [decide_eq_true (show (0 : Int) ≤ (z.length : Int) by omega), decide_eq_true (show (z.length : Int) ≤ 300 by omega), Bool.true_and, Bool.true_and]
  unfold signsD
  rw [List.all_map]
  exact List.all_eq_true.mpr fun c hc => decide_eq_true (hp c hc)
theorem HdR.head {s : Nat} {d : Dt} (hs : s ≤ 300) (h : HdR s d) : headD d = true ∧ Gm (s + 11) 70000 301 1 d := by
  obtain ⟨n, z, rfl, h1, h2, h3, h4, h5⟩ := h
  refine ⟨?_, ?_⟩
  · show (isNameD (.str n) && isPlainD (.str z) 0 300) = true
    rw [h1, plainD_of hs h4 h5]
    rfl
  · have a : Gm 9 70000 301 0 (.str n) := ⟨⟨by show n.length + 1 ≤ 9; omega, fineS h3⟩, by show n.length ≤ 301; omega⟩
    have b : Gm (s + 1) 70000 301 0 (.str z) := ⟨⟨by show z.length + 1 ≤ s + 1; omega, fineS (plain_asc h5)⟩, by show z.length ≤ 301; omega⟩
    exact (gm_two a b).mono (by omega) (Nat.le_refl _) (Nat.le_refl _) (Nat.le_refl _)
theorem heads_of {s n : Nat} {d : Dt} (hs : s ≤ 300) (hn : n ≤ 60) (h : TpL (HdR s) n d) : headsD d = true ∧ Gm (n * (s + 11) + 1) 70000 301 2 d := by
  obtain ⟨ds, rfl, hl, hp⟩ := h
  refine ⟨?_, ?_⟩
  · show (isTupD (.tuple ds) 0 60 && ds.all headD) = true
    rw [tup_up, decide_eq_true (show (ds.length : Int) < 60 + 1 by omega), Bool.true_and]
    exact List.all_eq_true.mpr fun x hx => ((hp x hx).head hs).1
  · refine (gm_row fun x hx => ((hp x hx).head hs).2).mono ?_ (Nat.le_refl _) (Nat.le_refl _) (Nat.le_refl _)
    have := Nat.mul_le_mul_right (s + 11) hl
    omega
theorem words_of {n : Nat} {d : Dt} (hn : n ≤ 300) (h : TpL sgn n d) (k : Nat) : bodyD (k + 1) (.tuple [.str "words", d]) = true ∧ Gm (n + 8) 70000 301 2 (.tuple [.str "words", d]) := by
  obtain ⟨ds, rfl, hl, hp⟩ := h
  refine ⟨?_, ?_⟩
  · show (bif eqS (.str "words") "words" then writD (.tuple ds) else (eqS (.str "words") "parts" && partsG (bodyD k) (.tuple ds))) = true
    rw [show eqS (.str "words") "words" = true by decide +kernel]
    show (isTupD (.tuple ds) 0 300 && _) = true
    rw [tup_up, decide_eq_true (show (ds.length : Int) < 300 + 1 by omega), Bool.true_and]
    refine List.all_eq_true.mpr fun x hx => ?_
    obtain ⟨i, rfl, h0, h1⟩ := hp x hx
    show (decide ((0 : Int) ≤ i) && decide (i ≤ 65535)) = true
    rw [decide_eq_true h0, decide_eq_true h1]
    rfl
  · have a : Gm 6 70000 301 1 (.str "words") := ⟨⟨by decide, by decide +kernel⟩, by decide⟩
    have b : Gm (ds.length * 1 + 1) 70000 301 1 (.tuple ds) := gm_row fun x hx => by
      obtain ⟨i, rfl, h0, h1⟩ := hp x hx
      exact ⟨⟨Nat.le_refl _, fineI (by omega)⟩, Nat.zero_le _⟩
    exact (gm_two a b).mono (by omega) (Nat.le_refl _) (Nat.le_refl _) (Nat.le_refl _)
theorem wL_B {k : Nat} (h1 : 1 ≤ k) (h3 : k ≤ 2) : 4 * wL k + 8 ≤ wB (k + 1) := by
  have : k = 1 ∨ k = 2 := by omega
  (rcases this with rfl | rfl <;> decide)
theorem parts_of {k : Nat} {d : Dt} (h1 : 1 ≤ k) (h2 : k ≤ 2) (h : ∃ ds, d = .tuple ds ∧ 1 ≤ ds.length ∧ ds.length ≤ 4 ∧ ∀ x ∈ ds, LtR k x) : BdR (k + 1) (.tuple [.str "parts", d]) := by
  obtain ⟨ds, rfl, l1, l4, hp⟩ := h
  refine ⟨?_, ?_⟩
  · show (bif eqS (.str "parts") "words" then writD (.tuple ds) else (eqS (.str "parts") "parts" && partsG (bodyD k) (.tuple ds))) = true
    rw [show eqS (.str "parts") "words" = false by decide +kernel, show eqS (.str "parts") "parts" = true by decide +kernel]
    show (true && ((decide ((1 : Int) ≤ (ds.length : Int)) && decide ((ds.length : Int) ≤ 4)) && ds.all (partG (bodyD k)))) = true
    rw [decide_eq_true (show (1 : Int) ≤ (ds.length : Int) by omega), decide_eq_true (show (ds.length : Int) ≤ 4 by omega), Bool.true_and, Bool.true_and, Bool.true_and]
    exact List.all_eq_true.mpr fun x hx => (hp x hx).b
  · have a : Gm 6 70000 301 (3 * k + 1) (.str "parts") := ⟨⟨by decide, fineS (by decide +kernel)⟩, by decide⟩
    have b := gm_row fun x hx => (hp x hx).g
    have hw := wL_B h1 h2
    have hm := Nat.mul_le_mul_right (wL k) l4
    exact (gm_two a b).mono (by omega) (Nat.le_refl _) (Nat.le_refl _) (by omega)
def nB : Nat → Nat
  | 0 => 0
  | 1 => 460
  | 2 => 6763
  | _ => 31976
def nL (k : Nat) : Nat := nB k + 1230
def preDeep (m : Nat) (ds : List Dt) : Prop := ∃ k : Nat, ds = [.int (k : Int)] ∧ 1 ≤ k ∧ k ≤ m
def nnB : List Dt → Nat
  | [.int i] => nB i.toNat
  | _ => 0
def nnL : List Dt → Nat
  | [.int i] => nL i.toNat
  | _ => 0
def resB (ds : List Dt) (d : Dt) : Prop := ∀ k : Nat, ds = [.int (k : Int)] → BdR k d
def resL (ds : List Dt) (d : Dt) : Prop := ∀ k : Nat, ds = [.int (k : Int)] → LtR k d
theorem int_eq {k k' : Nat} (e : ([PyData.int (k : Int)] : List Dt) = [.int (k' : Int)]) : k' = k := by
  injection e with e _
  injection e with e
  omega
section
variable {w : World} {P : Program} {K : PySem.W.Frag} {mg : Str → Option Value} {base : Heap}
theorem esb_orR {env : Env0'} {t u : TT} {j n : Nat} {R : Bool → Prop} (h1 : EvB K t env false) (h2 : EvSB K u env j n R) : EvSB K (tOr t u) env j n R := fun sd ca T σ G H l s e x Q q => h1 σ G H s.gh e _ fun G1 H1 w1 => h2 sd ca T σ G1 H1 l (s.gw w1) (e.mono w1.gg) x Q fun b G2 H2 w2 s2 rb => q b G2 H2 (w1.gs.trans w2) s2 rb
theorem cut_str {z : Str} {n : Nat} : (cutS z none (some (n : Int))).length ≤ n := by
  unfold cutS
  show (List.toArray _).size ≤ n
  rw [List.size_toArray, List.length_take]
  have e : HT.sIx z.length z.length (some (n : Int)) = min n z.length := by rw [HT.sIx_nat]
  have e0 : HT.sIx z.length 0 none = 0 := rfl
  rw [e, e0]
  omega
theorem cut_strm {z : Str} {lo hi : Option Int} {c : Nat} (h : c ∈ (cutS z lo hi).cps.toList) : c ∈ z.cps.toList := by
  unfold cutS at h
  exact List.mem_of_mem_drop (List.mem_of_mem_take h)
theorem rs_next {env : Env0'} {b : TS} {j m : Nat} {R : Dt → Prop} (h : RtS K b env j m R) : RtS K (tSeq tNext b) env j m R := h
structure Tb1 (mg : Str → Option Value) : Prop where
  m_range : mg "range" = none
  m_tuple : mg "tuple" = none
  m_int : mg "int" = none
theorem c_l_letter {m k0 : Nat} (hm : m ≤ 3) (hk : 4 ≤ k0) (T : Tb1 mg) (F : Dfn K mg "_law_letter" s_l_letter ["_law_box_here", "_law_deep"]) (C_l_heads : Cal P w K mg base 4 "_law_heads" (spS K preNone (fun _ => 1230) resHd) []) (C_l_body : Cal P w K mg base k0 "_law_body" (spS K (preDeep m) nnB resB) []) : Cal P w K mg base (k0 + 1) "_law_letter" (spS K (preDeep m) nnL resL) [] := by
  refine calS F sc_l_letter (fun ds h => ?_) (by decide) fun f cdv A outer s H E hr ds h => ?_
  · obtain ⟨k, rfl, _⟩ := h
    rfl
  · obtain ⟨k, rfl, k1, km⟩ := h
    refine ⟨_, (pss_cons (ps_set (i := 2) sc_l_letter.nd rfl (Or.inl rfl) (pe_c C_l_heads hr (by omega) (by rfl) (pa_cons (pv 0) pa_nil))) (pss_cons (ps_if (pt_cmpR op_lt (pv 1) (pe_int) (nomark _)) (pss_one (ps_set (i := 2) sc_l_letter.nd rfl (Or.inl rfl) (pe_tupleOf (by rfl) T.m_tuple (pe_lc (own := [("_law_name", 3), ("_law_value", 4)]) (g := gTup K 2 (gCons (gName 3) (gCons (gName 4) gNil))) (by rfl) sc_l_letter.nd (pi_tup (pe_slice sl_tupA (pv 2) po_none (po_some (pe_int)))) (blkOk_by (own := [("_law_name", 3), ("_law_value", 4)]) (N := n_l_letter) (sc := defScope s_l_letter) (by decide +kernel)) (fun _ _ _ _ _ => pg_tup (by rfl) (pgs_cons (pg_name (i := 3) sc_l_letter.nd rfl (Or.inl rfl)) (pgs_cons (pg_name (i := 4) sc_l_letter.nd rfl (Or.inl rfl)) (pgs_nil)))) (fun _ _ _ _ _ => pts_nil) (fun _ _ _ _ _ => pe_tup (pa_cons (pv 3) (pa_cons (pe_slice sl_str (pv 4) po_none (po_some (pe_int))) pa_nil))))))) (pss_nil)) (pss_one (ps_ret (pe_tup (pa_cons (pv 2) (pa_cons (pe_c C_l_body hr (by omega) (by rfl) (pa_cons (pv 0) (pa_cons (pv 1) pa_nil))) pa_nil))))))), ?_⟩
    show RtS K _ [none, some (.int (k : Int)), none, none, none] 0 (nL k) _
    refine rs_is (n := 1230 + nB k) (rs_asg (i := 2) (R1 := TpL (HdR 300) 4) (es_call0 (E := C8.E0) (pre := preNone) (nn := fun _ => 1230) (RR := resHd) rfl) (by decide) fun d hd => ?_) (by unfold nL; omega) fun _ h => h
    have fin : ∀ (h : Dt) (Wh : Nat), headsD h = true → Gm Wh 70000 301 2 h → Wh + wB k + 1 ≤ wL k → RtS K (tRet (tTup (tCons (tVar 2) (tCons (tCall (spS K (preDeep m) nnB resB) [] C8.E0 (tCons (tVar 0) (tCons (tVar 1) tNil))) tNil)))) [none, some (.int (k : Int)), some h, none, none] 0 (nB k) (resL [.int (k : Int)]) := fun h Wh hh hg hW => rs_ret (es_is (n := 0 + (nB k + 0)) (es_tup (esa_cons (es_pure (ee_var rfl)) fun _ _ => esa_cons (es_call (E := C8.E0) (pre := preDeep m) (nn := nnB) (RR := resB) (ds := [.int (k : Int)]) (ea_cons (ee_var rfl) ea_nil) ⟨k, rfl, k1, km⟩) fun _ _ => esa_nil) (fun ds h => by
        obtain ⟨x, xs, rfl, _, y, ys, rfl, _, rfl⟩ := h
        show 2 ≤ 100000
        decide)) (by omega) fun d hd => by
        obtain ⟨ds, rfl, x, xs, rfl, rfl, y, ys, rfl, hy, rfl⟩ := hd
        intro k' e
        have ek := int_eq e
        subst ek
        have b := hy k' rfl
        refine ⟨?_, ?_, x, y, rfl, b⟩
        · show (headsD x && bodyD k' y) = true
          rw [hh, b.b]
          rfl
        · exact (gm_two (hg.mono (Nat.le_refl _) (Nat.le_refl _) (Nat.le_refl _) (show 2 ≤ 3 * k' - 1 by omega)) b.g).mono hW (Nat.le_refl _) (Nat.le_refl _) (by omega))
    have tlt : EvB K (tTest (tOp (rI0 fun i j => .bl (decide (i < j))) (tVar 1) (tC (.int 3)))) [none, some (.int (k : Int)), some d, none, none] (decide ((k : Int) < 3)) := eb_test (ee_op (ee_var rfl) ee_int rd_lt)
    by_cases h3 : k < 3
    · obtain ⟨ds, rfl, hl, hp⟩ := hd
      have hp2 : ∀ x ∈ ds.take 2, HdR 300 x := fun x hx => hp x (List.mem_of_mem_take hx)
      have ct : EvE K (tThen (tLc (iTup K (tSl (rSlA K) (tVar 2) tNoPart (tPart (tC (.int 2))))) (gTup K 2 (gCons (gName 3) (gCons (gName 4) gNil))) tYes (tTup (tCons (tVar 3) (tCons (tSl rSlS (tVar 4) tNoPart (tPart (tC (.int 130)))) tNil))) [3, 4]) (kTup K)) [none, some (.int (k : Int)), some (.tuple ds), none, none] (.tuple ((ds.take 2).map (onPair fun a b => .tuple [a, match b with | .str z => .str (cutS z none (some 130)) | _ => .none]))) := by
        refine ee_tupleL (ee_of (en_mapP (i := 3) (j := 4) _ (ei_tup (ee_is (ee_slT (ee_var rfl) eo_none (eo_some ee_int)) (congrArg PyData.tuple (cut_to 2)))) (fun x hx => ?_) (by rw [List.length_take]; omega) (by decide) fun a b hab => ?_))
        · obtain ⟨n, z, rfl, _⟩ := hp2 x hx
          exact ⟨_, _, rfl⟩
        · obtain ⟨n, z, e, _, _, _, h4, _⟩ := hp2 _ hab
          cases e
          exact ee_tup (ea_cons (ee_var rfl) (ea_cons (ee_slS (ee_var rfl) eo_none (eo_some ee_int) (by omega)) ea_nil)) (by show 2 ≤ 100000; decide)
      refine rs_then (eb_is tlt (decide_eq_true (by omega))) (rs_pasg (i := 2) ct (by decide) ?_)
      have hd2 : TpL (HdR 130) 2 (.tuple ((ds.take 2).map (onPair fun a b => .tuple [a, match b with | .str z => .str (cutS z none (some 130)) | _ => .none]))) := by
        refine ⟨_, rfl, by rw [List.length_map, List.length_take]; omega, fun x hx => ?_⟩
        (obtain ⟨y, hy, rfl⟩ := List.mem_map.mp hx)
        obtain ⟨n, z, rfl, a1, a2, a3, a4, a5⟩ := hp2 y hy
        exact ⟨n, cutS z none (some ((130 : Nat) : Int)), rfl, a1, a2, a3, cut_str, fun c hc => a5 c (cut_strm hc)⟩
      obtain ⟨q1, q2⟩ := heads_of (by decide) (by decide) hd2
      refine fin _ 283 q1 (q2.mono (by decide) (Nat.le_refl _) (Nat.le_refl _) (Nat.le_refl _)) ?_
      have : k = 1 ∨ k = 2 := by omega
      (rcases this with rfl | rfl <;> decide)
    · obtain ⟨q1, q2⟩ := heads_of (by decide) (by decide) hd
      refine rs_else (eb_is tlt (decide_eq_false (by omega))) (rs_next (fin d 1245 q1 (q2.mono (by decide) (Nat.le_refl _) (Nat.le_refl _) (Nat.le_refl _)) ?_))
      have : k = 3 := by omega
      subst this
      decide
theorem nB_step {k : Nat} (h1 : 1 ≤ k) (h2 : k ≤ 2) : 3 + 4 * nL k ≤ nB (k + 1) := by
  have : k = 1 ∨ k = 2 := by omega
  (rcases this with rfl | rfl <;> decide)
theorem nB_lo {k : Nat} (h1 : 1 ≤ k) : 460 ≤ nB k ∧ (2 ≤ k → 461 ≤ nB k) := by
  match k, h1 with
  | 1, _ => exact ⟨by decide, fun h => absurd h (by decide)⟩
  | 2, _ => exact ⟨by decide, fun _ => by decide⟩
  | k + 3, _ => exact ⟨by show 460 ≤ 31976; decide, fun _ => by show 461 ≤ 31976; decide⟩
theorem body_step {m k0 : Nat} (hm : m ≤ 2) (hk : 4 ≤ k0) (T : Tb1 mg) (F : Dfn K mg "_law_body" s_l_body ["_law_box_here", "_law_deep"]) (C_l_take : Cal P w K mg base 1 "_law_take" (spTk K) []) (C_l_writing : Cal P w K mg base 4 "_law_writing" (spS K preNone (fun _ => 460) resW) []) (C_l_letter : Cal P w K mg base k0 "_law_letter" (spS K (preDeep m) nnL resL) []) : Cal P w K mg base (k0 + 1) "_law_body" (spS K (preDeep (m + 1)) nnB resB) [] := by
  refine calS F sc_l_body (fun ds h => ?_) (by decide) fun f cdv A outer s H E hr ds h => ?_
  · obtain ⟨k, rfl, _⟩ := h
    rfl
  · obtain ⟨k, rfl, k1, km⟩ := h
    refine ⟨_, (pss_cons (ps_if (PW.pt (pw_or (pt_cmpR op_lt (pv 1) (pe_int) (nomark _)) (pw_or1 (pt_cmpR op_gt (pe_c C_l_take hr (by omega) (by rfl) (pa_cons (pv 0) (pa_cons (pe_int) pa_nil))) (pe_int) (nomark _))))) (pss_one (ps_ret (pe_tup (pa_cons (pe_str) (pa_cons (pe_slice sl_tupA (pe_c C_l_writing hr (by omega) (by rfl) (pa_cons (pv 0) pa_nil)) po_none (po_some (pe_ix ix_seq (pe_lst (pa_cons (pe_int) (pa_cons (pe_int) pa_nil))) (pe_callTy call_int1 (by rfl) T.m_int (by decide +kernel) (pa_cons (pe_cmpR op_gt (pv 1) (pe_int) (nomark _)) pa_nil)) (fun _ _ => rfl)))) pa_nil))))) (pss_nil)) (pss_cons (ps_set (i := 2) sc_l_body.nd rfl (Or.inl rfl) (pe_op op_add (pe_int) (pe_c C_l_take hr (by omega) (by rfl) (pa_cons (pv 0) (pa_cons (pe_ix ix_seq (pe_lst (pa_cons (pe_int) (pa_cons (pe_int) pa_nil))) (pe_c C_l_take hr (by omega) (by rfl) (pa_cons (pv 0) (pa_cons (pe_int) pa_nil))) (fun _ _ => rfl)) pa_nil))))) (pss_one (ps_ret (pe_tup (pa_cons (pe_str) (pa_cons (pe_tupleOf (by rfl) T.m_tuple (pe_lc (own := [("_law_turn", 3)]) (g := gName 3) (by rfl) sc_l_body.nd (pi_range1 (by rfl) T.m_range (pa_cons (pv 2) pa_nil)) (blkOk_by (own := [("_law_turn", 3)]) (N := n_l_body) (sc := defScope s_l_body) (by decide +kernel)) (fun _ _ _ _ _ => pg_name (i := 3) sc_l_body.nd rfl (Or.inl rfl)) (fun _ _ _ _ _ => pts_nil) (fun _ _ _ _ _ => pe_c C_l_letter hr (by omega) (by rfl) (pa_cons (pv 0) (pa_cons (pe_op op_sub (pv 1) (pe_int)) pa_nil))))) pa_nil))))))), ?_⟩
    let ev : Env0' := [none, some (.int (k : Int)), none, none]
    show RtS K _ ev 0 (nB k) _
    obtain ⟨lo1, lo2⟩ := nB_lo k1
    have ltt : EvB K (tTest (tOp (rI0 fun i j => .bl (decide (i < j))) (tVar 1) (tC (.int 2)))) ev (decide ((k : Int) < 2)) := eb_test (ee_op (ee_var rfl) ee_int rd_lt)
    -- words
    have cutN : EvE K (tOp (rIx K) (tLst (tCons (tC (.int 40)) (tCons (tC (.int 300)) tNil))) (tCB (fun xs H Q => (∃ i, xs = [.int i] ∧ Q (.int i) H) ∨ ∃ k, xs = [.bl k] ∧ Q (.int (if k then 1 else 0)) H) (tCons (tOp (rI0 fun i j => .bl (decide (j < i))) (tVar 1) (tC (.int 2))) tNil))) ev (.int ((if 2 < k then 300 else 40 : Nat) : Int)) := by
      refine ee_op (ee_lst (ea_cons ee_int (ea_cons ee_int ea_nil)) (by show 2 ≤ 100000; decide)) (ee_int1 (ee_op (ee_var rfl) ee_int rd_gt)) (rd_ix ?_)
      by_cases h : 2 < k
      · rw [if_pos h, if_pos (decide_eq_true (show (2 : Int) < (k : Int) by omega))]
        rfl
      · rw [if_neg h, if_neg (by rw [decide_eq_true_eq]; omega)]
        rfl
    have words : RtS K (tRet (tTup (tCons (tC (.str "words")) (tCons (tSl (rSlA K) (tCall (spS K preNone (fun _ => 460) resW) [] C8.E0 (tCons (tVar 0) tNil)) tNoPart (tPart (tOp (rIx K) (tLst (tCons (tC (.int 40)) (tCons (tC (.int 300)) tNil))) (tCB (fun xs H Q => (∃ i, xs = [.int i] ∧ Q (.int i) H) ∨ ∃ k, xs = [.bl k] ∧ Q (.int (if k then 1 else 0)) H) (tCons (tOp (rI0 fun i j => .bl (decide (j < i))) (tVar 1) (tC (.int 2))) tNil))))) tNil)))) ev 0 460 (resB [.int (k : Int)]) := by
      refine rs_ret (es_is (n := 0 + ((460 + 0 + 0) + 0)) (es_tup (esa_cons (es_pure ee_str) fun _ _ => esa_cons (es_slDT (Ro := (· = none)) (Rp := (· = some ((if 2 < k then 300 else 40 : Nat) : Int))) (R := TpL sgn 300) (fun d hd => by
          obtain ⟨ds, rfl, _⟩ := hd
          exact ⟨ds, rfl⟩) (es_call0 (E := C8.E0) (pre := preNone) (nn := fun _ => 460) (RR := resW) rfl) (eso_pure eo_none) (eso_pure (eo_some cutN))) fun _ _ => esa_nil) (fun ds h => by
          obtain ⟨x, xs, rfl, _, y, ys, rfl, _, rfl⟩ := h
          show 2 ≤ 100000
          decide)) (by decide) fun d hd => ?_)
      obtain ⟨ds, rfl, x, xs, rfl, rfl, y, ys, rfl, ⟨es, lo, hi, ⟨es', e, hl, hp⟩, rfl, rfl, rfl⟩, rfl⟩ := hd
      cases e
      intro k' e
      have ek := int_eq e
      subst ek
      obtain ⟨q, rfl⟩ : ∃ q, k' = q + 1 := ⟨k' - 1, by omega⟩
      have tp : TpL sgn (if 2 < q + 1 then 300 else 40) (.tuple (LH.cutD es none (some ((if 2 < q + 1 then 300 else 40 : Nat) : Int)))) := ⟨_, rfl, by rw [cut_to', List.length_take]; omega, fun x hx => hp x (cut_mem hx)⟩
      have n300 : (if 2 < q + 1 then 300 else 40 : Nat) ≤ 300 := by split <;> omega
      obtain ⟨b1, b2⟩ := words_of n300 tp q
      refine ⟨b1, b2.mono ?_ (Nat.le_refl _) (Nat.le_refl _) (by omega)⟩
      match q, km with
      | 0, _ => decide
      | 1, _ => decide
      | 2, _ => decide
      | q + 3, km => omega
    by_cases h2 : k < 2
    · exact rs_yes (eb_orT (eb_is ltt (decide_eq_true (by omega)))) (rs_is words lo1 fun _ h => h)
    obtain ⟨q, rfl⟩ : ∃ q, k = q + 1 := ⟨k - 1, by omega⟩
    have hst := nB_step (k := q) (by omega) (by omega)
    have lo3 := lo2 (by omega)
    refine rs_is (n := 1 + (nB (q + 1) - 1)) (rs_if (n := 1) (m := nB (q + 1) - 1) (Rb := fun _ => True) (esb_orR (eb_is ltt (decide_eq_false (by omega))) (fun sd ca T σ G H l s e x Q q => esb_test (K := K) (es_op (n := 1) (m := 0) (R := fun d => ∃ b, d = .bool b) (es_tc (E := C8.E0) (j := 0) 3 rfl rfl) (fun _ _ => es_pure (ee_int (i := 0))) fun x y hx hy => by
        obtain ⟨r, rfl, _⟩ := hx
        subst hy
        exact ⟨_, rd_gt, _, rfl⟩) (fun d hd => hd) sd ca T σ G H l s e x Q fun b G' H' w s' _ => q b G' H' w s' trivial)) (fun _ => rs_is words (by omega) fun _ h => h) fun _ => ?_) (by omega) fun _ h => h
    refine rs_is (n := (0 + (((0 + (0 + 0)) + 1) + 0 + 1)) + (4 * nL q)) (rs_asg (i := 2) (R1 := IntIn 1 4) (es_to (es_add (es_ci 1) (es_call1 (E := C8.E0) (pre := preTake) (nn := fun _ => 1) (RR := resTake) (k := 1) (R := IntIn 0 3) (R1 := fun d => d = .int ((4 : Nat) : Int) ∨ d = .int ((2 : Nat) : Int)) (es_ix (k := 2) (es_ls (esa_1 (es_con _ (ee_int (i := 4)) (.inl rfl)) (esa_1 (es_con _ (ee_int (i := 2)) (.inr rfl)) esa_0)) (by decide)) (es_tc (E := C8.E0) 2 rfl rfl)) (fun d hd => by
        rcases hd with rfl | rfl
        · exact ⟨4, rfl, by decide, by decide⟩
        · exact ⟨2, rfl, by decide, by decide⟩) (fun _ _ => Nat.le_refl _) fun d e hd he => by
        obtain ⟨n, r, e1, rfl, hr⟩ := he
        rcases hd with rfl | rfl
        · have en := int_eq e1
          exact ⟨_, rfl, by omega, by omega⟩
        · have en := int_eq e1
          exact ⟨_, rfl, by omega, by omega⟩)) fun _ h => h.mono (by decide) (by decide)) (by decide) fun d hd => ?_) (by omega) fun _ h => h
    obtain ⟨i, rfl, i1, i4⟩ := hd
    obtain ⟨r, rfl⟩ : ∃ r : Nat, i = (r : Int) := ⟨i.toNat, by omega⟩
    have rl : (((List.range r).map fun (i : Nat) => PyData.int (i : Int))).length = r := by rw [List.length_map, List.length_range]
    have hmul : r * nL q ≤ 4 * nL q := Nat.mul_le_mul_right _ (by omega)
    refine rs_ret (es_is (n := 0 + (((List.range r).map fun (i : Nat) => PyData.int (i : Int)).length * nL q + 0)) (es_tup (esa_cons (es_pure ee_str) fun _ _ => esa_cons (es_tupleL (es_lcR (i := 3) (P := LtR q) (ei_range1 (n := r) (ea_cons (ee_var rfl) ea_nil) (by omega)) (by omega) (by decide) fun d hd => es_is (es_call (E := C8.E0) (pre := preDeep m) (nn := nnL) (RR := resL) (ds := [.int (q : Int)]) (ea_cons (ee_is (ee_op (ee_var rfl) ee_int rd_sub) (by rw [show ((q + 1 : Nat) : Int) - 1 = (q : Int) by omega])) ea_nil) ⟨q, rfl, by omega, by omega⟩) (Nat.le_refl _) fun e he => he q rfl) fun d hd => by
        obtain ⟨ds, rfl, _⟩ := hd
        exact ⟨ds, rfl⟩) fun _ _ => esa_nil) (fun ds h => by
        obtain ⟨x, xs, rfl, _, y, ys, rfl, _, rfl⟩ := h
        show 2 ≤ 100000
        decide)) (by rw [rl]; omega) fun d hd => ?_)
    obtain ⟨ds, rfl, x, xs, rfl, rfl, y, ys, rfl, ⟨es, rfl, es', e, hl, hp⟩, rfl⟩ := hd
    cases e
    intro k' e
    have ek := int_eq e
    subst ek
    exact parts_of (by omega) (by omega) ⟨es, rfl, by omega, by omega, hp⟩
theorem c_bodyL (T : Tb1 mg) (F : Dfn K mg "_law_body" s_l_body ["_law_box_here", "_law_deep"]) (F1 : Dfn K mg "_law_letter" s_l_letter ["_law_box_here", "_law_deep"]) (C_l_take : Cal P w K mg base 1 "_law_take" (spTk K) []) (C_l_heads : Cal P w K mg base 4 "_law_heads" (spS K preNone (fun _ => 1230) resHd) []) (C_l_writing : Cal P w K mg base 4 "_law_writing" (spS K preNone (fun _ => 460) resW) []) : ∀ m, m ≤ 3 → Cal P w K mg base (4 + 2 * m) "_law_body" (spS K (preDeep m) nnB resB) []
  | 0, _ => cal_none F fun vs H Q E h => by
    obtain ⟨_, _, _, _, _, _, _, _, _, ⟨k, _, h1, h2⟩, _⟩ := h
    omega
  | m + 1, h => body_step (k0 := 4 + 2 * m + 1) (by omega) (by omega) T F C_l_take C_l_writing (c_l_letter (by omega) (by omega) T F1 C_l_heads (c_bodyL T F F1 C_l_take C_l_heads C_l_writing m (by omega)))
end
end K04

namespace LH
open PySem PySem.Spec L2 PyProof.Rows
theorem neg_bool {prog : Program} {w : World} {A : Around} {E : Value → Shared → Prop} {s : Shared} {a : Bool} {Q : Value → Shared → Prop} (h : Q (.int (-(b2n a)) s.toks) { s with toks := s.toks + 1 }) : wpAny (model prog w) A (unaryOp .USub (.bool a)) Q E s := by
  unfold unaryOp
  refine wpAny_holding ?_
  refine wpAny_bind (m := callSpecial? (.bool a) (Str.ofString "__neg__")) (wpAny_callSpecial?_slot (name := Str.ofString "__neg__") (PySem.typeIs_bool s a) F.slot_bool_neg
    (wpAny_call_entry F.slot_bool_neg (PySem.typeIs_bool s a) F.entry_int_neg ?_ (F.args_int_neg_1 _)))
  cases a
  · show wpAny _ _ (do ret (← mkInt (-(0 : Int)))) _ _ s
    (exact wpAny_ret_mkInt (wpAny_pure h))
  · show wpAny _ _ (do ret (← mkInt (-(1 : Int)))) _ _ s
    (exact wpAny_ret_mkInt (wpAny_pure h))
def rNegN : V → Hp → VK → Prop := fun x H Q => (∃ i : Int, x = .int i ∧ Q (.int (-i)) H) ∨ ∃ b : Bool, x = .bl b ∧ Q (.int (-(b2n b))) H
theorem un_negNB {X : Cx} : UnR X (unaryOp .USub) rNegN := by
  intro pins s σ H x v Q I rx h
  rcases h with ⟨i, rfl, q⟩ | ⟨b, rfl, q⟩
  · exact un_neg pins s σ H _ v Q I rx ⟨i, rfl, q⟩
  · cases rx
    exact neg_bool ⟨.int _, H, I.tok _, ⟨_, rfl⟩, q⟩
section
variable {K : PySem.W.Frag} {env : Env0'} {ta : TE}
theorem ee_negN {d : Dt} {i : Int} (h : EvE K ta env d) (hn : numD d = some i) : EvE K (tUn rNegN ta) env (.int (-i)) := fun σ G H gh s Q q => h σ G H gh s _ fun v G' H' w dv => by
  cases dv with
  | int i' =>
    cases hn
    exact .inl ⟨_, rfl, q _ G' H' w (.int _)⟩
  | bl b =>
    cases hn
    exact .inr ⟨b, rfl, q _ G' H' w (.int _)⟩
  | _ => cases hn
/-- isinstance(x, (list, tuple)) -/
theorem ee_isLT {d : Dt} (h : EvE K ta env d) : EvE K (tCB (rIsiT K) (tCons ta (tCons (tTup (tCons (tC (.ty "list")) (tCons (tC (.ty "tuple")) tNil))) tNil))) env (.bool (isSeqD d)) := fun σ G H gh s Q q => h σ G H gh s _ fun v G2 H2 e dv => by
  refine ⟨(by show 2 ≤ sizeLine; decide), fun p np => ?_⟩
  have w3 := Gw.out (o := HO.tup [V.ty "list", V.ty "tuple"]) e.gh np
  refine ⟨v, p, [V.ty "list", V.ty "tuple"], .type (tyN d), [.type "list", .type "tuple"], isSeqD d, rfl, upd_same, .cons (.ty "list") (.cons (.ty "tuple") .nil), tyX (dpM (e.gh.trans w3.hh) dv), ?_, q _ G2 _ (e.trans w3) (.bl _)⟩
  have k1 : kitB (tyN d) "tuple" = some (isTupleD d) := match d with
    | .none => (by decide +kernel : kitB "NoneType" "tuple" = some false)
    | .bool _ => (by decide +kernel : kitB "bool" "tuple" = some false)
    | .int _ => (by decide +kernel : kitB "int" "tuple" = some false)
    | .str _ => (by decide +kernel : kitB "str" "tuple" = some false)
    | .list _ => (by decide +kernel : kitB "list" "tuple" = some false)
    | .tuple _ => (by decide +kernel : kitB "tuple" "tuple" = some true)
    | .dict _ => (by decide +kernel : kitB "dict" "tuple" = some false)
  have k2 : kitB (tyN d) "list" = some (isListD d) := match d with
    | .none => (by decide +kernel : kitB "NoneType" "list" = some false)
    | .bool _ => (by decide +kernel : kitB "bool" "list" = some false)
    | .int _ => (by decide +kernel : kitB "int" "list" = some false)
    | .str _ => (by decide +kernel : kitB "str" "list" = some false)
    | .list _ => (by decide +kernel : kitB "list" "list" = some true)
    | .tuple _ => (by decide +kernel : kitB "tuple" "list" = some false)
    | .dict _ => (by decide +kernel : kitB "dict" "list" = some false)
  have k3 : PySem.W.kitAny K (.type (tyN d)) [.type "tuple"] = some (isTupleD d) := kitAny_cons (kit_ty k1) (fun z => by rw [z]; exact kitAny_nil) (fun z => z)
  refine kitAny_cons (kit_ty k2) (fun z => ?_) (fun z => ?_)
  · rw [k3]
    cases d <;> first | rfl | exact absurd z.symm Bool.false_ne_true
  · cases d <;> first | rfl | exact absurd z Bool.false_ne_true
end
/-! ### a list of one's own: x.pop(i), x.insert(i, e), x[i] = e -/
section
variable {K : PySem.W.Frag} {sd ca p : Addr} {G0 H0 G H : Hp} {l T n i : Nat} {env : Env0'} {ds : List Dt} {σ : L2.St} {D : Ends}
theorem dpsErase {K : PySem.W.Frag} {H : Hp} : ∀ {vs : List V} {ds : List Dt} {a : Nat}, DqAll K H vs ds → DqAll K H (vs.eraseIdx a) (ds.eraseIdx a)
  | _, _, _, .nil => by simp only [List.eraseIdx_nil]; exact .nil
  | _, _, 0, .cons _ t => t
  | _, _, a + 1, .cons x t => .cons x (dpsErase (a := a) t)
theorem Ow.mutd {vs : List V} {es : List Dt} (o : Ow K sd ca G0 H0 p l T env ds σ G H) (np : H0 p = none) (p1 : p ≠ sd) (p2 : p ≠ ca) (hd : DqAll K G vs es) : Ow K sd ca G0 H0 p l T env es σ G (upd H p (.lst vs)) := by
  obtain ⟨us, hp, dv⟩ := o.ex
  refine ⟨⟨o.gs.gg, fun c x z a b => by rw [upd_ne (ne_of_none z np)]; exact o.gs.hh c x z a b, o.gs.nw, fun c z => ?_⟩, o.sv.mut o.ng p1 p2, o.se, o.h0, o.own, o.ng, vs, upd_same, hd⟩
  by_cases hc : c = p
  · rw [hc, upd_same]; exact fun z => nomatch z
  · rw [upd_ne hc]; exact o.gs.nn c z
theorem Ow.popAt {a : Nat} (o : Ow K sd ca G0 H0 p l T env ds σ G H) (np : H0 p = none) (p1 : p ≠ sd) (p2 : p ≠ ca) (hi : env[i]? = some (some (.int (a : Int)))) (ha : a < ds.length) (hl : ds.length ≤ 100000) (q : ∀ H', Ow K sd ca G0 H0 p l T env (ds.eraseIdx a) σ G H' → D.nx σ H') : tDrop (tBM K "list" rPopAt (tVar l) (tCons (tVar i) tNil)) D σ H := by
  obtain ⟨us, hp, dv⟩ := o.ex
  obtain ⟨vi, hvi, dvi⟩ := o.se.at' i _ hi
  cases dvi
  have len := dpsLen dv
  have hau : a < us.length := by omega
  refine ⟨.ref p, o.own, .inl ⟨rfl, us, .inl (.inl hp)⟩, _, hvi, p, us, (a : Int), a, us[a], rfl, rfl, hp, by omega, by omega, ?_, List.getElem?_eq_getElem hau, q _ (o.mutd np p1 p2 (dpsErase dv))⟩
  unfold seqIndex?
  simp
  omega
theorem Ow.insAt {a : Nat} (o : Ow K sd ca G0 H0 p l T env ds σ G H) (np : H0 p = none) (p1 : p ≠ sd) (p2 : p ≠ ca) (hi : env[i]? = some (some (.int (a : Int)))) (ha : a < ds.length) (hl : ds.length ≤ 100000) (q : ∀ H', Ow K sd ca G0 H0 p l T env (ds.take a ++ ds[a] :: ds.drop a) σ G H' → D.nx σ H') : tDrop (tBM K "list" (fun x vs H Q => ∃ (l : Addr) (xs : List V) (i : Int) (y : V), x = .ref l ∧ vs = [.int i, y] ∧ H l = some (.lst xs) ∧ xs.length < sizeLine ∧ 0 ≤ i ∧ i < 2 ^ 63 ∧ Q .non (upd H l (.lst (xs.take i.toNat ++ [y] ++ xs.drop i.toNat)))) (tVar l) (tCons (tVar i) (tCons (tOp (rIx K) (tVar l) (tVar i)) tNil))) D σ H := by
  obtain ⟨us, hp, dv⟩ := o.ex
  obtain ⟨vi, hvi, dvi⟩ := o.se.at' i _ hi
  cases dvi
  have len := dpsLen dv
  have hau : a < us.length := by omega
  obtain ⟨y, hy, dy⟩ := dpsGet dv (List.getElem?_eq_getElem ha)
  refine ⟨.ref p, o.own, .inl ⟨rfl, us, .inl (.inl hp)⟩, _, hvi, .ref p, o.own, _, hvi, .inl ⟨p, us, (a : Int), y, rfl, rfl, .inl (.inl hp), atI_nat hy, p, us, (a : Int), y, rfl, rfl, hp, by rw [len]; exact Nat.lt_of_le_of_lt hl (by decide), by omega, by omega, q _ (o.mutd np p1 p2 ?_)⟩⟩
  rw [Int.toNat_natCast, List.append_assoc]
  exact dpsApp (dpsTake a dv) (.cons dy (dpsDrop a dv))
end
end LH

namespace K04
open PySem PySem.Spec PyProof.Rows L2 LH C8
abbrev s_l_other : Stmt := topS 41
abbrev n_l_other : List Str := ["_law_box_here", "_law_matter", "_law_some"]
theorem sc_l_other : FnScope n_l_other ["_law_box_here", "_law_matter"] (defScope s_l_other) := ⟨rfl, rfl, rfl, by decide +kernel, rfl, by decide +kernel, by decide +kernel⟩
abbrev s_l_bent : Stmt := topS 42
abbrev n_l_bent : List Str := ["_law_box_here", "_law_matter", "_law_way", "_law_some", "_law_at"]
theorem sc_l_bent : FnScope n_l_bent ["_law_box_here", "_law_matter"] (defScope s_l_bent) := ⟨rfl, rfl, rfl, by decide +kernel, rfl, by decide +kernel, by decide +kernel⟩
/-! ### one sign again and again, great letters -/
def rep1 (c n : Nat) : Str := ⟨(List.replicate n c).toArray⟩
def rRep1 : R2 := fun x y H Q => ∃ (c n : Nat), x = .str ⟨#[c]⟩ ∧ y = .int (n : Int) ∧ n ≤ 1000 ∧ Q (.str (rep1 c n)) H
theorem mul_rep (c n : Nat) : Txt.mul ⟨#[c]⟩ (n : Int) = rep1 c n := by
  have h := mul_one_list c (n : Int)
  rw [Int.toNat_natCast] at h
  unfold rep1
  rw [← h]
theorem rep1_len (c n : Nat) : (rep1 c n).length = n := by
  show (List.replicate n c).toArray.size = n
  rw [List.size_toArray, List.length_replicate]
theorem op_rep1 {X : Cx} : OpR X (binaryOp .Mult) rRep1 := by
  (intro pins s σ H x y v u Q I rx ry h)
  obtain ⟨c, n, rfl, rfl, h1, q⟩ := h
  obtain ⟨t, rfl⟩ := rx
  obtain ⟨t', rfl⟩ := ry
  refine SB.mul ⟨?_, fun a b => ?_, fun a b => ?_⟩ fun t2 k => ⟨.str (rep1 c n), H, I.tok _, ⟨_, by rw [mul_rep]⟩, q⟩
  · rw [decide_eq_false (by omega), decide_eq_false (by omega)]
    rfl
  · show ¬ ((1 : Int) > (2 ^ 63 - 1) / (n : Int))
    have h : (1 : Int) ≤ (2 ^ 63 - 1) / (n : Int) := (Int.le_ediv_iff_mul_le (by omega)).mpr (by omega)
    omega
  · refine short24 ?_
    show 1 * ((n : Int)).toNat ≤ _
    rw [Int.toNat_natCast]
    omega
section
variable {K : PySem.W.Frag} {env : Env0'}
theorem rd_rep1 {c n : Nat} (h : n ≤ 1000) : RD K rRep1 (.str ⟨#[c]⟩) (.int (n : Int)) (.str (rep1 c n)) := fun a b G H gh da db Q q => by
  cases da
  cases db
  exact ⟨c, n, rfl, rfl, h, q _ G H (Gw.refl gh) (.str _)⟩
theorem ee_upper {te : TE} {z : Str} (h : EvE K te env (.str z)) (hl : z.length ≤ 100000) : EvE K (tM0 (fun x xs H Q => ∃ a, x = .str a ∧ xs = [] ∧ a.length ≤ 5592405 ∧ Q (.str (Txt.upper a)) H) te) env (.str (Txt.upper z)) := fun σ G H gh s Q q => h σ G H gh s _ fun v G2 H2 e dv => by
  cases dv
  exact ⟨⟨z, rfl⟩, z, rfl, rfl, by omega, q _ G2 H2 e (.str _)⟩
end
theorem up1_lt (c : Nat) (h : c < 128) : up1 c < 128 := by
  have r : ∀ c : Nat, c < 128 → up1 c < 128 := by decide +kernel
  exact r c h
theorem cutS_len (z : Str) (lo hi : Option Int) : (cutS z lo hi).length ≤ z.length := by
  unfold cutS
  show (List.toArray _).size ≤ z.cps.size
  (rw [List.size_toArray, List.length_take, List.length_drop, Array.length_toList])
  omega
theorem str_app (a b : Str) : (a ++ b).length = a.length + b.length := by
  show (a ++ b).cps.size = a.cps.size + b.cps.size
  rw [Str.cps_append, Array.size_append]
theorem near_c {d e : Dt} (h : Gm 300 70000 301 3 e) : NearM d e := fun W B S k _ h1 h2 h3 h4 => h.mono (by omega) (by omega) (by omega) (by omega)
theorem near_wr {d : Dt} : NearM d (.tuple [d]) ∧ NearM d (.list [d]) := by
  have go : NearM d (.tuple [d]) := fun W B S k g h1 h2 h3 h4 => ⟨⟨by have := g.g.w; show wt d + 0 + 1 ≤ W + 9 * S + 400; omega, by show (fine (B + 1) (k + 2) d && true) = true; rw [fine_mono (Nat.le_succ B) (by omega) g.g.f]; rfl⟩, mxA_le.mpr fun x hx => by rw [List.mem_singleton.mp hx]; have := g.m; omega⟩
  exact ⟨go, fun W B S k g h1 h2 h3 h4 => gm_lt.mp (go W B S k g h1 h2 h3 h4)⟩
/-- another text -/
theorem near_s {z y : Str} (hl : ∀ S, z.length ≤ S → 301 ≤ S → y.length ≤ 9 * S) (hf : (z.cps.toList.all fun c => decide (c < 128)) = true → (y.cps.toList.all fun c => decide (c < 128)) = true) : NearM (.str z) (.str y) := fun W B S k g h1 h2 h3 h4 => by
  have hs := hl S g.m h3
  exact ⟨⟨by show y.length + 1 ≤ W + 9 * S + 400; omega, fineS (hf (strF g.g.f))⟩, hs⟩
theorem num_ofM {W B k : Nat} {d : Dt} {i : Int} (g : Gd W B k d) (hn : numD d = some i) (hB : 1 ≤ B) : i.natAbs ≤ B := by
  cases d with
  | int j =>
    cases hn
    have h := g.f
    cases k <;> exact of_decide_eq_true h
  | bool b =>
    cases hn
    cases b
    · exact Nat.zero_le _
    · exact hB
  | _ => cases hn
theorem near_i {d : Dt} {i j : Int} (hn : numD d = some i) (hj : j.natAbs ≤ i.natAbs + 1) : NearM d (.int j) := fun W B S k g h1 h2 h3 h4 => ⟨⟨by show 1 ≤ W + 9 * S + 400; omega, fineI (by have := num_ofM g.g hn (by omega); omega)⟩, Nat.zero_le _⟩
theorem near_t {d : Dt} {i : Int} (hn : numD d = some i) : NearM d (.str (strD d)) := fun W B S k g h1 h2 h3 h4 => by
  have hi := num_ofM g.g hn (by omega)
  cases d with
  | int j =>
    have e : j = i := Option.some.inj hn
    subst e
    have e := int_text_length_le10 (a := j) (k := 10) (by decide) (Nat.lt_of_le_of_lt hi (by omega))
    have el : (Str.ofString (toString j)).length ≤ 11 := by rw [PySem.ofString_length]; omega
    refine ⟨⟨?_, fineS ?_⟩, ?_⟩
    · show (Str.ofString (toString j)).length + 1 ≤ W + 9 * S + 400
      omega
    · refine List.all_eq_true.mpr fun c hc => decide_eq_true ?_
      by_cases h : c < 128
      · exact h
      · exact absurd hc (int_text_free' c ⟨by omega, by omega⟩ j)
    · show (Str.ofString (toString j)).length ≤ 9 * S
      omega
  | bool b =>
    cases b
    · exact ⟨⟨by show 5 + 1 ≤ W + 9 * S + 400; omega, fineS (by decide +kernel)⟩, by show 5 ≤ 9 * S; omega⟩
    · exact ⟨⟨by show 4 + 1 ≤ W + 9 * S + 400; omega, fineS (by decide +kernel)⟩, by show 4 ≤ 9 * S; omega⟩
  | _ => cases hn
theorem up_len {z : Str} (h : (z.cps.toList.all fun c => decide (c < 128)) = true) : (Txt.upper z).length = z.length ∧ ((Txt.upper z).cps.toList.all fun c => decide (c < 128)) = true := by
  have h' : ∀ c ∈ z.cps.toList, c < 128 := fun c hc => of_decide_eq_true (List.all_eq_true.mp h c hc)
  rw [upper_ascii h']
  refine ⟨?_, ?_⟩
  · show (z.cps.map up1).size = z.cps.size
    rw [Array.size_map]
  · show ((z.cps.map up1).toList.all fun c => decide (c < 128)) = true
    rw [Array.toList_map, List.all_map]
    exact List.all_eq_true.mpr fun c hc => decide_eq_true (up1_lt c (h' c hc))
theorem near_up {z : Str} : NearM (.str z) (.str (Txt.upper z)) := fun W B S k g h1 h2 h3 h4 => by
  obtain ⟨a, b⟩ := up_len (strF g.g.f)
  have hm : z.length ≤ S := g.m
  exact ⟨⟨by show (Txt.upper z).length + 1 ≤ W + 9 * S + 400; omega, fineS b⟩, by show (Txt.upper z).length ≤ 9 * S; omega⟩
def oddA : List Dt := [.none, .bool true, .bool false, .str "", .str "Ab", .str "a1", .str "abcdefghi", .str "words", .str "parts", .int 0, .int (-1), .int 65535, .int 65536, .tuple []]
def oddB : List Dt := [.list [], .tuple [.str "a", .str ""]]
def oddC : List Dt := [.tuple [.str "words", .tuple []], .tuple [.str "parts", .tuple []], .tuple [.tuple [], .tuple [.str "words", .tuple []]], .str "a\nb", .tuple [.int 0]]
theorem odd_gm : ∀ d ∈ oddA ++ oddB ++ oddC, Gm 300 70000 301 3 d := by
  intro d hd
  have q : ((oddA ++ oddB ++ oddC).all fun d => decide (wt d ≤ 300) && fine 70000 3 d && decide (mx d ≤ 301)) = true := by decide +kernel
  have r := List.all_eq_true.mp q d hd
  rw [Bool.and_eq_true, Bool.and_eq_true, decide_eq_true_eq, decide_eq_true_eq] at r
  exact ⟨⟨r.1.1, r.1.2⟩, r.2⟩
def preOth (ds : List Dt) : Prop := ∃ d : Dt, ds = [d] ∧ ∃ W B S k, Gm W B S k d ∧ W ≤ 50000 ∧ B ≤ 100000 ∧ S ≤ 10000
def resOth (ds : List Dt) (e : Dt) : Prop := ∃ d : Dt, ds = [d] ∧ NearM d e
theorem one_x : (Str.ofString "x") = (⟨#[120]⟩ : Str) := by decide +kernel
structure To (mg : Str → Option Value) : Prop where
  m_isinstance : mg "isinstance" = none
  m_str : mg "str" = none
  m_int : mg "int" = none
section
variable {w : World} {P : Program} {K : PySem.W.Frag} {mg : Str → Option Value} {base : Heap}
theorem ee_xs {env : Env0'} (n : Nat) (h : n ≤ 1000) : EvE K (tOp rRep1 (tC (.str "x")) (tC (.int (n : Int)))) env (.str (rep1 120 n)) := ee_op (ee_is ee_str (congrArg PyData.str one_x)) (ee_int (i := (n : Int))) (rd_rep1 h)
theorem mem_rep {α : Type} {n : Nat} {xs : List α} {e : α} (h : e ∈ (List.replicate n xs).flatten) : e ∈ xs := by
  obtain ⟨l, hl, he⟩ := List.mem_flatten.mp h
  rw [(List.mem_replicate.mp hl).2] at he
  exact he
theorem rep_asc (n : Nat) : ((rep1 120 n).cps.toList.all fun c => decide (c < 128)) = true := by
  show ((List.replicate n 120).toArray.toList.all fun c => decide (c < 128)) = true
  exact List.all_eq_true.mpr fun x hx => by
    have hx' : x ∈ List.replicate n 120 := hx
    rw [(List.mem_replicate.mp hx').2]
    rfl
theorem rs_seq {env : Env0'} {a b c : TS} {j m : Nat} {R : Dt → Prop} (h : RtS K (tSeq a (tSeq b c)) env j m R) : RtS K (tSeq (tSeq a b) c) env j m R := h
theorem c_l_other (T : To mg) (F : Dfn K mg "_law_other" s_l_other ["_law_box_here", "_law_matter"]) (C_l_one_of : Cal P w K mg base 2 "_law_one_of" (spS K preOne (fun _ => 1) resOne) []) : Cal P w K mg base 3 "_law_other" (spS K preOth (fun _ => 1) resOth) [] := by
  refine calS F sc_l_other (fun ds h => ?_) (by decide) fun f cdv A outer s H E hr ds h => ?_
  · obtain ⟨d, rfl, _⟩ := h
    rfl
  · obtain ⟨d, rfl, W, B, S, k, gd, hW, hB, hS⟩ := h
    refine ⟨_, (pss_cons (ps_set (i := 2) sc_l_other.nd rfl (Or.inl rfl) (pe_lst (pa_cons (pe_non) (pa_cons (pe_bl) (pa_cons (pe_bl) (pa_cons (pe_str) (pa_cons (pe_str) (pa_cons (pe_str) (pa_cons (pe_str) (pa_cons (pe_str) (pa_cons (pe_str) (pa_cons (pe_int) (pa_cons (pe_un un_neg (pe_int)) (pa_cons (pe_int) (pa_cons (pe_int) (pa_cons (pe_tup (pa_nil)) pa_nil)))))))))))))))) (pss_cons (ps_set (i := 2) sc_l_other.nd rfl (Or.inl rfl) (pe_op op_catL (pv 2) (pe_lst (pa_cons (pe_lst (pa_nil)) (pa_cons (pe_tup (pa_cons (pe_str) (pa_cons (pe_str) pa_nil))) pa_nil))))) (pss_cons (ps_set (i := 2) sc_l_other.nd rfl (Or.inl rfl) (pe_op op_catL (pv 2) (pe_lst (pa_cons (pe_tup (pa_cons (pe_str) (pa_cons (pe_tup (pa_nil)) pa_nil))) (pa_cons (pe_tup (pa_cons (pe_str) (pa_cons (pe_tup (pa_nil)) pa_nil))) (pa_cons (pe_tup (pa_cons (pe_tup (pa_nil)) (pa_cons (pe_tup (pa_cons (pe_str) (pa_cons (pe_tup (pa_nil)) pa_nil))) pa_nil))) (pa_cons (pe_str) (pa_cons (pe_tup (pa_cons (pe_int) pa_nil)) pa_nil)))))))) (pss_cons (ps_if (pt_val (pe_callB call_isi (by rfl) T.m_isinstance (by decide +kernel) (pa_cons (pv 1) (pa_cons (pe_tyN "int" (by rfl) T.m_int (by decide +kernel)) pa_nil)))) (pss_one (ps_set (i := 2) sc_l_other.nd rfl (Or.inl rfl) (pe_op op_catL (pv 2) (pe_op op_repL (pe_lst (pa_cons (pe_op op_addNB (pv 1) (pe_int)) (pa_cons (pe_op op_subNB (pv 1) (pe_int)) (pa_cons (pe_un un_negNB (pv 1)) (pa_cons (pe_callTy call_strN (by rfl) T.m_str (by decide +kernel) (pa_cons (pv 1) pa_nil)) (pa_cons (pe_tup (pa_cons (pv 1) pa_nil)) pa_nil)))))) (pe_int))))) (pss_nil)) (pss_cons (ps_if (pt_val (pe_callB call_isi (by rfl) T.m_isinstance (by decide +kernel) (pa_cons (pv 1) (pa_cons (pe_tyN "str" (by rfl) T.m_str (by decide +kernel)) pa_nil)))) (pss_cons (ps_set (i := 2) sc_l_other.nd rfl (Or.inl rfl) (pe_op op_catL (pv 2) (pe_lst (pa_cons (pe_op op_add_str (pv 1) (pe_str)) (pa_cons (pe_slice sl_str (pv 1) po_none (po_some (pe_un un_neg (pe_int)))) (pa_cons (pe_upper (pv 1)) (pa_cons (pe_op op_mulS (pv 1) (pe_int)) (pa_cons (pe_lst (pa_cons (pv 1) pa_nil)) (pa_cons (pe_tup (pa_cons (pv 1) pa_nil)) pa_nil))))))))) (pss_one (ps_set (i := 2) sc_l_other.nd rfl (Or.inl rfl) (pe_op op_catL (pv 2) (pe_lst (pa_cons (pe_op op_rep1 (pe_str) (pe_int)) (pa_cons (pe_op op_rep1 (pe_str) (pe_int)) pa_nil))))))) (pss_nil)) (pss_one (ps_ret (pe_c C_l_one_of hr (by decide) (by rfl) (pa_cons (pv 0) (pa_cons (pv 2) pa_nil)))))))))), ?_⟩
    have fin : ∀ L : List Dt, 1 ≤ L.length → L.length ≤ 1000 → (∀ e ∈ L, NearM d e) → RtS K (tRet (tCall (spS K preOne (fun _ => 1) resOne) [] C8.E0 (tCons (tVar 0) (tCons (tVar 2) tNil)))) [none, some d, some (.list L)] 0 1 (resOth [d]) := fun L h1 h2 h3 => rs_ret (es_is (n := 0 + 0 + 1) (es_one (E := C8.E0) (P' := NearM d) (es_pure (ee_var rfl)) fun e he => ⟨L, he, h1, h2, h3⟩) (by decide) fun e he => ⟨d, rfl, he⟩)
    have all3 : ∀ e ∈ oddA ++ oddB ++ oddC, NearM d e := fun e he => near_c (odd_gm e he)
    have len3 : (oddA ++ oddB ++ oddC).length = 21 := rfl
    refine rs_pasg (i := 2) (d := .list oddA) (ee_lst (ea_cons ee_non (ea_cons ee_bl (ea_cons ee_bl (ea_cons ee_str (ea_cons ee_str (ea_cons ee_str (ea_cons ee_str (ea_cons ee_str (ea_cons ee_str (ea_cons ee_int (ea_cons (ee_neg ee_int) (ea_cons ee_int (ea_cons ee_int (ea_cons (ee_tup ea_nil (by decide)) ea_nil)))))))))))))) (by show 14 ≤ 100000; decide)) (by decide) ?_
    refine rs_pasg (i := 2) (d := .list (oddA ++ oddB)) (ee_of (en_cat (ee_var rfl) (ee_lst (ea_cons (ee_lst ea_nil (by decide)) (ea_cons (ee_tup (ea_cons ee_str (ea_cons ee_str ea_nil)) (by show 2 ≤ 100000; decide)) ea_nil)) (by show 2 ≤ 100000; decide)) (by show 14 + 2 ≤ 100000; decide))) (by decide) ?_
    refine rs_pasg (i := 2) (d := .list (oddA ++ oddB ++ oddC)) (ee_of (en_cat (ee_var rfl) (ee_lst (ea_cons (ee_tup (ea_cons ee_str (ea_cons (ee_tup ea_nil (by decide)) ea_nil)) (by show 2 ≤ 100000; decide)) (ea_cons (ee_tup (ea_cons ee_str (ea_cons (ee_tup ea_nil (by decide)) ea_nil)) (by show 2 ≤ 100000; decide)) (ea_cons (ee_tup (ea_cons (ee_tup ea_nil (by decide)) (ea_cons (ee_tup (ea_cons ee_str (ea_cons (ee_tup ea_nil (by decide)) ea_nil)) (by show 2 ≤ 100000; decide)) ea_nil)) (by show 2 ≤ 100000; decide)) (ea_cons ee_str (ea_cons (ee_tup (ea_cons ee_int ea_nil) (by show 1 ≤ 100000; decide)) ea_nil))))) (by show 5 ≤ 100000; decide)) (by show 16 + 5 ≤ 100000; decide))) (by decide) ?_
    let ev : Env0' := [none, some d, some (.list (oddA ++ oddB ++ oddC))]
    show RtS K _ ev 0 1 _
    have tI : ∀ env : Env0', env[1]? = some (some d) → EvB K (tB (tCB (rIsi K) (tCons (tVar 1) (tCons (tC (.ty "int")) tNil)))) env (isIntD d) := fun env h => eb_B (ee_isInt (ee_var h))
    have tS : ∀ env : Env0', env[1]? = some (some d) → EvB K (tB (tCB (rIsi K) (tCons (tVar 1) (tCons (tC (.ty "str")) tNil)))) env (isStrD d) := fun env h => eb_B (ee_isStr (ee_var h))
    have three : (∃ i : Int, numD d = some i ∧ isIntD d = true ∧ isStrD d = false) ∨ (∃ z, d = .str z) ∨ (isIntD d = false ∧ isStrD d = false) := by
      cases d with
      | int i => exact .inl ⟨i, rfl, rfl, rfl⟩
      | bool b => exact .inl ⟨_, rfl, rfl, rfl⟩
      | str z => exact .inr (.inl ⟨z, rfl⟩)
      | _ => exact .inr (.inr ⟨rfl, rfl⟩)
    rcases three with ⟨i, hn, h1, h2⟩ | ⟨z, rfl⟩ | ⟨h1, h2⟩
    · have hlog : i.natAbs.log2 < 1920 := by
        have := num_ofM (gd.g.mono (Nat.le_refl W) (show B ≤ 100000 from hB) (Nat.le_refl k)) hn (by decide)
        by_cases h0 : i.natAbs = 0
        · rw [h0]
          decide
        · exact Nat.lt_of_lt_of_le ((Nat.log2_lt h0).mpr (Nat.lt_of_le_of_lt this (by decide : 100000 < 2 ^ 17))) (by decide)
      have e3 : (List.replicate 2 [PyData.int (i + 1), .int (i - 1), .int (-i), .str (strD d), .tuple [d]]).flatten.length = 10 := rfl
      refine rs_then (eb_is (tI _ rfl) h1) (rs_pasg (i := 2) (d := .list (oddA ++ oddB ++ oddC ++ (List.replicate 2 [PyData.int (i + 1), .int (i - 1), .int (-i), .str (strD d), .tuple [d]]).flatten)) (ee_of (en_cat (ee_var rfl) (ee_of (en_repL (k := 2) (ee_lst (ea_cons (ee_op (ee_var rfl) ee_int (rd_NB1 (g := fun i j => i + j) hn)) (ea_cons (ee_op (ee_var rfl) ee_int (rd_NB1 (g := fun i j => i - j) hn)) (ea_cons (ee_negN (ee_var rfl) hn) (ea_cons (ee_strN (ee_var rfl) hn hlog) (ea_cons (ee_tup (ea_cons (ee_var rfl) ea_nil) (by show 1 ≤ 100000; decide)) ea_nil))))) (by show 5 ≤ 100000; decide)) (by decide) (by show 5 ≤ 1000; decide))) (by rw [len3, e3]; decide))) (by decide) (rs_else (eb_is (tS _ rfl) h2) (rs_next (fin _ (by rw [List.length_append, len3, e3]; decide) (by rw [List.length_append, len3, e3]; decide) fun e he => ?_))))
      rcases List.mem_append.mp he with z | z
      · exact all3 e z
      · have z := mem_rep z
        simp only [List.mem_cons, List.not_mem_nil, or_false] at z
        rcases z with rfl | rfl | rfl | rfl | rfl
        · exact near_i hn (by omega)
        · exact near_i hn (by omega)
        · exact near_i hn (by omega)
        · exact near_t hn
        · exact near_wr.1
    · have zl : z.length ≤ 10000 := by
        have e : z.length ≤ S := gd.m
        omega
      have e6 : [PyData.str (z ++ "z"), .str (cutS z none (some (-1))), .str (Txt.upper z), .str (Txt.mul z ((9 : Nat) : Int)), .list [.str z], .tuple [.str z]].length = 6 := rfl
      refine rs_else (eb_is (tI _ rfl) rfl) (rs_next (rs_then (eb_is (tS _ rfl) rfl) ?_))
      refine rs_seq (rs_pasg (i := 2) (d := .list (oddA ++ oddB ++ oddC ++ [PyData.str (z ++ "z"), .str (cutS z none (some (-1))), .str (Txt.upper z), .str (Txt.mul z ((9 : Nat) : Int)), .list [.str z], .tuple [.str z]])) (ee_of (en_cat (ee_var rfl) (ee_lst (ea_cons (ee_op (ee_var rfl) ee_str (rd_addS (by show z.length + 1 ≤ 100000; omega))) (ea_cons (ee_slS (ee_var rfl) eo_none (eo_some (ee_neg ee_int)) (by omega)) (ea_cons (ee_upper (ee_var rfl) (by omega)) (ea_cons (ee_op (ee_var rfl) (ee_int (i := ((9 : Nat) : Int))) (rd_mulS (by omega) (by decide))) (ea_cons (ee_lst (ea_cons (ee_var rfl) ea_nil) (by show 1 ≤ 100000; decide)) (ea_cons (ee_tup (ea_cons (ee_var rfl) ea_nil) (by show 1 ≤ 100000; decide)) ea_nil)))))) (by show 6 ≤ 100000; decide)) (by rw [len3, e6]; decide))) (by decide) ?_)
      refine rs_pasg (i := 2) (d := .list (oddA ++ oddB ++ oddC ++ [PyData.str (z ++ "z"), .str (cutS z none (some (-1))), .str (Txt.upper z), .str (Txt.mul z ((9 : Nat) : Int)), .list [.str z], .tuple [.str z]] ++ [.str (rep1 120 300), .str (rep1 120 301)])) (ee_of (en_cat (ee_var rfl) (ee_lst (ea_cons (ee_xs 300 (by decide)) (ea_cons (ee_xs 301 (by decide)) ea_nil)) (by show 2 ≤ 100000; decide)) (by rw [List.length_append, len3, e6]; decide))) (by decide) (fin _ (by rw [List.length_append, List.length_append, len3, e6]; decide) (by rw [List.length_append, List.length_append, len3, e6]; decide) fun e he => ?_)
      rcases List.mem_append.mp he with z1 | z1
      · rcases List.mem_append.mp z1 with z1 | z1
        · exact all3 e z1
        · simp only [List.mem_cons, List.not_mem_nil, or_false] at z1
          rcases z1 with rfl | rfl | rfl | rfl | rfl | rfl
          · refine near_s (fun S h1 h2 => by rw [str_app]; show z.length + 1 ≤ 9 * S; omega) fun h => ?_
            rw [Str.cps_append, Array.toList_append, List.all_append, h]
            decide +kernel
          · exact near_s (fun S h1 h2 => by have := cutS_len z none (some (-1)); omega) fun h => List.all_eq_true.mpr fun c hc => List.all_eq_true.mp h c (cut_strm hc)
          · exact near_up
          · refine near_s (fun S h1 h2 => ?_) fun h => List.all_eq_true.mpr fun c hc => List.all_eq_true.mp h c (mem_mul hc)
            have := len_mul_leN (x := z) (n := ((9 : Nat) : Int)) (L := z.length) (N := 9) (Nat.le_refl _) (by decide)
            omega
          · exact near_wr.2
          · exact near_wr.1
      · simp only [List.mem_cons, List.not_mem_nil, or_false] at z1
        rcases z1 with rfl | rfl
        · exact near_s (fun S h1 h2 => by rw [rep1_len]; omega) fun _ => rep_asc 300
        · exact near_s (fun S h1 h2 => by rw [rep1_len]; omega) fun _ => rep_asc 301
    · exact rs_else (eb_is (tI _ rfl) h1) (rs_next (rs_else (eb_is (tS _ rfl) h2) (rs_next (fin _ (by rw [len3]; decide) (by rw [len3]; decide) all3))))
end
/-! ### bent -/
/-- the same kind of row -/
def likeD : Dt → List Dt → Dt
  | .list _, es => .list es
  | _, es => .tuple es
def preBent : Nat → List Dt → Prop
  | 0, _ => False
  | n + 1, ds => ∃ d : Dt, ds = [d] ∧ ∃ W B S k, Gm W B S k d ∧ W ≤ 50000 ∧ B ≤ 100000 ∧ S ≤ 10000 ∧ k ≤ n
def resBent (ds : List Dt) (e : Dt) : Prop := ∃ d : Dt, ds = [d] ∧ FarM d e
structure Tt (mg : Str → Option Value) : Prop where
  m_list : mg "list" = none
  m_isinstance : mg "isinstance" = none
  m_len : mg "len" = none
  m_tuple : mg "tuple" = none
section
variable {w : World} {P : Program} {K : PySem.W.Frag} {mg : Str → Option Value} {base : Heap}
theorem if_then {t : TT} {a b u : TS} {D : Ends} {σ : L2.St} {G H : Hp} {env : Env0'} (e : EvB K t env true) (gh : Same G H) (sd : Sd K G σ env) (h : ∀ G2 H2, Gw G H G2 H2 → tSeq a u D σ H2) : tSeq (tIfS t a b) u D σ H := e σ G H gh sd _ fun G2 H2 w => h G2 H2 w
theorem seq_drop {te : TE} {u : TS} {D : Ends} {σ : L2.St} {H : Hp} (h : tDrop te { D with nx := u D } σ H) : tSeq (tDrop te) u D σ H := h
theorem c_bent_step (T : Tt mg) (n : Nat) (F : Dfn K mg "_law_bent" s_l_bent ["_law_box_here", "_law_matter"]) (C_l_take : Cal P w K mg base 1 "_law_take" (spTk K) []) (C_l_other : Cal P w K mg base 3 "_law_other" (spS K preOth (fun _ => 1) resOth) [])
    (C_l_bent : Cal P w K mg base (n + 3) "_law_bent" (spS K (preBent n) (fun _ => 3 * n) resBent) []) : Cal P w K mg base (n + 4) "_law_bent" (spS K (preBent (n + 1)) (fun _ => 3 * n + 3) resBent) [] := by
  refine calS F sc_l_bent (fun ds h => ?_) (by decide) fun f cdv A outer s H E hr ds h => ?_
  · obtain ⟨d, rfl, _⟩ := h
    rfl
  · obtain ⟨d, rfl, W, B, S, k, gd, hW, hB, hS, hk⟩ := h
    refine ⟨_, (pss_cons (ps_set (i := 2) sc_l_bent.nd rfl (Or.inl rfl) (pe_c C_l_take hr (by omega) (by rfl) (pa_cons (pv 0) (pa_cons (pe_int) pa_nil)))) (pss_cons (ps_if (PW.pt (pw_or (pt_not (pt_val (pe_callB call_isiT (by rfl) T.m_isinstance (by decide +kernel) (pa_cons (pv 1) (pa_cons (pe_tup (pa_cons (pe_tyN "list" (by rfl) T.m_list (by decide +kernel)) (pa_cons (pe_tyN "tuple" (by rfl) T.m_tuple (by decide +kernel)) (pa_nil)))) pa_nil))))) (pw_or (pt_cmpR (op_eqD hr.units) (pe_callB call_lenA (by rfl) T.m_len (by decide +kernel) (pa_cons (pv 1) pa_nil)) (pe_int) (nomark _)) (pw_or1 (pt_cmpR (op_eqD hr.units) (pv 2) (pe_int) (nomark _)))))) (pss_one (ps_ret (pe_c C_l_other hr (by omega) (by rfl) (pa_cons (pv 0) (pa_cons (pv 1) pa_nil))))) (pss_nil)) (pss_cons (ps_par (i := 3) (j := 4) (by rfl) sc_l_bent.nd rfl rfl (by decide) rfl rfl (pa_cons (pe_callTy call_list_of (by rfl) T.m_list (by decide +kernel) (pa_cons (pv 1) pa_nil)) (pa_cons (pe_c C_l_take hr (by omega) (by rfl) (pa_cons (pv 0) (pa_cons (pe_callB call_lenA (by rfl) T.m_len (by decide +kernel) (pa_cons (pv 1) pa_nil)) pa_nil))) pa_nil)) (by rfl)) (pss_cons (ps_if (pt_cmpR (op_eqD hr.units) (pv 2) (pe_int) (nomark _)) (pss_one (ps_ret (pe_ifExp (pt_val (pe_callB call_isi (by rfl) T.m_isinstance (by decide +kernel) (pa_cons (pv 1) (pa_cons (pe_tyN "list" (by rfl) T.m_list (by decide +kernel)) pa_nil)))) (pe_tupleOf (by rfl) T.m_tuple (pv 3)) (pv 3)))) (pss_nil)) (pss_cons (ps_if (pt_cmpR (op_eqD hr.units) (pv 2) (pe_int) (nomark _)) (pss_one (ps_expr (pe_bm PySem.F.plainAttrs_list PySem.F.slot_list_pop PySem.F.type_list_pop mt_popAt (pv 3) (pa_cons (pv 4) pa_nil)))) (pss_one (ps_if (pt_cmpR (op_eqD hr.units) (pv 2) (pe_int) (nomark _)) (pss_one (ps_expr (pe_bm PySem.F.plainAttrs_list PySem.F.slot_list_insert PySem.F.type_list_insert mt_insert (pv 3) (pa_cons (pv 4) (pa_cons (pe_ix ix_seq (pv 3) (pv 4) (fun _ _ => rfl)) pa_nil))))) (pss_one (ps_if (pt_cmpR (op_eqD hr.units) (pv 2) (pe_int) (nomark _)) (pss_one (ps_set (i := 3) sc_l_bent.nd rfl (Or.inl rfl) (pe_revL (pv 3)))) (pss_one (ps_asg (pe_c C_l_bent hr (by omega) (by rfl) (pa_cons (pv 0) (pa_cons (pe_ix ix_seq (pv 3) (pv 4) (fun _ _ => rfl)) pa_nil))) (pg_sub (pv 3) (pv 4) set_list)))))))) (pss_one (ps_ret (pe_ifExp (pt_val (pe_callB call_isi (by rfl) T.m_isinstance (by decide +kernel) (pa_cons (pv 1) (pa_cons (pe_tyN "list" (by rfl) T.m_list (by decide +kernel)) pa_nil)))) (pv 3) (pe_tupleOf (by rfl) T.m_tuple (pv 3)))))))))), ?_⟩
    refine rs_is (n := 1 + (3 * n + 2)) (rs_asg (i := 2) (n := 1) (m := 3 * n + 2) (R1 := NatLt 8) (es_tc (E := C8.E0) 8 rfl rfl) (by decide) fun dr hdr => ?_) (by omega) fun _ r => r
    obtain ⟨r, rfl, hr16⟩ := hdr
    let ev : Env0' := [none, some d, some (.int (r : Int)), none, none]
    show RtS K _ ev 0 (3 * n + 2) (resBent [d])
    have toOther : RtS K (tRet (tCall (spS K preOth (fun _ => 1) resOth) [] C8.E0 (tCons (tVar 0) (tCons (tVar 1) tNil)))) ev 0 (3 * n + 2) (resBent [d]) := rs_ret (es_is (es_call (ea_cons (ee_var rfl) ea_nil) ⟨d, rfl, W, B, S, k, gd, hW, hB, hS⟩) (by omega) fun e he => by
      obtain ⟨d', e1, hn⟩ := he
      cases e1
      exact ⟨_, rfl, hn.far⟩)
    have teq : ∀ (env : Env0') (c : Int), env[2]? = some (some (.int (r : Int))) → EvB K (tTest (tOp (rEqD K) (tVar 2) (tC (.int c)))) env (decide ((r : Int) = c)) := fun env c h => eb_is (eb_test (ee_op (ee_var h) ee_int (rd_eqD rfl rfl))) (by rw [eqv_int])
    have tTL : EvB K (tNot (tB (tCB (rIsiT K) (tCons (tVar 1) (tCons (tTup (tCons (tC (.ty "list")) (tCons (tC (.ty "tuple")) tNil))) tNil))))) ev (!isSeqD d) := eb_not (eb_B (ee_isLT (ee_var rfl)))
    rcases seq_or d with ⟨ds, hd⟩ | hns
    case inr => exact rs_yes (eb_orT (eb_is tTL (by rw [hns]; rfl))) toOther
    have hsq : isSeqD d = true := by rcases hd with rfl | rfl <;> rfl
    have hlen : lenD d = some ds.length := by rcases hd with rfl | rfl <;> rfl
    have tl0 : EvB K (tTest (tOp (rEqD K) (tCB (rLen K) (tCons (tVar 1) tNil)) (tC (.int 0)))) ev (decide ((ds.length : Int) = 0)) := eb_is (eb_test (ee_op (ee_len (ee_var rfl) hlen) ee_int (rd_eqD rfl rfl))) (by rw [eqv_int])
    by_cases h0 : ds.length = 0
    · exact rs_yes (eb_orF (eb_is tTL (by rw [hsq]; rfl)) (eb_orT (eb_is tl0 (decide_eq_true (by omega))))) toOther
    by_cases h6 : r = 0
    · exact rs_yes (eb_orF (eb_is tTL (by rw [hsq]; rfl)) (eb_orF (eb_is tl0 (decide_eq_false (by omega))) (eb_is (teq _ 0 rfl) (decide_eq_true (by omega))))) toOther
    refine rs_no (eb_orF (eb_is tTL (by rw [hsq]; rfl)) (eb_orF (eb_is tl0 (decide_eq_false (by omega))) (eb_is (teq _ 0 rfl) (decide_eq_false (by omega))))) ?_
    have gl : Gm W B S k (.list ds) := by
      rcases hd with rfl | rfl
      · exact gd
      · exact gm_lt.mp gd
    have hdl : ds.length ≤ 50000 := by
      have e : wtA ds + 1 ≤ W := gl.g.w
      have := wtA_len ds
      omega
    intro sd ca T0 σ G H D hT sv se hj q
    have hT' : T0 + (3 * n + 2) ≤ 100000 := hT
    have hσ : σ.length = 5 := se.len
    have enl : EvN K (tCB (fun xs H Q => ∃ p ys, xs = [V.ref p] ∧ (SqL K H p ys ∨ SqT K H p ys) ∧ ∀ l, H l = none → Q (.ref l) (upd H l (.lst ys))) (tCons (tVar 1) tNil)) ev ds := by
      rcases hd with rfl | rfl
      · exact en_cb (ea_cons (ee_var rfl) ea_nil) rc_listL
      · exact en_cb (ea_cons (ee_var rfl) ea_nil) rc_listT
    refine seq_par2 (enl σ G H sv.gh se _ fun p xs G1 H1 w1 np ng hp dx => ?_)
    have sv1 := sv.gw w1
    obtain ⟨p1, p2⟩ := sv.fresh np
    refine es_tk (K := K) (E := C8.E0) (j := 0) (env := ev) (n := ds.length) (ee_len (ee_var rfl) hlen) (by omega) (by omega) sd ca T0 σ G1 H1 (by omega) sv1 (se.mono w1.gg) hj _ fun va da G2 H2 w2 sv2 dva ⟨a, eda, ha⟩ => ?_
    subst eda
    cases dva
    have ng2 := w2.keeps hp ng
    have hp2 := w2.hh _ _ hp p1 p2
    have dx2 := dpsM w2.gg dx
    refine ⟨_, _, rfl, ?_⟩
    let env1 : Env0' := [none, some d, some (.int (r : Int)), none, some (.int (a : Int))]
    have se2 : Sd K G2 ((σ.set 3 (some (V.ref p))).set 4 (some (V.int (a : Int)))) env1 := ((se.mono (w1.gg.trans w2.gg)).forget (j := 3)).set 4 (.int (a : Int))
    have ow : Ow K sd ca G H p 3 (T0 + 1) env1 ds ((σ.set 3 (some (V.ref p))).set 4 (some (V.int (a : Int)))) G2 H2 := ⟨(Gw.gs w1).trans w2, sv2, se2, by rw [List.getElem?_set_ne (by decide), List.getElem?_set_ne (by decide)]; exact hj, by rw [List.getElem?_set_ne (by decide), List.getElem?_set, if_pos rfl, if_pos (by omega)], ng2, xs, hp2, dx2⟩
    generalize (σ.set 3 (some (V.ref p))).set 4 (some (V.int (a : Int))) = σ1 at ow se2
    have finE : ∀ (es : List Dt) (env : Env0'), env[1]? = some (some d) → env[3]? = some (some (.list es)) → RowM ds es → EvE K (tIf (tB (tCB (rIsi K) (tCons (tVar 1) (tCons (tC (.ty "list")) tNil)))) (tVar 3) (tThen (tVar 3) (kTup K))) env (likeD d es) ∧ FarM d (likeD d es) := fun es env h1 h4 hr => by
      rcases hd with rfl | rfl
      · exact ⟨ee_if (eb_is (eb_B (ee_isList (ee_var h1))) (show isListD (.list ds) = true from rfl)) (fun _ => ee_var h4) (fun z => absurd z.symm Bool.false_ne_true), far_rowM (.inl rfl) (.inl rfl) hr⟩
      · exact ⟨ee_if (eb_is (eb_B (ee_isList (ee_var h1))) (show isListD (.tuple ds) = false from rfl)) (fun z => absurd z Bool.false_ne_true) (fun _ => ee_tupleL (ee_var h4)), far_rowM (.inr rfl) (.inr rfl) hr⟩
    have finS : ∀ (es : List Dt) (env : Env0'), env[1]? = some (some d) → env[3]? = some (some (.list es)) → RowM ds es → RtS K (tRet (tIf (tB (tCB (rIsi K) (tCons (tVar 1) (tCons (tC (.ty "list")) tNil)))) (tVar 3) (tThen (tVar 3) (kTup K)))) env 0 0 (resBent [d]) := fun es env h1 h4 hr => rs_ret (es_is (es_pure (finE es env h1 h4 hr).1) (Nat.le_refl _) fun e he => by
      rw [he]
      exact ⟨d, rfl, (finE es env h1 h4 hr).2⟩)
    -- once the list is as it will be
    have done : ∀ (es : List Dt) (T1 : Nat) (σ' : L2.St) (G' H' : Hp), RowM ds es → T1 ≤ T0 + (3 * n + 2) → Ow K sd ca G H p 3 T1 env1 es σ' G' H' → tRet (tIf (tB (tCB (rIsi K) (tCons (tVar 1) (tCons (tC (.ty "list")) tNil)))) (tVar 3) (tThen (tVar 3) (kTup K))) D σ' H' := fun es T1 σ' G' H' hrow hT1 o => by
      obtain ⟨Gc, gc, sc, ec, jc⟩ := o.put np p1 p2
      exact finS es _ rfl rfl hrow sd ca _ _ Gc _ D (by omega) sc ec jc fun v d' G' H' w s' dv rd => q v d' G' H' (gc.trans w) (s'.le (by omega)) dv rd
    have no : ∀ (c : Nat) (env : Env0'), r ≠ c → env[2]? = some (some (.int (r : Int))) → EvB K (tTest (tOp (rEqD K) (tVar 2) (tC (.int (c : Int))))) env false := fun c env hc h => eb_is (teq env c h) (decide_eq_false (by omega))
    have yes : ∀ (c : Nat) (env : Env0'), r = c → env[2]? = some (some (.int (r : Int))) → EvB K (tTest (tOp (rEqD K) (tVar 2) (tC (.int (c : Int))))) env true := fun c env hc h => eb_is (teq env c h) (decide_eq_true (by omega))
    by_cases r1 : r = 1
    · obtain ⟨G3, g3, s3, e3, j3⟩ := ow.put np p1 p2
      let env2 : Env0' := [none, some d, some (.int (r : Int)), some (.list ds), some (.int (a : Int))]
      refine (?rt : RtS K _ env2 0 0 (resBent [d])) sd ca (T0 + 1) σ1 G3 H2 D (by omega) s3 e3 j3 fun v d' G' H' w s' dv rd => q v d' G' H' (g3.trans w) (s'.le (by omega)) dv rd
      refine rs_yes (yes 1 _ r1 rfl) ?_
      rcases hd with hd | hd
      · subst hd
        exact rs_ret (es_is (es_pure (ee_if (d := .tuple ds) (eb_is (eb_B (ee_isList (ee_var rfl))) (show isListD (.list ds) = true from rfl)) (fun _ => ee_tupleL (ee_var rfl)) (fun z => absurd z.symm Bool.false_ne_true))) (Nat.le_refl _) fun e he => by rw [he]; exact ⟨_, rfl, far_rowM (.inl rfl) (.inr rfl) (row_sameM ds)⟩)
      · subst hd
        exact rs_ret (es_is (es_pure (ee_if (d := .list ds) (eb_is (eb_B (ee_isList (ee_var rfl))) (show isListD (.tuple ds) = false from rfl)) (fun z => absurd z Bool.false_ne_true) (fun _ => ee_var rfl))) (Nat.le_refl _) fun e he => by rw [he]; exact ⟨_, rfl, far_rowM (.inr rfl) (.inl rfl) (row_sameM ds)⟩)
    refine if_no (no 1 env1 r1 rfl) ow.sv.gh ow.se fun G3 H3 w3 => ?_
    have ow3 := ow.gw p1 p2 w3
    by_cases r2 : r = 2
    · refine if_then (yes 2 env1 r2 rfl) ow3.sv.gh ow3.se fun G4 H4 w4 => seq_drop ?_
      exact (ow3.gw p1 p2 w4).popAt np p1 p2 rfl ha (by omega) fun H' o' => done _ _ _ _ _ (row_popM ds a) (by omega) o'
    refine if_else (no 2 env1 r2 rfl) ow3.sv.gh ow3.se fun G4 H4 w4 => ?_
    have ow4 := ow3.gw p1 p2 w4
    by_cases r3 : r = 3
    · refine if_then (yes 3 env1 r3 rfl) ow4.sv.gh ow4.se fun G5 H5 w5 => seq_drop ?_
      exact (ow4.gw p1 p2 w5).insAt np p1 p2 rfl ha (by omega) fun H' o' => done _ _ _ _ _ (row_insM (List.getElem_mem ha)) (by omega) o'
    refine if_else (no 3 env1 r3 rfl) ow4.sv.gh ow4.se fun G5 H5 w5 => ?_
    have ow5 := ow4.gw p1 p2 w5
    by_cases r4 : r = 4
    · obtain ⟨G6, g6, s6, e6, j6⟩ := ow5.put np p1 p2
      let env2 : Env0' := [none, some d, some (.int (r : Int)), some (.list ds), some (.int (a : Int))]
      refine (?rt4 : RtS K _ env2 0 0 (resBent [d])) sd ca (T0 + 1) σ1 G6 H5 D (by omega) s6 e6 j6 fun v d' G' H' w s' dv rd => q v d' G' H' (g6.trans w) (s'.le (by omega)) dv rd
      exact rs_then (yes 4 _ r4 rfl) (rs_pasg (i := 3) (ee_revL (ee_var rfl)) (by decide) (finS _ _ rfl rfl (row_revM ds)))
    refine if_else (no 4 env1 r4 rfl) ow5.sv.gh ow5.se fun Ga Ha wa => ?_
    have owa := ow5.gw p1 p2 wa
    obtain ⟨us, hup, dus⟩ := owa.ex
    obtain ⟨v5, hv5, dv5⟩ := owa.se.at' 4 _ rfl
    cases dv5
    obtain ⟨y, hy, dy⟩ := dpsGet dus (List.getElem?_eq_getElem ha)
    obtain ⟨m, rfl, hm⟩ := fine_row (.inl rfl) gl.g.f
    obtain ⟨n', rfl⟩ : ∃ n', n = n' + 1 := ⟨n - 1, by omega⟩
    have gx : Gm W B S m ds[a] := ⟨⟨by have e : wtA ds + 1 ≤ W := gl.g.w; have := wtA_mem (List.getElem_mem ha); omega, List.all_eq_true.mp hm _ (List.getElem_mem ha)⟩, mxA_le.mp gl.m _ (List.getElem_mem ha)⟩
    refine seq_asgG ⟨.ref sd, owa.h0, .ref p, owa.own, _, hv5, .inl ⟨p, us, (a : Int), y, rfl, rfl, .inl (.inl hup), atI_nat hy, sd, ca, T0 + 1, Ga, [y], [ds[a]], rfl, owa.sv, .cons dy .nil, ⟨_, rfl, W, B, S, m, gx, hW, hB, hS, by omega⟩, by show T0 + 1 + 3 * (n' + 1) ≤ 100000; omega, fun v e Gb Hb wb sb dve re => ?_⟩⟩
    obtain ⟨d2, e2, far⟩ := re
    cases e2
    have owb := owa.step p1 p2 wb sb
    have hpb := wb.hh _ _ hup p1 p2
    have ix : ixN us.length (a : Int) = some a := by
      have hl : a < us.length := by rw [dpsLen dus]; exact ha
      unfold ixN
      (rw [if_pos (by omega), if_pos (by omega)])
      simp
    refine ⟨.ref p, owb.own, _, hv5, p, us, (a : Int), a, rfl, rfl, hpb, ix, ?_⟩
    exact done _ _ _ _ _ (row_setM (List.getElem?_eq_getElem ha) far) (show T0 + 1 + 3 * (n' + 1) ≤ T0 + (3 * (n' + 1) + 2) by omega) (owb.mutd np p1 p2 (dpsSet (dpsM wb.gg dus) dve))
theorem c_l_bent (T : Tt mg) (F : Dfn K mg "_law_bent" s_l_bent ["_law_box_here", "_law_matter"]) (C_l_take : Cal P w K mg base 1 "_law_take" (spTk K) []) (C_l_other : Cal P w K mg base 3 "_law_other" (spS K preOth (fun _ => 1) resOth) []) : ∀ n : Nat, Cal P w K mg base (n + 3) "_law_bent" (spS K (preBent n) (fun _ => 3 * n) resBent) []
  | 0 => cal_none F fun vs H Q E h => by
    obtain ⟨_, _, _, _, _, _, _, _, _, z, _⟩ := h
    exact z
  | n + 1 => c_bent_step T n F C_l_take C_l_other (c_l_bent T F C_l_take C_l_other n)
end
end K04

namespace K04
open PySem PySem.Spec PyProof.Rows L2 LH C8
abbrev s_l_right : Stmt := topS 45
abbrev n_l_right : List Str := ["_law_box_here", "_law_turn", "_law_letter_here", "_law_again", "_law_matter"]
theorem sc_l_right : FnScope n_l_right ["_law_box_here"] (defScope s_l_right) := ⟨rfl, rfl, rfl, by decide +kernel, rfl, by decide +kernel, by decide +kernel⟩
/-! ### by keyword -/
structure DfnK (K : PySem.W.Frag) (mg : Str → Option Value) (x : Str) (st : Stmt) (ps : List Str) : Prop where
  ex : ∃ (f : Addr) (fd : FuncData), L2.Fun K x x st f fd ∧ mg x = some (.ref f) ∧ KBinds K fd ps ps (fun us ws => us ++ ws) (fun vs zs => vs ++ zs)
section
variable {w : World} {P : Program} {K : PySem.W.Frag} {mg : Str → Option Value} {base : Heap}
theorem calFK {x : Str} {st : Stmt} {N ps : List Str} {k : Nat} (m : List Dt → Option Dt) (F : DfnK K mg x st ps) (S : FnScope N ps (defScope st)) (hlen : ∀ ds d, m ds = some d → ds.length = ps.length)
    (hbody : ∀ (f : Addr) (cdv : Value) (A : Around) (outer : List Env) (s : Shared) (H : Hp) (E : XK), Room k (A.deeper (envOfC x (defScope st) s.heap.objs.size f cdv)) → ∀ ds d, m ds = some d →
      ∃ t, PSs (cxOf L2.CX0 P w K mg base N x (defScope st) f cdv A outer s H E).nox (defBody st) t ∧ RtE K t (startD N.length ds) [] d) : CalK P w K mg base (k + 1) x (spF K m) ps (fun us ws => us ++ ws) (fun vs zs => vs ++ zs) := by
  obtain ⟨f, fd, F, hm, b⟩ := F.ex
  refine ⟨f, fd, ps, F.ok S (fun vs H Q E h => ?_) (fun cdv A outer s H vs Q E hr h => ?_), hm, F.kp, b⟩
  · obtain ⟨G, ds, d, gh, hd, hf, _⟩ := h
    rw [dpsLen hd]
    exact hlen ds d hf
  · obtain ⟨G, ds, d, gh, hd, hf, q⟩ := h
    obtain ⟨t, ht, hv⟩ := hbody f cdv A outer s H E hr ds d hf
    exact ⟨t, ht, hv H G _ G H _ (Gw.refl gh) ⟨gh, sdStart hd, [], .nil⟩ q⟩
theorem ck_is_body (T : Tx K mg) (F : DfnK K mg "is_body" s_is_body ["thing"]) (C_is_body_within : Cal P w K mg base 15 "is_body_within" (spF K (mBodyW 4)) []) : CalK P w K mg base 16 "is_body" (spF K mBody) ["thing"] (fun us ws => us ++ ws) (fun vs zs => vs ++ zs) := by
  refine calFK mBody F sc_is_body (fun ds d h => ?_) fun f cdv A outer s H E hr ds d h => ?_
  · match ds, h with
    | [_], _ => rfl
  · match ds, h with
    | [d], h =>
      obtain ⟨ho, rfl⟩ := if_some (p := okB d = true) h
      refine ⟨_, (pss_one (ps_ret (pe_c C_is_body_within hr (by decide) (by rfl) (pa_cons (pv 0) (pa_cons (pe_gc (by rfl) T.g_MOST_DEEP) pa_nil))))), rt_ret ?_⟩
      exact ee_call (ds := [d, .int ((3 : Nat) : Int)]) (ea_cons (ee_var rfl) (ea_cons ee_int ea_nil)) (if_pos ⟨ho, by decide⟩)
theorem ck_is_letter (T : Tx K mg) (F : DfnK K mg "is_letter" s_is_letter ["thing"]) (C_is_part : Cal P w K mg base 16 "is_part" (spF K (mPart 4)) []) : CalK P w K mg base 17 "is_letter" (spF K mLetter) ["thing"] (fun us ws => us ++ ws) (fun vs zs => vs ++ zs) := by
  refine calFK mLetter F sc_is_letter (fun ds d h => ?_) fun f cdv A outer s H E hr ds d h => ?_
  · match ds, h with
    | [_], _ => rfl
  · match ds, h with
    | [d], h =>
      obtain ⟨ho, rfl⟩ := if_some (p := okB d = true) h
      refine ⟨_, (pss_one (ps_ret (pe_c C_is_part hr (by decide) (by rfl) (pa_cons (pv 0) (pa_cons (pe_gc (by rfl) T.g_MOST_DEEP) pa_nil))))), rt_ret ?_⟩
      exact ee_call (ds := [d, .int ((3 : Nat) : Int)]) (ea_cons (ee_var rfl) (ea_cons ee_int ea_nil)) (if_pos ⟨ho, by decide⟩)
theorem rd_isntB {a b : Bool} : RD K (fun x y H Q => ∃ a b, x = .bl a ∧ y = .bl b ∧ Q (.bl (!decide (a = b))) H) (.bool a) (.bool b) (.bool (!decide (a = b))) := fun x y G H gh da db Q q => by
  cases da
  cases db
  exact ⟨a, b, rfl, rfl, q _ G H (Gw.refl gh) (.bl _)⟩
def resTrue (_ : List Dt) (d : Dt) : Prop := d = .bool true
structure Tr2 (mg : Str → Option Value) : Prop where
  m_range : mg "range" = none
theorem gm_gd {W B S k : Nat} {d : Dt} (h : Gm W B S k d) (h1 : W ≤ 60000) (h2 : B ≤ 100000) (h3 : k ≤ 60) : gdB d = true := gdB_of h.g h1 h2 h3
theorem gm_of2 {W B S k : Nat} {x y : Dt} (h : Gm W B S (k + 1) (.tuple [x, y])) : Gm W B S k y := ⟨⟨by have e : wt x + (wt y + 0) + 1 ≤ W := h.g.w; omega, by
  have e : (fine B k x && (fine B k y && true)) = true := h.g.f
  rw [Bool.and_true, Bool.and_eq_true] at e
  exact e.2⟩, mxA_le.mp h.m y (by simp)⟩
theorem c_l_right (T : Tr2 mg) (F : Dfn K mg "_law_right" s_l_right ["_law_box_here"]) (C_l_take : Cal P w K mg base 1 "_law_take" (spTk K) []) (C_l_letter : Cal P w K mg base 11 "_law_letter" (spS K (preDeep 3) nnL resL) []) (C_l_bent : Cal P w K mg base 16 "_law_bent" (spS K (preBent 13) (fun _ => 3 * 13) resBent) [])
    (C_l_told_right : CalG P w K mg base 18 "_law_told_right" (spF K mTold)) (CK_is_letter : CalK P w K mg base 17 "is_letter" (spF K mLetter) ["thing"] (fun us ws => us ++ ws) (fun vs zs => vs ++ zs)) (CK_is_body : CalK P w K mg base 16 "is_body" (spF K mBody) ["thing"] (fun us ws => us ++ ws) (fun vs zs => vs ++ zs)) : CalG P w K mg base 19 "_law_right" (spS K preNone (fun _ => 70000) resTrue) := by
  refine calSG F sc_l_right (fun ds h => ?_) (by decide) fun f cdv A outer s H E hcl hr ds h => ?_
  · rw [show ds = _ from h]
    rfl
  · rw [show ds = _ from h]
    refine ⟨_, (pss_cons (ps_for PassesOwn.never rfl (pi_range1 (by rfl) T.m_range (pa_cons (pe_int) pa_nil)) (pg_name (i := 1) sc_l_right.nd rfl (Or.inl rfl)) (pss_cons (ps_set (i := 2) sc_l_right.nd rfl (Or.inl rfl) (pe_c C_l_letter hr (by decide) (by rfl) (pa_cons (pv 0) (pa_cons (pe_int) pa_nil)))) (pss_cons (ps_if (PW.pt (pw_or (pt_cmpR op_isnot_bl (pe_cK CK_is_letter hr (by decide) (by rfl) (pk_cons (pv 2) (pk_nil))) (pe_bl) (nomark _)) (pw_or (pt_cmpR op_isnot_bl (pe_cK CK_is_body hr (by decide) (by rfl) (pk_cons (pe_ix ix_seq (pv 2) (pe_int) (fun _ _ => rfl)) (pk_nil))) (pe_bl) (nomark _)) (pw_or1 (pt_not (pt_val (pe_cG C_l_told_right hcl hr (by decide) (by rfl) (pa_cons (pv 2) pa_nil)))))))) (pss_one (ps_ret (pe_bl))) (pss_nil)) (pss_one (ps_for PassesOwn.never rfl (pi_range1 (by rfl) T.m_range (pa_cons (pe_int) pa_nil)) (pg_name (i := 3) sc_l_right.nd rfl (Or.inl rfl)) (pss_cons (ps_set (i := 4) sc_l_right.nd rfl (Or.inl rfl) (pe_c C_l_bent hr (by decide) (by rfl) (pa_cons (pv 0) (pa_cons (pe_ix ix_seq (pe_lst (pa_cons (pv 2) (pa_cons (pv 2) (pa_cons (pe_ix ix_seq (pv 2) (pe_int) (fun _ _ => rfl)) pa_nil)))) (pe_c C_l_take hr (by decide) (by rfl) (pa_cons (pv 0) (pa_cons (pe_int) pa_nil))) (fun _ _ => rfl)) pa_nil)))) (pss_cons (ps_if (pt_cmpR (op_eqD hr.units) (pe_c C_l_take hr (by decide) (by rfl) (pa_cons (pv 0) (pa_cons (pe_int) pa_nil))) (pe_int) (nomark _)) (pss_one (ps_set (i := 4) sc_l_right.nd rfl (Or.inl rfl) (pe_c C_l_bent hr (by decide) (by rfl) (pa_cons (pv 0) (pa_cons (pv 4) pa_nil))))) (pss_nil)) (pss_one (ps_if (pt_not (pt_val (pe_cG C_l_told_right hcl hr (by decide) (by rfl) (pa_cons (pv 4) pa_nil)))) (pss_one (ps_ret (pe_bl))) (pss_nil)))))))))) (pss_one (ps_ret (pe_bl)))), ?_⟩
    let ev : Env0' := [none, none, none, none, none]
    show RtS K _ ev 0 70000 (resTrue _)
    have told : ∀ (env : Env0') (te : TE) (d : Dt), EvE K te env d → gdB d = true → EvE K (tCall (spF K mTold) [] L2.E0 (tCons te tNil)) env (.bool true) := fun env te d h hg => ee_call (ea_cons h ea_nil) (if_pos hg)
    have bent : ∀ (env : Env0') (te : TE) (n W B S k : Nat), EvS K te env 0 n (Gm W B S k) → W ≤ 50000 → 70000 ≤ B → B ≤ 99999 → 301 ≤ S → S ≤ 10000 → k ≤ 12 → EvS K (tCall (spS K (preBent 13) (fun _ => 3 * 13) resBent) [] C8.E0 (tCons (tVar 0) (tCons te tNil))) env 0 (n + 0 + 39) (Gm (max (2 * W) (W + 9 * S + 400)) (B + 1) (9 * S) (k + 3)) := fun env te n W B S k h h1 h2 h3 h4 h5 h6 => es_call1 (k := 39) h (fun d g => ⟨d, rfl, W, B, S, k, g, h1, by omega, h5, h6⟩) (fun d g => Nat.le_refl _) fun d e g he => by
      obtain ⟨d', e1, hf⟩ := he
      cases e1
      exact hf W B S k g h2 h3 h4 h5
    refine rs_is (n := 2 * 34500 + 0) (rs_go (R := fun e => e = ev) (gs_is (gs_for (i := 1) (n := 34500) (ei_range1 (n := 2) (ea_cons ee_int ea_nil) (by decide)) (by decide) fun k e0 hk => ?turn) (by rw [List.length_map, List.length_range]; decide) fun e h => h) fun e he => rs_ret (es_is (es_pure ee_bl) (Nat.le_refl _) fun d hd => hd)) (by decide) fun _ r => r
    refine gs_is (n := nL 3 + (0 + 15 * 80)) (gs_seq (gs_asg (i := 2) (n := nL 3) (Rd := LtR 3) (es_is (es_call (E := C8.E0) (pre := preDeep 3) (nn := nnL) (RR := resL) (ds := [.int ((3 : Nat) : Int)]) (ea_cons ee_int ea_nil) ⟨3, rfl, by decide, by decide⟩) (Nat.le_refl _) fun d hd => hd 3 rfl) (by decide)) fun e1 h1 => ?_) (by decide +kernel) fun _ h => h
    obtain ⟨d, ⟨hb, hg, x, y, rfl, hby⟩, rfl⟩ := h1
    let dl : Dt := .tuple [x, y]
    let ev2 : Env0' := [none, some e0, some dl, none, none]
    show GoS K _ ev2 0 (0 + 15 * 80) _
    have g0 : Gm 7734 70000 301 9 dl := hg
    have gy : Gm 7734 70000 301 9 y := (gm_of2 (k := 8) hg).mono (Nat.le_refl _) (Nat.le_refl _) (Nat.le_refl _) (by decide)
    have okl := (gdB_ok (gm_gd g0 (by decide) (by decide) (by decide))).1
    have oky := (gdB_ok (gm_gd gy (by decide) (by decide) (by decide))).1
    have ix1 : ∀ env : Env0', env[2]? = some (some dl) → EvE K (tOp (rIx K) (tVar 2) (tC (.int 1))) env y := fun env h => ee_op (ee_var h) ee_int (rd_ix rfl)
    refine gs_seq (R1 := fun e => e = ev2) (gs_skip (esb_pure (eb_orF (eb_is (eb_test (ee_op (ee_callK1 (ee_var rfl) (if_pos okl)) ee_bl rd_isntB)) (by rw [hb]; rfl)) (eb_orF (eb_is (eb_test (ee_op (ee_callK1 (ix1 _ rfl) (if_pos oky)) ee_bl rd_isntB)) (by rw [hby.b]; rfl)) (eb_is (eb_not (eb_B (told _ (tVar 2) dl (ee_var rfl) (gm_gd g0 (by decide) (by decide) (by decide))))) rfl))))) fun e2 h2 => ?_
    subst h2
    refine gs_is (n := 15 * 80) (gs_is (gs_for (i := 3) (n := 80) (ei_range1 (n := 15) (ea_cons ee_int ea_nil) (by decide)) (by decide) fun k3 e3 hk3 => ?in15) (by rw [List.length_map, List.length_range]; decide) fun e h => h) (Nat.le_refl _) fun e h => ?_
    case in15 =>
      have drawn : EvS K (tOp (rIx K) (tLst (tCons (tVar 2) (tCons (tVar 2) (tCons (tOp (rIx K) (tVar 2) (tC (.int 1))) tNil)))) (tCall (spTk K) [] C8.E0 (tCons (tVar 0) (tCons (tC (.int ((3 : Nat) : Int))) tNil)))) (ev2.set 3 (some e3)) 0 (0 + (0 + (0 + 0)) + 1) (Gm 7734 70000 301 9) := es_ix (es_ls (esa_1 (es_con dl (ee_var rfl) g0) (esa_1 (es_con dl (ee_var rfl) g0) (esa_1 (es_con y (ix1 _ rfl) gy) esa_0))) (by decide)) (es_tc 3 rfl rfl)
      refine gs_is (n := 40 + (40 + 0)) (gs_seq (gs_asg (i := 4) (n := 40) (bent _ _ 1 7734 70000 301 9 drawn (by decide) (by decide) (by decide) (by decide) (by decide) (by decide)) (by decide)) fun e4 h4 => ?_) (Nat.le_refl _) fun _ h => h
      obtain ⟨d4, g4, rfl⟩ := h4
      have g4' : Gm 15468 70001 2709 12 d4 := g4
      refine gs_seq (R1 := fun e => ∃ d5, Gm 40249 70002 24381 15 d5 ∧ e = [none, some e0, some dl, some e3, some d5]) (gs_is (n := 1 + 39) (gs_if (Rb := fun _ => True) (fun sd ca T σ G H l s e x Q q => esb_test (K := K) (es_op (n := 1) (m := 0) (R := fun d => ∃ b, d = .bool b) (es_tc (E := C8.E0) 3 rfl rfl) (fun _ _ => es_pure ee_int) fun x y hx hy => by
          obtain ⟨r, rfl, _⟩ := hx
          subst hy
          exact ⟨_, rd_eqD rfl rfl, _, rfl⟩) (fun d hd => hd) sd ca T σ G H l s e x Q fun b G' H' w s' _ => q b G' H' w s' trivial) (fun _ => gs_is (gs_asg (i := 4) (n := 39) (bent _ (tVar 4) 0 15468 70001 2709 12 (es_con d4 (ee_var rfl) g4') (by decide) (by decide) (by decide) (by decide) (by decide) (by decide)) (by decide)) (Nat.le_refl _) fun e h => by
          obtain ⟨d5, g5, rfl⟩ := h
          exact ⟨d5, g5, rfl⟩) (fun _ => gs_is gs_next (by decide) fun e h => by
          rw [h]
          exact ⟨d4, g4'.mono (by decide) (by decide) (by decide) (by decide), rfl⟩)) (Nat.le_refl _) fun _ h => h) fun e5 h5 => ?_
      obtain ⟨d5, g5, rfl⟩ := h5
      exact gs_is (gs_skip (esb_pure (eb_is (eb_not (eb_B (told _ (tVar 4) d5 (ee_var rfl) (gm_gd g5 (by decide) (by decide) (by decide))))) rfl))) (Nat.le_refl _) fun e' he => by
        rw [he]
        exact wk_s (wk_s (wk_s (wk_n (wk_n wk_nil))))
    · rw [h]
      exact wk_s (wk_n (wk_n (wk_n (wk_n wk_nil))))
end
end K04

namespace K04
open PySem PySem.Spec PyProof.Rows L2 LH C8
abbrev s_l_cells : Stmt := topS 27
abbrev n_l_cells : List Str := ["_law_script", "_law_utmost", "_law_cells_here", "_law_k", "_law_cell"]
theorem sc_l_cells : FnScope n_l_cells ["_law_script", "_law_utmost"] (defScope s_l_cells) := ⟨rfl, rfl, rfl, by decide +kernel, rfl, by decide +kernel, by decide +kernel⟩
abbrev s_l_box : Stmt := topS 25
abbrev n_l_box : List Str := ["_law_cells_here", "_law_k", "_law_cell"]
theorem sc_l_box : FnScope n_l_box ["_law_cells_here", "_law_k"] (defScope s_l_box) := ⟨rfl, rfl, rfl, by decide +kernel, rfl, by decide +kernel, by decide +kernel⟩
abbrev s_law : Stmt := topS 46
abbrev n_law : List Str := ["_law_script", "_law_cells_here", "_law_k"]
theorem sc_law : FnScope n_law ["_law_script"] (defScope s_law) := ⟨rfl, rfl, rfl, by decide +kernel, rfl, by decide +kernel, by decide +kernel⟩
def spLaw (K : PySem.W.Frag) : Sp :=
  fun vs H Q _ => ∃ (a : Addr) (ns : List Int), vs = [.ref a] ∧ SqL K H a (ns.map V.int) ∧ ns.length ≤ 63 ∧ ∀ H', Q (.bl true) H'
def spCells (K : PySem.W.Frag) : Sp := fun vs H Q _ => ∃ (a : Addr) (ns : List Int), vs = [.ref a, .int 4] ∧ SqL K H a (ns.map V.int) ∧ ns.length ≤ 63 ∧
  ∀ (p : Addr) (ms : List Int) (H' : Hp), H p = none → Same H H' → H' p = some (.lst (ms.map V.int)) → 1 ≤ ms.length → ms.length ≤ 4 → Q (.ref p) H'
def spBox (K : PySem.W.Frag) : Sp := fun vs H Q _ => ∃ (a : Addr) (ns : List Int) (k : Nat), vs = [.ref a, .int (k : Int)] ∧ SqL K H a (ns.map V.int) ∧ ns.length ≤ 4 ∧ k < ns.length ∧
  ∀ (p : Addr) (x y : Int) (H' : Hp), H p = none → Same H H' → H' p = some (.lst [.int x, .int y, .int 0]) → 0 ≤ y → y < 2 ^ 62 → Q (.ref p) H'
theorem ix_nat {n j : Nat} (hj : j < n) : ixN n (j : Int) = some j := by
  unfold ixN
  (rw [if_pos (by omega), if_pos (by omega)])
  simp
theorem dq_ints {K : PySem.W.Frag} {H : Hp} : ∀ ns : List Int, DqAll K H (ns.map V.int) (ns.map PyData.int)
  | [] => .nil
  | n :: ns => .cons (.int n) (dq_ints ns)
theorem ints_of {K : PySem.W.Frag} {G : Hp} : ∀ {ms : List Int} {xs : List V}, DqAll K G xs (ms.map PyData.int) → xs = ms.map V.int
  | [], _, h => by cases h; rfl
  | m :: ms, _, h => by
    cases h with
    | cons a b =>
      cases a
      rw [ints_of b]
      rfl
theorem ints_ex : ∀ {ds : List Dt}, (∀ d ∈ ds, ∃ i : Int, d = .int i) → ∃ rs : List Int, ds = rs.map PyData.int
  | [], _ => ⟨[], rfl⟩
  | d :: ds, h => by
    obtain ⟨i, rfl⟩ := h d (List.mem_cons_self ..)
    obtain ⟨rs, rfl⟩ := ints_ex fun x hx => h x (List.mem_cons_of_mem _ hx)
    exact ⟨i :: rs, rfl⟩
structure Tc1 (mg : Str → Option Value) : Prop where
  m_list : mg "list" = none
  m_enumerate : mg "enumerate" = none
structure Tx2 (mg : Str → Option Value) : Prop where
  m_abs : mg "abs" = none
  m_int : mg "int" = none
structure Tw (mg : Str → Option Value) : Prop where
  m_len : mg "len" = none
  m_range : mg "range" = none
  m_all : mg "all" = none
section
variable {w : World} {P : Program} {K : PySem.W.Frag} {mg : Str → Option Value} {base : Heap}
theorem en_orT {env : Env0'} {ta tb : TE} {ds : List Dt} (h : EvN K ta env ds) (hd : ds ≠ []) : EvN K (tOrT K ta tb) env ds := fun σ G H gh s Q q => h σ G H gh s _ fun p xs G' H' w np ng hp dx => by
  refine ⟨true, .inl ⟨xs, SqL.of hp, ?_⟩, ?_⟩
  · cases dx with
    | nil => exact absurd rfl hd
    | cons _ _ => rfl
  · rw [if_pos rfl]
    exact q p xs G' H' w np ng hp dx
theorem en_orF {env : Env0'} {ta tb : TE} {es : List Dt} (h : EvN K ta env []) (h2 : EvN K tb env es) : EvN K (tOrT K ta tb) env es := fun σ G H gh s Q q => h σ G H gh s _ fun p xs G' H' w np ng hp dx => by
  cases dx
  refine ⟨false, .inl ⟨[], SqL.of hp, rfl⟩, ?_⟩
  rw [if_neg (by decide)]
  exact h2 σ G' H' w.gh (s.mono w.gg) Q fun p2 xs2 G2 H2 w2 np2 ng2 hp2 dx2 => q p2 xs2 G2 H2 (w.trans w2) (w.hh.free np2) ng2 hp2 dx2
theorem c_l_cells (T : Tc1 mg) (F : Dfn K mg "_law_cells" s_l_cells ["_law_script", "_law_utmost"]) : Cal P w K mg base 1 "_law_cells" (spCells K) [] := by
  obtain ⟨f, fd, F, hm, b⟩ := F.ex
  refine ⟨f, fd, ["_law_script", "_law_utmost"], [], F.ok sc_l_cells (fun vs H Q E h => ?_) (fun cdv A outer s H vs Q E hr h => ?_), hm, F.kp, b, .nil⟩
  · obtain ⟨_, _, rfl, _⟩ := h
    rfl
  · obtain ⟨a, ns, rfl, hS, hl, q⟩ := h
    refine ⟨_, (pss_cons (ps_set (i := 2) sc_l_cells.nd rfl (Or.inl rfl) (pe_orT (pe_callTy call_list_of (by rfl) T.m_list (by decide +kernel) (pa_cons (pe_slice sl_list (pv 0) po_none (po_some (pv 1))) pa_nil)) (pe_one (pe_lst (pa_cons (pe_int) pa_nil))))) (pss_cons (ps_for PassesOwn.never rfl (pi_enum (by rfl) T.m_enumerate (pa_cons (pe_slice sl_list (pv 0) (po_some (pv 1)) (po_some (pe_int))) pa_nil)) (pg_tup (by rfl) (pgs_cons (pg_name (i := 3) sc_l_cells.nd rfl (Or.inl rfl)) (pgs_cons (pg_name (i := 4) sc_l_cells.nd rfl (Or.inl rfl)) (pgs_nil)))) (pss_one (ps_asg (pe_op op_add (pe_ix ix_seq (pv 2) (pe_op op_mod (pv 3) (pv 1)) (fun _ _ => rfl)) (pe_op op_mul (pv 4) (pe_op op_add (pv 3) (pe_int)))) (pg_sub (pv 2) (pe_op op_mod (pv 3) (pv 1)) set_list)))) (pss_one (ps_ret (pv 2))))), ?_⟩
    let ev : Env0' := [some (.list (ns.map PyData.int)), some (.int ((4 : Nat) : Int)), none, none, none]
    have sd0 : Sd K H (L2.start n_l_cells [.ref a, .int 4]) ev := (SdL.val (.lst hS (dq_ints ns)) (.val (.int _) (.any (.any (.any .nil))))).sd
    have cut4 : LH.cutD (ns.map PyData.int) none (some ((4 : Nat) : Int)) = (ns.take 4).map PyData.int := by rw [cut_to' 4, List.map_take]
    have e1 : EvN K (tCB (fun xs H Q => ∃ p ys, xs = [V.ref p] ∧ (SqL K H p ys ∨ SqT K H p ys) ∧ ∀ l, H l = none → Q (.ref l) (upd H l (.lst ys))) (tCons (tSl (rSlL K) (tVar 0) tNoPart (tPart (tVar 1))) tNil)) ev ((ns.take 4).map PyData.int) := en_is (en_cb (ea_cons (ee_of (en_slL (ee_var rfl) eo_none (eo_some (ee_var (i := 1) rfl)))) ea_nil) rc_listL) cut4
    have first : ∃ ms : List Int, 1 ≤ ms.length ∧ ms.length ≤ 4 ∧ (4 < ns.length → ms.length = 4) ∧ EvN K (tOrT K (tCB (fun xs H Q => ∃ p ys, xs = [V.ref p] ∧ (SqL K H p ys ∨ SqT K H p ys) ∧ ∀ l, H l = none → Q (.ref l) (upd H l (.lst ys))) (tCons (tSl (rSlL K) (tVar 0) tNoPart (tPart (tVar 1))) tNil)) (tLst (tCons (tC (.int 0)) tNil))) ev (ms.map PyData.int) := by
      cases ns with
      | nil => exact ⟨[0], by decide, by decide, fun z => absurd z (by decide), en_orF e1 (en_lst (ea_cons ee_int ea_nil) (by show 1 ≤ 100000; decide))⟩
      | cons n ns => exact ⟨(n :: ns).take 4, by rw [List.length_take]; show 1 ≤ min 4 (ns.length + 1); omega, by rw [List.length_take]; omega, fun z => by rw [List.length_take]; omega, en_orT e1 (fun z => by cases z)⟩
    obtain ⟨ms, ms1, ms4, msl, en⟩ := first
    refine seq_asgG (en _ H H (Same.refl H) sd0 _ fun p xs G1 H1 w1 np ng hp dx => ?_)
    obtain rfl := ints_of dx
    have se1 : Sd K G1 ((L2.start n_l_cells [V.ref a, V.int 4]).set 2 (some (V.ref p))) ev := (sd0.mono w1.gg).forget (j := 2)
    obtain ⟨rs, hrs⟩ : ∃ rs : List Int, LH.cutD (ns.map PyData.int) (some ((4 : Nat) : Int)) (some 63) = rs.map PyData.int := ints_ex fun d hd => by
      obtain ⟨i, _, rfl⟩ := List.mem_map.mp (cut_mem hd)
      exact ⟨i, rfl⟩
    have rs0 : ns.length ≤ 4 → rs = [] := fun h4 => by
      have e : (LH.cutD (ns.map PyData.int) (some ((4 : Nat) : Int)) (some 63)).length = 0 := by
        unfold LH.cutD
        rw [List.length_take, List.length_drop, List.length_map]
        have : HT.sIx ns.length 0 (some ((4 : Nat) : Int)) = ns.length := by
          unfold HT.sIx
          simp
          omega
        rw [this]
        omega
      rw [hrs, List.length_map] at e
      exact List.eq_nil_of_length_eq_zero e
    have rl : rs.length ≤ 63 := by
      have e := cut_le (xs := ns.map PyData.int) (lo := some ((4 : Nat) : Int)) (hi := some 63)
      rw [hrs, List.length_map, List.length_map] at e
      omega
    refine (en_is (en_slL (K := K) (env := ev) (ee_var (i := 0) rfl) (eo_some (ee_var (i := 1) rfl)) (eo_some (ee_int (i := 63)))) hrs) _ G1 H1 w1.gh se1 _ fun p2 xs2 G2 H2 w2 np2 ng2 hp2 dx2 => ?_
    obtain rfl := ints_of dx2
    have hne : p ≠ p2 := fun z => by rw [z, np2] at hp; cases hp
    refine ⟨p2, rs.map V.int, rfl, SqL.of hp2, ?_⟩
    refine for_it (walk_enum (K := K) (a := p2) (xs := rs.map V.int)) (fun _ σ' H' => (∃ ms' : List Int, ms'.length = ms.length ∧ H' p = some (.lst (ms'.map V.int))) ∧ σ'.length = 5 ∧ σ'[1]? = some (some (.int 4)) ∧ σ'[2]? = some (some (.ref p)) ∧ H' p2 = some (.lst (rs.map V.int)) ∧ Same H H') ⟨⟨ms, rfl, w2.hh _ _ hp⟩, rfl, rfl, rfl, hp2, w1.hh.trans w2.hh⟩ (fun i σ' H' _ h => SqL.of h.2.2.2.2.1) ?_ ?_
    · rintro i x σ' H3 H3' hi ⟨⟨ms', hml, hpp⟩, s5, s1, s2, hpp2, sm⟩ ⟨Tt, vi, vc, rfl, nT, rfl, e1, e2⟩
      cases e1
      rw [List.length_map] at hi
      have e2' : vc = .int rs[i] := by
        have e3 : (rs.map V.int)[i]? = some vc := e2
        rw [List.getElem?_map, List.getElem?_eq_getElem hi] at e3
        exact (Option.some.inj e3).symm
      subst e2'
      have h4 : 4 < ns.length := by
        by_cases z : 4 < ns.length
        · exact z
        · rw [rs0 (by omega)] at hi
          (exact absurd hi (Nat.not_lt_zero _))
      have ml4 : ms'.length = 4 := by rw [hml, msl h4]
      have tp : p ≠ Tt := fun z => by rw [z, nT] at hpp; cases hpp
      have tp2 : p2 ≠ Tt := fun z => by rw [z, nT] at hpp2; cases hpp2
      refine ⟨Tt, _, rfl, SqT.of upd_same, rfl, _, _, rfl, _, _, rfl, rfl, ?_⟩
      have hpT : (upd H3 Tt (.tup [.int (i : Nat), .int rs[i]])) p = some (.lst (ms'.map V.int)) := by rw [upd_ne tp]; exact hpp
      have hp2T : (upd H3 Tt (.tup [.int (i : Nat), .int rs[i]])) p2 = some (.lst (rs.map V.int)) := by rw [upd_ne tp2]; exact hpp2
      have smT : Same H (upd H3 Tt (.tup [.int (i : Nat), .int rs[i]])) := fun b o e => by
        have e3 := sm b o e
        rw [upd_ne (fun z => by rw [z, nT] at e3; cases e3)]
        exact e3
      generalize upd H3 Tt (.tup [.int (i : Nat), .int rs[i]]) = H4 at hpT hp2T smT
      have t1 : ((σ'.set 3 (some (V.int (i : Nat)))).set 4 (some (V.int rs[i])))[1]? = some (some (.int 4)) := by rw [List.getElem?_set_ne (by decide), List.getElem?_set_ne (by decide)]; exact s1
      have t2 : ((σ'.set 3 (some (V.int (i : Nat)))).set 4 (some (V.int rs[i])))[2]? = some (some (.ref p)) := by rw [List.getElem?_set_ne (by decide), List.getElem?_set_ne (by decide)]; exact s2
      have t3 : ((σ'.set 3 (some (V.int (i : Nat)))).set 4 (some (V.int rs[i])))[3]? = some (some (.int (i : Nat))) := by rw [List.getElem?_set_ne (by decide), List.getElem?_set, if_pos rfl, if_pos (by omega)]
      have t4 : ((σ'.set 3 (some (V.int (i : Nat)))).set 4 (some (V.int rs[i])))[4]? = some (some (.int rs[i])) := by rw [List.getElem?_set, if_pos rfl, if_pos (by rw [List.length_set]; omega)]
      have t5 : ((σ'.set 3 (some (V.int (i : Nat)))).set 4 (some (V.int rs[i]))).length = 5 := by rw [List.length_set, List.length_set]; exact s5
      generalize (σ'.set 3 (some (V.int (i : Nat)))).set 4 (some (V.int rs[i])) = σ4 at t1 t2 t3 t4 t5
      have em : ((i : Nat) : Int) % 4 = ((i % 4 : Nat) : Int) := by omega
      have hj : i % 4 < (ms'.map V.int).length := by rw [List.length_map, ml4]; omega
      have hj' : i % 4 < ms'.length := by omega
      have at1 : atI (ms'.map V.int) (((i : Nat) : Int) % 4) = some (.int ms'[i % 4]) := by
        rw [em]
        exact atI_nat (by rw [List.getElem?_map, List.getElem?_eq_getElem hj']; rfl)
      refine ⟨.ref p, t2, _, t3, _, t1, ((i : Nat) : Int), 4, rfl, rfl, (show (0 : Int) < 4 by decide), .inl ⟨p, _, _, .int ms'[i % 4], rfl, rfl, .inl (.inl hpT), at1, ?_⟩⟩
      refine ⟨_, t4, _, t3, ((i : Nat) : Int), 2, rfl, rfl, rs[i], _, rfl, rfl, .inr ⟨by omega, by omega⟩, _, _, rfl, rfl, .ref p, t2, _, t3, _, t1, ((i : Nat) : Int), 4, rfl, rfl, (show (0 : Int) < 4 by decide), p, _, _, i % 4, rfl, rfl, hpT, by rw [em]; exact ix_nat hj, ?_⟩
      refine ⟨⟨ms'.set (i % 4) (ms'[i % 4] + rs[i] * (((i : Nat) : Int) + 2)), by rw [List.length_set]; exact hml, by rw [upd_same, List.map_set]⟩, t5, t1, t2, by rw [upd_ne (fun z => hne z.symm)]; exact hp2T, fun b o e => ?_⟩
      have e3 := smT b o e
      rw [upd_ne (fun z => by
        have e4 := w1.hh b o e
        rw [z] at e
        rw [np] at e
        cases e)]
      exact e3
    · rintro σ' H3 ⟨⟨ms', hml, hpp⟩, _, _, s2, _, sm⟩
      exact ⟨.ref p, s2, q p ms' H3 np sm hpp (by omega) (by omega)⟩
theorem ee_abs {env : Env0'} {ta : TE} {i : Int} (h : EvE K ta env (.int i)) : EvE K (tCB (fun xs H Q => ∃ i, xs = [.int i] ∧ Q (.int (if i < 0 then -i else i)) H) (tCons ta tNil)) env (.int (if i < 0 then -i else i)) := fun σ G H gh s Q q => h σ G H gh s _ fun v G2 H2 e dv => by
  cases dv
  exact ⟨i, rfl, q _ G2 H2 e (.int _)⟩
theorem c_l_box (T : Tx2 mg) (F : Dfn K mg "_law_box" s_l_box ["_law_cells_here", "_law_k"]) : Cal P w K mg base 1 "_law_box" (spBox K) [] := by
  obtain ⟨f, fd, F, hm, b⟩ := F.ex
  refine ⟨f, fd, ["_law_cells_here", "_law_k"], [], F.ok sc_l_box (fun vs H Q E h => ?_) (fun cdv A outer s H vs Q E hr h => ?_), hm, F.kp, b, .nil⟩
  · obtain ⟨_, _, _, rfl, _⟩ := h
    rfl
  · obtain ⟨a, ns, k, rfl, hS, hl, hk, q⟩ := h
    refine ⟨_, (pss_cons (ps_set (i := 2) sc_l_box.nd rfl (Or.inl rfl) (pe_ix ix_seq (pv 0) (pv 1) (fun _ _ => rfl))) (pss_one (ps_ret (pe_lst (pa_cons (pe_op op_mul (pe_callB call_abs (by rfl) T.m_abs (by decide +kernel) (pa_cons (pv 2) pa_nil)) (pe_callTy call_int1 (by rfl) T.m_int (by decide +kernel) (pa_cons (pe_cmpR op_ge (pe_callB call_abs (by rfl) T.m_abs (by decide +kernel) (pa_cons (pv 2) pa_nil)) (pe_op op_pow (pe_int) (pe_int)) (nomark _)) pa_nil))) (pa_cons (pe_op op_add (pe_op op_add (pe_op op_mod (pv 2) (pe_int)) (pe_op op_mul (pe_int) (pv 1))) (pe_int)) (pa_cons (pe_int) pa_nil))))))), ?_⟩
    let ev : Env0' := [some (.list (ns.map PyData.int)), some (.int (k : Int)), none]
    have sd0 : Sd K H (L2.start n_l_box [.ref a, .int (k : Int)]) ev := (SdL.val (.lst hS (dq_ints ns)) (.val (.int _) (.any .nil))).sd
    have hc : EvE K (tOp (rIx K) (tVar 0) (tVar 1)) ev (.int ns[k]) := ee_op (ee_var rfl) (ee_var rfl) (rd_ix (atI_nat (by rw [List.getElem?_map, List.getElem?_eq_getElem hk]; rfl)))
    generalize ns[k] = c at hc
    refine seq_asg (hc _ H H (Same.refl H) sd0 _ fun vc G1 H1 w1 dvc => ?_)
    have sd1 := (sd0.mono w1.gg).set 2 dvc
    have m0 := Int.emod_nonneg c (show (2305843009213693951 : Int) ≠ 0 by decide)
    have m1 := Int.emod_lt_of_pos c (show (0 : Int) < 2305843009213693951 by decide)
    have lst : EvN K _ [some (.list (ns.map PyData.int)), some (.int (k : Int)), some (.int c)] _ := en_lst (K := K) (ea_cons (ee_op (ee_abs (ee_var (i := 2) rfl)) (ee_int1 (ee_op (ee_abs (ee_var (i := 2) rfl)) (ee_op (ee_int (i := 10)) (ee_int (i := 18)) (rd_I (C := CPow) (g := fun i j => i ^ j.toNat) ⟨by decide, by decide, by decide⟩)) rd_ge)) (rd_mul ?mul1)) (ea_cons (ee_op (ee_op (ee_op (ee_var (i := 2) rfl) (ee_int (i := 2305843009213693951)) (rd_mod (by decide))) (ee_op (ee_int (i := 15485863)) (ee_var (i := 1) rfl) (rd_mul (.inl ⟨by decide, by decide⟩))) rd_add) (ee_int (i := 11)) rd_add) (ea_cons (ee_int (i := 0)) ea_nil))) (by show 3 ≤ 100000; decide)
    case mul1 =>
      have two : ∀ b : Bool, (-(2 ^ 64 : Int) < (if b = true then 1 else 0)) ∧ ((if b = true then (1 : Int) else 0) < 2 ^ 64) := by decide
      exact .inr (two _)
    refine lst _ G1 H1 w1.gh sd1 _ fun p xs G2 H2 w2 np ng hp dx => ?_
    cases dx with
    | cons d1 r =>
      cases r with
      | cons d2 r =>
        cases r with
        | cons d3 r =>
          cases r
          cases d1
          cases d2
          cases d3
          have npH : H p = none := w1.hh.free np
          exact q p _ _ H2 npH (w1.hh.trans w2.hh) hp (by omega) (by omega)
theorem law_all {i : Nat} {wi : TI} {te : TE} {env : Env0'} {ds : List Dt} {σ : L2.St} {G H : Hp} {Q : VK} (h : EvI K wi env ds) (gh : Same G H) (s : Sd K G σ env) (hl : ds.length ≤ 100)
    (step : ∀ (d : Dt) (H2 : Hp) (y : V) (G1 : Hp) (Q' : VK), d ∈ ds → Same H H2 → Dq K G1 y d → (∀ H4, Same H2 H4 → Q' (.bl true) H4) → te ((wipe σ [i]).set i (some y)) H2 Q') (q : ∀ H', Q (.bl true) H') : tCB (rAll K) (tCons (tLc wi (gName i) tYes te [i]) tNil) σ H Q := by
  refine h σ G H gh s _ fun J G1 H1 w1 wk D nD => ?_
  have n0 : ∀ {b : Addr} {o : HO}, H1 b = some o → b ≠ D := fun {b o} e z => by rw [z, nD] at e; cases e
  refine lc_it (n := ds.length) wk (fun k H' => (∀ b o, H1 b = some o → H' b = some o) ∧ H' D = some (.lst (List.replicate k (V.bl true)))) ⟨fun b o e => by rw [upd_ne (n0 e)]; exact e, upd_same⟩ (fun k H' _ p => w1.gh.trans p.1) ?_ ?_
  · rintro k y H2 H2' hk ⟨sm, hD⟩ ⟨rfl, d, hd, dd⟩
    refine ⟨by show ((σ.set i none).set i (some y)).set i none = σ.set i none; rw [List.set_set, List.set_set], ?_⟩
    refine (eb_yes (K := K) (env := env.set i (some d))) _ G1 H2' (w1.gh.trans sm) (by
      show Sd K G1 ((σ.set i none).set i (some y)) _
      rw [List.set_set]
      exact (s.mono w1.gg).set i dd) _ fun G3 H3 w3 => ?_
    refine iteT ?_
    refine step d H3 y G1 _ (List.mem_of_getElem? hd) ((w1.hh.trans sm).trans w3.hh) dd fun H4 s4 => ?_
    refine ⟨_, s4 _ _ (w3.hh _ _ hD), ?_, fun b o e => ?_, ?_⟩
    · rw [List.length_replicate]
      exact Nat.lt_of_lt_of_le (show k < 100 by omega) (by decide)
    · rw [upd_ne (n0 e)]
      exact s4 _ _ (w3.hh _ _ (sm b o e))
    · rw [upd_same, List.replicate_succ']
  · rintro H2 ⟨sm, hD⟩
    refine ⟨D, List.replicate ds.length true, rfl, .inl (.inl (hD.trans (by rw [List.map_replicate]))), ?_⟩
    rw [show (List.replicate ds.length true).all id = true from List.all_eq_true.mpr fun b hb => (List.mem_replicate.mp hb).2]
    exact q _
theorem ok_law {f : Addr} {fd : FuncData} (T : Tw mg) (F : L2.Fun K "law" "law" s_law f fd) (C_l_cells : Cal P w K mg base 1 "_law_cells" (spCells K) []) (C_l_bounds_right : Cal P w K mg base 18 "_law_bounds_right" (spF K mBR) []) (C_l_box : Cal P w K mg base 1 "_law_box" (spBox K) []) (C_l_right : CalG P w K mg base 19 "_law_right" (spS K preNone (fun _ => 70000) resTrue)) : FnG P w K mg base 20 f fd ["_law_script"] (spLaw K) := by
  refine FnG.of F sc_law (fun vs H Q E h => ?_) (fun cdv A outer s H vs Q E hcl hr h => ?_)
  · obtain ⟨_, _, rfl, _⟩ := h
    rfl
  · obtain ⟨a, is, rfl, hS, hl, q⟩ := h
    refine ⟨_, (pss_cons (ps_set (i := 1) sc_law.nd rfl (Or.inr rfl) (pe_c C_l_cells hr (by decide) (by rfl) (pa_cons (pv 0) (pa_cons (pe_int) pa_nil)))) (pss_one (ps_ret (pe_and (pe_c0 C_l_bounds_right hr (by decide) (by rfl)) (pe_one (pe_callB (cr_all rfl) (by rfl) T.m_all (by decide +kernel) (pa_cons (pe_lc (own := [("_law_k", 2)]) (g := gName 2) (by rfl) sc_law.nd (pi_range1 (by rfl) T.m_range (pa_cons (pe_callB call_lenA (by rfl) T.m_len (by decide +kernel) (pa_cons (pv 1) pa_nil)) pa_nil)) (blkOk_by (own := [("_law_k", 2)]) (N := n_law) (sc := defScope s_law) (by decide +kernel)) (fun _ _ _ _ _ => pg_name (i := 2) sc_law.nd rfl (Or.inl rfl)) (fun _ _ _ _ _ => pts_nil) (fun _ _ _ _ _ => pe_cG C_l_right hcl hr (by decide) (by rfl) (pa_cons (pe_c C_l_box hr (by decide) (by rfl) (pa_cons (pv 1) (pa_cons (pv 2) pa_nil))) pa_nil))) pa_nil))))))), ?_⟩
    refine seq_asgG ⟨.ref a, rfl, a, is, rfl, hS, hl, fun p ms H1 np s1 hp m1 m4 => ?_⟩
    let ev : Env0' := [none, some (.list (ms.map PyData.int)), none]
    let G1 : Hp := fun b => if b = p then some (.lst (ms.map V.int)) else none
    have gp : G1 p = some (.lst (ms.map V.int)) := if_pos rfl
    have g1 : Same G1 H1 := fun b o e => by
      by_cases z : b = p
      · rw [z] at e ⊢
        rw [gp] at e
        rw [hp, ← e]
      · have e' : G1 b = none := if_neg z
        rw [e'] at e
        cases e
    have sd0 : Sd K G1 ((L2.start n_law [V.ref a]).set 1 (some (V.ref p))) ev := (SdL.any (.val (.lst (SqL.of gp) (dq_ints ms)) (.any .nil))).sd
    have br : EvE K (tCall (spF K mBR) [] C8.E0 tNil) ev (.bool true) := ee_call (ds := []) ea_nil rfl
    refine br _ G1 H1 g1 sd0 _ fun vb G2 H2 w2 dvb => ?_
    cases dvb
    refine ⟨true, rfl, ?_⟩
    rw [if_pos rfl]
    have rng : EvI K (iRng1 (tCons (tCB (rLen K) (tCons (tVar 1) tNil)) tNil)) ev ((List.range ms.length).map fun (i : Nat) => PyData.int (i : Int)) := ei_range1 (ea_cons (ee_is (ee_len (ee_var rfl) rfl) (by rw [List.length_map])) ea_nil) (by omega)
    refine law_all (i := 2) rng w2.gh (sd0.mono w2.gg) (by rw [List.length_map, List.length_range]; omega) (fun d H3 y G3 Q' hd sm dd hq => ?_) q
    obtain ⟨i, hi, rfl⟩ := List.mem_map.mp hd
    have hir := List.mem_range.mp hi
    cases dd
    refine ⟨.ref p, rfl, .int (i : Int), rfl, p, ms, i, rfl, SqL.of (sm _ _ (w2.hh _ _ hp)), m4, hir, fun p5 x y H5 np5 s5 hp5 y0 y1 => ?_⟩
    refine ⟨p5, p5, 0, fun _ => none, [], [], rfl, ⟨(fun _ _ e => nomatch e), ⟨0, ⟨rfl, ⟨x, y, hp5, y0, y1⟩, by decide⟩, by decide⟩, rfl, rfl⟩, .nil, rfl, by decide, fun v d G' H6 gs s6 dv hd => ?_⟩
    have hd' : d = .bool true := hd
    subst hd'
    cases dv
    refine hq H6 fun b o e2 => ?_
    have nb : b ≠ p5 := fun z => by rw [z, np5] at e2; cases e2
    exact gs.hh b o (s5 _ _ e2) nb nb
end
end K04

namespace LH
open PySem PySem.Spec L2 PyProof.Rows
/-! ### the law's own call, where no repr is under way -/
def oneH' (p : Addr) (o : HO) : Hp := fun a => if a = p then some o else none
def WonAt (s₁ : Shared) (r : Result) (s' : Shared) : Prop := r = .ok (.ret (.bool true)) ∧ OldK s₁.heap s'.heap ∧ s'.os = s₁.os ∧ AllBare s'.gens
section
variable {P : Program} {w : World} {K : PySem.W.Frag} {mg mb : Str → Option Value} {k : Nat} {fa a : Addr} {fd : FuncData} {x : Str} {sp : Sp} {s₁ : Shared} {vs : List Value} {ns : List Int}
/-- from a heap that tracks the script at most -/
theorem law_from (KX : K.In s₁.heap) (hns : s₁.heap.Ns mainGlobals mg) (hb : s₁.heap.Ns builtinsNs mb) (hbb : ∀ x : Str, x ≠ "__name__" → mb x = bootBuiltins x) (hlim : s₁.heap.NoLimit) (hg : s₁.gens = #[])
    (ha : s₁.heap.get? a = some { cls := .type "list", data := .seq vs.toArray }) (hr : Room k callerA) (F : ∀ base : Heap, K.In base → base.Ns mainGlobals mg → FnG P w K mg base k fa fd [x] sp) (hbind : ∀ (s : Shared) (u : Value), BindsTo s fd ⟨[u], []⟩ [(x, u)])
    (H : Hp) (hO : Only H) (hsp : sp [.ref a] H (fun v _ => v = .bl true) fun _ _ _ => False) (hok : HOk P w H s₁.heap) (hA : ∀ b, H b ≠ none → b = a) (hK : H a ≠ none → K.lookup a = none) :
    codeAny (model P w) callerA (.call (.ref fa) ⟨[.ref a], []⟩) (WonAt s₁) s₁ := by
  have seen : ∀ {b : Addr} {u : HO}, H b = some u → b = a := fun {b u} q => hA b fun z => nomatch q.symm.trans z
  have free : ∀ {b : Addr} {o : Obj} {es : Array DictEntry} {ep : Nat}, s₁.heap.get? b = some o → o.data = .dict es ep → H b = none := by
    intro b o es ep e d
    cases q : H b with
    | none => rfl
    | some u =>
      have z := seen q
      subst z
      have e2 := Option.some.inj (e.symm.trans ha)
      rw [e2] at d
      exact nomatch d
  have names : ∀ {b : Addr} {m : Str → Option Value}, s₁.heap.Ns b m → (hidT s₁.heap H).Ns b m := by
    rintro b m ⟨o, es, ep, e, d, r⟩
    exact ⟨o, es, ep, hidT_get e (free e d), d, r⟩
  have inB : K.In (hidT s₁.heap H) := by
    intro b o e
    refine hidT_get (KX b o e) ?_
    cases q : H b with
    | none => rfl
    | some u =>
      have z := seen q
      subst z
      have e2 := hK (fun z => nomatch q.symm.trans z)
      exact nomatch e.symm.trans e2
  obtain ⟨mc, l1, l2⟩ := hlim
  have e0 : Env0 P w K mg (hidT s₁.heap H) callerA [] s₁ H := ⟨rfl, ⟨inB, names hns, ⟨mb, names hb, hbb⟩, ⟨mc, names l1, l2⟩⟩, fun b o e => of_hidT e, Nat.le_of_eq (hidT_size _ _), trivial, fun b hb => absurd (show b ∈ ([] : List Addr) from hb) List.not_mem_nil, hok, .of_eq hg⟩
  refine codeAny_mono ((F _ inB (names hns)).go callerA [] s₁ H ⟨[.ref a], []⟩ [.ref a] [.ref a] _ _ rfl hr e0 (hbind s₁ (.ref a)) (.cons rfl .nil) hsp) fun r s' h => ?_
  match r, h with
  | .error e, h => exact False.elim h
  | .ok .next, h => exact False.elim h
  | .ok .brk, h => exact False.elim h
  | .ok .cont, h => exact False.elim h
  | .ok (.ret u), ⟨v, H', os, bare, un, hok', r', q⟩ =>
    have q' : v = .bl true := q
    subst q'
    (obtain rfl : u = Value.bool true := r')
    (refine ⟨rfl, OldK.of_keep fun b o e => ?_, os, bare⟩)
    (rcases hO b with z | ⟨ob, xs, z⟩)
    · exact un.keep b o e z (fun m => absurd (show b ∈ ([] : List Addr) from m) List.not_mem_nil) List.not_mem_nil
    · obtain ⟨e1, _⟩ := hok b _ z
      obtain ⟨e2, _⟩ := hok' b _ (un.frzs b ob _ z)
      rw [Option.some.inj (e.symm.trans e1)]
      exact e2
theorem law_won (KX : K.In s₁.heap) (hns : s₁.heap.Ns mainGlobals mg) (hb : s₁.heap.Ns builtinsNs mb) (hbb : ∀ x : Str, x ≠ "__name__" → mb x = bootBuiltins x) (hlim : s₁.heap.NoLimit) (hg : s₁.gens = #[])
    (ha : s₁.heap.get? a = some { cls := .type "list", data := .seq vs.toArray }) (hi : IntsAre vs ns) (hl : ns.length ≤ sizeLine) (hr : Room k callerA) (F : ∀ base : Heap, K.In base → base.Ns mainGlobals mg → FnG P w K mg base k fa fd [x] sp) (hbind : ∀ (s : Shared) (u : Value), BindsTo s fd ⟨[u], []⟩ [(x, u)])
    (hsp : ∀ H : Hp, Only H → SqL K H a (ns.map V.int) → sp [.ref a] H (fun v _ => v = .bl true) fun _ _ _ => False) :
    codeAny (model P w) callerA (.call (.ref fa) ⟨[.ref a], []⟩) (WonAt s₁) s₁ := by
  have rv := vals_ints hi
  cases hk : K.lookup a with
  | some o =>
    have e := Option.some.inj ((KX a o hk).symm.trans ha)
    subst e
    refine law_from KX hns hb hbb hlim hg ha hr F hbind (fun _ => none) (fun _ => .inl rfl) (hsp _ (fun _ => .inl rfl) (.inr ⟨_, vs.toArray, _, hk, rfl, rfl, rfl, by rw [List.size_toArray, hi.length]; exact hl, by simpa using rv⟩)) (fun b u z => nomatch z) (fun b z => absurd rfl z) fun z => absurd rfl z
  | none =>
    have o1 : Only (oneH' a (.frz { cls := .type "list", data := .seq vs.toArray } (.lst (ns.map V.int)))) := fun b => by
      unfold oneH'
      split
      · exact .inr ⟨_, _, rfl⟩
      · exact .inl rfl
    refine law_from KX hns hb hbb hlim hg ha hr F hbind (oneH' a (.frz { cls := .type "list", data := .seq vs.toArray } (.lst (ns.map V.int)))) o1 (hsp _ o1 (.inl (.inr ⟨{ cls := .type "list", data := .seq vs.toArray }, if_pos rfl⟩))) (fun b u z => ?_) (fun b z => ?_) fun _ => hk
    · unfold oneH' at z
      split at z
      · rename_i hb'
        cases z
        subst hb'
        (exact ⟨ha, by rw [List.length_map]; exact hl, vs, _, rv, ha⟩)
      · cases z
    · unfold oneH' at z
      split at z
      · rename_i hb'
        exact hb'
      · exact absurd rfl z
end
abbrev LawDef (K : PySem.W.Frag) (mg : Str → Option Value) (P : Program) (w : World) (k : Nat) (x : Str) (sp : Sp) (fa : Addr) : Prop :=
  ∃ fd : FuncData, (∀ (s : Shared) (u : Value), BindsTo s fd ⟨[u], []⟩ [(x, u)]) ∧ ∀ base : Heap, K.In base → base.Ns mainGlobals mg → FnG P w K mg base k fa fd [x] sp
theorem walk_G {l : PySem.W.OpenLaw} {n k : Nat} {q : Program} {loose : List Str} {XP : (Str → Option Value) → Heap → Prop} {YP : World → Heap → Prop} {d : DefRec} {Kf : Params → PySem.W.Frag} {spw : World → Sp} {x : Str}
    (most : l.most = some n) (small : n ≤ sizeLine) (plain : d.params.defaults = []) (room : Room k callerA) (inn : ∀ (w : World) (hp : Heap), YP w hp → (Kf w.params).In hp)
    (def' : ∀ (w : World) (mg : Str → Option Value) (fa : Addr) (hp : Heap), (Kf w.params).In hp → hp.Ns mainGlobals mg → mg d.name = some (.ref fa) → LawDef (Kf w.params) mg l.prog w k x (spw w) fa)
    (won : ∀ (w : World) (H : Hp) (a : Addr) (is : List Int), is.length ≤ n → Only H → SqL (Kf w.params) H a (is.map V.int) → spw w [.ref a] H (fun v _ => v = .bl true) fun _ _ _ => False) : PySem.W.WalkO q loose XP YP l.row.toRowW d [] (fun f vs => PySem.call f vs) := by
  refine Att.attach_call most plain fun w s₀ s₁ mg mb fa o pm cd doc a vs is G Y ho hd hcd hmg hobj hints hlen hg => ?_
  obtain ⟨fd, hb, hF⟩ := def' w mg fa _ (inn w _ Y) G.T.g hmg
  exact law_won (inn w _ Y) G.T.g G.T.b G.T.builtins G.T.nolimit hg hobj hints (Nat.le_trans hlen small) room hF hb fun H hO hS => won w H a is hlen hO hS
end LH

namespace K04
open PySem PySem.Spec PyProof.Rows L2 LH C8
theorem all_mk {l : PySem.W.OpenLaw} {w : World} {K : PySem.W.Frag} {h : Heap} {mg : Str → Option Value} {fa : Addr} (X : K.In h) (G : h.Ns mainGlobals mg) (hfa : mg "law" = some (.ref fa))
    {f0 : Addr} {od0 an0 : Option Addr} {sl0 : Array (Option Value)} {oc0 kV0 dc0 pm0 cd0 ct0 : Value}
    {f1 : Addr} {od1 an1 : Option Addr} {sl1 : Array (Option Value)} {oc1 kV1 dc1 pm1 cd1 ct1 : Value}
    {f2 : Addr} {od2 an2 : Option Addr} {sl2 : Array (Option Value)} {oc2 kV2 dc2 pm2 cd2 ct2 : Value}
    {f3 : Addr} {od3 an3 : Option Addr} {sl3 : Array (Option Value)} {oc3 kV3 dc3 pm3 cd3 ct3 : Value}
    {f4 : Addr} {od4 an4 : Option Addr} {sl4 : Array (Option Value)} {oc4 kV4 dc4 pm4 cd4 ct4 : Value}
    {f5 : Addr} {od5 an5 : Option Addr} {sl5 : Array (Option Value)} {oc5 kV5 dc5 pm5 cd5 ct5 : Value}
    {f6 : Addr} {od6 an6 : Option Addr} {sl6 : Array (Option Value)} {oc6 kV6 dc6 pm6 cd6 ct6 : Value}
    {f7 : Addr} {od7 an7 : Option Addr} {sl7 : Array (Option Value)} {oc7 kV7 dc7 pm7 cd7 ct7 : Value}
    {f8 : Addr} {od8 an8 : Option Addr} {sl8 : Array (Option Value)} {oc8 kV8 dc8 pm8 cd8 ct8 : Value}
    {f9 : Addr} {od9 an9 : Option Addr} {sl9 : Array (Option Value)} {oc9 kV9 dc9 pm9 cd9 ct9 : Value}
    {f10 : Addr} {od10 an10 : Option Addr} {sl10 : Array (Option Value)} {oc10 kV10 dc10 pm10 cd10 ct10 : Value}
    {f11 : Addr} {od11 an11 : Option Addr} {sl11 : Array (Option Value)} {oc11 kV11 dc11 pm11 cd11 ct11 : Value}
    {f12 : Addr} {od12 an12 : Option Addr} {sl12 : Array (Option Value)} {oc12 kV12 dc12 pm12 cd12 ct12 : Value}
    {f13 : Addr} {od13 an13 : Option Addr} {sl13 : Array (Option Value)} {oc13 kV13 dc13 pm13 cd13 ct13 : Value}
    {f14 : Addr} {od14 an14 : Option Addr} {sl14 : Array (Option Value)} {oc14 kV14 dc14 pm14 cd14 ct14 : Value}
    {f15 : Addr} {od15 an15 : Option Addr} {sl15 : Array (Option Value)} {oc15 kV15 dc15 pm15 cd15 ct15 : Value}
    {f16 : Addr} {od16 an16 : Option Addr} {sl16 : Array (Option Value)} {oc16 kV16 dc16 pm16 cd16 ct16 : Value}
    {f17 : Addr} {od17 an17 : Option Addr} {sl17 : Array (Option Value)} {oc17 kV17 dc17 pm17 cd17 ct17 : Value}
    {f18 : Addr} {od18 an18 : Option Addr} {sl18 : Array (Option Value)} {oc18 kV18 dc18 pm18 cd18 ct18 : Value}
    {f19 : Addr} {od19 an19 : Option Addr} {sl19 : Array (Option Value)} {oc19 kV19 dc19 pm19 cd19 ct19 : Value}
    {f20 : Addr} {od20 an20 : Option Addr} {sl20 : Array (Option Value)} {oc20 kV20 dc20 pm20 cd20 ct20 : Value}
    {f21 : Addr} {od21 an21 : Option Addr} {sl21 : Array (Option Value)} {oc21 kV21 dc21 pm21 cd21 ct21 : Value}
    {f22 : Addr} {od22 an22 : Option Addr} {sl22 : Array (Option Value)} {oc22 kV22 dc22 pm22 cd22 ct22 : Value}
    {f23 : Addr} {od23 an23 : Option Addr} {sl23 : Array (Option Value)} {oc23 kV23 dc23 pm23 cd23 ct23 : Value}
    {f24 : Addr} {od24 an24 : Option Addr} {sl24 : Array (Option Value)} {oc24 kV24 dc24 pm24 cd24 ct24 : Value}
    {f25 : Addr} {od25 an25 : Option Addr} {sl25 : Array (Option Value)} {oc25 kV25 dc25 pm25 cd25 ct25 : Value}
    {f26 : Addr} {od26 an26 : Option Addr} {sl26 : Array (Option Value)} {oc26 kV26 dc26 pm26 cd26 ct26 : Value}
    {f27 : Addr} {od27 an27 : Option Addr} {sl27 : Array (Option Value)} {oc27 kV27 dc27 pm27 cd27 ct27 : Value}
    {f28 : Addr} {od28 an28 : Option Addr} {sl28 : Array (Option Value)} {oc28 kV28 dc28 pm28 cd28 ct28 : Value}
    {f29 : Addr} {od29 an29 : Option Addr} {sl29 : Array (Option Value)} {oc29 kV29 dc29 pm29 cd29 ct29 : Value}
    {f30 : Addr} {od30 an30 : Option Addr} {sl30 : Array (Option Value)} {oc30 kV30 dc30 pm30 cd30 ct30 : Value}
    {f31 : Addr} {od31 an31 : Option Addr} {sl31 : Array (Option Value)} {oc31 kV31 dc31 pm31 cd31 ct31 : Value}
    {f32 : Addr} {od32 an32 : Option Addr} {sl32 : Array (Option Value)} {oc32 kV32 dc32 pm32 cd32 ct32 : Value}
    {f33 : Addr} {od33 an33 : Option Addr} {sl33 : Array (Option Value)} {oc33 kV33 dc33 pm33 cd33 ct33 : Value}
    {f34 : Addr} {od34 an34 : Option Addr} {sl34 : Array (Option Value)} {oc34 kV34 dc34 pm34 cd34 ct34 : Value}
    {tMOST_NAME : Tok}
    {tMOST_WRITING : Tok}
    {tMOST_SIGN : Tok}
    {tMOST_HEADS : Tok}
    {tMOST_VALUE : Tok}
    {tMOST_PARTS : Tok}
    {tMOST_DEEP : Tok}
    {tSMALL_LETTERS : Tok}
    {tPLAIN_SIGNS : Tok}
    (a0 : PySem.W.nsIn K mainGlobals "is_number" = some (some (.ref f0)))
    (l0 : K.lookup f0 = some ⟨oc0, od0, .func (PySem.W.fnOf "is_number" "is_number" (defArgs s_is_number) (defBody s_is_number) (defScope s_is_number) .none kV0 dc0 pm0 an0 cd0 ct0), sl0⟩)
    (c0 : PySem.W.codeIn K cd0 "is_number" = true)
    (k0 : PySem.W.keepIn K (.ref f0) = true)
    (a1 : PySem.W.nsIn K mainGlobals "is_within" = some (some (.ref f1)))
    (l1 : K.lookup f1 = some ⟨oc1, od1, .func (PySem.W.fnOf "is_within" "is_within" (defArgs s_is_within) (defBody s_is_within) (defScope s_is_within) .none kV1 dc1 pm1 an1 cd1 ct1), sl1⟩)
    (c1 : PySem.W.codeIn K cd1 "is_within" = true)
    (k1 : PySem.W.keepIn K (.ref f1) = true)
    (a2 : PySem.W.nsIn K mainGlobals "is_name" = some (some (.ref f2)))
    (l2 : K.lookup f2 = some ⟨oc2, od2, .func (PySem.W.fnOf "is_name" "is_name" (defArgs s_is_name) (defBody s_is_name) (defScope s_is_name) .none kV2 dc2 pm2 an2 cd2 ct2), sl2⟩)
    (c2 : PySem.W.codeIn K cd2 "is_name" = true)
    (k2 : PySem.W.keepIn K (.ref f2) = true)
    (a3 : PySem.W.nsIn K mainGlobals "is_plain_text" = some (some (.ref f3)))
    (l3 : K.lookup f3 = some ⟨oc3, od3, .func (PySem.W.fnOf "is_plain_text" "is_plain_text" (defArgs s_is_plain_text) (defBody s_is_plain_text) (defScope s_is_plain_text) .none kV3 dc3 pm3 an3 cd3 ct3), sl3⟩)
    (c3 : PySem.W.codeIn K cd3 "is_plain_text" = true)
    (k3 : PySem.W.keepIn K (.ref f3) = true)
    (a4 : PySem.W.nsIn K mainGlobals "is_tuple" = some (some (.ref f4)))
    (l4 : K.lookup f4 = some ⟨oc4, od4, .func (PySem.W.fnOf "is_tuple" "is_tuple" (defArgs s_is_tuple) (defBody s_is_tuple) (defScope s_is_tuple) .none kV4 dc4 pm4 an4 cd4 ct4), sl4⟩)
    (c4 : PySem.W.codeIn K cd4 "is_tuple" = true)
    (k4 : PySem.W.keepIn K (.ref f4) = true)
    (a5 : PySem.W.nsIn K mainGlobals "is_head" = some (some (.ref f5)))
    (l5 : K.lookup f5 = some ⟨oc5, od5, .func (PySem.W.fnOf "is_head" "is_head" (defArgs s_is_head) (defBody s_is_head) (defScope s_is_head) .none kV5 dc5 pm5 an5 cd5 ct5), sl5⟩)
    (c5 : PySem.W.codeIn K cd5 "is_head" = true)
    (k5 : PySem.W.keepIn K (.ref f5) = true)
    (a6 : PySem.W.nsIn K mainGlobals "is_heads" = some (some (.ref f6)))
    (l6 : K.lookup f6 = some ⟨oc6, od6, .func (PySem.W.fnOf "is_heads" "is_heads" (defArgs s_is_heads) (defBody s_is_heads) (defScope s_is_heads) .none kV6 dc6 pm6 an6 cd6 ct6), sl6⟩)
    (c6 : PySem.W.codeIn K cd6 "is_heads" = true)
    (k6 : PySem.W.keepIn K (.ref f6) = true)
    (a7 : PySem.W.nsIn K mainGlobals "is_writing" = some (some (.ref f7)))
    (l7 : K.lookup f7 = some ⟨oc7, od7, .func (PySem.W.fnOf "is_writing" "is_writing" (defArgs s_is_writing) (defBody s_is_writing) (defScope s_is_writing) .none kV7 dc7 pm7 an7 cd7 ct7), sl7⟩)
    (c7 : PySem.W.codeIn K cd7 "is_writing" = true)
    (k7 : PySem.W.keepIn K (.ref f7) = true)
    (a8 : PySem.W.nsIn K mainGlobals "is_part" = some (some (.ref f8)))
    (l8 : K.lookup f8 = some ⟨oc8, od8, .func (PySem.W.fnOf "is_part" "is_part" (defArgs s_is_part) (defBody s_is_part) (defScope s_is_part) .none kV8 dc8 pm8 an8 cd8 ct8), sl8⟩)
    (c8 : PySem.W.codeIn K cd8 "is_part" = true)
    (k8 : PySem.W.keepIn K (.ref f8) = true)
    (a9 : PySem.W.nsIn K mainGlobals "is_parts" = some (some (.ref f9)))
    (l9 : K.lookup f9 = some ⟨oc9, od9, .func (PySem.W.fnOf "is_parts" "is_parts" (defArgs s_is_parts) (defBody s_is_parts) (defScope s_is_parts) .none kV9 dc9 pm9 an9 cd9 ct9), sl9⟩)
    (c9 : PySem.W.codeIn K cd9 "is_parts" = true)
    (k9 : PySem.W.keepIn K (.ref f9) = true)
    (a10 : PySem.W.nsIn K mainGlobals "is_body_within" = some (some (.ref f10)))
    (l10 : K.lookup f10 = some ⟨oc10, od10, .func (PySem.W.fnOf "is_body_within" "is_body_within" (defArgs s_is_body_within) (defBody s_is_body_within) (defScope s_is_body_within) .none kV10 dc10 pm10 an10 cd10 ct10), sl10⟩)
    (c10 : PySem.W.codeIn K cd10 "is_body_within" = true)
    (k10 : PySem.W.keepIn K (.ref f10) = true)
    (a11 : PySem.W.nsIn K mainGlobals "is_body" = some (some (.ref f11)))
    (l11 : K.lookup f11 = some ⟨oc11, od11, .func (PySem.W.fnOf "is_body" "is_body" (defArgs s_is_body) (defBody s_is_body) (defScope s_is_body) .none kV11 dc11 pm11 an11 cd11 ct11), sl11⟩)
    (c11 : PySem.W.codeIn K cd11 "is_body" = true)
    (k11 : PySem.W.keepIn K (.ref f11) = true)
    (a12 : PySem.W.nsIn K mainGlobals "is_letter" = some (some (.ref f12)))
    (l12 : K.lookup f12 = some ⟨oc12, od12, .func (PySem.W.fnOf "is_letter" "is_letter" (defArgs s_is_letter) (defBody s_is_letter) (defScope s_is_letter) .none kV12 dc12 pm12 an12 cd12 ct12), sl12⟩)
    (c12 : PySem.W.codeIn K cd12 "is_letter" = true)
    (k12 : PySem.W.keepIn K (.ref f12) = true)
    (a13 : PySem.W.nsIn K mainGlobals "_law_box" = some (some (.ref f13)))
    (l13 : K.lookup f13 = some ⟨oc13, od13, .func (PySem.W.fnOf "_law_box" "_law_box" (defArgs s_l_box) (defBody s_l_box) (defScope s_l_box) .none kV13 dc13 pm13 an13 cd13 ct13), sl13⟩)
    (c13 : PySem.W.codeIn K cd13 "_law_box" = true)
    (k13 : PySem.W.keepIn K (.ref f13) = true)
    (a14 : PySem.W.nsIn K mainGlobals "_law_take" = some (some (.ref f14)))
    (l14 : K.lookup f14 = some ⟨oc14, od14, .func (PySem.W.fnOf "_law_take" "_law_take" (defArgs s_l_take) (defBody s_l_take) (defScope s_l_take) .none kV14 dc14 pm14 an14 cd14 ct14), sl14⟩)
    (c14 : PySem.W.codeIn K cd14 "_law_take" = true)
    (k14 : PySem.W.keepIn K (.ref f14) = true)
    (a15 : PySem.W.nsIn K mainGlobals "_law_cells" = some (some (.ref f15)))
    (l15 : K.lookup f15 = some ⟨oc15, od15, .func (PySem.W.fnOf "_law_cells" "_law_cells" (defArgs s_l_cells) (defBody s_l_cells) (defScope s_l_cells) .none kV15 dc15 pm15 an15 cd15 ct15), sl15⟩)
    (c15 : PySem.W.codeIn K cd15 "_law_cells" = true)
    (k15 : PySem.W.keepIn K (.ref f15) = true)
    (a16 : PySem.W.nsIn K mainGlobals "_law_one_of" = some (some (.ref f16)))
    (l16 : K.lookup f16 = some ⟨oc16, od16, .func (PySem.W.fnOf "_law_one_of" "_law_one_of" (defArgs s_l_one_of) (defBody s_l_one_of) (defScope s_l_one_of) .none kV16 dc16 pm16 an16 cd16 ct16), sl16⟩)
    (c16 : PySem.W.codeIn K cd16 "_law_one_of" = true)
    (k16 : PySem.W.keepIn K (.ref f16) = true)
    (a17 : PySem.W.nsIn K mainGlobals "_law_signs" = some (some (.ref f17)))
    (l17 : K.lookup f17 = some ⟨oc17, od17, .func (PySem.W.fnOf "_law_signs" "_law_signs" (defArgs s_l_signs) (defBody s_l_signs) (defScope s_l_signs) .none kV17 dc17 pm17 an17 cd17 ct17), sl17⟩)
    (c17 : PySem.W.codeIn K cd17 "_law_signs" = true)
    (k17 : PySem.W.keepIn K (.ref f17) = true)
    (a18 : PySem.W.nsIn K mainGlobals "_law_any_sign" = some (some (.ref f18)))
    (l18 : K.lookup f18 = some ⟨oc18, od18, .func (PySem.W.fnOf "_law_any_sign" "_law_any_sign" (defArgs s_l_any_sign) (defBody s_l_any_sign) (defScope s_l_any_sign) .none kV18 dc18 pm18 an18 cd18 ct18), sl18⟩)
    (c18 : PySem.W.codeIn K cd18 "_law_any_sign" = true)
    (k18 : PySem.W.keepIn K (.ref f18) = true)
    (a19 : PySem.W.nsIn K mainGlobals "_law_plain_signs" = some (some (.ref f19)))
    (l19 : K.lookup f19 = some ⟨oc19, od19, .func (PySem.W.fnOf "_law_plain_signs" "_law_plain_signs" (defArgs s_l_plain_signs) (defBody s_l_plain_signs) (defScope s_l_plain_signs) .none kV19 dc19 pm19 an19 cd19 ct19), sl19⟩)
    (c19 : PySem.W.codeIn K cd19 "_law_plain_signs" = true)
    (k19 : PySem.W.keepIn K (.ref f19) = true)
    (a20 : PySem.W.nsIn K mainGlobals "_law_writing" = some (some (.ref f20)))
    (l20 : K.lookup f20 = some ⟨oc20, od20, .func (PySem.W.fnOf "_law_writing" "_law_writing" (defArgs s_l_writing) (defBody s_l_writing) (defScope s_l_writing) .none kV20 dc20 pm20 an20 cd20 ct20), sl20⟩)
    (c20 : PySem.W.codeIn K cd20 "_law_writing" = true)
    (k20 : PySem.W.keepIn K (.ref f20) = true)
    (a21 : PySem.W.nsIn K mainGlobals "_law_plain_text" = some (some (.ref f21)))
    (l21 : K.lookup f21 = some ⟨oc21, od21, .func (PySem.W.fnOf "_law_plain_text" "_law_plain_text" (defArgs s_l_plain_text) (defBody s_l_plain_text) (defScope s_l_plain_text) .none kV21 dc21 pm21 an21 cd21 ct21), sl21⟩)
    (c21 : PySem.W.codeIn K cd21 "_law_plain_text" = true)
    (k21 : PySem.W.keepIn K (.ref f21) = true)
    (a22 : PySem.W.nsIn K mainGlobals "_law_heads" = some (some (.ref f22)))
    (l22 : K.lookup f22 = some ⟨oc22, od22, .func (PySem.W.fnOf "_law_heads" "_law_heads" (defArgs s_l_heads) (defBody s_l_heads) (defScope s_l_heads) .none kV22 dc22 pm22 an22 cd22 ct22), sl22⟩)
    (c22 : PySem.W.codeIn K cd22 "_law_heads" = true)
    (k22 : PySem.W.keepIn K (.ref f22) = true)
    (a23 : PySem.W.nsIn K mainGlobals "_law_body" = some (some (.ref f23)))
    (l23 : K.lookup f23 = some ⟨oc23, od23, .func (PySem.W.fnOf "_law_body" "_law_body" (defArgs s_l_body) (defBody s_l_body) (defScope s_l_body) .none kV23 dc23 pm23 an23 cd23 ct23), sl23⟩)
    (c23 : PySem.W.codeIn K cd23 "_law_body" = true)
    (k23 : PySem.W.keepIn K (.ref f23) = true)
    (a24 : PySem.W.nsIn K mainGlobals "_law_letter" = some (some (.ref f24)))
    (l24 : K.lookup f24 = some ⟨oc24, od24, .func (PySem.W.fnOf "_law_letter" "_law_letter" (defArgs s_l_letter) (defBody s_l_letter) (defScope s_l_letter) .none kV24 dc24 pm24 an24 cd24 ct24), sl24⟩)
    (c24 : PySem.W.codeIn K cd24 "_law_letter" = true)
    (k24 : PySem.W.keepIn K (.ref f24) = true)
    (a25 : PySem.W.nsIn K mainGlobals "_law_is_name" = some (some (.ref f25)))
    (l25 : K.lookup f25 = some ⟨oc25, od25, .func (PySem.W.fnOf "_law_is_name" "_law_is_name" (defArgs s_l_is_name) (defBody s_l_is_name) (defScope s_l_is_name) .none kV25 dc25 pm25 an25 cd25 ct25), sl25⟩)
    (c25 : PySem.W.codeIn K cd25 "_law_is_name" = true)
    (k25 : PySem.W.keepIn K (.ref f25) = true)
    (a26 : PySem.W.nsIn K mainGlobals "_law_is_heads" = some (some (.ref f26)))
    (l26 : K.lookup f26 = some ⟨oc26, od26, .func (PySem.W.fnOf "_law_is_heads" "_law_is_heads" (defArgs s_l_is_heads) (defBody s_l_is_heads) (defScope s_l_is_heads) .none kV26 dc26 pm26 an26 cd26 ct26), sl26⟩)
    (c26 : PySem.W.codeIn K cd26 "_law_is_heads" = true)
    (k26 : PySem.W.keepIn K (.ref f26) = true)
    (a27 : PySem.W.nsIn K mainGlobals "_law_is_body" = some (some (.ref f27)))
    (l27 : K.lookup f27 = some ⟨oc27, od27, .func (PySem.W.fnOf "_law_is_body" "_law_is_body" (defArgs s_l_is_body) (defBody s_l_is_body) (defScope s_l_is_body) .none kV27 dc27 pm27 an27 cd27 ct27), sl27⟩)
    (c27 : PySem.W.codeIn K cd27 "_law_is_body" = true)
    (k27 : PySem.W.keepIn K (.ref f27) = true)
    (a28 : PySem.W.nsIn K mainGlobals "_law_is_part" = some (some (.ref f28)))
    (l28 : K.lookup f28 = some ⟨oc28, od28, .func (PySem.W.fnOf "_law_is_part" "_law_is_part" (defArgs s_l_is_part) (defBody s_l_is_part) (defScope s_l_is_part) .none kV28 dc28 pm28 an28 cd28 ct28), sl28⟩)
    (c28 : PySem.W.codeIn K cd28 "_law_is_part" = true)
    (k28 : PySem.W.keepIn K (.ref f28) = true)
    (a29 : PySem.W.nsIn K mainGlobals "_law_other" = some (some (.ref f29)))
    (l29 : K.lookup f29 = some ⟨oc29, od29, .func (PySem.W.fnOf "_law_other" "_law_other" (defArgs s_l_other) (defBody s_l_other) (defScope s_l_other) .none kV29 dc29 pm29 an29 cd29 ct29), sl29⟩)
    (c29 : PySem.W.codeIn K cd29 "_law_other" = true)
    (k29 : PySem.W.keepIn K (.ref f29) = true)
    (a30 : PySem.W.nsIn K mainGlobals "_law_bent" = some (some (.ref f30)))
    (l30 : K.lookup f30 = some ⟨oc30, od30, .func (PySem.W.fnOf "_law_bent" "_law_bent" (defArgs s_l_bent) (defBody s_l_bent) (defScope s_l_bent) .none kV30 dc30 pm30 an30 cd30 ct30), sl30⟩)
    (c30 : PySem.W.codeIn K cd30 "_law_bent" = true)
    (k30 : PySem.W.keepIn K (.ref f30) = true)
    (a31 : PySem.W.nsIn K mainGlobals "_law_told_right" = some (some (.ref f31)))
    (l31 : K.lookup f31 = some ⟨oc31, od31, .func (PySem.W.fnOf "_law_told_right" "_law_told_right" (defArgs s_l_told_right) (defBody s_l_told_right) (defScope s_l_told_right) .none kV31 dc31 pm31 an31 cd31 ct31), sl31⟩)
    (c31 : PySem.W.codeIn K cd31 "_law_told_right" = true)
    (k31 : PySem.W.keepIn K (.ref f31) = true)
    (a32 : PySem.W.nsIn K mainGlobals "_law_bounds_right" = some (some (.ref f32)))
    (l32 : K.lookup f32 = some ⟨oc32, od32, .func (PySem.W.fnOf "_law_bounds_right" "_law_bounds_right" (defArgs s_l_bounds_right) (defBody s_l_bounds_right) (defScope s_l_bounds_right) .none kV32 dc32 pm32 an32 cd32 ct32), sl32⟩)
    (c32 : PySem.W.codeIn K cd32 "_law_bounds_right" = true)
    (k32 : PySem.W.keepIn K (.ref f32) = true)
    (a33 : PySem.W.nsIn K mainGlobals "_law_right" = some (some (.ref f33)))
    (l33 : K.lookup f33 = some ⟨oc33, od33, .func (PySem.W.fnOf "_law_right" "_law_right" (defArgs s_l_right) (defBody s_l_right) (defScope s_l_right) .none kV33 dc33 pm33 an33 cd33 ct33), sl33⟩)
    (c33 : PySem.W.codeIn K cd33 "_law_right" = true)
    (k33 : PySem.W.keepIn K (.ref f33) = true)
    (a34 : PySem.W.nsIn K mainGlobals "law" = some (some (.ref f34)))
    (l34 : K.lookup f34 = some ⟨oc34, od34, .func (PySem.W.fnOf "law" "law" (defArgs s_law) (defBody s_law) (defScope s_law) .none kV34 dc34 pm34 an34 cd34 ct34), sl34⟩)
    (c34 : PySem.W.codeIn K cd34 "law" = true)
    (k34 : PySem.W.keepIn K (.ref f34) = true)
    (gMOST_NAME : PySem.W.nsIn K mainGlobals "MOST_NAME" = some (some (.int 8 tMOST_NAME)))
    (gMOST_WRITING : PySem.W.nsIn K mainGlobals "MOST_WRITING" = some (some (.int 300 tMOST_WRITING)))
    (gMOST_SIGN : PySem.W.nsIn K mainGlobals "MOST_SIGN" = some (some (.int 65535 tMOST_SIGN)))
    (gMOST_HEADS : PySem.W.nsIn K mainGlobals "MOST_HEADS" = some (some (.int 60 tMOST_HEADS)))
    (gMOST_VALUE : PySem.W.nsIn K mainGlobals "MOST_VALUE" = some (some (.int 300 tMOST_VALUE)))
    (gMOST_PARTS : PySem.W.nsIn K mainGlobals "MOST_PARTS" = some (some (.int 4 tMOST_PARTS)))
    (gMOST_DEEP : PySem.W.nsIn K mainGlobals "MOST_DEEP" = some (some (.int 3 tMOST_DEEP)))
    (gSMALL_LETTERS : PySem.W.nsIn K mainGlobals "SMALL_LETTERS" = some (some (.str "abcdefghijklmnopqrstuvwxyz" tSMALL_LETTERS)))
    (gPLAIN_SIGNS : PySem.W.nsIn K mainGlobals "PLAIN_SIGNS" = some (some (.str " !\"#$&'()*+,-./0123456789:;<=>?@ABCDEFGHIJKLMNOPQRSTUVWXYZ[\\]^_`abcdefghijklmnopqrstuvwxyz{|}~" tPLAIN_SIGNS)))
    (z_isinstance : PySem.W.nsIn K mainGlobals "isinstance" = some none)
    (z_int : PySem.W.nsIn K mainGlobals "int" = some none)
    (z_bool : PySem.W.nsIn K mainGlobals "bool" = some none)
    (z_str : PySem.W.nsIn K mainGlobals "str" = some none)
    (z_tuple : PySem.W.nsIn K mainGlobals "tuple" = some none)
    (z_list : PySem.W.nsIn K mainGlobals "list" = some none)
    (z_len : PySem.W.nsIn K mainGlobals "len" = some none)
    (z_all : PySem.W.nsIn K mainGlobals "all" = some none)
    (z_range : PySem.W.nsIn K mainGlobals "range" = some none)
    (z_repr : PySem.W.nsIn K mainGlobals "repr" = some none)
    (z_min : PySem.W.nsIn K mainGlobals "min" = some none)
    (z_abs : PySem.W.nsIn K mainGlobals "abs" = some none)
    (z_enumerate : PySem.W.nsIn K mainGlobals "enumerate" = some none) :
    ∃ fd : FuncData, (∀ (s : Shared) (v : Value), BindsTo s fd ⟨[v], []⟩ [("_law_script", v)]) ∧ ∀ base : Heap, K.In base → base.Ns mainGlobals mg → FnG l.prog w K mg base 20 fa fd ["_law_script"] (spLaw K) := by
  have e := hfa.symm.trans (PySem.W.mg_of X G a34)
  cases e
  have D_is_number : Dfn K mg "is_number" s_is_number ["thing"] := ⟨f0, _, fun_mk (st := s_is_number) l0 c0 k0, PySem.W.mg_of X G a0, (fun_mk (st := s_is_number) l0 c0 k0).binds (ps := ["thing"]) fun _ _ _ _ _ _ us hl => match us, hl with | [_], _ => rfl⟩
  have D_is_within : Dfn K mg "is_within" s_is_within ["thing", "least", "most"] := ⟨f1, _, fun_mk (st := s_is_within) l1 c1 k1, PySem.W.mg_of X G a1, (fun_mk (st := s_is_within) l1 c1 k1).binds (ps := ["thing", "least", "most"]) fun _ _ _ _ _ _ us hl => match us, hl with | [_, _, _], _ => rfl⟩
  have D_is_name : Dfn K mg "is_name" s_is_name ["thing"] := ⟨f2, _, fun_mk (st := s_is_name) l2 c2 k2, PySem.W.mg_of X G a2, (fun_mk (st := s_is_name) l2 c2 k2).binds (ps := ["thing"]) fun _ _ _ _ _ _ us hl => match us, hl with | [_], _ => rfl⟩
  have D_is_plain_text : Dfn K mg "is_plain_text" s_is_plain_text ["thing", "least", "most"] := ⟨f3, _, fun_mk (st := s_is_plain_text) l3 c3 k3, PySem.W.mg_of X G a3, (fun_mk (st := s_is_plain_text) l3 c3 k3).binds (ps := ["thing", "least", "most"]) fun _ _ _ _ _ _ us hl => match us, hl with | [_, _, _], _ => rfl⟩
  have D_is_tuple : Dfn K mg "is_tuple" s_is_tuple ["thing", "least", "most"] := ⟨f4, _, fun_mk (st := s_is_tuple) l4 c4 k4, PySem.W.mg_of X G a4, (fun_mk (st := s_is_tuple) l4 c4 k4).binds (ps := ["thing", "least", "most"]) fun _ _ _ _ _ _ us hl => match us, hl with | [_, _, _], _ => rfl⟩
  have D_is_head : Dfn K mg "is_head" s_is_head ["thing"] := ⟨f5, _, fun_mk (st := s_is_head) l5 c5 k5, PySem.W.mg_of X G a5, (fun_mk (st := s_is_head) l5 c5 k5).binds (ps := ["thing"]) fun _ _ _ _ _ _ us hl => match us, hl with | [_], _ => rfl⟩
  have D_is_heads : Dfn K mg "is_heads" s_is_heads ["thing"] := ⟨f6, _, fun_mk (st := s_is_heads) l6 c6 k6, PySem.W.mg_of X G a6, (fun_mk (st := s_is_heads) l6 c6 k6).binds (ps := ["thing"]) fun _ _ _ _ _ _ us hl => match us, hl with | [_], _ => rfl⟩
  have D_is_writing : Dfn K mg "is_writing" s_is_writing ["thing"] := ⟨f7, _, fun_mk (st := s_is_writing) l7 c7 k7, PySem.W.mg_of X G a7, (fun_mk (st := s_is_writing) l7 c7 k7).binds (ps := ["thing"]) fun _ _ _ _ _ _ us hl => match us, hl with | [_], _ => rfl⟩
  have D_is_part : Dfn K mg "is_part" s_is_part ["thing", "deep"] := ⟨f8, _, fun_mk (st := s_is_part) l8 c8 k8, PySem.W.mg_of X G a8, (fun_mk (st := s_is_part) l8 c8 k8).binds (ps := ["thing", "deep"]) fun _ _ _ _ _ _ us hl => match us, hl with | [_, _], _ => rfl⟩
  have D_is_parts : Dfn K mg "is_parts" s_is_parts ["thing", "deep"] := ⟨f9, _, fun_mk (st := s_is_parts) l9 c9 k9, PySem.W.mg_of X G a9, (fun_mk (st := s_is_parts) l9 c9 k9).binds (ps := ["thing", "deep"]) fun _ _ _ _ _ _ us hl => match us, hl with | [_, _], _ => rfl⟩
  have D_is_body_within : Dfn K mg "is_body_within" s_is_body_within ["thing", "deep"] := ⟨f10, _, fun_mk (st := s_is_body_within) l10 c10 k10, PySem.W.mg_of X G a10, (fun_mk (st := s_is_body_within) l10 c10 k10).binds (ps := ["thing", "deep"]) fun _ _ _ _ _ _ us hl => match us, hl with | [_, _], _ => rfl⟩
  have D_is_body : Dfn K mg "is_body" s_is_body ["thing"] := ⟨f11, _, fun_mk (st := s_is_body) l11 c11 k11, PySem.W.mg_of X G a11, (fun_mk (st := s_is_body) l11 c11 k11).binds (ps := ["thing"]) fun _ _ _ _ _ _ us hl => match us, hl with | [_], _ => rfl⟩
  have D_is_letter : Dfn K mg "is_letter" s_is_letter ["thing"] := ⟨f12, _, fun_mk (st := s_is_letter) l12 c12 k12, PySem.W.mg_of X G a12, (fun_mk (st := s_is_letter) l12 c12 k12).binds (ps := ["thing"]) fun _ _ _ _ _ _ us hl => match us, hl with | [_], _ => rfl⟩
  have D_l_box : Dfn K mg "_law_box" s_l_box ["_law_cells_here", "_law_k"] := ⟨f13, _, fun_mk (st := s_l_box) l13 c13 k13, PySem.W.mg_of X G a13, (fun_mk (st := s_l_box) l13 c13 k13).binds (ps := ["_law_cells_here", "_law_k"]) fun _ _ _ _ _ _ us hl => match us, hl with | [_, _], _ => rfl⟩
  have D_l_take : Dfn K mg "_law_take" s_l_take ["_law_box_here", "_law_many"] := ⟨f14, _, fun_mk (st := s_l_take) l14 c14 k14, PySem.W.mg_of X G a14, (fun_mk (st := s_l_take) l14 c14 k14).binds (ps := ["_law_box_here", "_law_many"]) fun _ _ _ _ _ _ us hl => match us, hl with | [_, _], _ => rfl⟩
  have D_l_cells : Dfn K mg "_law_cells" s_l_cells ["_law_script", "_law_utmost"] := ⟨f15, _, fun_mk (st := s_l_cells) l15 c15 k15, PySem.W.mg_of X G a15, (fun_mk (st := s_l_cells) l15 c15 k15).binds (ps := ["_law_script", "_law_utmost"]) fun _ _ _ _ _ _ us hl => match us, hl with | [_, _], _ => rfl⟩
  have D_l_one_of : Dfn K mg "_law_one_of" s_l_one_of ["_law_box_here", "_law_some"] := ⟨f16, _, fun_mk (st := s_l_one_of) l16 c16 k16, PySem.W.mg_of X G a16, (fun_mk (st := s_l_one_of) l16 c16 k16).binds (ps := ["_law_box_here", "_law_some"]) fun _ _ _ _ _ _ us hl => match us, hl with | [_, _], _ => rfl⟩
  have D_l_signs : Dfn K mg "_law_signs" s_l_signs [] := ⟨f17, _, fun_mk (st := s_l_signs) l17 c17 k17, PySem.W.mg_of X G a17, (fun_mk (st := s_l_signs) l17 c17 k17).binds (ps := []) fun _ _ _ _ _ _ us hl => match us, hl with | [], _ => rfl⟩
  have D_l_any_sign : Dfn K mg "_law_any_sign" s_l_any_sign ["_law_box_here"] := ⟨f18, _, fun_mk (st := s_l_any_sign) l18 c18 k18, PySem.W.mg_of X G a18, (fun_mk (st := s_l_any_sign) l18 c18 k18).binds (ps := ["_law_box_here"]) fun _ _ _ _ _ _ us hl => match us, hl with | [_], _ => rfl⟩
  have D_l_plain_signs : Dfn K mg "_law_plain_signs" s_l_plain_signs ["_law_box_here", "_law_many"] := ⟨f19, _, fun_mk (st := s_l_plain_signs) l19 c19 k19, PySem.W.mg_of X G a19, (fun_mk (st := s_l_plain_signs) l19 c19 k19).binds (ps := ["_law_box_here", "_law_many"]) fun _ _ _ _ _ _ us hl => match us, hl with | [_, _], _ => rfl⟩
  have D_l_writing : Dfn K mg "_law_writing" s_l_writing ["_law_box_here"] := ⟨f20, _, fun_mk (st := s_l_writing) l20 c20 k20, PySem.W.mg_of X G a20, (fun_mk (st := s_l_writing) l20 c20 k20).binds (ps := ["_law_box_here"]) fun _ _ _ _ _ _ us hl => match us, hl with | [_], _ => rfl⟩
  have D_l_plain_text : Dfn K mg "_law_plain_text" s_l_plain_text ["_law_box_here", "_law_many"] := ⟨f21, _, fun_mk (st := s_l_plain_text) l21 c21 k21, PySem.W.mg_of X G a21, (fun_mk (st := s_l_plain_text) l21 c21 k21).binds (ps := ["_law_box_here", "_law_many"]) fun _ _ _ _ _ _ us hl => match us, hl with | [_, _], _ => rfl⟩
  have D_l_heads : Dfn K mg "_law_heads" s_l_heads ["_law_box_here"] := ⟨f22, _, fun_mk (st := s_l_heads) l22 c22 k22, PySem.W.mg_of X G a22, (fun_mk (st := s_l_heads) l22 c22 k22).binds (ps := ["_law_box_here"]) fun _ _ _ _ _ _ us hl => match us, hl with | [_], _ => rfl⟩
  have D_l_body : Dfn K mg "_law_body" s_l_body ["_law_box_here", "_law_deep"] := ⟨f23, _, fun_mk (st := s_l_body) l23 c23 k23, PySem.W.mg_of X G a23, (fun_mk (st := s_l_body) l23 c23 k23).binds (ps := ["_law_box_here", "_law_deep"]) fun _ _ _ _ _ _ us hl => match us, hl with | [_, _], _ => rfl⟩
  have D_l_letter : Dfn K mg "_law_letter" s_l_letter ["_law_box_here", "_law_deep"] := ⟨f24, _, fun_mk (st := s_l_letter) l24 c24 k24, PySem.W.mg_of X G a24, (fun_mk (st := s_l_letter) l24 c24 k24).binds (ps := ["_law_box_here", "_law_deep"]) fun _ _ _ _ _ _ us hl => match us, hl with | [_, _], _ => rfl⟩
  have D_l_is_name : Dfn K mg "_law_is_name" s_l_is_name ["_law_matter"] := ⟨f25, _, fun_mk (st := s_l_is_name) l25 c25 k25, PySem.W.mg_of X G a25, (fun_mk (st := s_l_is_name) l25 c25 k25).binds (ps := ["_law_matter"]) fun _ _ _ _ _ _ us hl => match us, hl with | [_], _ => rfl⟩
  have D_l_is_heads : Dfn K mg "_law_is_heads" s_l_is_heads ["_law_matter"] := ⟨f26, _, fun_mk (st := s_l_is_heads) l26 c26 k26, PySem.W.mg_of X G a26, (fun_mk (st := s_l_is_heads) l26 c26 k26).binds (ps := ["_law_matter"]) fun _ _ _ _ _ _ us hl => match us, hl with | [_], _ => rfl⟩
  have D_l_is_body : Dfn K mg "_law_is_body" s_l_is_body ["_law_matter", "_law_deep"] := ⟨f27, _, fun_mk (st := s_l_is_body) l27 c27 k27, PySem.W.mg_of X G a27, (fun_mk (st := s_l_is_body) l27 c27 k27).binds (ps := ["_law_matter", "_law_deep"]) fun _ _ _ _ _ _ us hl => match us, hl with | [_, _], _ => rfl⟩
  have D_l_is_part : Dfn K mg "_law_is_part" s_l_is_part ["_law_matter", "_law_deep"] := ⟨f28, _, fun_mk (st := s_l_is_part) l28 c28 k28, PySem.W.mg_of X G a28, (fun_mk (st := s_l_is_part) l28 c28 k28).binds (ps := ["_law_matter", "_law_deep"]) fun _ _ _ _ _ _ us hl => match us, hl with | [_, _], _ => rfl⟩
  have D_l_other : Dfn K mg "_law_other" s_l_other ["_law_box_here", "_law_matter"] := ⟨f29, _, fun_mk (st := s_l_other) l29 c29 k29, PySem.W.mg_of X G a29, (fun_mk (st := s_l_other) l29 c29 k29).binds (ps := ["_law_box_here", "_law_matter"]) fun _ _ _ _ _ _ us hl => match us, hl with | [_, _], _ => rfl⟩
  have D_l_bent : Dfn K mg "_law_bent" s_l_bent ["_law_box_here", "_law_matter"] := ⟨f30, _, fun_mk (st := s_l_bent) l30 c30 k30, PySem.W.mg_of X G a30, (fun_mk (st := s_l_bent) l30 c30 k30).binds (ps := ["_law_box_here", "_law_matter"]) fun _ _ _ _ _ _ us hl => match us, hl with | [_, _], _ => rfl⟩
  have D_l_told_right : Dfn K mg "_law_told_right" s_l_told_right ["_law_matter"] := ⟨f31, _, fun_mk (st := s_l_told_right) l31 c31 k31, PySem.W.mg_of X G a31, (fun_mk (st := s_l_told_right) l31 c31 k31).binds (ps := ["_law_matter"]) fun _ _ _ _ _ _ us hl => match us, hl with | [_], _ => rfl⟩
  have D_l_bounds_right : Dfn K mg "_law_bounds_right" s_l_bounds_right [] := ⟨f32, _, fun_mk (st := s_l_bounds_right) l32 c32 k32, PySem.W.mg_of X G a32, (fun_mk (st := s_l_bounds_right) l32 c32 k32).binds (ps := []) fun _ _ _ _ _ _ us hl => match us, hl with | [], _ => rfl⟩
  have D_l_right : Dfn K mg "_law_right" s_l_right ["_law_box_here"] := ⟨f33, _, fun_mk (st := s_l_right) l33 c33 k33, PySem.W.mg_of X G a33, (fun_mk (st := s_l_right) l33 c33 k33).binds (ps := ["_law_box_here"]) fun _ _ _ _ _ _ us hl => match us, hl with | [_], _ => rfl⟩
  refine ⟨PySem.W.fnOf "law" "law" (defArgs s_law) (defBody s_law) (defScope s_law) .none kV34 dc34 pm34 an34 cd34 ct34, fun s v => .of_eq rfl, fun base _ _ => ?_⟩
  have DK_is_letter : DfnK K mg "is_letter" s_is_letter ["thing"] := ⟨f12, _, fun_mk (st := s_is_letter) l12 c12 k12, PySem.W.mg_of X G a12, ⟨fun s us ws _ hl => match us, ws, hl with | [], [_], _ => .of_eq rfl | [_], [], _ => .of_eq rfl, fun a b => Vals.append a b⟩⟩
  have DK_is_body : DfnK K mg "is_body" s_is_body ["thing"] := ⟨f11, _, fun_mk (st := s_is_body) l11 c11 k11, PySem.W.mg_of X G a11, ⟨fun s us ws _ hl => match us, ws, hl with | [], [_], _ => .of_eq rfl | [_], [], _ => .of_eq rfl, fun a b => Vals.append a b⟩⟩
  have T : Tx K mg := ⟨PySem.W.mg_none_of X G z_isinstance, PySem.W.mg_none_of X G z_int, PySem.W.mg_none_of X G z_bool, PySem.W.mg_none_of X G z_str, PySem.W.mg_none_of X G z_tuple, PySem.W.mg_none_of X G z_len, PySem.W.mg_none_of X G z_all, ⟨_, PySem.W.mg_of X G gMOST_NAME, ⟨_, rfl⟩⟩, ⟨_, PySem.W.mg_of X G gMOST_WRITING, ⟨_, rfl⟩⟩, ⟨_, PySem.W.mg_of X G gMOST_SIGN, ⟨_, rfl⟩⟩, ⟨_, PySem.W.mg_of X G gMOST_HEADS, ⟨_, rfl⟩⟩, ⟨_, PySem.W.mg_of X G gMOST_VALUE, ⟨_, rfl⟩⟩, ⟨_, PySem.W.mg_of X G gMOST_PARTS, ⟨_, rfl⟩⟩, ⟨_, PySem.W.mg_of X G gMOST_DEEP, ⟨_, rfl⟩⟩, ⟨_, PySem.W.mg_of X G gSMALL_LETTERS, ⟨_, rfl⟩⟩, ⟨_, PySem.W.mg_of X G gPLAIN_SIGNS, ⟨_, rfl⟩⟩⟩
  have Tl_ : Tl mg := ⟨PySem.W.mg_none_of X G z_isinstance, PySem.W.mg_none_of X G z_int, PySem.W.mg_none_of X G z_bool, PySem.W.mg_none_of X G z_str, PySem.W.mg_none_of X G z_tuple, PySem.W.mg_none_of X G z_len, PySem.W.mg_none_of X G z_all⟩
  have Tq_ : Tq mg := ⟨PySem.W.mg_none_of X G z_repr⟩
  have Tb_ : Tb mg := ⟨PySem.W.mg_none_of X G z_range⟩
  have To1_ : To1 mg := ⟨PySem.W.mg_none_of X G z_len⟩
  have Tr_ : Tr mg := ⟨PySem.W.mg_none_of X G z_range, PySem.W.mg_none_of X G z_int⟩
  have Tw1_ : Tw1 mg := ⟨PySem.W.mg_none_of X G z_range, PySem.W.mg_none_of X G z_int, PySem.W.mg_none_of X G z_min, PySem.W.mg_none_of X G z_tuple⟩
  have Th_ : Th mg := ⟨PySem.W.mg_none_of X G z_range, PySem.W.mg_none_of X G z_tuple⟩
  have Tb1_ : Tb1 mg := ⟨PySem.W.mg_none_of X G z_range, PySem.W.mg_none_of X G z_tuple, PySem.W.mg_none_of X G z_int⟩
  have To_ : To mg := ⟨PySem.W.mg_none_of X G z_isinstance, PySem.W.mg_none_of X G z_str, PySem.W.mg_none_of X G z_int⟩
  have Tt_ : Tt mg := ⟨PySem.W.mg_none_of X G z_list, PySem.W.mg_none_of X G z_isinstance, PySem.W.mg_none_of X G z_len, PySem.W.mg_none_of X G z_tuple⟩
  have Tr2_ : Tr2 mg := ⟨PySem.W.mg_none_of X G z_range⟩
  have Tc1_ : Tc1 mg := ⟨PySem.W.mg_none_of X G z_list, PySem.W.mg_none_of X G z_enumerate⟩
  have Tx2_ : Tx2 mg := ⟨PySem.W.mg_none_of X G z_abs, PySem.W.mg_none_of X G z_int⟩
  have Tw_ : Tw mg := ⟨PySem.W.mg_none_of X G z_len, PySem.W.mg_none_of X G z_range, PySem.W.mg_none_of X G z_all⟩
  have C_is_number := c_is_number (P := l.prog) (w := w) (base := base) T D_is_number
  have C_is_within := c_is_within (P := l.prog) (w := w) (base := base) T D_is_within C_is_number
  have C_is_tuple := c_is_tuple (P := l.prog) (w := w) (base := base) T D_is_tuple
  have C_is_name := c_is_name (P := l.prog) (w := w) (base := base) T D_is_name
  have C_is_plain_text := c_is_plain_text (P := l.prog) (w := w) (base := base) T D_is_plain_text
  have C_is_head := c_is_head (P := l.prog) (w := w) (base := base) T D_is_head C_is_tuple C_is_name C_is_plain_text
  have C_is_heads := c_is_heads (P := l.prog) (w := w) (base := base) T D_is_heads C_is_tuple C_is_head
  have C_is_writing := c_is_writing (P := l.prog) (w := w) (base := base) T D_is_writing C_is_tuple C_is_within
  have C_is_body_within := c_bodies (P := l.prog) (w := w) (base := base) T D_is_body_within D_is_part D_is_parts C_is_tuple C_is_heads C_is_writing 4
  have C_is_part := c_is_part (P := l.prog) (w := w) (base := base) (k := 15) (by decide) T D_is_part C_is_tuple C_is_heads C_is_body_within
  have C_is_body := c_is_body (P := l.prog) (w := w) (base := base) T D_is_body C_is_body_within
  have C_is_letter := c_is_letter (P := l.prog) (w := w) (base := base) T D_is_letter C_is_part
  have C_CK_is_body := ck_is_body (P := l.prog) (w := w) (base := base) T DK_is_body C_is_body_within
  have C_CK_is_letter := ck_is_letter (P := l.prog) (w := w) (base := base) T DK_is_letter C_is_part
  have C_l_signs := c_l_signs (P := l.prog) (w := w) (base := base) (K := K) D_l_signs
  have C_l_is_name := c_l_is_name (P := l.prog) (w := w) (base := base) Tl_ D_l_is_name
  have C_l_is_heads := c_l_is_heads (P := l.prog) (w := w) (base := base) Tl_ D_l_is_heads C_l_signs C_l_is_name
  have C_l_is_body := c_lbodies (P := l.prog) (w := w) (base := base) Tl_ D_l_is_body D_l_is_part C_l_is_heads 5
  have C_l_is_part := c_l_is_part (P := l.prog) (w := w) (base := base) (k := 12) (by decide) Tl_ D_l_is_part C_l_is_heads C_l_is_body
  have C_l_told_right := c_l_told_right (P := l.prog) (w := w) (base := base) Tq_ D_l_told_right C_is_letter C_is_body C_l_is_part C_l_is_body
  have C_l_bounds_right := c_l_bounds_right (P := l.prog) (w := w) (base := base) Tb_ D_l_bounds_right C_is_letter C_is_body
  have C_l_take := c_take (P := l.prog) (w := w) (base := base) (K := K) D_l_take
  have C_l_one_of := c_l_one_of (P := l.prog) (w := w) (base := base) To1_ D_l_one_of C_l_take
  have C_l_any_sign := c_l_any_sign (P := l.prog) (w := w) (base := base) D_l_any_sign C_l_take C_l_one_of
  have C_l_plain_signs := c_l_plain_signs (P := l.prog) (w := w) (base := base) Tr_ D_l_plain_signs C_l_take
  have C_l_writing := c_l_writing (P := l.prog) (w := w) (base := base) Tw1_ D_l_writing C_l_take C_l_one_of C_l_any_sign C_l_plain_signs
  have C_l_plain_text := c_l_plain_text (P := l.prog) (w := w) (base := base) Tr_ D_l_plain_text C_l_take C_l_one_of C_l_signs
  have C_l_heads := c_l_heads (P := l.prog) (w := w) (base := base) Th_ D_l_heads C_l_take C_l_one_of C_l_plain_text
  have C_l_body := c_bodyL (P := l.prog) (w := w) (base := base) Tb1_ D_l_body D_l_letter C_l_take C_l_heads C_l_writing 3 (by decide)
  have C_l_letter := c_l_letter (P := l.prog) (w := w) (base := base) (k0 := 10) (by decide) (by decide) Tb1_ D_l_letter C_l_heads C_l_body
  have C_l_other := c_l_other (P := l.prog) (w := w) (base := base) To_ D_l_other C_l_one_of
  have C_l_bent := c_l_bent (P := l.prog) (w := w) (base := base) Tt_ D_l_bent C_l_take C_l_other 13
  have C_l_right := c_l_right (P := l.prog) (w := w) (base := base) Tr2_ D_l_right C_l_take C_l_letter C_l_bent C_l_told_right C_CK_is_letter C_CK_is_body
  have C_l_cells := c_l_cells (P := l.prog) (w := w) (base := base) (K := K) Tc1_ D_l_cells
  have C_l_box := c_l_box (P := l.prog) (w := w) (base := base) (K := K) Tx2_ D_l_box
  exact ok_law Tw_ (fun_mk (st := s_law) l34 c34 k34) C_l_cells C_l_bounds_right C_l_box C_l_right
end K04
open PySem PyProof.Rows PySem.W
set_option maxRecDepth 120000 in
set_option maxHeartbeats 0 in
theorem PySem.Challenge.cw_letterhall_k04_what_bodies_and_letters_a_holds : PySem.Challenge.rw_letterhall_k04_what_bodies_and_letters_a.Holds := by
  w_on
  o_law
  k_head
  (case hw => w_witness2)
  k_fill
  refine LH.walk_G (l := PySem.Challenge.rw_letterhall_k04_what_bodies_and_letters_a) (n := 63) (k := 20) (x := "_law_script") (spw := fun w => K04.spLaw _) rfl (by decide) rfl ⟨rfl, by decide, by decide⟩ (fun w h Y => PySem.W.kIn_of Y) ?F (fun _ _ a ns hl _ hS => ⟨a, ns, rfl, hS, hl, fun _ => rfl⟩)
  case F =>
    intro w mg fa h KX G hmg
    refine' K04.all_mk KX G hmg ?a0 ?l0 ?c0 ?k0 ?a1 ?l1 ?c1 ?k1 ?a2 ?l2 ?c2 ?k2 ?a3 ?l3 ?c3 ?k3 ?a4 ?l4 ?c4 ?k4 ?a5 ?l5 ?c5 ?k5 ?a6 ?l6 ?c6 ?k6 ?a7 ?l7 ?c7 ?k7 ?a8 ?l8 ?c8 ?k8 ?a9 ?l9 ?c9 ?k9 ?a10 ?l10 ?c10 ?k10 ?a11 ?l11 ?c11 ?k11 ?a12 ?l12 ?c12 ?k12 ?a13 ?l13 ?c13 ?k13 ?a14 ?l14 ?c14 ?k14 ?a15 ?l15 ?c15 ?k15 ?a16 ?l16 ?c16 ?k16 ?a17 ?l17 ?c17 ?k17 ?a18 ?l18 ?c18 ?k18 ?a19 ?l19 ?c19 ?k19 ?a20 ?l20 ?c20 ?k20 ?a21 ?l21 ?c21 ?k21 ?a22 ?l22 ?c22 ?k22 ?a23 ?l23 ?c23 ?k23 ?a24 ?l24 ?c24 ?k24 ?a25 ?l25 ?c25 ?k25 ?a26 ?l26 ?c26 ?k26 ?a27 ?l27 ?c27 ?k27 ?a28 ?l28 ?c28 ?k28 ?a29 ?l29 ?c29 ?k29 ?a30 ?l30 ?c30 ?k30 ?a31 ?l31 ?c31 ?k31 ?a32 ?l32 ?c32 ?k32 ?a33 ?l33 ?c33 ?k33 ?a34 ?l34 ?c34 ?k34 ?gMOST_NAME ?gMOST_WRITING ?gMOST_SIGN ?gMOST_HEADS ?gMOST_VALUE ?gMOST_PARTS ?gMOST_DEEP ?gSMALL_LETTERS ?gPLAIN_SIGNS ?z_isinstance ?z_int ?z_bool ?z_str ?z_tuple ?z_list ?z_len ?z_all ?z_range ?z_repr ?z_min ?z_abs ?z_enumerate
    (case a0 => k_is)
    (case l0 => k_is)
    (case c0 => k_is)
    (case k0 => k_is)
    (case a1 => k_is)
    (case l1 => k_is)
    (case c1 => k_is)
    (case k1 => k_is)
    (case a2 => k_is)
    (case l2 => k_is)
    (case c2 => k_is)
    (case k2 => k_is)
    (case a3 => k_is)
    (case l3 => k_is)
    (case c3 => k_is)
    (case k3 => k_is)
    (case a4 => k_is)
    (case l4 => k_is)
    (case c4 => k_is)
    (case k4 => k_is)
    (case a5 => k_is)
    (case l5 => k_is)
    (case c5 => k_is)
    (case k5 => k_is)
    (case a6 => k_is)
    (case l6 => k_is)
    (case c6 => k_is)
    (case k6 => k_is)
    (case a7 => k_is)
    (case l7 => k_is)
    (case c7 => k_is)
    (case k7 => k_is)
    (case a8 => k_is)
    (case l8 => k_is)
    (case c8 => k_is)
    (case k8 => k_is)
    (case a9 => k_is)
    (case l9 => k_is)
    (case c9 => k_is)
    (case k9 => k_is)
    (case a10 => k_is)
    (case l10 => k_is)
    (case c10 => k_is)
    (case k10 => k_is)
    (case a11 => k_is)
    (case l11 => k_is)
    (case c11 => k_is)
    (case k11 => k_is)
    (case a12 => k_is)
    (case l12 => k_is)
    (case c12 => k_is)
    (case k12 => k_is)
    (case a13 => k_is)
    (case l13 => k_is)
    (case c13 => k_is)
    (case k13 => k_is)
    (case a14 => k_is)
    (case l14 => k_is)
    (case c14 => k_is)
    (case k14 => k_is)
    (case a15 => k_is)
    (case l15 => k_is)
    (case c15 => k_is)
    (case k15 => k_is)
    (case a16 => k_is)
    (case l16 => k_is)
    (case c16 => k_is)
    (case k16 => k_is)
    (case a17 => k_is)
    (case l17 => k_is)
    (case c17 => k_is)
    (case k17 => k_is)
    (case a18 => k_is)
    (case l18 => k_is)
    (case c18 => k_is)
    (case k18 => k_is)
    (case a19 => k_is)
    (case l19 => k_is)
    (case c19 => k_is)
    (case k19 => k_is)
    (case a20 => k_is)
    (case l20 => k_is)
    (case c20 => k_is)
    (case k20 => k_is)
    (case a21 => k_is)
    (case l21 => k_is)
    (case c21 => k_is)
    (case k21 => k_is)
    (case a22 => k_is)
    (case l22 => k_is)
    (case c22 => k_is)
    (case k22 => k_is)
    (case a23 => k_is)
    (case l23 => k_is)
    (case c23 => k_is)
    (case k23 => k_is)
    (case a24 => k_is)
    (case l24 => k_is)
    (case c24 => k_is)
    (case k24 => k_is)
    (case a25 => k_is)
    (case l25 => k_is)
    (case c25 => k_is)
    (case k25 => k_is)
    (case a26 => k_is)
    (case l26 => k_is)
    (case c26 => k_is)
    (case k26 => k_is)
    (case a27 => k_is)
    (case l27 => k_is)
    (case c27 => k_is)
    (case k27 => k_is)
    (case a28 => k_is)
    (case l28 => k_is)
    (case c28 => k_is)
    (case k28 => k_is)
    (case a29 => k_is)
    (case l29 => k_is)
    (case c29 => k_is)
    (case k29 => k_is)
    (case a30 => k_is)
    (case l30 => k_is)
    (case c30 => k_is)
    (case k30 => k_is)
    (case a31 => k_is)
    (case l31 => k_is)
    (case c31 => k_is)
    (case k31 => k_is)
    (case a32 => k_is)
    (case l32 => k_is)
    (case c32 => k_is)
    (case k32 => k_is)
    (case a33 => k_is)
    (case l33 => k_is)
    (case c33 => k_is)
    (case k33 => k_is)
    (case a34 => k_is)
    (case l34 => k_is)
    (case c34 => k_is)
    (case k34 => k_is)
    (case gMOST_NAME => k_is)
    (case gMOST_WRITING => k_is)
    (case gMOST_SIGN => k_is)
    (case gMOST_HEADS => k_is)
    (case gMOST_VALUE => k_is)
    (case gMOST_PARTS => k_is)
    (case gMOST_DEEP => k_is)
    (case gSMALL_LETTERS => k_is)
    (case gPLAIN_SIGNS => k_is)
    (case z_isinstance => k_is)
    (case z_int => k_is)
    (case z_bool => k_is)
    (case z_str => k_is)
    (case z_tuple => k_is)
    (case z_list => k_is)
    (case z_len => k_is)
    (case z_all => k_is)
    (case z_range => k_is)
    (case z_repr => k_is)
    (case z_min => k_is)
    (case z_abs => k_is)
    (case z_enumerate => k_is)


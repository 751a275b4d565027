import PyProof.Rows.All
import Wide.All
import OpenK.AllK
import Wide.FinOn
import HandS.ForMost
import HandS.ForExc
import HandS.Evl
import HandS.Lambda
import HandS.IsInst
import HandS.Deep
import HandS.TupAny
import HandS.ExcInit
import HandS.Flow
import KE.GoesMore
import HandS.SetFor
import HandS.Strs
import HandS.Rev
import HandS.SortKw
import KE.DatumOrd
import HandS.Small
import HandS.Exc
import HandS.TryMany
import HandS.WordsExc
import PyProof.ReprRoads
import HandS.ExcField
import HandS.ExcIs
import KE.KExcIs
import HandS.Conv
import HandS.CallLocal
import HandS.Style
import KE.DataMinMax
import HandS.TupMul
import HandS.ListItems
import HandS.EndTab
import PySem.Challenge.RW_passednames_k60_sentences_and_their_dept
set_option Elab.async false
set_option linter.all false
set_option maxRecDepth 100000
/-! The core: defs of the package told as plain functions of data. -/
namespace Pn
open L2 PyProof.Rows PySem.Spec PySem
abbrev Dat := PyData

/-! ### data and heaps -/
mutual
/-- the value v is the datum over the heap -/
inductive Rp (K : PySem.W.Frag) (G : Hp) : V → Dat → Prop
  | non : Rp K G .non .none
  | bl (b : Bool) : Rp K G (.bl b) (.bool b)
  | int (i : Int) : Rp K G (.int i) (.int i)
  | str (x : Str) : Rp K G (.str x) (.str x)
  | lst {a : Addr} {xs : List V} {ds : List Dat} : G a = some (.lst xs) → RpA K G xs ds → Rp K G (.ref a) (.list ds)
  | tup {a : Addr} {xs : List V} {ds : List Dat} : SqT K G a xs → RpA K G xs ds → Rp K G (.ref a) (.tuple ds)
inductive RpA (K : PySem.W.Frag) (G : Hp) : List V → List Dat → Prop
  | nil : RpA K G [] []
  | cons {v : V} {vs : List V} {d : Dat} {ds : List Dat} : Rp K G v d → RpA K G vs ds → RpA K G (v :: vs) (d :: ds)
end
mutual
theorem Rp.dp {K : PySem.W.Frag} {G : Hp} : ∀ {v : V} {d : Dat}, Rp K G v d → Dp K G v d
  | _, _, .non => .non
  | _, _, .bl b => .bl b
  | _, _, .int i => .int i
  | _, _, .str x => .str x
  | _, _, .lst h k => .lst (Evl.sq_of h) (RpA.dp k)
  | _, _, .tup h k => .tup h (RpA.dp k)
theorem RpA.dp {K : PySem.W.Frag} {G : Hp} : ∀ {vs : List V} {ds : List Dat}, RpA K G vs ds → DpAll K G vs ds
  | _, _, .nil => .nil
  | _, _, .cons h k => .cons (Rp.dp h) (RpA.dp k)
end
theorem sqL_mono {K : PySem.W.Frag} {G G' : Hp} {a : Addr} {xs : List V} (e : Same G G') (h : SqL K G a xs) : SqL K G' a xs := e.seq h
theorem sqT_mono {K : PySem.W.Frag} {G G' : Hp} {a : Addr} {xs : List V} (e : Same G G') (h : SqT K G a xs) : SqT K G' a xs := Evl.ex_t e h
mutual
theorem dp_mono {K : PySem.W.Frag} {G G' : Hp} (e : Same G G') : ∀ {v : V} {d : Dat}, Rp K G v d → Rp K G' v d
  | _, _, .non => .non
  | _, _, .bl b => .bl b
  | _, _, .int i => .int i
  | _, _, .str x => .str x
  | _, _, .lst h k => .lst (e _ _ h) (dpAll_mono e k)
  | _, _, .tup h k => .tup (sqT_mono e h) (dpAll_mono e k)
theorem dpAll_mono {K : PySem.W.Frag} {G G' : Hp} (e : Same G G') : ∀ {vs : List V} {ds : List Dat}, RpA K G vs ds → RpA K G' vs ds
  | _, _, .nil => .nil
  | _, _, .cons h k => .cons (dp_mono e h) (dpAll_mono e k)
end
theorem dpAll_len {K : PySem.W.Frag} {G : Hp} : ∀ {vs : List V} {ds : List Dat}, RpA K G vs ds → vs.length = ds.length
  | _, _, .nil => rfl
  | _, _, .cons _ k => congrArg (· + 1) (dpAll_len k)
theorem dpAll_app {K : PySem.W.Frag} {G : Hp} : ∀ {vs ws : List V} {ds es : List Dat}, RpA K G vs ds → RpA K G ws es → RpA K G (vs ++ ws) (ds ++ es)
  | _, _, _, _, .nil, k => k
  | _, _, _, _, .cons h t, k => .cons h (dpAll_app t k)
theorem dpAll_get {K : PySem.W.Frag} {G : Hp} : ∀ {vs : List V} {ds : List Dat} {i : Nat} {d : Dat}, RpA K G vs ds → ds[i]? = some d → ∃ v, vs[i]? = some v ∧ Rp K G v d
  | _, _, _, _, .nil, e => absurd e (by simp)
  | _, _, 0, _, .cons h _, e => by simp at e; subst e; exact ⟨_, rfl, h⟩
  | _, _, i + 1, d, .cons _ t, e => by
    obtain ⟨v, h1, h2⟩ := dpAll_get (i := i) (d := d) t (by simpa using e)
    exact ⟨v, by simpa using h1, h2⟩
theorem dpAll_getV {K : PySem.W.Frag} {G : Hp} : ∀ {vs : List V} {ds : List Dat} {i : Nat} {v : V}, RpA K G vs ds → vs[i]? = some v → ∃ d, ds[i]? = some d ∧ Rp K G v d
  | _, _, _, _, .nil, e => absurd e (by simp)
  | _, _, 0, _, .cons h _, e => by simp at e; subst e; exact ⟨_, rfl, h⟩
  | _, _, i + 1, d, .cons _ t, e => by
    obtain ⟨v, h1, h2⟩ := dpAll_getV (i := i) (v := d) t (by simpa using e)
    exact ⟨v, by simpa using h1, h2⟩

/-! ### slots, states -/
/-- what a slot holds: nothing that is known, a datum, a list of its own, a list that the caller sees change, the law's state -/
inductive Sl where
  | no | sh (d : Dat) | own (l : List Dat) | io (l : List Dat) | st | fn (a : Addr)
/-- the law's draws: its cells, what is left of them, how many draws there were -/
structure DS where
  cells : List Int
  lefts : List Int
  at_ : Int
structure Cfg where
  r : List Sl
  s : DS
inductive Res (α : Type) where
  | ok (a : α) (c : Cfg) | exc (k : Nat) (d : Dat) (c : Cfg) | bad
def M (α : Type) := Cfg → Res α
def M.bind {α β : Type} (m : M α) (f : α → M β) : M β := fun c => match m c with
  | .ok a c' => f a c'
  | .exc k d c' => .exc k d c'
  | .bad => .bad
def ret {α : Type} (a : α) : M α := fun c => .ok a c
def bad {α : Type} : M α := fun _ => .bad
/-- a value: a datum, or a list that nobody holds as yet -/
inductive RV where
  | sh (d : Dat) | fr (l : List Dat)
def RV.dat : RV → Dat
  | .sh d => d
  | .fr l => .list l
/-- the classes of errors: where each stands, the name of its field -/
structure Cls where
  at_ : Nat → Value
  fld : Nat → Str
/-- a def's frame: the state's addresses (its dict, cells, lefts), whether it is in hand, where the lists that may change stand, by slots, the heaps at the entry -/
structure Fr where
  K : PySem.W.Frag
  C : Cls
  sa : Addr
  sc : Addr
  sl : Addr
  us : Bool
  ia : Nat → Addr
  mu : List Addr
  G0 : Hp
  H0 : Hp
  /-- objects that are under way and stay meanwhile -/
  pins : List (Addr × HO) := []
  /-- the tables in which code of lambdas is kept, each with the name of what it keeps -/
  tb : List (Addr × Str) := []
def Fr.sta (F : Fr) : List Addr := if F.us = true then [F.sa, F.sc, F.sl] else []
def stKv (sc sl : Addr) (n : Int) : List (Key × V) := [(Sum.inr "cells", .ref sc), (Sum.inr "lefts", .ref sl), (Sum.inr "at", .int n)]
def StOk (sa sc sl : Addr) (G H : Hp) (s : DS) : Prop :=
  H sa = some (.dK (stKv sc sl s.at_)) ∧ H sc = some (.lst (s.cells.map V.int)) ∧ H sl = some (.lst (s.lefts.map V.int)) ∧ G sa = none ∧ G sc = none ∧ G sl = none ∧ sc ≠ sl
def SlOk (F : Fr) (G H : Hp) (i : Nat) : Sl → Option (Option V) → Prop
  | .no, _ => True
  | .sh d, x => ∃ v, x = some (some v) ∧ Rp F.K G v d
  | .own l, x => ∃ a xs, x = some (some (.ref a)) ∧ H a = some (.lst xs) ∧ G a = none ∧ RpA F.K G xs l ∧ F.H0 a = none ∧ ∀ p ∈ F.pins, a ≠ p.1
  | .io l, x => ∃ xs, x = some (some (.ref (F.ia i))) ∧ H (F.ia i) = some (.lst xs) ∧ G (F.ia i) = none ∧ RpA F.K G xs l ∧ F.ia i ∈ F.mu
  | .st, x => x = some (some (.ref F.sa)) ∧ F.us = true
  | .fn a, x => x = some (some (.ref (if a = 0 then F.sa else F.sc)))
/-- a table or a thing told by a word of its own -/
def IsT (o : HO) : Prop := (∃ ps, o = .tbl ps) ∨ ∃ φ, o = .ext φ
theorem tabS_move {H H' : Hp} {P : Addr} {q : Str} (t : LamX.TabS H P q) (k : ∀ b o, H b = some o → IsT o → H' b = some o) : LamX.TabS H' P q := by
  obtain ⟨ps, h1, h2, h3⟩ := t
  refine ⟨ps, k _ _ h1 (.inl ⟨ps, rfl⟩), h2, fun pos cv hc => ?_⟩
  (obtain ⟨c, e1, e2⟩ := h3 pos cv hc)
  exact ⟨c, e1, k _ _ e2 (.inr ⟨_, rfl⟩)⟩
def TbOk (F : Fr) (G H : Hp) : Prop := ∀ p ∈ F.tb, LamX.TabS H p.1 p.2 ∧ G p.1 = none ∧ p.1 ∈ F.mu
theorem TbOk.move {F : Fr} {G H G' H' : Hp} (z : TbOk F G H) (k : ∀ b o, H b = some o → IsT o → H' b = some o) (g : ∀ b o, H b = some o → IsT o → G b = none → G' b = none) : TbOk F G' H' := by
  intro p hp
  obtain ⟨t, n, m⟩ := z p hp
  obtain ⟨ps, e, _⟩ := id t
  exact ⟨tabS_move t k, g _ _ e (.inl ⟨ps, rfl⟩) n, m⟩
theorem isT_lst {xs : List V} : ¬ IsT (.lst xs) := by
  rintro (⟨_, e⟩ | ⟨_, e⟩) <;> cases e
theorem isT_dK {kvs : List (Key × V)} : ¬ IsT (.dK kvs) := by
  rintro (⟨_, e⟩ | ⟨_, e⟩) <;> cases e
/-- what holds all the while of a def's slots and the heap; x: an address that no slot holds -/
structure Rel (F : Fr) (G : Hp) (c : Cfg) (σ : L2.St) (H : Hp) : Prop where
  sub : Same G H
  g0 : Same F.G0 G
  fresh : ∀ b, G b ≠ none → F.G0 b ≠ none ∨ F.H0 b = none
  keep : ∀ b o, F.H0 b = some o → b ∉ F.mu → b ∉ F.sta → H b = some o
  len : c.r.length = σ.length
  sl : ∀ (i : Nat) (s : Sl), c.r[i]? = some s → SlOk F G H i s (σ[i]?)
  inj : ∀ (i j : Nat) (l l' : List Dat), c.r[i]? = some (.own l) → c.r[j]? = some (.own l') → σ[i]? = σ[j]? → i = j
  ioj : ∀ (i j : Nat) (l l' : List Dat), c.r[i]? = some (.io l) → c.r[j]? = some (.io l') → F.ia i = F.ia j → i = j
  st : F.us = true → StOk F.sa F.sc F.sl G H c.s
  mu0 : ∀ b ∈ F.mu, F.H0 b ≠ none ∧ b ∉ F.sta
  st0 : ∀ b ∈ F.sta, F.H0 b ≠ none
  dom : ∀ b, F.H0 b ≠ none → H b ≠ none
  pin : ∀ p ∈ F.pins, H p.1 = some p.2 ∧ G p.1 = none ∧ F.H0 p.1 = none
  tabs : TbOk F G H

/-! ### what a term is worth -/
def Po {α β : Type} (F : Fr) (W : L2.WX) (σ : L2.St) (R : L2.St → Hp → Hp → Cfg → β → α → Prop) (Q : β → Hp → Prop) (G : Hp) : Res α → Prop
  | .ok a c' => ∀ v G' H', Rel F G' c' σ H' → Same G G' → R σ G' H' c' v a → Q v H'
  | .exc k d c' => ∀ ad v G' H', Rel F G' c' σ H' → Same G G' → H' ad = some (.xd [(F.C.fld k, v)]) → Rp F.K G' v d → W (F.C.at_ k) (some ad) σ H'
  | .bad => False
def Sx {α β : Type} (F : Fr) (W : L2.WX) (R : L2.St → Hp → Hp → Cfg → β → α → Prop) (m : M α) : L2.St → Hp → (β → Hp → Prop) → Prop := fun σ H Q => ∃ G c, Rel F G c σ H ∧ Po F W σ R Q G (m c)
def RD (F : Fr) : L2.St → Hp → Hp → Cfg → V → Dat → Prop := fun _ G _ _ v d => Rp F.K G v d
def RB : L2.St → Hp → Hp → Cfg → Bool → Bool → Prop := fun _ _ _ _ b a => b = a
def RA (F : Fr) : L2.St → Hp → Hp → Cfg → List V → List Dat → Prop := fun _ G _ _ vs ds => RpA F.K G vs ds
/-- a list that nobody holds -/
def Lone (F : Fr) (σ : L2.St) (G H : Hp) (c : Cfg) (p : Addr) (l : List Dat) : Prop :=
  ∃ xs, H p = some (.lst xs) ∧ RpA F.K G xs l ∧ G p = none ∧ F.H0 p = none ∧ (∀ (i : Nat) (l' : List Dat), c.r[i]? = some (Sl.own l') → σ[i]? ≠ some (some (V.ref p))) ∧ ∀ q ∈ F.pins, p ≠ q.1
def RX (F : Fr) : L2.St → Hp → Hp → Cfg → V → RV → Prop := fun σ G H c v r => match r with
  | .sh d => Rp F.K G v d
  | .fr l => ∃ p, v = .ref p ∧ Lone F σ G H c p l
abbrev E (F : Fr) (W : L2.WX) (m : M Dat) : TE := Sx F W (RD F) m
abbrev EX (F : Fr) (W : L2.WX) (m : M RV) : TE := Sx F W (RX F) m
abbrev B (F : Fr) (W : L2.WX) (m : M Bool) : TT := Sx F W RB m
abbrev A (F : Fr) (W : L2.WX) (m : M (List Dat)) : TA := Sx F W (RA F) m

section
variable {F : Fr} {W : L2.WX} {σ : L2.St} {H : Hp} {X : Cx}
theorem _root_.L2.PE.mono {X : Cx} {e : Expr} {t t' : TE} (h : PE X e t) (k : ∀ σ H Q, t' σ H Q → t σ H Q) : PE X e t' := ⟨fun pins s σ H Q I q => h.run pins s σ H Q I (k _ _ _ q)⟩
theorem _root_.L2.PT.mono {X : Cx} {e : Expr} {t t' : TT} (h : PT X e t) (k : ∀ σ H Q, t' σ H Q → t σ H Q) : PT X e t' := ⟨fun pins s σ H Q I q => h.run pins s σ H Q I (k _ _ _ q)⟩
theorem _root_.L2.PA.mono {X : Cx} {e : List Expr} {t t' : TA} (h : PA X e t) (k : ∀ σ H Q, t' σ H Q → t σ H Q) : PA X e t' := ⟨fun pos pins s σ H Q I q => h.run pos pins s σ H Q I (k _ _ _ q)⟩
theorem _root_.L2.PS.mono {X : Cx} {e : Stmt} {t t' : TS} (h : PS X e t) (k : ∀ D σ H, t' D σ H → t D σ H) : PS X e t' := ⟨fun pins s σ H Q I q => h.run pins s σ H Q I (k _ _ _ q)⟩
theorem _root_.L2.PSs.mono {X : Cx} {e : List Stmt} {t t' : TS} (h : PSs X e t) (k : ∀ D σ H, t' D σ H → t D σ H) : PSs X e t' := ⟨fun pins s σ H Q I q => h.run pins s σ H Q I (k _ _ _ q)⟩

theorem sx_mono {α β : Type} {R : L2.St → Hp → Hp → Cfg → β → α → Prop} {m : M α} {Q Q' : β → Hp → Prop} (h : Sx F W R m σ H Q) (k : ∀ x H, Q x H → Q' x H) : Sx F W R m σ H Q' := by
  obtain ⟨G, c, r, p⟩ := h
  refine ⟨G, c, r, ?_⟩
  cases e : m c with
  | ok a c' =>
    rw [e] at p
    exact fun v G' H' r' s' q => k _ _ (p v G' H' r' s' q)
  | exc j d c' =>
    rw [e] at p
    exact p
  | bad =>
    rw [e] at p
    exact p
/-- a first part, then the rest -/
theorem po_bind {α β γ δ : Type} {R1 : L2.St → Hp → Hp → Cfg → β → α → Prop} {R : L2.St → Hp → Hp → Cfg → δ → γ → Prop} {m : M α} {f : α → M γ} {Q : δ → Hp → Prop} {G : Hp} {c : Cfg} (r : Rel F G c σ H) (p : Po F W σ R Q G (M.bind m f c)) :
    Sx F W R1 m σ H (fun x H1 => ∃ a G1 c1, Rel F G1 c1 σ H1 ∧ Same G G1 ∧ R1 σ G1 H1 c1 x a ∧ Po F W σ R Q G1 (f a c1)) := by
  refine ⟨G, c, r, ?_⟩
  unfold M.bind at p
  cases e : m c with
  | ok a c' =>
    rw [e] at p
    intro v G' H' r' s' q
    refine ⟨a, G', c', r', s', q, ?_⟩
    cases e2 : f a c' with
    | ok b c2 =>
      simp only [e2] at p
      exact fun v2 G2 H2 r2 s2 q2 => p v2 G2 H2 r2 (s'.trans s2) q2
    | exc k d c2 =>
      simp only [e2] at p
      exact fun ad v2 G2 H2 r2 s2 => p ad v2 G2 H2 r2 (s'.trans s2)
    | bad =>
      simp only [e2] at p
      exact p
  | exc k d c' =>
    rw [e] at p
    exact p
  | bad =>
    rw [e] at p
    exact p
theorem sx_bind {α β γ δ : Type} {R1 : L2.St → Hp → Hp → Cfg → β → α → Prop} {R : L2.St → Hp → Hp → Cfg → δ → γ → Prop} {m : M α} {f : α → M γ} {Q : δ → Hp → Prop} (h : Sx F W R (M.bind m f) σ H Q) :
    Sx F W R1 m σ H (fun x H1 => ∃ a G1 c1, Rel F G1 c1 σ H1 ∧ R1 σ G1 H1 c1 x a ∧ Po F W σ R Q G1 (f a c1)) := by
  obtain ⟨G, c, r, p⟩ := h
  exact sx_mono (po_bind r p) fun x H1 ⟨a, G1, c1, r1, _, q, p1⟩ => ⟨a, G1, c1, r1, q, p1⟩
/-- two data, then the rest -/
theorem sx_bind2 {γ δ : Type} {R : L2.St → Hp → Hp → Cfg → δ → γ → Prop} {ma mb : M Dat} {f : Dat → Dat → M γ} {Q : δ → Hp → Prop} (h : Sx F W R (M.bind ma fun a => M.bind mb fun b => f a b) σ H Q) :
    E F W ma σ H fun x H1 => E F W mb σ H1 fun y H2 => ∃ a b G2 c2, Rel F G2 c2 σ H2 ∧ Rp F.K G2 x a ∧ Rp F.K G2 y b ∧ Po F W σ R Q G2 (f a b c2) := by
  refine sx_mono (sx_bind (R1 := RD F) h) fun x H1 ⟨a, G1, c1, r1, q, p1⟩ => ?_
  exact sx_mono (po_bind (R1 := RD F) r1 p1) fun y H2 ⟨b, G2, c2, r2, s2, q2, p2⟩ => ⟨a, b, G2, c2, r2, dp_mono s2 q, q2, p2⟩
/-- nothing changes, a value is told -/
theorem po_ret {α β : Type} {R : L2.St → Hp → Hp → Cfg → β → α → Prop} {Q : β → Hp → Prop} {G : Hp} {c : Cfg} {a : α} {v : β} (r : Rel F G c σ H) (p : Po F W σ R Q G (.ok a c)) (q : R σ G H c v a) : Q v H := p v G H r (Same.refl _) q

/-! ### names, constants -/
def rd (i : Nat) : M Dat := fun c => match c.r[i]? with
  | some (.sh d) => .ok d c
  | _ => .bad
theorem e_var {i : Nat} {x : Str} {pos : Pos} (hN : X.N[i]? = some x) (hv : Vis X.env.scope x) (hd : (x == ("__debug__" : Str)) = false) (hcd : (x == ("__classdict__" : Str)) = false) : PE X (.Name x pos) (E F W (rd i)) :=
  (pe_var hN hv hd hcd).mono fun σ H Q ⟨G, c, r, p⟩ => by
    unfold rd at p
    cases e : c.r[i]? with
    | none => rw [e] at p; exact p.elim
    | some s =>
      rw [e] at p
      cases s with
      | sh d =>
        obtain ⟨v, e2, q⟩ := r.sl i _ e
        exact ⟨v, e2, po_ret r p q⟩
      | no => exact p.elim
      | own l => exact p.elim
      | io l => exact p.elim
      | st => exact p.elim
      | fn _ => exact p.elim
theorem e_int {i : Int} {j pos} : PE X (.Constant (.int i) j pos) (E F W (ret (.int i))) := pe_int.mono fun σ H Q ⟨G, c, r, p⟩ => po_ret r p (.int i)
theorem e_bl {i : Bool} {j pos} : PE X (.Constant (.bool i) j pos) (E F W (ret (.bool i))) := pe_bl.mono fun σ H Q ⟨G, c, r, p⟩ => po_ret r p (.bl i)
theorem e_non {j pos} : PE X (.Constant .none j pos) (E F W (ret .none)) := pe_non.mono fun σ H Q ⟨G, c, r, p⟩ => po_ret r p .non
theorem e_str {x : Str} {j pos} : PE X (.Constant (.str x) j pos) (E F W (ret (.str x))) := pe_str.mono fun σ H Q ⟨G, c, r, p⟩ => po_ret r p (.str x)

/-! ### operators on ints -/
def m2 (f : Dat → Dat → M Dat) (a b : M Dat) : M Dat := M.bind a fun x => M.bind b fun y => f x y
def int2 (g : Int → Int → Dat) : Dat → Dat → M Dat := fun x y => match x, y with
  | .int i, .int j => ret (g i j)
  | _, _ => bad
/-- ints in, under a condition -/
def int2c (ok : Int → Int → Bool) (g : Int → Int → Dat) : Dat → Dat → M Dat := fun x y => match x, y with
  | .int i, .int j => if ok i j then ret (g i j) else bad
  | _, _ => bad
theorem e_op2 {op : Operator} {a b : Expr} {ma mb : M Dat} {pos : Pos} {r : R2} {f : Dat → Dat → M Dat} (ho : OpR X (binaryOp op) r)
    (hf : ∀ {G H : Hp} {c : Cfg} {x y : V} {d e : Dat} {Q : VK} {σ : L2.St}, Rel F G c σ H → Rp F.K G x d → Rp F.K G y e → Po F W σ (RD F) Q G (f d e c) → r x y H Q)
    (ha : PE X a (E F W ma)) (hb : PE X b (E F W mb)) : PE X (.BinOp a op b pos) (E F W (m2 f ma mb)) :=
  (pe_op ho ha hb).mono fun σ H Q h => sx_mono (sx_bind2 h) fun x H1 h1 => sx_mono h1 fun y H2 ⟨d, e, G2, c2, r2, q1, q2, p⟩ => hf r2 q1 q2 p
theorem hf_int0 {g : Int → Int → V} {g' : Int → Int → Dat} (hg : ∀ {G : Hp} (i j : Int), Rp F.K G (g i j) (g' i j)) {G H : Hp} {c : Cfg} {x y : V} {d e : Dat} {Q : VK} {σ : L2.St} (r : Rel F G c σ H) (h1 : Rp F.K G x d) (h2 : Rp F.K G y e)
    (p : Po F W σ (RD F) Q G (int2 g' d e c)) : rI0 g x y H Q := by
  cases h1 with
  | int i =>
    cases h2 with
    | int j => exact ⟨i, j, rfl, rfl, po_ret r p (hg i j)⟩
    | _ => exact p.elim
  | _ => exact p.elim
theorem hf_int {C : Int → Int → Prop} {ok : Int → Int → Bool} {g : Int → Int → V} {g' : Int → Int → Dat} (hk : ∀ i j, ok i j = true → C i j) (hg : ∀ {G : Hp} (i j : Int), Rp F.K G (g i j) (g' i j)) {G H : Hp} {c : Cfg} {x y : V} {d e : Dat} {Q : VK} {σ : L2.St}
    (r : Rel F G c σ H) (h1 : Rp F.K G x d) (h2 : Rp F.K G y e) (p : Po F W σ (RD F) Q G (int2c ok g' d e c)) : rI C g x y H Q := by
  cases h1 with
  | int i =>
    cases h2 with
    | int j =>
      unfold int2c at p
      by_cases o : ok i j = true
      · simp only [o, if_pos] at p
        exact ⟨i, j, rfl, rfl, hk i j o, po_ret r p (hg i j)⟩
      · simp only [o] at p
        exact p.elim
    | _ => exact p.elim
  | _ => exact p.elim
section
variable {a b : Expr} {ma mb : M Dat} {pos : Pos}
def addI := int2 fun i j => .int (i + j)
def subI := int2 fun i j => .int (i - j)
def mulI := int2c (fun i j => decide (-(2 ^ 64) < i ∧ i < 2 ^ 64) || decide (-(2 ^ 64) < j ∧ j < 2 ^ 64)) fun i j => .int (i * j)
def modI := int2c (fun _ j => decide (j ≠ 0)) fun i j => .int (i.fmod j)
def fdivI := int2c (fun _ j => decide (j ≠ 0 ∧ j.natAbs < 1073741824)) fun i j => .int (i.fdiv j)
theorem e_add (ha : PE X a (E F W ma)) (hb : PE X b (E F W mb)) : PE X (.BinOp a .Add b pos) (E F W (m2 addI ma mb)) := e_op2 op_add (hf_int0 fun i j => .int _) ha hb
theorem e_sub (ha : PE X a (E F W ma)) (hb : PE X b (E F W mb)) : PE X (.BinOp a .Sub b pos) (E F W (m2 subI ma mb)) := e_op2 op_sub (hf_int0 fun i j => .int _) ha hb
theorem e_mul (ha : PE X a (E F W ma)) (hb : PE X b (E F W mb)) : PE X (.BinOp a .Mult b pos) (E F W (m2 mulI ma mb)) := e_op2 op_mul (hf_int (fun i j h => by
  simp only [Bool.or_eq_true, decide_eq_true_eq] at h
  exact h) fun i j => .int _) ha hb
theorem e_mod (ha : PE X a (E F W ma)) (hb : PE X b (E F W mb)) : PE X (.BinOp a .Mod b pos) (E F W (m2 modI ma mb)) := e_op2 op_modN (hf_int (fun i j h => of_decide_eq_true h) fun i j => .int _) ha hb
theorem e_fdiv (ha : PE X a (E F W ma)) (hb : PE X b (E F W mb)) : PE X (.BinOp a .FloorDiv b pos) (E F W (m2 fdivI ma mb)) := e_op2 op_fdivN (hf_int (fun i j h => of_decide_eq_true h) fun i j => .int _) ha hb
end

/-! ### lists that nobody holds -/
theorem Rel.own_ne {G : Hp} {c : Cfg} {i : Nat} {l : List Dat} (r : Rel F G c σ H) (e : c.r[i]? = some (.own l)) : ∃ a xs, σ[i]? = some (some (.ref a)) ∧ H a = some (.lst xs) ∧ G a = none ∧ RpA F.K G xs l ∧ F.H0 a = none ∧ ∀ p ∈ F.pins, a ≠ p.1 := r.sl i _ e
theorem Rel.old {G : Hp} {c : Cfg} {p : Addr} (r : Rel F G c σ H) (hp : H p = none) : F.H0 p = none := by
  cases e : F.H0 p with
  | none => rfl
  | some o => exact absurd hp (r.dom p (by rw [e]; simp))
theorem Rel.gNone {G : Hp} {c : Cfg} {p : Addr} (r : Rel F G c σ H) (hp : H p = none) : G p = none := by
  cases e : G p with
  | none => rfl
  | some o' =>
    have := r.sub _ _ e
    rw [hp] at this
    cases this
/-- another still part and heap -/
theorem SlOk.move {G G' H' : Hp} {i : Nat} {s : Sl} {x : Option (Option V)} (h : SlOk F G H i s x) (sG : Same G G')
    (ko : ∀ (l : List Dat) (a : Addr) (xs : List V), s = .own l → x = some (some (.ref a)) → H a = some (.lst xs) → G a = none → F.H0 a = none → H' a = some (.lst xs) ∧ G' a = none)
    (ki : ∀ (l : List Dat) (xs : List V), s = .io l → H (F.ia i) = some (.lst xs) → G (F.ia i) = none → F.ia i ∈ F.mu → H' (F.ia i) = some (.lst xs) ∧ G' (F.ia i) = none) : SlOk F G' H' i s x := by
  cases s with
  | no => trivial
  | sh d =>
    obtain ⟨v, e, q⟩ := h
    exact ⟨v, e, dp_mono sG q⟩
  | own l =>
    obtain ⟨a, xs, e, q1, q2, q3, q4, q5⟩ := h
    obtain ⟨k1, k2⟩ := ko l a xs rfl e q1 q2 q4
    exact ⟨a, xs, e, k1, k2, dpAll_mono sG q3, q4, q5⟩
  | io l =>
    obtain ⟨xs, e, q1, q2, q3, q4⟩ := h
    obtain ⟨k1, k2⟩ := ki l xs rfl q1 q2 q4
    exact ⟨xs, e, k1, k2, dpAll_mono sG q3, q4⟩
  | st => exact h
  | fn _ => exact h
theorem StOk.move {a b l : Addr} {G G' H' : Hp} {s : DS} (h : StOk a b l G H s) (ka : H' a = H a) (kb : H' b = H b) (kl : H' l = H l) (ga : G' a = none) (gb : G' b = none) (gl : G' l = none) : StOk a b l G' H' s := by
  obtain ⟨h1, h2, h3, _, _, _, h4⟩ := h
  exact ⟨ka.trans h1, kb.trans h2, kl.trans h3, ga, gb, gl, h4⟩
theorem Rel.sta_ne {G : Hp} {c : Cfg} {p : Addr} (r : Rel F G c σ H) (hp : F.H0 p = none) (hu : F.us = true) : p ≠ F.sa ∧ p ≠ F.sc ∧ p ≠ F.sl := by
  have st0 := r.st0
  unfold Fr.sta at st0
  rw [if_pos hu] at st0
  refine ⟨fun e => ?_, fun e => ?_, fun e => ?_⟩
  · exact st0 F.sa (by simp) (e ▸ hp)
  · exact st0 F.sc (by simp) (e ▸ hp)
  · exact st0 F.sl (by simp) (e ▸ hp)
/-- a new object is laid, still from now on -/
theorem Rel.laid {G : Hp} {c : Cfg} {p : Addr} {o : HO} (r : Rel F G c σ H) (hp : H p = none) : Rel F (upd G p o) c σ (upd H p o) ∧ Same G (upd G p o) := by
  have gp := r.gNone hp
  have n0 := r.old hp
  have sG : Same G (upd G p o) := fun b u e => by
    rw [upd_ne (ne_of_none e gp)]
    exact e
  have sH : Same H (upd H p o) := fun b u e => by
    rw [upd_ne (ne_of_none e hp)]
    exact e
  refine ⟨{ sub := ?_, g0 := r.g0.trans sG, fresh := ?_, keep := fun b u e h1 h2 => sH _ _ (r.keep b u e h1 h2), len := r.len, sl := fun i s e => (r.sl i s e).move sG (fun l a xs _ _ q1 q2 _ => ?_) (fun l xs _ q1 q2 _ => ?_), inj := r.inj, ioj := r.ioj, st := fun hu => ?_, mu0 := r.mu0, st0 := r.st0, dom := ?_, pin := fun b hb => ?_, tabs := r.tabs.move (fun b u e _ => sH _ _ e) (fun b u e _ g => by rw [upd_ne (ne_of_none e hp)]; exact g) }, sG⟩
  · intro b u e
    by_cases hb : b = p
    · subst hb
      rw [upd_same] at e ⊢
      exact e
    · rw [upd_ne hb] at e ⊢
      exact r.sub _ _ e
  · intro b e
    by_cases hb : b = p
    · exact .inr (hb ▸ n0)
    · rw [upd_ne hb] at e
      exact r.fresh b e
  · exact ⟨sH _ _ q1, by rw [upd_ne (ne_of_none q1 hp)]; exact q2⟩
  · exact ⟨sH _ _ q1, by rw [upd_ne (ne_of_none q1 hp)]; exact q2⟩
  · obtain ⟨n1, n2, n3⟩ := r.sta_ne n0 hu
    obtain ⟨h1, h2, h3, g1, g2, g3, h4⟩ := r.st hu
    exact ⟨sH _ _ h1, sH _ _ h2, sH _ _ h3, by rw [upd_ne n1.symm]; exact g1, by rw [upd_ne n2.symm]; exact g2, by rw [upd_ne n3.symm]; exact g3, h4⟩
  · intro b e z
    by_cases hb : b = p
    · exact e (hb ▸ n0)
    · rw [upd_ne hb] at z
      exact r.dom b e z
  · obtain ⟨k1, k2, k3⟩ := r.pin b hb
    exact ⟨sH _ _ k1, by rw [upd_ne (ne_of_none k1 hp)]; exact k2, k3⟩
/-- a new list is laid that nobody holds as yet -/
theorem Rel.lone {G : Hp} {c : Cfg} {p : Addr} {xs : List V} {l : List Dat} (r : Rel F G c σ H) (hp : H p = none) (q : RpA F.K G xs l) : Rel F G c σ (upd H p (.lst xs)) ∧ Lone F σ G (upd H p (.lst xs)) c p l := by
  have gp := r.gNone hp
  have n0 := r.old hp
  have sH : Same H (upd H p (.lst xs)) := fun b u e => by
    rw [upd_ne (ne_of_none e hp)]
    exact e
  refine ⟨{ sub := r.sub.trans sH, g0 := r.g0, fresh := r.fresh, keep := fun b u e h1 h2 => sH _ _ (r.keep b u e h1 h2), len := r.len, sl := fun i s e => (r.sl i s e).move (Same.refl _) (fun l a xs _ _ q1 q2 _ => ⟨sH _ _ q1, q2⟩) (fun l xs _ q1 q2 _ => ⟨sH _ _ q1, q2⟩), inj := r.inj, ioj := r.ioj, st := fun hu => ?_, mu0 := r.mu0, st0 := r.st0, dom := ?_, pin := fun b hb => ?_, tabs := r.tabs.move (fun b u e _ => sH _ _ e) (fun b u e _ g => g) }, xs, upd_same, q, gp, n0, fun i l' e z => ?_, fun b hb z => ?_⟩
  · obtain ⟨h1, h2, h3, g1, g2, g3, h4⟩ := r.st hu
    exact ⟨sH _ _ h1, sH _ _ h2, sH _ _ h3, g1, g2, g3, h4⟩
  · intro b e z
    by_cases hb : b = p
    · exact e (hb ▸ n0)
    · rw [upd_ne hb] at z
      exact r.dom b e z
  · obtain ⟨k1, k2, k3⟩ := r.pin b hb
    exact ⟨sH _ _ k1, k2, k3⟩
  · obtain ⟨a, xs', e1, e2, _⟩ := r.own_ne e
    rw [e1] at z
    cases z
    rw [hp] at e2
    cases e2
  · have k1 := (r.pin b hb).1
    rw [← z, hp] at k1
    cases k1
/-- a list that nobody holds is still from now on -/
theorem Rel.freeze {G : Hp} {c : Cfg} {p : Addr} {l : List Dat} (r : Rel F G c σ H) (z : Lone F σ G H c p l) : ∃ G', Rel F G' c σ H ∧ Same G G' ∧ Rp F.K G' (.ref p) (.list l) := by
  obtain ⟨xs, hp, q, gp, n0, nown, npin⟩ := z
  have sG : Same G (upd G p (.lst xs)) := fun b u e => by
    rw [upd_ne (ne_of_none e gp)]
    exact e
  refine ⟨upd G p (.lst xs), { sub := ?_, g0 := r.g0.trans sG, fresh := ?_, keep := r.keep, len := r.len, sl := fun i s e => (r.sl i s e).move sG (fun l a xs' e1 e2 q1 q2 _ => ⟨q1, ?_⟩) (fun l xs' _ q1 q2 m => ⟨q1, ?_⟩), inj := r.inj, ioj := r.ioj, st := fun hu => ?_, mu0 := r.mu0, st0 := r.st0, dom := r.dom, pin := fun b hb => ?_, tabs := r.tabs.move (fun b u e _ => e) (fun b u e t g => by
    have : b ≠ p := fun z => by rw [z, hp] at e; cases e; exact isT_lst t
    rw [upd_ne this]; exact g) }, sG, .lst upd_same (dpAll_mono sG q)⟩
  · intro b u e
    by_cases hb : b = p
    · subst hb
      rw [upd_same] at e
      rw [hp]
      exact e
    · rw [upd_ne hb] at e
      exact r.sub _ _ e
  · intro b e
    by_cases hb : b = p
    · exact .inr (hb ▸ n0)
    · rw [upd_ne hb] at e
      exact r.fresh b e
  · by_cases hb : a = p
    · subst hb
      subst e1
      exact absurd e2 (nown i _ e)
    · rw [upd_ne hb]
      exact q2
  · by_cases hb : F.ia i = p
    · exact absurd n0 (hb ▸ (r.mu0 _ m).1)
    · rw [upd_ne hb]
      exact q2
  · obtain ⟨n1, n2, n3⟩ := r.sta_ne n0 hu
    obtain ⟨h1, h2, h3, g1, g2, g3, h4⟩ := r.st hu
    exact ⟨h1, h2, h3, by rw [upd_ne n1.symm]; exact g1, by rw [upd_ne n2.symm]; exact g2, by rw [upd_ne n3.symm]; exact g3, h4⟩
  · obtain ⟨k1, k2, k3⟩ := r.pin b hb
    exact ⟨k1, by rw [upd_ne (npin b hb).symm]; exact k2, k3⟩
def frz (m : M RV) : M Dat := M.bind m fun v => ret v.dat
def asx (m : M Dat) : M RV := M.bind m fun d => ret (.sh d)
theorem e_frz {e : Expr} {m : M RV} (h : PE X e (EX F W m)) : PE X e (E F W (frz m)) := h.mono fun σ H Q h => sx_mono (sx_bind h) fun x H1 ⟨a, G1, c1, r1, q, p⟩ => by
  cases a with
  | sh d => exact po_ret r1 p q
  | fr l =>
    obtain ⟨p1, rfl, z⟩ := q
    obtain ⟨G', r', s', d'⟩ := r1.freeze z
    exact p _ G' H1 r' s' d'
theorem e_asx {e : Expr} {m : M Dat} (h : PE X e (E F W m)) : PE X e (EX F W (asx m)) := h.mono fun σ H Q h => sx_mono (sx_bind h) fun x H1 ⟨a, G1, c1, r1, q, p⟩ => po_ret r1 p q

/-! ### argument lists, displays -/
def aNil : M (List Dat) := ret []
def aCons (a : M Dat) (r : M (List Dat)) : M (List Dat) := M.bind a fun x => M.bind r fun xs => ret (x :: xs)
theorem a_nil : PA X [] (A F W aNil) := pa_nil.mono fun σ H Q ⟨G, c, r, p⟩ => po_ret r p .nil
theorem a_cons {e : Expr} {es : List Expr} {m : M Dat} {ms : M (List Dat)} (h : PE X e (E F W m)) (hs : PA X es (A F W ms)) (h2 : starEach (e :: es) X.env = (false, eval e X.env) :: starEach es X.env := by rfl) : PA X (e :: es) (A F W (aCons m ms)) :=
  (pa_cons h hs h2).mono fun σ H Q h => sx_mono (sx_bind (R1 := RD F) h) fun x H1 ⟨a, G1, c1, r1, q, p⟩ => sx_mono (po_bind (R1 := RA F) r1 p) fun xs H2 ⟨as, G2, c2, r2, s2, q2, p2⟩ => po_ret r2 p2 (.cons (dp_mono s2 q) q2)
def many (l : List Dat) : Bool := decide (l.length ≤ 100000)
def tupD (l : List Dat) : M Dat := if many l then ret (.tuple l) else bad
def lstD (l : List Dat) : M RV := if many l then ret (.fr l) else bad
theorem many_sz {K : PySem.W.Frag} {G : Hp} {vs : List V} {l : List Dat} (h : many l = true) (q : RpA K G vs l) : vs.length ≤ sizeLine := by
  rw [dpAll_len q]
  exact Evl.sz_of (of_decide_eq_true h)
theorem e_tup {es : List Expr} {ms : M (List Dat)} {x1 pos} (h : PA X es (A F W ms)) : PE X (.Tuple es x1 pos) (E F W (M.bind ms tupD)) :=
  (pe_tup h).mono fun σ H Q h => sx_mono (sx_bind (R1 := RA F) h) fun xs H1 ⟨l, G1, c1, r1, q, p⟩ => by
    unfold tupD at p
    by_cases m : many l = true
    · rw [if_pos m] at p
      refine ⟨many_sz m q, fun a ha => ?_⟩
      obtain ⟨r2, s2⟩ := r1.laid (o := .tup xs) ha
      exact p _ _ _ r2 s2 (.tup (Evl.st_of upd_same) (dpAll_mono s2 q))
    · rw [if_neg m] at p
      exact p.elim
theorem e_lst {es : List Expr} {ms : M (List Dat)} {pos} (h : PA X es (A F W ms)) : PE X (.List es pos) (EX F W (M.bind ms lstD)) :=
  (pe_lst h).mono fun σ H Q h => sx_mono (sx_bind (R1 := RA F) h) fun xs H1 ⟨l, G1, c1, r1, q, p⟩ => by
    unfold lstD at p
    by_cases m : many l = true
    · rw [if_pos m] at p
      refine ⟨many_sz m q, fun a ha => ?_⟩
      obtain ⟨r2, z2⟩ := r1.lone ha q
      exact p _ _ _ r2 (Same.refl _) ⟨a, rfl, z2⟩
    · rw [if_neg m] at p
      exact p.elim
end
end Pn

namespace Pn
open L2 PyProof.Rows PySem.Spec PySem
section
variable {F : Fr} {W : L2.WX} {σ : L2.St} {H : Hp} {X : Cx}

/-! ### tests -/
def asB : Dat → M Bool
  | .bool b => ret b
  | _ => bad
def toB (m : M Dat) : M Bool := M.bind m asB
def ofB (m : M Bool) : M Dat := M.bind m fun b => ret (.bool b)
theorem t_val {e : Expr} {m : M Dat} (h : PE X e (E F W m)) (he : ∀ whole, isTrue e X.env whole = (do let v ← whole; standAt e.pos; holding [v] (truthy v)) := by intro _; rfl) : PT X e (B F W (toB m)) :=
  (pt_val h he).mono fun σ H Q h => sx_mono (sx_bind (R1 := RD F) h) fun x H1 ⟨a, G1, c1, r1, q, p⟩ => by
    cases q with
    | bl b => exact ⟨b, rfl, po_ret r1 p rfl⟩
    | _ => exact p.elim
def notB (m : M Bool) : M Bool := M.bind m fun b => ret (!b)
def andB (a b : M Bool) : M Bool := M.bind a fun x => if x = true then b else ret false
def orB (a b : M Bool) : M Bool := M.bind a fun x => if x = true then ret true else b
theorem t_not {a : Expr} {m : M Bool} {pos} (h : PT X a (B F W m)) : PT X (.UnaryOp .Not a pos) (B F W (notB m)) :=
  (pt_not h).mono fun σ H Q h => sx_mono (sx_bind (R1 := RB) h) fun x H1 ⟨a, G1, c1, r1, q, p⟩ => by
    cases q
    exact po_ret r1 p rfl
theorem w_and1 {a : Expr} {m : M Bool} {pos} (h : PT X a (B F W m)) : PW X (.BoolOp .And [a] pos) (B F W m) := pw_and1 h
theorem w_or1 {a : Expr} {m : M Bool} {pos} (h : PT X a (B F W m)) : PW X (.BoolOp .Or [a] pos) (B F W m) := pw_or1 h
theorem _root_.L2.PW.mono {X : Cx} {e : Expr} {t t' : TT} (h : PW X e t) (k : ∀ σ H Q, t' σ H Q → t σ H Q) : PW X e t' := ⟨fun whole pins s σ H Q I q => h.run whole pins s σ H Q I (k _ _ _ q)⟩
theorem w_and {a b : Expr} {rest : List Expr} {m n : M Bool} {pos} (h : PT X a (B F W m)) (k : PW X (.BoolOp .And (b :: rest) pos) (B F W n)) : PW X (.BoolOp .And (a :: b :: rest) pos) (B F W (andB m n)) :=
  (pw_and h k).mono fun σ H Q h => sx_mono (sx_bind (R1 := RB) h) fun x H1 ⟨a, G1, c1, r1, q, p⟩ => by
    cases q
    by_cases hx : x = true
    · rw [if_pos hx] at p ⊢
      exact ⟨G1, c1, r1, p⟩
    · rw [if_neg hx] at p ⊢
      exact po_ret r1 p rfl
theorem w_or {a b : Expr} {rest : List Expr} {m n : M Bool} {pos} (h : PT X a (B F W m)) (k : PW X (.BoolOp .Or (b :: rest) pos) (B F W n)) : PW X (.BoolOp .Or (a :: b :: rest) pos) (B F W (orB m n)) :=
  (pw_or h k).mono fun σ H Q h => sx_mono (sx_bind (R1 := RB) h) fun x H1 ⟨a, G1, c1, r1, q, p⟩ => by
    cases q
    by_cases hx : x = true
    · rw [if_pos hx] at p ⊢
      exact po_ret r1 p rfl
    · rw [if_neg hx] at p ⊢
      exact ⟨G1, c1, r1, p⟩
/-- the same as values, of bools -/
def andV (a b : M Dat) : M Dat := M.bind a fun x => M.bind (asB x) fun k => if k = true then b else ret (.bool false)
def orV (a b : M Dat) : M Dat := M.bind a fun x => M.bind (asB x) fun k => if k = true then ret (.bool true) else b
def notV (a : M Dat) : M Dat := M.bind a fun x => M.bind (asB x) fun k => ret (.bool (!k))
theorem e_one {op} {a : Expr} {m : M Dat} {pos} (h : PE X a (E F W m)) : PE X (.BoolOp op [a] pos) (E F W m) := pe_one h
theorem e_and {a b : Expr} {rest : List Expr} {m n : M Dat} {pos} (h : PE X a (E F W m)) (k : PE X (.BoolOp .And (b :: rest) pos) (E F W n)) : PE X (.BoolOp .And (a :: b :: rest) pos) (E F W (andV m n)) :=
  (pe_and h k).mono fun σ H Q h => sx_mono (sx_bind (R1 := RD F) h) fun x H1 ⟨a, G1, c1, r1, q, p⟩ => by
    cases q with
    | bl b =>
      refine ⟨b, rfl, ?_⟩
      cases b with
      | true => exact ⟨G1, c1, r1, p⟩
      | false => exact po_ret r1 p (.bl false)
    | _ => exact p.elim
theorem e_or {a b : Expr} {rest : List Expr} {m n : M Dat} {pos} (h : PE X a (E F W m)) (k : PE X (.BoolOp .Or (b :: rest) pos) (E F W n)) : PE X (.BoolOp .Or (a :: b :: rest) pos) (E F W (orV m n)) :=
  (pe_or h k).mono fun σ H Q h => sx_mono (sx_bind (R1 := RD F) h) fun x H1 ⟨a, G1, c1, r1, q, p⟩ => by
    cases q with
    | bl b =>
      refine ⟨b, rfl, ?_⟩
      cases b with
      | true => exact po_ret r1 p (.bl true)
      | false => exact ⟨G1, c1, r1, p⟩
    | _ => exact p.elim
theorem e_not {a : Expr} {m : M Dat} {pos} (h : PE X a (E F W m)) : PE X (.UnaryOp .Not a pos) (E F W (notV m)) :=
  (pe_not h).mono fun σ H Q h => sx_mono (sx_bind (R1 := RD F) h) fun x H1 ⟨a, G1, c1, r1, q, p⟩ => by
    cases q with
    | bl b => exact ⟨b, rfl, po_ret r1 p (.bl _)⟩
    | _ => exact p.elim
def ifE {α : Type} (c : M Bool) (a b : M α) : M α := M.bind c fun k => if k = true then a else b
theorem e_if {α : Type} {R : L2.St → Hp → Hp → Cfg → V → α → Prop} {c a b : Expr} {mc : M Bool} {ma mb : M α} {pos} (hc : PT X c (B F W mc)) (ha : PE X a (Sx F W R ma)) (hb : PE X b (Sx F W R mb)) : PE X (.IfExp c a b pos) (Sx F W R (ifE mc ma mb)) :=
  (pe_ifExp hc ha hb).mono fun σ H Q h => sx_mono (sx_bind (R1 := RB) h) fun x H1 ⟨a, G1, c1, r1, q, p⟩ => by
    cases q
    by_cases hx : x = true
    · rw [if_pos hx] at p ⊢
      exact ⟨G1, c1, r1, p⟩
    · rw [if_neg hx] at p ⊢
      exact ⟨G1, c1, r1, p⟩

/-! ### comparisons -/
theorem e_cmp {op : CmpOp} {a b : Expr} {ma mb : M Dat} {pos : Pos} {r : R2} {f : Dat → Dat → M Dat} (ho : OpR X (compareOp op) r)
    (hf : ∀ {G H : Hp} {c : Cfg} {x y : V} {d e : Dat} {Q : VK} {σ : L2.St}, Rel F G c σ H → Rp F.K G x d → Rp F.K G y e → Po F W σ (RD F) Q G (f d e c) → r x y H Q)
    (hm : behindInMarks op b = false) (ha : PE X a (E F W ma)) (hb : PE X b (E F W mb)) : PE X (.Compare a [op] [b] pos) (E F W (m2 f ma mb)) :=
  (pe_cmpR ho ha hb hm).mono fun σ H Q h => sx_mono (sx_bind2 h) fun x H1 h1 => sx_mono h1 fun y H2 ⟨d, e, G2, c2, r2, q1, q2, p⟩ => hf r2 q1 q2 p
def ltI := int2 fun i j => .bool (decide (i < j))
def leI := int2 fun i j => .bool (decide (i ≤ j))
def gtI := int2 fun i j => .bool (decide (j < i))
def geI := int2 fun i j => .bool (decide (j ≤ i))
def eqD (d e : Dat) : M Dat := if SeqAt.shaped d && SeqAt.shaped e then ret (.bool (PyData.eqv d e)) else bad
def neD (d e : Dat) : M Dat := if SeqAt.shaped d && SeqAt.shaped e then ret (.bool (!PyData.eqv d e)) else bad
theorem hf_eq (hK : F.K = X.K) {G H : Hp} {c : Cfg} {x y : V} {d e : Dat} {Q : VK} {σ : L2.St} (r : Rel F G c σ H) (h1 : Rp F.K G x d) (h2 : Rp F.K G y e) (p : Po F W σ (RD F) Q G (eqD d e c)) : rEqD X.K x y H Q := by
  unfold eqD at p
  by_cases o : (SeqAt.shaped d && SeqAt.shaped e) = true
  · rw [if_pos o] at p
    rw [Bool.and_eq_true] at o
    exact ⟨d, e, hK ▸ (dp_mono r.sub h1).dp, hK ▸ (dp_mono r.sub h2).dp, o.1, o.2, po_ret r p (.bl _)⟩
  · rw [if_neg o] at p
    exact p.elim
theorem hf_ne (hK : F.K = X.K) {G H : Hp} {c : Cfg} {x y : V} {d e : Dat} {Q : VK} {σ : L2.St} (r : Rel F G c σ H) (h1 : Rp F.K G x d) (h2 : Rp F.K G y e) (p : Po F W σ (RD F) Q G (neD d e c)) : rNeD X.K x y H Q := by
  unfold neD at p
  by_cases o : (SeqAt.shaped d && SeqAt.shaped e) = true
  · rw [if_pos o] at p
    rw [Bool.and_eq_true] at o
    exact ⟨d, e, hK ▸ (dp_mono r.sub h1).dp, hK ▸ (dp_mono r.sub h2).dp, o.1, o.2, po_ret r p (.bl _)⟩
  · rw [if_neg o] at p
    exact p.elim
section
variable {a b : Expr} {ma mb : M Dat} {pos : Pos}
theorem e_lt (ha : PE X a (E F W ma)) (hb : PE X b (E F W mb)) : PE X (.Compare a [.Lt] [b] pos) (E F W (m2 ltI ma mb)) := e_cmp op_lt (hf_int0 fun i j => .bl _) (nomark _) ha hb
theorem e_le (ha : PE X a (E F W ma)) (hb : PE X b (E F W mb)) : PE X (.Compare a [.LtE] [b] pos) (E F W (m2 leI ma mb)) := e_cmp op_le (hf_int0 fun i j => .bl _) (nomark _) ha hb
theorem e_gt (ha : PE X a (E F W ma)) (hb : PE X b (E F W mb)) : PE X (.Compare a [.Gt] [b] pos) (E F W (m2 gtI ma mb)) := e_cmp op_gt (hf_int0 fun i j => .bl _) (nomark _) ha hb
theorem e_ge (ha : PE X a (E F W ma)) (hb : PE X b (E F W mb)) : PE X (.Compare a [.GtE] [b] pos) (E F W (m2 geI ma mb)) := e_cmp op_ge (hf_int0 fun i j => .bl _) (nomark _) ha hb
theorem e_eq (hK : F.K = X.K) (hu : X.A.units + 64 < cLine) (ha : PE X a (E F W ma)) (hb : PE X b (E F W mb)) : PE X (.Compare a [.Eq] [b] pos) (E F W (m2 eqD ma mb)) := e_cmp (op_eqD hu) (hf_eq hK) (nomark _) ha hb
theorem e_ne (hK : F.K = X.K) (hu : X.A.units + 64 < cLine) (ha : PE X a (E F W ma)) (hb : PE X b (E F W mb)) : PE X (.Compare a [.NotEq] [b] pos) (E F W (m2 neD ma mb)) := e_cmp (op_neD hu) (hf_ne hK) (nomark _) ha hb
end

/-! ### rows: lists and tuples that are read -/
abbrev Row := Bool × List Dat
def RR (F : Fr) : L2.St → Hp → Hp → Cfg → V → Row → Prop := fun _ G H _ v r => ∃ a xs, v = .ref a ∧ (if r.1 = true then SqT F.K G a xs else H a = some (.lst xs)) ∧ RpA F.K G xs r.2
abbrev R_ (F : Fr) (W : L2.WX) (m : M Row) : TE := Sx F W (RR F) m
def rowOf : Dat → M Row
  | .tuple l => ret (true, l)
  | .list l => ret (false, l)
  | _ => bad
def rowD (m : M Dat) : M Row := M.bind m rowOf
def rowVar (i : Nat) : M Row := fun c => match c.r[i]? with
  | some (.sh d) => rowOf d c
  | some (.own l) => .ok (false, l) c
  | some (.io l) => .ok (false, l) c
  | _ => .bad
def rowX (m : M RV) : M Row := M.bind m fun v => match v with
  | .sh d => rowOf d
  | .fr l => ret (false, l)
theorem row_dp {G : Hp} {c : Cfg} {v : V} {d : Dat} {γ δ : Type} {R : L2.St → Hp → Hp → Cfg → δ → γ → Prop} {Q : δ → Hp → Prop} {f : Row → M γ} (r : Rel F G c σ H) (q : Rp F.K G v d) (p : Po F W σ R Q G (M.bind (rowOf d) f c)) :
    ∃ k, RR F σ G H c v k ∧ rowOf d c = .ok k c ∧ Po F W σ R Q G (f k c) := by
  cases q with
  | lst h k => exact ⟨(false, _), ⟨_, _, rfl, r.sub _ _ h, k⟩, rfl, p⟩
  | tup h k => exact ⟨(true, _), ⟨_, _, rfl, h, k⟩, rfl, p⟩
  | _ => exact p.elim
theorem po_row {G : Hp} {c : Cfg} {v : V} {d : Dat} {Q : VK} (r : Rel F G c σ H) (q : Rp F.K G v d) (p : Po F W σ (RR F) Q G (rowOf d c)) : Q v H := by
  cases q with
  | lst h k => exact po_ret r p ⟨_, _, rfl, r.sub _ _ h, k⟩
  | tup h k => exact po_ret r p ⟨_, _, rfl, h, k⟩
  | _ => exact p.elim
theorem r_data {e : Expr} {m : M Dat} (h : PE X e (E F W m)) : PE X e (R_ F W (rowD m)) := h.mono fun σ H Q h => sx_mono (sx_bind (R1 := RD F) h) fun x H1 ⟨a, G1, c1, r1, q, p⟩ => po_row r1 q p
theorem r_var {i : Nat} {x : Str} {pos : Pos} (hN : X.N[i]? = some x) (hv : Vis X.env.scope x) (hd : (x == ("__debug__" : Str)) = false) (hcd : (x == ("__classdict__" : Str)) = false) : PE X (.Name x pos) (R_ F W (rowVar i)) :=
  (pe_var hN hv hd hcd).mono fun σ H Q ⟨G, c, r, p⟩ => by
    unfold rowVar at p
    cases e : c.r[i]? with
    | none => rw [e] at p; exact p.elim
    | some s =>
      rw [e] at p
      cases s with
      | sh d =>
        obtain ⟨v, e2, q⟩ := r.sl i _ e
        exact ⟨v, e2, po_row r q p⟩
      | no => exact p.elim
      | own l =>
        obtain ⟨a, xs, e2, h1, h2, h3, h4⟩ := r.sl i _ e
        exact ⟨_, e2, po_ret r p ⟨a, xs, rfl, h1, h3⟩⟩
      | io l =>
        obtain ⟨xs, e2, h1, h2, h3, h4⟩ := r.sl i _ e
        exact ⟨_, e2, po_ret r p ⟨_, xs, rfl, h1, h3⟩⟩
      | st => exact p.elim
      | fn _ => exact p.elim
theorem r_new {e : Expr} {m : M RV} (h : PE X e (EX F W m)) : PE X e (R_ F W (rowX m)) := h.mono fun σ H Q h => sx_mono (sx_bind (R1 := RX F) h) fun x H1 ⟨a, G1, c1, r1, q, p⟩ => by
  cases a with
  | sh d => exact po_row r1 q p
  | fr l =>
    obtain ⟨a, rfl, xs, h1, h2, h3⟩ := q
    exact po_ret r1 p ⟨a, xs, rfl, h1, h2⟩

/-! ### calls of built-ins of one argument -/
theorem b_call1 {α β δ : Type} {R1 : L2.St → Hp → Hp → Cfg → V → α → Prop} {R : L2.St → Hp → Hp → Cfg → V → β → Prop} {m : M α} {f : α → M β} {id : String} {r : List V → Hp → VK → Prop} {x : Str} {a : Expr} {p pos : Pos} (hc : CallR X (.builtin id) r) (hg : Gl X x) (hm : X.mg x = none) (hv : bootBuiltins x = some (.builtin id))
    (hf : ∀ {G H : Hp} {c : Cfg} {v : V} {d : α} {Q : VK} {σ : L2.St}, Rel F G c σ H → R1 σ G H c v d → Po F W σ R Q G (f d c) → r [v] H Q) (ha : PE X a (Sx F W R1 m))
    (hn : x ≠ "__name__" := by decide) (hdb : (x == ("__debug__" : Str)) = false := by decide) (he : starEach [a] X.env = (false, eval a X.env) :: starEach [] X.env := by rfl) : PE X (.Call (.Name x p) [a] [] pos) (Sx F W R (M.bind m f)) :=
  (pe_callB hc hg hm hv (pa_cons ha pa_nil he) hn hdb he).mono fun σ H Q h => sx_mono (sx_bind (R1 := R1) h) fun x H1 ⟨a, G1, c1, r1, q, p⟩ => hf r1 q p
theorem t_call1 {α β δ : Type} {R1 : L2.St → Hp → Hp → Cfg → V → α → Prop} {R : L2.St → Hp → Hp → Cfg → V → β → Prop} {m : M α} {f : α → M β} {T : String} {r : List V → Hp → VK → Prop} {x : Str} {a : Expr} {p pos : Pos} (hc : CallR X (.type T) r) (hg : Gl X x) (hm : X.mg x = none) (hv : bootBuiltins x = some (.type T))
    (hf : ∀ {G H : Hp} {c : Cfg} {v : V} {d : α} {Q : VK} {σ : L2.St}, Rel F G c σ H → R1 σ G H c v d → Po F W σ R Q G (f d c) → r [v] H Q) (ha : PE X a (Sx F W R1 m))
    (hn : x ≠ "__name__" := by decide) (hdb : (x == ("__debug__" : Str)) = false := by decide) (he : starEach [a] X.env = (false, eval a X.env) :: starEach [] X.env := by rfl) : PE X (.Call (.Name x p) [a] [] pos) (Sx F W R (M.bind m f)) :=
  (pe_callTy hc hg hm hv (pa_cons ha pa_nil he) hn hdb he).mono fun σ H Q h => sx_mono (sx_bind (R1 := R1) h) fun x H1 ⟨a, G1, c1, r1, q, p⟩ => hf r1 q p
end
end Pn

namespace Pn
open L2 PyProof.Rows PySem.Spec PySem
section
variable {F : Fr} {W : L2.WX} {σ : L2.St} {H : Hp} {X : Cx}

/-! ### len, tuple, list, int, all, any of a row -/
theorem rr_or {K K' : PySem.W.Frag} {G H : Hp} {a : Addr} {xs : List V} {k : Bool} (hK : K = K') (s : Same G H) (h : if k = true then SqT K G a xs else H a = some (.lst xs)) : SqL K' H a xs ∨ SqT K' H a xs := by
  subst hK
  cases k with
  | true => exact .inr (sqT_mono s h)
  | false => exact .inl (Evl.sq_of h)
def lenR (r : Row) : M Dat := ret (.int (r.2.length : Nat))
theorem e_len {m : M Row} {a : Expr} {p pos : Pos} (hK : F.K = X.K) (hg : Gl X "len") (hm : X.mg "len" = none) (ha : PE X a (R_ F W m)) (he : starEach [a] X.env = (false, eval a X.env) :: starEach [] X.env := by rfl) : PE X (.Call (.Name "len" p) [a] [] pos) (E F W (M.bind m lenR)) :=
  b_call1 (δ := V) call_len_seq hg hm boot_len (fun {G H c v d Q σ} r ⟨a, xs, e, h, q⟩ p => ⟨a, xs, by rw [e], rr_or hK r.sub h, by
    have := po_ret (v := V.int (d.2.length : Nat)) r p (.int _)
    rw [dpAll_len q]
    exact this⟩) ha (by decide) (by decide) he
def tupR (r : Row) : M Dat := ret (.tuple r.2)
theorem e_tuple {m : M Row} {a : Expr} {p pos : Pos} (hK : F.K = X.K) (hg : Gl X "tuple") (hm : X.mg "tuple" = none) (ha : PE X a (R_ F W m)) (he : starEach [a] X.env = (false, eval a X.env) :: starEach [] X.env := by rfl) : PE X (.Call (.Name "tuple" p) [a] [] pos) (E F W (M.bind m tupR)) :=
  t_call1 (δ := V) call_tuple_of hg hm (by decide +kernel) (fun {G H c v d Q σ} r ⟨a, xs, e, h, q⟩ p => by
    refine ⟨a, xs, by rw [e], ?_⟩
    cases hd : d.1 with
    | true =>
      rw [hd, if_pos rfl] at h
      exact .inr ⟨hK ▸ sqT_mono r.sub h, po_ret r p (.tup h q)⟩
    | false =>
      rw [hd, if_neg Bool.false_ne_true] at h
      refine .inl ⟨Evl.sq_of h, fun l hl => ?_⟩
      obtain ⟨r2, s2⟩ := r.laid (o := .tup xs) hl
      exact p _ _ _ r2 s2 (.tup (Evl.st_of upd_same) (dpAll_mono s2 q))) ha (by decide) (by decide) he
def lstR (r : Row) : M RV := ret (.fr r.2)
theorem e_list {m : M Row} {a : Expr} {p pos : Pos} (hK : F.K = X.K) (hg : Gl X "list") (hm : X.mg "list" = none) (ha : PE X a (R_ F W m)) (he : starEach [a] X.env = (false, eval a X.env) :: starEach [] X.env := by rfl) : PE X (.Call (.Name "list" p) [a] [] pos) (EX F W (M.bind m lstR)) :=
  t_call1 (δ := V) call_list_of hg hm (by decide +kernel) (fun {G H c v d Q σ} r ⟨a, xs, e, h, q⟩ p => ⟨a, xs, by rw [e], rr_or hK r.sub h, fun l hl => by
    obtain ⟨r2, z2⟩ := r.lone hl q
    exact p _ _ _ r2 (Same.refl _) ⟨l, rfl, z2⟩⟩) ha (by decide) (by decide) he

def intR : Dat → M Dat
  | .int i => ret (.int i)
  | .bool k => ret (.int (if k then 1 else 0))
  | _ => bad
theorem e_intC {m : M Dat} {a : Expr} {p pos : Pos} (hg : Gl X "int") (hm : X.mg "int" = none) (ha : PE X a (E F W m)) (he : starEach [a] X.env = (false, eval a X.env) :: starEach [] X.env := by rfl) : PE X (.Call (.Name "int" p) [a] [] pos) (E F W (M.bind m intR)) :=
  t_call1 (δ := V) call_int1 hg hm (by decide +kernel) (fun {G H c v d Q σ} r q p => by
    cases q with
    | int i => exact .inl ⟨i, rfl, po_ret r p (.int _)⟩
    | bl b => exact .inr ⟨b, rfl, po_ret r p (.int _)⟩
    | _ => exact p.elim) ha (by decide) (by decide) he
/-- all items bools -/
def bools : List Dat → Option (List Bool)
  | [] => some []
  | .bool b :: r => (bools r).map (b :: ·)
  | _ => none
theorem bools_dp {K : PySem.W.Frag} {G : Hp} : ∀ {l : List Dat} {xs : List V} {bs : List Bool}, RpA K G xs l → bools l = some bs → xs = bs.map V.bl
  | [], _, _, .nil, e => by cases e; rfl
  | d :: l, _, bs, .cons h t, e => by
    cases h with
    | bl b =>
      unfold bools at e
      cases e2 : bools l with
      | none => rw [e2] at e; cases e
      | some cs =>
        rw [e2] at e
        cases e
        rw [bools_dp t e2]
        rfl
    | _ => simp [bools] at e
def allR (r : Row) : M Dat := match r.1, bools r.2 with
  | false, some bs => ret (.bool (bs.all id))
  | _, _ => bad
def anyR (r : Row) : M Dat := match r.1, bools r.2 with
  | false, some bs => ret (.bool (bs.any id))
  | _, _ => bad
theorem e_all {m : M Row} {a : Expr} {p pos : Pos} (hK : F.K = X.K) (hc : X.calm = true) (hg : Gl X "all") (hm : X.mg "all" = none) (ha : PE X a (R_ F W m)) (he : starEach [a] X.env = (false, eval a X.env) :: starEach [] X.env := by rfl) : PE X (.Call (.Name "all" p) [a] [] pos) (E F W (M.bind m allR)) :=
  b_call1 (δ := V) (cr_all hc) hg hm (by decide +kernel) (fun {G H c v d Q σ} r ⟨a, xs, e, h, q⟩ p => by
    obtain ⟨k, l⟩ := d
    unfold allR at p
    cases k with
    | true => exact p.elim
    | false =>
      cases eb : bools l with
      | none => simp only [eb] at p; exact p.elim
      | some bs =>
        simp only [eb] at p
        exact ⟨a, bs, by rw [e], by rw [← bools_dp q eb]; exact Evl.sq_of h, po_ret r p (.bl _)⟩) ha (by decide) (by decide) he
theorem e_any {m : M Row} {a : Expr} {p pos : Pos} (hK : F.K = X.K) (hc : X.calm = true) (hg : Gl X "any") (hm : X.mg "any" = none) (ha : PE X a (R_ F W m)) (he : starEach [a] X.env = (false, eval a X.env) :: starEach [] X.env := by rfl) : PE X (.Call (.Name "any" p) [a] [] pos) (E F W (M.bind m anyR)) :=
  b_call1 (δ := V) (cr_any hc) hg hm (by decide +kernel) (fun {G H c v d Q σ} r ⟨a, xs, e, h, q⟩ p => by
    obtain ⟨k, l⟩ := d
    unfold anyR at p
    cases k with
    | true => exact p.elim
    | false =>
      cases eb : bools l with
      | none => simp only [eb] at p; exact p.elim
      | some bs =>
        simp only [eb] at p
        exact ⟨a, bs, by rw [e], by rw [← bools_dp q eb]; exact Evl.sq_of h, po_ret r p (.bl _)⟩) ha (by decide) (by decide) he

/-! ### isinstance of a datum and a built-in class -/
def tyN : Dat → String
  | .tuple _ => "tuple" | .list _ => "list" | .int _ => "int"
  | .str _ => "str" | .bool _ => "bool" | .dict _ => "dict"
  | .none => "NoneType"
def isTy (d : Dat) (T : String) : Bool := tyN d == T || (tyN d == "bool" && T == "int")
theorem kit5 : ∀ a ∈ (["NoneType", "bool", "int", "str", "list", "tuple"] : List String), ∀ T ∈ (["bool", "int", "str", "list", "tuple"] : List String), kitB a T = some (a == T || (a == "bool" && T == "int")) := by decide +kernel
theorem tyX_dp {K : PySem.W.Frag} {G : Hp} {v : V} {d : Dat} (h : Rp K G v d) : TyX K G v (.type (tyN d)) ∧ tyN d ∈ (["NoneType", "bool", "int", "str", "list", "tuple"] : List String) := by
  cases h with
  | non => exact ⟨.base .non, by decide⟩
  | bl b => exact ⟨.base (.bl b), by show "bool" ∈ _; decide⟩
  | int i => exact ⟨.base (.int i), by show "int" ∈ _; decide⟩
  | str x => exact ⟨.base (.str x), by show "str" ∈ _; decide⟩
  | lst h k =>
    refine ⟨?_, by show "list" ∈ _; decide⟩
    exact .base (.lst h)
  | tup h k =>
    refine ⟨?_, by show "tuple" ∈ _; decide⟩
    rcases h with (h | ⟨o, h⟩) | ⟨o, its, n, h1, h2, _⟩
    · exact .base (.tup h)
    · exact .fTuple h
    · exact .kTuple h1 h2
def isiR (T : String) (d : Dat) : M Dat := ret (.bool (isTy d T))
theorem e_isi {m : M Dat} {a : Expr} {T : Str} {T' : String} {p p2 pos : Pos} (hK : F.K = X.K) (hg : Gl X "isinstance") (hm : X.mg "isinstance" = none) (hgT : Gl X T) (hmT : X.mg T = none) (hvT : bootBuiltins T = some (.type T')) (hT : T' ∈ (["bool", "int", "str", "list", "tuple"] : List String)) (hnT : T ≠ "__name__") (hdT : (T == ("__debug__" : Str)) = false)
    (ha : PE X a (E F W m)) (he : starEach [a, .Name T p2] X.env = (false, eval a X.env) :: starEach [.Name T p2] X.env := by rfl) (he2 : starEach [.Name T p2] X.env = (false, eval (.Name T p2) X.env) :: starEach [] X.env := by rfl)
    (hpl : (backTo pos (starEach [.Name T p2] X.env)).any (·.1) = false := by rfl) : PE X (.Call (.Name "isinstance" p) [a, .Name T p2] [] pos) (E F W (M.bind m (isiR T'))) :=
  (pe_callB call_isi hg hm (by decide +kernel) (pa_cons ha (pa_cons (pe_bltn hgT hmT hvT (v := .ty T') rfl hnT hdT) pa_nil he2) he) (by decide) (by decide) he hpl).mono fun σ H Q h => sx_mono (sx_bind (R1 := RD F) h) fun x H1 ⟨d, G1, c1, r1, q, p⟩ => by
    obtain ⟨t1, t2⟩ := tyX_dp (dp_mono r1.sub q)
    exact ⟨x, .ty T', _, _, isTy d T', rfl, .ty T', hK ▸ t1, kit_ty (kit5 _ t2 _ hT), po_ret r1 p (.bl _)⟩

/-! ### items -/
def ixR (r : Row) (k : Dat) : M Dat := match k with
  | .int i => match atI r.2 i with
    | some d => ret d
    | none => bad
  | _ => bad
theorem atI_dp {K : PySem.W.Frag} {G : Hp} {xs : List V} {l : List Dat} {i : Int} {d : Dat} (q : RpA K G xs l) (e : atI l i = some d) : ∃ v, atI xs i = some v ∧ Rp K G v d := by
  unfold atI at e ⊢
  rw [dpAll_len q]
  cases e2 : ixN l.length i with
  | none => rw [e2] at e; cases e
  | some j =>
    rw [e2] at e
    exact dpAll_get q e
theorem hf_ix (hK : F.K = X.K) {G : Hp} {c : Cfg} {x y : V} {k : Row} {e : Dat} {Q : VK} (r : Rel F G c σ H) (h1 : RR F σ G H c x k) (h2 : Rp F.K G y e) (p : Po F W σ (RD F) Q G (ixR k e c)) : (fun x y H Q => rIxL X.K x y H Q ∨ rIxT X.K x y H Q : R2) x y H Q := by
  obtain ⟨a, xs, rfl, h, q⟩ := h1
  cases h2 with
  | int i =>
    unfold ixR at p
    cases e2 : atI k.2 i with
    | none => simp only [e2] at p; exact p.elim
    | some d =>
      simp only [e2] at p
      obtain ⟨v, ev, qv⟩ := atI_dp q e2
      rcases rr_or hK r.sub h with h | h
      · exact .inl ⟨a, xs, i, v, rfl, rfl, h, ev, po_ret r p qv⟩
      · exact .inr ⟨a, xs, i, v, rfl, rfl, h, ev, po_ret r p qv⟩
  | _ => exact p.elim
theorem ix_lt : IxR X (fun x y H Q => rIxL X.K x y H Q ∨ rIxT X.K x y H Q) := ix_list.or ix_tup
/-- d[k] of a datum -/
def ixD (a b : M Dat) : M Dat := M.bind a fun x => M.bind b fun y => M.bind (rowOf x) fun k => ixR k y
theorem e_ix {a b : Expr} {ma mb : M Dat} {pos : Pos} (hK : F.K = X.K) (ha : PE X a (E F W ma)) (hb : PE X b (E F W mb)) (hs : PlainIx b := by intro _ _; rfl) : PE X (.Subscript a b pos) (E F W (ixD ma mb)) :=
  (pe_ix ix_lt ha hb hs).mono fun σ H Q h => sx_mono (sx_bind2 h) fun x H1 h1 => sx_mono h1 fun y H2 ⟨d, e, G2, c2, r2, q1, q2, p⟩ => by
    obtain ⟨k, z1, z2, z3⟩ := row_dp (W := W) r2 q1 p
    exact hf_ix hK r2 z1 q2 z3
theorem rowOf_at {G : Hp} {c c' : Cfg} {v : V} {d : Dat} {k : Row} (r : Rel F G c σ H) (q : Rp F.K G v d) (e : rowOf d c = .ok k c') : c' = c ∧ RR F σ G H c v k := by
  cases q with
  | lst h q2 => cases e; exact ⟨rfl, _, _, rfl, r.sub _ _ h, q2⟩
  | tup h q2 => cases e; exact ⟨rfl, _, _, rfl, h, q2⟩
  | _ => cases e
theorem rowVar_at {G : Hp} {c c' : Cfg} {i : Nat} {k : Row} (r : Rel F G c σ H) (e : rowVar i c = .ok k c') : c' = c ∧ ∃ v, σ[i]? = some (some v) ∧ RR F σ G H c v k := by
  unfold rowVar at e
  cases es : c.r[i]? with
  | none => rw [es] at e; cases e
  | some s =>
    rw [es] at e
    cases s with
    | sh d =>
      obtain ⟨v, e2, q⟩ := r.sl i _ es
      obtain ⟨e3, q3⟩ := rowOf_at r q e
      exact ⟨e3, v, e2, q3⟩
    | no => cases e
    | own l =>
      obtain ⟨a, xs, e2, h1, h2, h3, h4⟩ := r.sl i _ es
      cases e
      exact ⟨rfl, _, e2, a, xs, rfl, h1, h3⟩
    | io l =>
      obtain ⟨xs, e2, h1, h2, h3, h4⟩ := r.sl i _ es
      cases e
      exact ⟨rfl, _, e2, _, xs, rfl, h1, h3⟩
    | st => cases e
    | fn _ => cases e
theorem rowVar_no {i : Nat} {c c' : Cfg} {k : Nat} {d : Dat} : rowVar i c ≠ .exc k d c' := fun e => by
  unfold rowVar at e
  cases es : c.r[i]? with
  | none => rw [es] at e; cases e
  | some s =>
    rw [es] at e
    cases s with
    | sh d => cases d <;> cases e
    | no => cases e
    | own l => cases e
    | io l => cases e
    | st => cases e
    | fn _ => cases e
/-- x[k] of a slot's row, as it stands behind k -/
def ixV (i : Nat) (b : M Dat) : M Dat := M.bind (rowVar i) fun _ => M.bind b fun y => M.bind (rowVar i) fun k => ixR k y
/-- a slot's row, then the rest -/
theorem po_rowVar {γ δ : Type} {R : L2.St → Hp → Hp → Cfg → δ → γ → Prop} {Q : δ → Hp → Prop} {G : Hp} {c : Cfg} {i : Nat} {f : Row → M γ} (r : Rel F G c σ H) (p : Po F W σ R Q G (M.bind (rowVar i) f c)) :
    ∃ k v, σ[i]? = some (some v) ∧ RR F σ G H c v k ∧ Po F W σ R Q G (f k c) := by
  unfold M.bind at p
  cases e : rowVar i c with
  | ok k c' =>
    rw [e] at p
    obtain ⟨rfl, v, e2, q⟩ := rowVar_at r e
    exact ⟨k, v, e2, q, p⟩
  | exc k d c' => exact absurd e rowVar_no
  | bad => rw [e] at p; exact p.elim
theorem e_ixV {i : Nat} {x : Str} {b : Expr} {mb : M Dat} {p pos : Pos} (hK : F.K = X.K) (hN : X.N[i]? = some x) (hv : Vis X.env.scope x) (hd : (x == ("__debug__" : Str)) = false) (hcd : (x == ("__classdict__" : Str)) = false) (hb : PE X b (E F W mb)) (hs : PlainIx b := by intro _ _; rfl) :
    PE X (.Subscript (.Name x p) b pos) (E F W (ixV i mb)) :=
  (pe_ix ix_lt (pe_var hN hv hd hcd) hb hs).mono fun σ H Q ⟨G, c, r, p⟩ => by
    obtain ⟨_, v, e2, _, p⟩ := po_rowVar r p
    refine ⟨v, e2, sx_mono (po_bind (R1 := RD F) r p) fun y H2 ⟨k, G2, c2, r2, s2, q2, p2⟩ => ?_⟩
    obtain ⟨k2, v2, e3, q3, p3⟩ := po_rowVar r2 p2
    rw [e2] at e3
    cases e3
    exact hf_ix hK r2 q3 q2 p3

/-! ### slices -/
/-- xs[lo:hi] -/
def cutL (xs : List Dat) (lo hi : Option Int) : List Dat := (xs.drop (HT.sIx xs.length 0 lo)).take (HT.sIx xs.length xs.length hi - HT.sIx xs.length 0 lo)
theorem dpAll_take {K : PySem.W.Frag} {G : Hp} : ∀ {vs : List V} {ds : List Dat} (n : Nat), RpA K G vs ds → RpA K G (vs.take n) (ds.take n)
  | _, _, 0, _ => .nil
  | _, _, _ + 1, .nil => .nil
  | _, _, n + 1, .cons h t => .cons h (dpAll_take n t)
theorem dpAll_drop {K : PySem.W.Frag} {G : Hp} : ∀ {vs : List V} {ds : List Dat} (n : Nat), RpA K G vs ds → RpA K G (vs.drop n) (ds.drop n)
  | _, _, 0, h => h
  | _, _, _ + 1, .nil => .nil
  | _, _, n + 1, .cons _ t => dpAll_drop n t
theorem cut_dp {K : PySem.W.Frag} {G : Hp} {vs : List V} {ds : List Dat} (lo hi : Option Int) (q : RpA K G vs ds) : RpA K G (cutV vs lo hi) (cutL ds lo hi) := by
  unfold cutV cutL
  rw [dpAll_len q]
  exact dpAll_take _ (dpAll_drop _ q)
end
end Pn

namespace Pn
open L2 PyProof.Rows PySem.Spec PySem

/-! ### statements -/
inductive Ctl where
  | nx | rt (v : RV) | bk | ct
section
variable {F : Fr} {W : L2.WX} {σ : L2.St} {H : Hp} {X : Cx} {D : Ends}
def Ps (F : Fr) (W : L2.WX) (D : Ends) (G : Hp) : Res Ctl → Prop
  | .ok .nx c' => ∀ σ' G' H', Rel F G' c' σ' H' → Same G G' → D.nx σ' H'
  | .ok (.rt v) c' => ∀ x σ' G' H', Rel F G' c' σ' H' → RX F σ' G' H' c' x v → D.rt x H'
  | .ok .bk c' => ∀ σ' G' H', Rel F G' c' σ' H' → Same G G' → D.bk σ' H'
  | .ok .ct c' => ∀ σ' G' H', Rel F G' c' σ' H' → Same G G' → D.ct σ' H'
  | .exc k d c' => ∀ ad v σ' G' H', Rel F G' c' σ' H' → H' ad = some (.xd [(F.C.fld k, v)]) → Rp F.K G' v d → W (F.C.at_ k) (some ad) σ' H'
  | .bad => False
def T (F : Fr) (W : L2.WX) (m : M Ctl) : TS := fun D σ H => ∃ G c, Rel F G c σ H ∧ Ps F W D G (m c)
theorem Ps.up {G G' : Hp} {r : Res Ctl} (s : Same G G') (p : Ps F W D G r) : Ps F W D G' r := by
  cases r with
  | ok a c =>
    cases a with
    | nx => exact fun σ' G2 H' r2 s2 => p σ' G2 H' r2 (s.trans s2)
    | rt v => exact p
    | bk => exact fun σ' G2 H' r2 s2 => p σ' G2 H' r2 (s.trans s2)
    | ct => exact fun σ' G2 H' r2 s2 => p σ' G2 H' r2 (s.trans s2)
  | exc k d c => exact p
  | bad => exact p
theorem ps_bind {α β : Type} {R1 : L2.St → Hp → Hp → Cfg → β → α → Prop} {m : M α} {f : α → M Ctl} {G : Hp} {c : Cfg} (r : Rel F G c σ H) (p : Ps F W D G (M.bind m f c)) :
    Sx F W R1 m σ H (fun x H1 => ∃ a G1 c1, Rel F G1 c1 σ H1 ∧ Same G G1 ∧ R1 σ G1 H1 c1 x a ∧ Ps F W D G1 (f a c1)) := by
  refine ⟨G, c, r, ?_⟩
  unfold M.bind at p
  cases e : m c with
  | ok a c' =>
    rw [e] at p
    exact fun v G' H' r' s' q => ⟨a, G', c', r', s', q, p.up s'⟩
  | exc k d c' =>
    rw [e] at p
    exact fun ad v G' H' r' _ h q => p ad v σ G' H' r' h q
  | bad =>
    rw [e] at p
    exact p
/-- one statement, then the others -/
def seq (a b : M Ctl) : M Ctl := fun c => match a c with
  | .ok .nx c' => b c'
  | r => r
theorem ss_cons {st : Stmt} {rest : List Stmt} {m n : M Ctl} (h : PS X st (T F W m)) (k : PSs X rest (T F W n)) : PSs X (st :: rest) (T F W (seq m n)) :=
  (pss_cons h k).mono fun D σ H ⟨G, c, r, p⟩ => by
    refine ⟨G, c, r, ?_⟩
    unfold seq at p
    cases e : m c with
    | ok a c' =>
      rw [e] at p
      cases a with
      | nx => exact fun σ' G' H' r' s' => ⟨G', c', r', p.up s'⟩
      | rt v => exact p
      | bk => exact p
      | ct => exact p
    | exc k d c' => rw [e] at p; exact p
    | bad => rw [e] at p; exact p
theorem ss_one {st : Stmt} {m : M Ctl} (h : PS X st (T F W m)) : PSs X [st] (T F W m) := pss_one h
theorem ss_nil : PSs X [] (T F W (ret .nx)) := pss_nil.mono fun D σ H ⟨G, c, r, p⟩ => p σ G H r (Same.refl _)
def retS (m : M RV) : M Ctl := M.bind m fun v => ret (.rt v)
theorem s_ret {e : Expr} {m : M RV} {pos} (h : PE X e (EX F W m)) : PS X (.Return (some e) pos) (T F W (retS m)) :=
  (ps_ret h).mono fun D σ H ⟨G, c, r, p⟩ => sx_mono (ps_bind (R1 := RX F) r p) fun x H1 ⟨a, G1, c1, r1, s1, q, p1⟩ => p1 x σ G1 H1 r1 q
/-- return x, x a slot that holds a list of its own: it goes out -/
def outV (i : Nat) : M RV := fun c => match c.r[i]? with
  | some (.sh d) => .ok (.sh d) c
  | some (.own l) => .ok (.fr l) { c with r := c.r.set i .no }
  | _ => .bad
theorem get_set {α : Type} {l : List α} {i j : Nat} {a b : α} (h : (l.set i a)[j]? = some b) : (i = j ∧ b = a ∧ i < l.length) ∨ (i ≠ j ∧ l[j]? = some b) := by
  by_cases hj : i = j
  · subst hj
    have hl : i < l.length := by
      have z := (List.getElem?_eq_some_iff.mp h).1
      rw [List.length_set] at z
      exact z
    rw [List.getElem?_set_self hl] at h
    cases h
    exact .inl ⟨rfl, rfl, hl⟩
  · rw [List.getElem?_set_ne hj] at h
    exact .inr ⟨hj, h⟩
theorem Rel.drop {G : Hp} {c : Cfg} {i : Nat} (r : Rel F G c σ H) : Rel F G { c with r := c.r.set i .no } σ H :=
  { sub := r.sub, g0 := r.g0, fresh := r.fresh, keep := r.keep, len := by rw [← r.len]; exact List.length_set, mu0 := r.mu0, st0 := r.st0, dom := r.dom, st := r.st, pin := r.pin, tabs := r.tabs
    sl := fun j s e => by
      rcases get_set e with ⟨_, rfl, _⟩ | ⟨_, e⟩
      · trivial
      · exact r.sl j s e
    inj := fun j k l l' e1 e2 => by
      rcases get_set e1 with ⟨_, z, _⟩ | ⟨_, e1⟩
      · cases z
      · rcases get_set e2 with ⟨_, z, _⟩ | ⟨_, e2⟩
        · cases z
        · exact r.inj j k l l' e1 e2
    ioj := fun j k l l' e1 e2 => by
      rcases get_set e1 with ⟨_, z, _⟩ | ⟨_, e1⟩
      · cases z
      · rcases get_set e2 with ⟨_, z, _⟩ | ⟨_, e2⟩
        · cases z
        · exact r.ioj j k l l' e1 e2 }
theorem e_out {i : Nat} {x : Str} {pos : Pos} (hN : X.N[i]? = some x) (hv : Vis X.env.scope x) (hd : (x == ("__debug__" : Str)) = false) (hcd : (x == ("__classdict__" : Str)) = false) : PE X (.Name x pos) (EX F W (outV i)) :=
  (pe_var hN hv hd hcd).mono fun σ H Q ⟨G, c, r, p⟩ => by
    unfold outV at p
    cases e : c.r[i]? with
    | none => rw [e] at p; exact p.elim
    | some s =>
      rw [e] at p
      cases s with
      | sh d =>
        obtain ⟨v, e2, q⟩ := r.sl i _ e
        exact ⟨v, e2, po_ret r p q⟩
      | no => exact p.elim
      | own l =>
        obtain ⟨a, xs, e2, h1, h2, h3, h4, h5⟩ := r.sl i _ e
        refine ⟨_, e2, p _ G H r.drop (Same.refl _) ⟨a, rfl, xs, h1, h3, h2, h4, fun j l' e5 e6 => ?_, h5⟩⟩
        rcases get_set e5 with ⟨_, z, _⟩ | ⟨n1, e5⟩
        · cases z
        · exact n1 (r.inj i j l l' e e5 (e2.trans e6.symm))
      | io l => exact p.elim
      | st => exact p.elim
      | fn _ => exact p.elim
/-- a value goes into a slot -/
def slOf : RV → Sl
  | .sh d => .sh d
  | .fr l => .own l
def asg (i : Nat) (v : RV) : M Ctl := fun c => match c.r[i]? with
  | some (.io _) => .bad
  | some .st => .bad
  | some (.fn _) => .bad
  | none => .bad
  | some _ => .ok .nx { c with r := c.r.set i (slOf v) }
theorem Rel.put {G : Hp} {c : Cfg} {i : Nat} {x : V} {v : RV} (r : Rel F G c σ H) (q : RX F σ G H c x v) : Rel F G { c with r := c.r.set i (slOf v) } (σ.set i (some x)) H :=
  { sub := r.sub, g0 := r.g0, fresh := r.fresh, keep := r.keep, len := by simp only [List.length_set]; exact r.len, mu0 := r.mu0, st0 := r.st0, dom := r.dom, st := r.st, pin := r.pin, tabs := r.tabs
    sl := fun j s e => by
      rcases get_set e with ⟨rfl, rfl, hl⟩ | ⟨hj, e⟩
      · have hs : (σ.set i (some x))[i]? = some (some x) := by
          rw [List.getElem?_set_self (by rw [← r.len]; exact hl)]
        rw [hs]
        cases v with
        | sh d => exact ⟨x, rfl, q⟩
        | fr l =>
          obtain ⟨p, rfl, xs, h1, h2, h3, h4, _, h5⟩ := q
          exact ⟨p, xs, rfl, h1, h3, h2, h4, h5⟩
      · rw [List.getElem?_set_ne hj]
        exact r.sl j s e
    inj := fun j k l l' e1 e2 e3 => by
      rcases get_set e1 with ⟨h1, h2, h3⟩ | ⟨h1, h2⟩
      · rcases get_set e2 with ⟨k1, k2, k3⟩ | ⟨k1, k2⟩
        · exact h1.symm.trans k1
        · exfalso
          subst h1
          rw [List.getElem?_set_self (by rw [← r.len]; exact h3), List.getElem?_set_ne k1] at e3
          cases v with
          | sh d => cases h2
          | fr l2 =>
            obtain ⟨p, rfl, xs, _, _, _, _, hno, _⟩ := q
            exact hno k _ k2 e3.symm
      · rcases get_set e2 with ⟨k1, k2, k3⟩ | ⟨k1, k2⟩
        · exfalso
          subst k1
          rw [List.getElem?_set_self (by rw [← r.len]; exact k3), List.getElem?_set_ne h1] at e3
          cases v with
          | sh d => cases k2
          | fr l2 =>
            obtain ⟨p, rfl, xs, _, _, _, _, hno, _⟩ := q
            exact hno j _ h2 e3
        · rw [List.getElem?_set_ne h1, List.getElem?_set_ne k1] at e3
          exact r.inj j k l l' h2 k2 e3
    ioj := fun j k l l' e1 e2 => by
      rcases get_set e1 with ⟨h1, h2, h3⟩ | ⟨h1, h2⟩
      · cases v <;> cases h2
      · rcases get_set e2 with ⟨k1, k2, k3⟩ | ⟨k1, k2⟩
        · cases v <;> cases k2
        · exact r.ioj j k l l' h2 k2 }
theorem ps_asg_ok {G : Hp} {c : Cfg} {i : Nat} {x : V} {v : RV} (r : Rel F G c σ H) (q : RX F σ G H c x v) (p : Ps F W D G (asg i v c)) : D.nx (σ.set i (some x)) H := by
  unfold asg at p
  cases e : c.r[i]? with
  | none => rw [e] at p; exact p.elim
  | some s =>
    rw [e] at p
    cases s with
    | io l => exact p.elim
    | st => exact p.elim
    | fn _ => exact p.elim
    | no => exact p _ G H (r.put q) (Same.refl _)
    | sh d => exact p _ G H (r.put q) (Same.refl _)
    | own l => exact p _ G H (r.put q) (Same.refl _)
theorem s_asg {i : Nat} {x : Str} {e : Expr} {m : M RV} {pos pos' : Pos} (hN : X.N.Nodup) (hi : X.N[i]? = some x) (hx : Loc X.env.scope x) (h : PE X e (EX F W m)) (hs : swapsWith e (some (.Name x pos')) pos.line X.env = pure false := by rfl)
    (hf : X.fn x = true ∨ X.env.scope.names.lookup x = some .local := by first | exact .inl rfl | exact .inr rfl) : PS X (.Assign [.Name x pos'] e pos) (T F W (M.bind m (asg i))) :=
  (ps_set hN hi hx h hs hf).mono fun D σ H ⟨G, c, r, p⟩ => sx_mono (ps_bind (R1 := RX F) r p) fun x H1 ⟨a, G1, c1, r1, s1, q, p1⟩ => ps_asg_ok r1 q p1
def ifS (c : M Bool) (a b : M Ctl) : M Ctl := M.bind c fun k => if k = true then a else b
theorem s_if {c : Expr} {a b : List Stmt} {mc : M Bool} {ma mb : M Ctl} {pos} (hc : PT X c (B F W mc)) (ha : PSs X a (T F W ma)) (hb : PSs X b (T F W mb)) : PS X (.If c a b pos) (T F W (ifS mc ma mb)) :=
  (ps_if hc ha hb).mono fun D σ H ⟨G, c, r, p⟩ => sx_mono (ps_bind (R1 := RB) r p) fun x H1 ⟨a, G1, c1, r1, s1, q, p1⟩ => by
    cases q
    by_cases hx : x = true
    · rw [if_pos hx] at p1 ⊢
      exact ⟨G1, c1, r1, p1⟩
    · rw [if_neg hx] at p1 ⊢
      exact ⟨G1, c1, r1, p1⟩
def dropS {α : Type} (m : M α) : M Ctl := M.bind m fun _ => ret .nx
theorem s_expr {α : Type} {R : L2.St → Hp → Hp → Cfg → V → α → Prop} {e : Expr} {m : M α} {pos} (h : PE X e (Sx F W R m)) (hs : swapsWith e none pos.line X.env = pure false := by rfl) : PS X (.Expr e pos) (T F W (dropS m)) :=
  (ps_expr h hs).mono fun D σ H ⟨G, c, r, p⟩ => sx_mono (ps_bind (R1 := R) r p) fun x H1 ⟨a, G1, c1, r1, s1, q, p1⟩ => p1 σ G1 H1 r1 (Same.refl _)
end
end Pn

set_option maxHeartbeats 1000001
namespace Pn
open L2 PyProof.Rows PySem.Spec PySem

/-! ### what a def of data promises -/
inductive PR where
  | ok (v : RV) | exc (k : Nat) (d : Dat) | bad
structure After (G H G' H' : Hp) : Prop where
  g : Same G G'
  sub : Same G' H'
  h : Same H H'
  new : ∀ b, G' b ≠ none → G b ≠ none ∨ H b = none
def Ret (K : PySem.W.Frag) (H G' H' : Hp) (x : V) : RV → Prop
  | .sh d => Rp K G' x d
  | .fr l => ∃ p xs, x = .ref p ∧ H' p = some (.lst xs) ∧ RpA K G' xs l ∧ G' p = none ∧ H p = none
def spP (K : PySem.W.Frag) (C : Cls) (n : Nat) (f : List Dat → PR) : Sp := fun vs H Q E => ∃ G ds, Same G H ∧ RpA K G vs ds ∧ ds.length = n ∧ match f ds with
  | .ok v => ∀ x G' H', After G H G' H' → Ret K H G' H' x v → Q x H'
  | .exc k d => ∀ ad v G' H', After G H G' H' → H' ad = some (.xd [(C.fld k, v)]) → Rp K G' v d → E (C.at_ k) (some ad) H'
  | .bad => False
def initR (n : Nat) (ds : List Dat) : List Sl := ds.map Sl.sh ++ List.replicate (n - ds.length) Sl.no
/-- a body run: n slots -/
def runP (n : Nat) (m : M Ctl) (ds : List Dat) : PR := match m ⟨initR n ds, ⟨[], [], 0⟩⟩ with
  | .ok .nx _ => .ok (.sh .none)
  | .ok (.rt v) _ => .ok v
  | .ok _ _ => .bad
  | .exc k d _ => .exc k d
  | .bad => .bad
def frP (K : PySem.W.Frag) (C : Cls) (G H : Hp) : Fr := ⟨K, C, 0, 0, 0, false, fun _ => 0, [], G, H, [], []⟩
section
variable {F : Fr} {W : L2.WX} {σ : L2.St} {H : Hp} {X : Cx} {D : Ends}
theorem Rel.after {G : Hp} {c : Cfg} {G' H' : Hp} (r : Rel F G c σ H) (a : After G H G' H') : Rel F G' c σ H' := by
  have hn : ∀ (b : Addr) (o : HO), H b = some o → G b = none → G' b = none := fun b o e1 e2 => by
    cases e : G' b with
    | none => rfl
    | some u =>
      rcases a.new b (by rw [e]; simp) with z | z
      · exact absurd e2 z
      · rw [z] at e1
        cases e1
  exact { tabs := r.tabs.move (fun b u e _ => a.h _ _ e) (fun b u e _ g => hn b u e g), sub := a.sub, g0 := r.g0.trans a.g, len := r.len, inj := r.inj, ioj := r.ioj, mu0 := r.mu0, st0 := r.st0
          fresh := fun b e => (a.new b e).elim (r.fresh b) fun z => .inr (r.old z)
          keep := fun b o e h1 h2 => a.h _ _ (r.keep b o e h1 h2)
          sl := fun i s e => (r.sl i s e).move a.g (fun l b xs _ _ q1 q2 _ => ⟨a.h _ _ q1, hn b _ q1 q2⟩) (fun l xs _ q1 q2 _ => ⟨a.h _ _ q1, hn _ _ q1 q2⟩)
          st := fun hu => by
            obtain ⟨h1, h2, h3, g1, g2, g3, h4⟩ := r.st hu
            exact ⟨a.h _ _ h1, a.h _ _ h2, a.h _ _ h3, hn _ _ h1 g1, hn _ _ h2 g2, hn _ _ h3 g3, h4⟩
          pin := fun b hb => by
            obtain ⟨k1, k2, k3⟩ := r.pin b hb
            exact ⟨a.h _ _ k1, hn _ _ k1 k2, k3⟩
          dom := fun b e z => by
            cases e2 : H b with
            | none => exact r.dom b e e2
            | some u =>
              rw [a.h _ _ e2] at z
              cases z }
theorem Ret.rx {G : Hp} {c : Cfg} {G' H' : Hp} {x : V} {v : RV} (r : Rel F G c σ H) (a : After G H G' H') (q : Ret F.K H G' H' x v) : RX F σ G' H' c x v := by
  cases v with
  | sh d => exact q
  | fr l =>
    obtain ⟨p, xs, e, h1, h2, h3, h4⟩ := q
    refine ⟨p, e, xs, h1, h2, h3, r.old h4, fun i l' e5 e6 => ?_, fun b hb z => ?_⟩
    · obtain ⟨b, ys, e7, e8, _⟩ := r.own_ne e5
      rw [e7] at e6
      cases e6
      rw [h4] at e8
      cases e8
    · have k1 := (r.pin b hb).1
      rw [← z, h4] at k1
      cases k1
def callP (f : List Dat → PR) (ds : List Dat) : M RV := fun c => match f ds with
  | .ok v => .ok v c
  | .exc k d => .exc k d c
  | .bad => .bad
theorem e_call {k n : Nat} {f : Addr} {fd : FuncData} {ps : List Str} {g : List Dat → PR} {x : Str} {p pos : Pos} {e : Expr} {es : List Expr} {ms : M (List Dat)} (hK : F.K = X.K) (hn : ps.length = n) (Fk : FnOk X.prog X.w X.K X.mg X.base (L2.CX X.prog X.w) k f fd ps (spP X.K F.C n g)) (hr : Room k X.A) (hg : Gl X x) (hm : X.mg x = some (.ref f)) (hk : PySem.W.keepIn X.K (.ref f) = true)
    (hb : Binds X.K fd ps []) (tk : Takes X W) (ha : PA X (e :: es) (A F W ms)) (hlen : (e :: es).length = n) (hdb : (x == ("__debug__" : Str)) = false := by decide) (he : starEach (e :: es) X.env = (false, eval e X.env) :: starEach es X.env := by rfl) (hpl : (backTo pos (starEach es X.env)).any (·.1) = false := by rfl) :
    PE X (.Call (.Name x p) (e :: es) [] pos) (EX F W (M.bind ms fun ds => if ds.length = n then callP g ds else bad)) :=
  (pe_callS Fk hr hg hm hk hb (fun σ => passAt tk σ) ha hdb he hpl).mono fun σ H Q h => sx_mono (sx_bind (R1 := RA F) h) fun vs H1 ⟨ds, G1, c1, r1, q, p⟩ => by
    by_cases hl : ds.length = n
    · rw [if_pos hl] at p
      refine ⟨G1, ds, r1.sub, hK ▸ q, hl, ?_⟩
      unfold callP at p
      cases e : g ds with
      | ok v =>
        rw [e] at p
        exact fun x G' H' a z => p x G' H' (r1.after a) a.g (Ret.rx r1 a (hK ▸ z))
      | exc k d =>
        rw [e] at p
        exact fun ad v G' H' a z1 z2 => p ad v G' H' (r1.after a) a.g z1 (hK ▸ z2)
      | bad =>
        rw [e] at p
        exact p
    · rw [if_neg hl] at p
      exact p.elim
/-! ### a def's body -/
theorem dpAll_sh {K : PySem.W.Frag} {C : Cls} {G H : Hp} : ∀ {vs : List V} {ds : List Dat} {n : Nat}, RpA K G vs ds → ∀ (i : Nat) (s : Sl), (initR n ds)[i]? = some s → SlOk (frP K C G H) G H i s ((vs.map some ++ List.replicate (n - vs.length) none)[i]?)
  | vs, ds, n, q, i, s, e => by
    unfold initR at e
    by_cases hi : i < ds.length
    · rw [List.getElem?_append_left (by rw [List.length_map]; exact hi), List.getElem?_map] at e
      cases e2 : ds[i]? with
      | none => rw [e2] at e; cases e
      | some d =>
        rw [e2] at e
        cases e
        obtain ⟨v, e3, q3⟩ := dpAll_get q e2
        refine ⟨v, ?_, q3⟩
        rw [List.getElem?_append_left (by rw [List.length_map, dpAll_len q]; exact hi), List.getElem?_map, e3]
        rfl
    · rw [List.getElem?_append_right (by rw [List.length_map]; omega)] at e
      obtain ⟨h1, h2⟩ := List.getElem?_eq_some_iff.mp e
      rw [List.getElem_replicate] at h2
      subst h2
      trivial
theorem init_no {n : Nat} {ds : List Dat} {i : Nat} {s : Sl} (e : (initR n ds)[i]? = some s) : (∃ d, s = .sh d) ∨ s = .no := by
  unfold initR at e
  have m := List.mem_of_getElem? e
  rcases List.mem_append.mp m with m | m
  · obtain ⟨d, _, z⟩ := List.mem_map.mp m
    exact .inl ⟨d, z.symm⟩
  · exact .inr (List.eq_of_mem_replicate m)
theorem rel_init {K : PySem.W.Frag} {C : Cls} {G H : Hp} {vs : List V} {ds : List Dat} {n : Nat} {N : List Str} {s : DS} (hs : Same G H) (q : RpA K G vs ds) (hN : N.length = n) (hl : ds.length ≤ n) : Rel (frP K C G H) G ⟨initR n ds, s⟩ (L2.start N vs) H :=
  { sub := hs, g0 := Same.refl _, fresh := fun b e => .inl e, keep := fun b o e _ _ => e
    len := by
      show (initR n ds).length = (vs.map some ++ List.replicate (N.length - vs.length) none).length
      unfold initR
      simp only [List.length_append, List.length_map, List.length_replicate, dpAll_len q, hN]
    sl := fun i s e => by
      have := dpAll_sh (C := C) (H := H) q i s e
      rw [← hN] at this
      exact this
    inj := fun i j l l' e1 _ _ => by
      rcases init_no e1 with ⟨d, z⟩ | z <;> cases z
    ioj := fun i j l l' e1 _ _ => by
      rcases init_no e1 with ⟨d, z⟩ | z <;> cases z
    st := fun z => nomatch z
    mu0 := fun b z => nomatch z
    st0 := fun b z => nomatch z
    dom := fun b e => e
    pin := fun b z => nomatch z
    tabs := fun b z => nomatch z }
theorem Rel.aft {K : PySem.W.Frag} {C : Cls} {G0 H0 G H : Hp} {c : Cfg} (r : Rel (frP K C G0 H0) G c σ H) : After G0 H0 G H :=
  ⟨r.g0, r.sub, fun b o e => r.keep b o e (by intro z; cases z) (by intro z; cases z), r.fresh⟩
theorem fn_pure {P : Program} {w : World} {K : PySem.W.Frag} {mg : Str → Option Value} {base : Heap} {x qual : Str} {st : Stmt} {f : Addr} {fd : FuncData} {N ps : List Str} {k : Nat} {C : Cls} {m : M Ctl} (Fn : Fun K x qual st f fd) (S : FnScope N ps (defScope st)) (hps : ps.length ≤ N.length)
    (hb : ∀ (G0 H0 : Hp) (cdv : Value) (A : Around) (outer : List Env) (s : Shared) (E : XK), Room k (A.deeper (envOfC qual (defScope st) s.heap.objs.size f cdv)) →
      PSs (cxOf (L2.CX P w) P w K mg base N qual (defScope st) f cdv A outer s H0 E) (defBody st) (T (frP K C G0 H0) (fun cls d _ H => E cls d H) m)) :
    FnOk P w K mg base (L2.CX P w) (k + 1) f fd ps (spP K C ps.length (runP N.length m)) := by
  refine Fn.okX S (fun vs H Q E h => ?_) (fun cdv A outer s H vs Q E hr h => ?_)
  · obtain ⟨G, ds, _, q, hl, _⟩ := h
    rw [dpAll_len q, hl]
  · obtain ⟨G, ds, hs, q, hl, z⟩ := h
    refine ⟨_, hb G H cdv A outer s E hr, G, ⟨initR N.length ds, ⟨[], [], 0⟩⟩, rel_init hs q rfl (by rw [hl]; exact hps), ?_⟩
    unfold runP at z
    cases e : m ⟨initR N.length ds, ⟨[], [], 0⟩⟩ with
    | ok a c =>
      rw [e] at z
      cases a with
      | nx => exact fun σ' G' H' r' _ => z .non G' H' r'.aft .non
      | rt v => exact fun x σ' G' H' r' q' => z x G' H' r'.aft (by
          cases v with
          | sh d => exact q'
          | fr l =>
            obtain ⟨p, e1, xs, h1, h2, h3, h4, _⟩ := q'
            exact ⟨p, xs, e1, h1, h2, h3, h4⟩)
      | bk => exact z.elim
      | ct => exact z.elim
    | exc j d c =>
      rw [e] at z
      exact fun ad v σ' G' H' r' h1 h2 => z ad v G' H' r'.aft h1 h2
    | bad =>
      rw [e] at z
      exact z
end
end Pn

set_option maxHeartbeats 1000001
namespace Pn
open L2 PyProof.Rows PySem.Spec PySem

/-! ### targets -/
def put (i : Nat) (d : Dat) (c : Cfg) : Option Cfg := match c.r[i]? with
  | some (.io _) => none
  | some .st => none
  | some (.fn _) => none
  | none => none
  | some _ => some { c with r := c.r.set i (.sh d) }
section
variable {F : Fr} {W : L2.WX} {σ : L2.St} {H : Hp} {X : Cx} {D : Ends}
theorem wipe_set {x : Option V} : ∀ {vs : List Nat} {σ : L2.St} {i : Nat}, i ∈ vs → wipe (σ.set i x) vs = wipe σ vs := by
  have out : ∀ (vs : List Nat) (σ : L2.St) (i : Nat) (x : Option V), (wipe (σ.set i x) vs).set i none = (wipe σ vs).set i none := by
    intro vs
    induction vs with
    | nil => intro σ i x; show ((σ.set i x).set i none) = σ.set i none; rw [List.set_set]
    | cons v vs ih =>
      intro σ i x
      show ((wipe (σ.set i x) vs).set v none).set i none = ((wipe σ vs).set v none).set i none
      by_cases h : v = i
      · subst h
        rw [List.set_set, List.set_set, ih]
      · rw [List.set_comm _ _ h, ih, List.set_comm _ _ h]
  intro vs
  induction vs with
  | nil => intro σ i h; cases h
  | cons v vs ih =>
    intro σ i h
    show (wipe (σ.set i x) vs).set v none = (wipe σ vs).set v none
    by_cases e : i = v
    · subst e
      exact out vs σ i x
    · rw [ih ((List.mem_cons.mp h).resolve_left e)]
/-- a target of assignments: the slots that it stores, what it makes of a datum -/
def GOk (F : Fr) (g : TG) (is : List Nat) (b : Dat → Cfg → Option Cfg) : Prop := ∀ (G : Hp) (c c' : Cfg) (σ : L2.St) (H : Hp) (x : V) (d : Dat) (Q : L2.St → Hp → Prop), Rel F G c σ H → Rp F.K G x d → b d c = some c' →
  (∀ σ2, Rel F G c' σ2 H → (∀ vs : List Nat, (∀ i ∈ is, i ∈ vs) → wipe σ2 vs = wipe σ vs) → Q σ2 H) → g x σ H Q
def GsOk (F : Fr) (g : TGs) (is : List Nat) (b : List Dat → Cfg → Option Cfg) : Prop := ∀ (G : Hp) (c c' : Cfg) (σ : L2.St) (H : Hp) (xs : List V) (ds : List Dat) (Q : L2.St → Hp → Prop), Rel F G c σ H → RpA F.K G xs ds → b ds c = some c' →
  (∀ σ2, Rel F G c' σ2 H → (∀ vs : List Nat, (∀ i ∈ is, i ∈ vs) → wipe σ2 vs = wipe σ vs) → Q σ2 H) → g xs σ H Q
def Tgt (X : Cx) (F : Fr) (tg : Expr) (is : List Nat) (b : Dat → Cfg → Option Cfg) : Prop := ∃ g, PG X tg g ∧ GOk F g is b
def TgtS (X : Cx) (F : Fr) (ts : List Expr) (is : List Nat) (b : List Dat → Cfg → Option Cfg) : Prop := ∃ g, PGs X ts g ∧ GsOk F g is b
theorem put_rel {G : Hp} {c c' : Cfg} {i : Nat} {x : V} {d : Dat} (r : Rel F G c σ H) (q : Rp F.K G x d) (e : put i d c = some c') : Rel F G c' (σ.set i (some x)) H := by
  unfold put at e
  cases es : c.r[i]? with
  | none => rw [es] at e; cases e
  | some s =>
    rw [es] at e
    cases s with
    | io l => cases e
    | st => cases e
    | fn _ => cases e
    | no => cases e; exact r.put (v := .sh d) q
    | sh d2 => cases e; exact r.put (v := .sh d) q
    | own l => cases e; exact r.put (v := .sh d) q
theorem gok_name {i : Nat} : GOk F (gName i) [i] (put i) := fun G c c' σ H x d Q r q e k => k _ (put_rel r q e) fun vs hv => wipe_set (hv i (by simp))
theorem tg_name {i : Nat} {x : Str} {pos : Pos} (hN : X.N.Nodup) (hi : X.N[i]? = some x) (hx : Loc X.env.scope x) (hf : X.fn x = true ∨ X.env.scope.names.lookup x = some .local) : Tgt X F (.Name x pos) [i] (put i) :=
  ⟨gName i, pg_name hN hi hx hf, gok_name⟩
def putNil : List Dat → Cfg → Option Cfg := fun ds c => match ds with
  | [] => some c
  | _ => none
def putCons (b : Dat → Cfg → Option Cfg) (r : List Dat → Cfg → Option Cfg) : List Dat → Cfg → Option Cfg := fun ds c => match ds with
  | d :: ds => (b d c).bind fun c1 => r ds c1
  | _ => none
def putTup (n : Nat) (r : List Dat → Cfg → Option Cfg) : Dat → Cfg → Option Cfg := fun d c => match d with
  | .tuple l => if l.length = n then r l c else none
  | _ => none
theorem gsok_nil : GsOk F gNil [] putNil := fun G c c' σ H xs ds Q r q e k => by
  cases q with
  | nil =>
    cases e
    exact ⟨rfl, k σ r fun vs _ => rfl⟩
  | cons _ _ => cases e
theorem gsok_cons {g : TG} {g2 : TGs} {is js : List Nat} {b : Dat → Cfg → Option Cfg} {r : List Dat → Cfg → Option Cfg} (k : GOk F g is b) (k2 : GsOk F g2 js r) : GsOk F (gCons g g2) (is ++ js) (putCons b r) := fun G c c' σ H xs ds Q rl q e z => by
  cases q with
  | nil => cases e
  | @cons v vs d ds q1 q2 =>
    simp only [putCons] at e
    cases e1 : b d c with
    | none => rw [e1] at e; cases e
    | some c1 =>
      rw [e1] at e
      refine ⟨v, vs, rfl, k G c c1 σ H v d _ rl q1 e1 fun σ1 r1 w1 => ?_⟩
      exact k2 G c1 c' σ1 H vs ds _ r1 q2 e fun σ2 r2 w2 => z σ2 r2 fun vs hv => (w2 vs fun i hi => hv i (List.mem_append_right _ hi)).trans (w1 vs fun i hi => hv i (List.mem_append_left _ hi))
theorem gok_tup {K : PySem.W.Frag} {g : TGs} {n : Nat} {is : List Nat} {r : List Dat → Cfg → Option Cfg} (hK : F.K = K) (z : GsOk F g is r) : GOk F (gTup K n g) is (putTup n r) := fun G c c' σ H x d Q rl q e k => by
  cases q with
  | tup h q =>
    simp only [putTup] at e
    split at e
    · rename_i hl
      exact ⟨_, _, rfl, hK ▸ sqT_mono rl.sub h, (dpAll_len q).trans hl, z G c c' σ H _ _ Q rl q e k⟩
    · cases e
  | _ => cases e
theorem tgs_nil : TgtS X F [] [] putNil := ⟨gNil, pgs_nil, gsok_nil⟩
theorem tgs_cons {t : Expr} {ts : List Expr} {is js : List Nat} {b : Dat → Cfg → Option Cfg} {r : List Dat → Cfg → Option Cfg} (h1 : Tgt X F t is b) (h2 : TgtS X F ts js r)
    (hs : (assignEach (t :: ts) X.env).map (·.2) = assign t X.env :: (assignEach ts X.env).map (·.2) := by rfl) : TgtS X F (t :: ts) (is ++ js) (putCons b r) := by
  obtain ⟨g, p, k⟩ := h1
  obtain ⟨g2, p2, k2⟩ := h2
  exact ⟨gCons g g2, pgs_cons p p2 hs, gsok_cons k k2⟩
theorem tg_tup {ts : List Expr} {k n : Nat} {pos : Pos} {is : List Nat} {r : List Dat → Cfg → Option Cfg} (hK : F.K = X.K) (hc : X.calm = true) (h : TgtS X F ts is r) (hn : (assignEach ts X.env).length = n := by rfl) (hst : (assignEach ts X.env).findIdx? (·.1) = none := by rfl) : Tgt X F (.Tuple ts k pos) is (putTup n r) := by
  obtain ⟨g, p, z⟩ := h
  exact ⟨gTup X.K n g, pg_tup hc p hn hst, gok_tup hK z⟩

/-! ### what is walked -/
def Src (K : PySem.W.Frag) (G : Hp) (J : It) (items : List Dat) : Prop := ∀ (F : Fr) (G' : Hp) (c : Cfg) (σ : L2.St) (H : Hp), F.K = K → Same G G' → Rel F G' c σ H →
  J.stop items.length H ∧ ∀ (i : Nat) (d : Dat), items[i]? = some d → J.go i H ∧ ∀ x H', J.yld i H x H' → ∃ G'', Rel F G'' c σ H' ∧ Same G' G'' ∧ Rp K G'' x d
theorem Src.up {K : PySem.W.Frag} {G G' : Hp} {J : It} {items : List Dat} (s : Same G G') (h : Src K G J items) : Src K G' J items := fun F G2 c σ H e s2 r => h F G2 c σ H e (s.trans s2) r
theorem src_list {K : PySem.W.Frag} {G : Hp} {a : Addr} {xs : List V} {items : List Dat} (h : G a = some (.lst xs)) (q : RpA K G xs items) : Src K G (Itl K a) items := fun F G' c σ H e s r => by
  have hq : SqL K H a xs := Evl.sq_of (r.sub _ _ (s _ _ h))
  refine ⟨⟨xs, hq, Nat.le_of_eq (dpAll_len q)⟩, fun i d ed => ?_⟩
  obtain ⟨v, ev, qv⟩ := dpAll_get q ed
  refine ⟨⟨xs, v, hq, ev⟩, fun x H' ⟨e1, e2⟩ => ?_⟩
  subst e1
  have := (e2 xs hq).symm.trans ev
  cases this
  exact ⟨G', r, Same.refl _, dp_mono s qv⟩
theorem src_tup {K : PySem.W.Frag} {G : Hp} {a : Addr} {xs : List V} {items : List Dat} (h : SqT K G a xs) (q : RpA K G xs items) : Src K G (Itt K a) items := fun F G' c σ H e s r => by
  have hq : SqT K H a xs := sqT_mono (s.trans r.sub) h
  refine ⟨⟨xs, hq, Nat.le_of_eq (dpAll_len q)⟩, fun i d ed => ?_⟩
  obtain ⟨v, ev, qv⟩ := dpAll_get q ed
  refine ⟨⟨xs, v, hq, ev⟩, fun x H' ⟨e1, e2⟩ => ?_⟩
  subst e1
  have := (e2 xs hq).symm.trans ev
  cases this
  exact ⟨G', r, Same.refl _, dp_mono s qv⟩
def numL (lo : Int) (n : Nat) : List Dat := (List.range n).map fun i : Nat => PyData.int (lo + (i : Int))
theorem numL_get {lo : Int} {n i : Nat} {d : Dat} (e : (numL lo n)[i]? = some d) : i < n ∧ d = .int (lo + i) := by
  unfold numL at e
  rw [List.getElem?_map] at e
  cases e2 : (List.range n)[i]? with
  | none => rw [e2] at e; cases e
  | some j =>
    rw [e2] at e
    cases e
    obtain ⟨h1, h2⟩ := List.getElem?_eq_some_iff.mp e2
    rw [List.getElem_range] at h2
    subst h2
    rw [List.length_range] at h1
    exact ⟨h1, rfl⟩
theorem src_range {K : PySem.W.Frag} {G : Hp} {lo : Int} {n : Nat} : Src K G (Itr lo n) (numL lo n) := fun F G' c σ H e s r => by
  refine ⟨by show n ≤ _; unfold numL; simp, fun i d ed => ?_⟩
  obtain ⟨h1, rfl⟩ := numL_get ed
  refine ⟨h1, fun x H' ⟨e1, e2⟩ => ?_⟩
  subst e1
  subst e2
  exact ⟨G', r, Same.refl _, .int _⟩
def RS (F : Fr) : L2.St → Hp → Hp → Cfg → It → List Dat → Prop := fun _ G _ _ J items => Src F.K G J items
abbrev I_ (F : Fr) (W : L2.WX) (m : M (List Dat)) : TI := Sx F W (RS F) m
theorem _root_.L2.PI.mono {X : Cx} {tg e : Expr} {t t' : TI} (h : PI X tg e t) (k : ∀ σ H Q, t' σ H Q → t σ H Q) : PI X tg e t' := ⟨fun pins s σ H Q I q => h.run pins s σ H Q I (k _ _ _ q)⟩
def itL : Dat → M (List Dat)
  | .list l => ret l
  | _ => bad
def itT : Dat → M (List Dat)
  | .tuple l => ret l
  | _ => bad
/-- a list that is a datum, walked -/
theorem i_list {tg e : Expr} {m : M Dat} (hK : F.K = X.K) (h : PE X e (E F W m)) : PI X tg e (I_ F W (M.bind m itL)) :=
  (pi_list h).mono fun σ H Q h => sx_mono (sx_bind (R1 := RD F) h) fun x H1 ⟨d, G1, c1, r1, q, p⟩ => by
    cases q with
    | lst h q => exact ⟨_, rfl, ⟨_, Evl.sq_of (r1.sub _ _ h)⟩, hK ▸ po_ret (v := Itl F.K _) r1 p (src_list h q)⟩
    | _ => exact p.elim
theorem i_tup {tg e : Expr} {m : M Dat} (hK : F.K = X.K) (h : PE X e (E F W m)) : PI X tg e (I_ F W (M.bind m itT)) :=
  (pi_tup h).mono fun σ H Q h => sx_mono (sx_bind (R1 := RD F) h) fun x H1 ⟨d, G1, c1, r1, q, p⟩ => by
    cases q with
    | tup h q => exact ⟨_, rfl, ⟨_, hK ▸ sqT_mono r1.sub h⟩, hK ▸ po_ret (v := Itt F.K _) r1 p (src_tup h q)⟩
    | _ => exact p.elim
def itR : List Dat → M (List Dat)
  | [.int j] => if -(2 ^ 62) ≤ j ∧ j < 2 ^ 62 then ret (numL 0 j.toNat) else bad
  | _ => bad
theorem i_range {tg a : Expr} {m : M Dat} {p pos : Pos} (hg : Gl X "range") (hm : X.mg "range" = none) (h : PE X a (E F W m)) (hs : starEach [a] X.env = [(false, eval a X.env)] := by rfl) : PI X tg (.Call (.Name "range" p) [a] [] pos) (I_ F W (M.bind (aCons m aNil) itR)) :=
  (pi_range1 hg hm (a_cons h a_nil hs) hs).mono fun σ H Q h => sx_mono (sx_bind (R1 := RA F) h) fun xs H1 ⟨ds, G1, c1, r1, q, p⟩ => by
    cases q with
    | nil => exact p.elim
    | @cons v vs d ds q1 q2 =>
      cases q2 with
      | cons _ _ => cases d <;> exact p.elim
      | nil =>
        cases q1 with
        | int j =>
          unfold itR at p
          by_cases hj : -(2 ^ 62) ≤ j ∧ j < 2 ^ 62
          · simp only [hj, and_self, if_true] at p
            exact ⟨j, rfl, hj.1, hj.2, po_ret (v := Itr 0 j.toNat) r1 p src_range⟩
          · simp only [hj, if_false] at p
            exact p.elim
        | _ => exact p.elim

/-! ### for -/
def forL (b : Dat → Cfg → Option Cfg) (body : M Ctl) : List Dat → M Ctl
  | [] => ret .nx
  | d :: ds => fun c => match b d c with
    | none => .bad
    | some c1 => match body c1 with
      | .ok .nx c2 => forL b body ds c2
      | .ok .ct c2 => forL b body ds c2
      | .ok .bk c2 => .ok .nx c2
      | r => r
theorem s_for {tg iter : Expr} {body : List Stmt} {mi : M (List Dat)} {is : List Nat} {b : Dat → Cfg → Option Cfg} {mb : M Ctl} {pos : Pos} (hp : PassesOwn (model X.prog X.w) X.A X.env X.xe) (hc : X.calm = true) (hi : PI X tg iter (I_ F W mi)) (ht : Tgt X F tg is b) (hb : PSs X body (T F W mb))
    (hs : ∀ x, foldedSetIterable iter X.env x = pure x := by intro _; rfl) : PS X (.For tg iter body [] pos) (T F W (M.bind mi fun items => forL b mb items)) := by
  obtain ⟨g, pg, kg⟩ := ht
  refine (ps_for hp hc hi pg hb hs).mono fun D σ H ⟨G, c, r, p⟩ => sx_mono (ps_bind (R1 := RS F) r p) fun J H1 ⟨items, G1, c1, r1, s1, src, p1⟩ => ?_
  refine ⟨fun i m σ H => m = items.length - i ∧ i ≤ items.length ∧ ∃ G' c', Same G1 G' ∧ Rel F G' c' σ H ∧ Ps F W D G' (forL b mb (items.drop i) c'), ⟨_, rfl, Nat.zero_le _, G1, c1, Same.refl _, r1, p1⟩, ?_⟩
  rintro i m σ H ⟨rfl, hi, G', c', s', r', p'⟩
  obtain ⟨k1, k2⟩ := src F G' c' σ H rfl s' r'
  by_cases hlt : i < items.length
  · obtain ⟨go, yl⟩ := k2 i items[i] (List.getElem?_eq_getElem hlt)
    refine .inr ⟨go, fun σ' H' => ∃ G2 c2, Same G1 G2 ∧ Rel F G2 c2 σ' H' ∧ Ps F W D G2 (forL b mb (items.drop (i + 1)) c2), fun σ' H' ⟨G2, c2, s2, r2, p2⟩ => ⟨items.length - (i + 1), by omega, rfl, hlt, G2, c2, s2, r2, p2⟩, fun x H' y => ?_⟩
    obtain ⟨G2, r2, s2, q2⟩ := yl x H' y
    rw [List.drop_eq_getElem_cons hlt] at p'
    unfold forL at p'
    cases eb : b items[i] c' with
    | none => simp only [eb] at p'; exact p'.elim
    | some c2 =>
      simp only [eb] at p'
      refine kg G2 c' c2 σ H' x _ _ r2 q2 eb fun σ2 r3 _ => ⟨G2, c2, r3, ?_⟩
      cases em : mb c2 with
      | ok a c3 =>
        simp only [em] at p'
        cases a with
        | nx => exact fun σ' G3 H3 r4 s4 => ⟨G3, c3, (s'.trans s2).trans s4, r4, p'.up (s2.trans s4)⟩
        | ct => exact fun σ' G3 H3 r4 s4 => ⟨G3, c3, (s'.trans s2).trans s4, r4, p'.up (s2.trans s4)⟩
        | bk => exact fun σ' G3 H3 r4 s4 => p' σ' G3 H3 r4 (s2.trans s4)
        | rt v => exact p'
      | exc k d c3 => simp only [em] at p'; exact p'
      | bad => simp only [em] at p'; exact p'.elim
  · have e : i = items.length := by omega
    subst e
    rw [List.drop_length] at p'
    exact .inl ⟨k1, p' σ G' H r' (Same.refl _)⟩

/-! ### comprehensions -/
def Fr.pn (F : Fr) (ps : List (Addr × HO)) : Fr := { F with pins := ps }
def clr : List Nat → List Sl → List Sl
  | [], r => r
  | v :: vs, r => (clr vs r).set v .no
theorem clr_len (r : List Sl) : ∀ vs : List Nat, (clr vs r).length = r.length
  | [] => rfl
  | v :: vs => by unfold clr; rw [List.length_set, clr_len r vs]
theorem clr_out {j : Nat} {r : List Sl} : ∀ {vs : List Nat}, j ∉ vs → (clr vs r)[j]? = r[j]?
  | [], _ => rfl
  | v :: vs, h => by
    unfold clr
    have hv : v ≠ j := fun e => h (by rw [e]; exact List.mem_cons_self)
    rw [List.getElem?_set_ne hv, clr_out fun m => h (List.mem_cons_of_mem _ m)]
theorem clr_in {j : Nat} {r : List Sl} {s : Sl} : ∀ {vs : List Nat}, j ∈ vs → (clr vs r)[j]? = some s → s = .no
  | [], h, _ => by cases h
  | v :: vs, h, e => by
    unfold clr at e
    rcases get_set e with ⟨_, rfl, _⟩ | ⟨n, e⟩
    · rfl
    · exact clr_in ((List.mem_cons.mp h).resolve_left fun z => n z.symm) e
theorem wipe_out {j : Nat} {σ : L2.St} : ∀ {vs : List Nat}, j ∉ vs → (wipe σ vs)[j]? = σ[j]?
  | [], _ => rfl
  | v :: vs, h => by
    unfold wipe
    have hv : v ≠ j := fun e => h (by rw [e]; exact List.mem_cons_self)
    rw [List.getElem?_set_ne hv, wipe_out fun m => h (List.mem_cons_of_mem _ m)]
theorem wipe_wipe (σ : L2.St) : ∀ vs ws : List Nat, (∀ v ∈ ws, v ∈ vs) → wipe (wipe σ ws) vs = wipe σ vs
  | vs, [], _ => rfl
  | vs, w :: ws, h => by
    show wipe ((wipe σ ws).set w none) vs = wipe σ vs
    rw [wipe_set (h w List.mem_cons_self), wipe_wipe σ vs ws fun v hv => h v (List.mem_cons_of_mem _ hv)]
/-- slots that are wiped -/
theorem Rel.wiped {G : Hp} {c : Cfg} (r : Rel F G c σ H) (vs : List Nat) : Rel F G { c with r := clr vs c.r } (wipe σ vs) H :=
  { sub := r.sub, g0 := r.g0, fresh := r.fresh, keep := r.keep, len := by rw [wipe_length, ← r.len]; exact clr_len _ _, mu0 := r.mu0, st0 := r.st0, dom := r.dom, st := r.st, pin := r.pin, tabs := r.tabs
    sl := fun j s e => by
      by_cases h : j ∈ vs
      · rw [clr_in h e]
        trivial
      · rw [clr_out h] at e
        rw [wipe_out h]
        exact r.sl j s e
    inj := fun j k l l' e1 e2 e3 => by
      have n1 : j ∉ vs := fun h => by have := clr_in h e1; cases this
      have n2 : k ∉ vs := fun h => by have := clr_in h e2; cases this
      rw [clr_out n1] at e1
      rw [clr_out n2] at e2
      rw [wipe_out n1, wipe_out n2] at e3
      exact r.inj j k l l' e1 e2 e3
    ioj := fun j k l l' e1 e2 => by
      have n1 : j ∉ vs := fun h => by have := clr_in h e1; cases this
      have n2 : k ∉ vs := fun h => by have := clr_in h e2; cases this
      rw [clr_out n1] at e1
      rw [clr_out n2] at e2
      exact r.ioj j k l l' e1 e2 }
theorem Lone.wiped {G : Hp} {c : Cfg} {p : Addr} {l : List Dat} (z : Lone F σ G H c p l) (vs : List Nat) : Lone F (wipe σ vs) G H { c with r := clr vs c.r } p l := by
  obtain ⟨xs, h1, h2, h3, h4, h5, h6⟩ := z
  refine ⟨xs, h1, h2, h3, h4, fun j l' e => ?_, h6⟩
  have n1 : j ∉ vs := fun h => by have := clr_in h e; cases this
  rw [wipe_out n1]
  exact h5 j l' ((clr_out n1).symm.trans e)
/-- a lone list is pinned meanwhile -/
theorem Rel.pinned {G : Hp} {c : Cfg} {p : Addr} {xs : List V} {l : List Dat} (r : Rel F G c σ H) (z : Lone F σ G H c p l) (hx : H p = some (.lst xs)) : Rel (F.pn ((p, .lst xs) :: F.pins)) G c σ H := by
  obtain ⟨ys, h1, h2, h3, h4, h5, h6⟩ := z
  exact { tabs := r.tabs, sub := r.sub, g0 := r.g0, fresh := r.fresh, keep := r.keep, len := r.len, mu0 := r.mu0, st0 := r.st0, dom := r.dom, st := r.st, inj := r.inj, ioj := r.ioj
          pin := fun q hq => by
            obtain rfl | hq := List.mem_cons.mp hq
            · exact ⟨hx, h3, h4⟩
            · exact r.pin q hq
          sl := fun j s e => by
            have k := r.sl j s e
            cases s with
            | no => trivial
            | sh d => exact k
            | own l' =>
              obtain ⟨a, zs, e1, e2, e3, e4, e5, e6⟩ := k
              refine ⟨a, zs, e1, e2, e3, e4, e5, fun q hq => ?_⟩
              obtain rfl | hq := List.mem_cons.mp hq
              · exact fun ea => h5 j l' e (e1.trans (congrArg (fun z => some (some (V.ref z))) ea))
              · exact e6 q hq
            | io l' => exact k
            | st => exact k
            | fn _ => exact k }
theorem Rel.unpin {G : Hp} {c : Cfg} {p : Addr} {xs : List V} {l : List Dat} (r : Rel (F.pn ((p, .lst xs) :: F.pins)) G c σ H) (q : RpA F.K G xs l) (hp : ∀ q ∈ F.pins, p ≠ q.1) : Rel F G c σ H ∧ Lone F σ G H c p l ∧ H p = some (.lst xs) := by
  obtain ⟨h1, h2, h3⟩ := r.pin (p, .lst xs) List.mem_cons_self
  refine ⟨{ tabs := r.tabs, sub := r.sub, g0 := r.g0, fresh := r.fresh, keep := r.keep, len := r.len, mu0 := r.mu0, st0 := r.st0, dom := r.dom, st := r.st, inj := r.inj, ioj := r.ioj, pin := fun q hq => r.pin q (List.mem_cons_of_mem _ hq), sl := fun j s e => ?_ }, ⟨xs, h1, q, h2, h3, fun j l' e ea => ?_, hp⟩, h1⟩
  · have k := r.sl j s e
    cases s with
    | no => trivial
    | sh d => exact k
    | own l' =>
      obtain ⟨a, zs, e1, e2, e3, e4, e5, e6⟩ := k
      exact ⟨a, zs, e1, e2, e3, e4, e5, fun q hq => e6 q (List.mem_cons_of_mem _ hq)⟩
    | io l' => exact k
    | st => exact k
    | fn _ => exact k
  · obtain ⟨a, zs, e1, e2, e3, e4, e5, e6⟩ := r.own_ne e
    rw [e1] at ea
    cases ea
    exact e6 (p, .lst xs) List.mem_cons_self rfl
/-- a lone list is written -/
theorem Rel.lwr {G : Hp} {c : Cfg} {p : Addr} {xs : List V} {l l' : List Dat} (r : Rel F G c σ H) (z : Lone F σ G H c p l) (q : RpA F.K G xs l') : Rel F G c σ (upd H p (.lst xs)) ∧ Lone F σ G (upd H p (.lst xs)) c p l' := by
  obtain ⟨ys, h1, h2, h3, h4, h5, h6⟩ := z
  have ne : ∀ (b : Addr) (o : HO), G b = some o → b ≠ p := fun b o e z => by rw [z, h3] at e; cases e
  refine ⟨{ sub := fun b o e => by rw [upd_ne (ne b o e)]; exact r.sub b o e, g0 := r.g0, fresh := r.fresh, len := r.len, mu0 := r.mu0, st0 := r.st0, inj := r.inj, ioj := r.ioj
            keep := fun b o e k1 k2 => by
              have : b ≠ p := fun z => by rw [z, h4] at e; cases e
              rw [upd_ne this]
              exact r.keep b o e k1 k2
            sl := fun i s e => (r.sl i s e).move (Same.refl _) (fun l2 a xs' e1 e2 q1 q2 _ => ?_) (fun l2 xs' _ q1 q2 m => ?_)
            st := fun hu => ?_
            dom := fun b e k => ?_
            pin := fun b hb => ?_
            tabs := r.tabs.move (fun b u e t => by
              have : b ≠ p := fun z => by rw [z, h1] at e; cases e; exact isT_lst t
              rw [upd_ne this]; exact e) (fun b u e _ g => g) }, xs, upd_same, q, h3, h4, h5, h6⟩
  · subst e1
    have : a ≠ p := fun z => h5 i l2 e (z ▸ e2)
    exact ⟨by rw [upd_ne this]; exact q1, q2⟩
  · have : F.ia i ≠ p := fun z => (r.mu0 _ m).1 (z ▸ h4)
    exact ⟨by rw [upd_ne this]; exact q1, q2⟩
  · obtain ⟨n1, n2, n3⟩ := r.sta_ne h4 hu
    obtain ⟨k1, k2, k3, k4⟩ := r.st hu
    exact ⟨by rw [upd_ne n1.symm]; exact k1, by rw [upd_ne n2.symm]; exact k2, by rw [upd_ne n3.symm]; exact k3, k4⟩
  · by_cases hb : b = p
    · rw [hb, upd_same] at k
      cases k
    · rw [upd_ne hb] at k
      exact r.dom b e k
  · obtain ⟨k1, k2, k3⟩ := r.pin b hb
    exact ⟨by rw [upd_ne (h6 b hb).symm]; exact k1, k2, k3⟩

def quiet : Option Sl → Bool
  | some (.own _) => false
  | some (.io _) => false
  | some .st => false
  | some (.fn _) => false
  | _ => true
/-- the slots at vs as they were -/
def back (vs : List Nat) (old new : List Sl) : List Sl := (List.range new.length).map fun j => if j ∈ vs then old.getD j .no else new.getD j .no
theorem back_get {vs : List Nat} {old new : List Sl} {j : Nat} {s : Sl} (e : (back vs old new)[j]? = some s) : j < new.length ∧ ((j ∈ vs ∧ s = old.getD j .no) ∨ (j ∉ vs ∧ new[j]? = some s)) := by
  unfold back at e
  rw [List.getElem?_map] at e
  cases e2 : (List.range new.length)[j]? with
  | none => rw [e2] at e; cases e
  | some k =>
    rw [e2] at e
    obtain ⟨h1, h2⟩ := List.getElem?_eq_some_iff.mp e2
    rw [List.getElem_range] at h2
    subst h2
    rw [List.length_range] at h1
    refine ⟨h1, ?_⟩
    have e : (if j ∈ vs then old.getD j Sl.no else new.getD j Sl.no) = s := Option.some.inj e
    by_cases h : j ∈ vs
    · rw [if_pos h] at e
      exact .inl ⟨h, e.symm⟩
    · rw [if_neg h, List.getD_eq_getElem?_getD, List.getElem?_eq_getElem h1] at e
      exact .inr ⟨h, by rw [List.getElem?_eq_getElem h1]; exact congrArg some e⟩
theorem Rel.back {G0 H0 G : Hp} {c0 c : Cfg} {vs : List Nat} (r0 : Rel F G0 c0 σ H0) (hq : ∀ v ∈ vs, quiet c0.r[v]? = true) (s : Same G0 G) (r : Rel F G c (wipe σ vs) H) : Rel F G { c with r := back vs c0.r c.r } σ H := by
  have old : ∀ (j : Nat) (x : Sl), j ∈ vs → x = c0.r.getD j .no → x = .no ∨ ∃ d, x = .sh d ∧ c0.r[j]? = some (.sh d) := fun j x hj e => by
    have q := hq j hj
    rw [List.getD_eq_getElem?_getD] at e
    cases e2 : c0.r[j]? with
    | none => rw [e2] at e; exact .inl e
    | some y =>
      rw [e2] at e q
      have e : x = y := e
      subst e
      cases x with
      | no => exact .inl rfl
      | sh d => exact .inr ⟨d, rfl, rfl⟩
      | own l => cases q
      | io l => cases q
      | st => cases q
      | fn _ => cases q
  refine { tabs := r.tabs, sub := r.sub, g0 := r.g0, fresh := r.fresh, keep := r.keep, mu0 := r.mu0, st0 := r.st0, dom := r.dom, st := r.st, pin := r.pin, len := ?_, sl := fun j x e => ?_, inj := fun j k l l' e1 e2 e3 => ?_, ioj := fun j k l l' e1 e2 => ?_ }
  · show (Pn.back vs c0.r c.r).length = σ.length
    have := r.len
    rw [wipe_length] at this
    unfold Pn.back
    (simp only [List.length_map, List.length_range])
    exact this
  · obtain ⟨_, ⟨hj, e⟩ | ⟨hj, e⟩⟩ := back_get e
    · rcases old j x hj e with rfl | ⟨d, rfl, e2⟩
      · trivial
      · obtain ⟨v, e3, q3⟩ := r0.sl j _ e2
        exact ⟨v, e3, dp_mono s q3⟩
    · have := r.sl j x e
      rw [wipe_out hj] at this
      exact this
  · obtain ⟨_, ⟨hj, e1⟩ | ⟨hj, e1⟩⟩ := back_get e1
    · rcases old j _ hj e1 with z | ⟨d, z, _⟩ <;> cases z
    · obtain ⟨_, ⟨hk, e2⟩ | ⟨hk, e2⟩⟩ := back_get e2
      · rcases old k _ hk e2 with z | ⟨d, z, _⟩ <;> cases z
      · exact r.inj j k l l' e1 e2 (by rw [wipe_out hj, wipe_out hk]; exact e3)
  · obtain ⟨_, ⟨hj, e1⟩ | ⟨hj, e1⟩⟩ := back_get e1
    · rcases old j _ hj e1 with z | ⟨d, z, _⟩ <;> cases z
    · obtain ⟨_, ⟨hk, e2⟩ | ⟨hk, e2⟩⟩ := back_get e2
      · rcases old k _ hk e2 with z | ⟨d, z, _⟩ <;> cases z
      · exact r.ioj j k l l' e1 e2
theorem Lone.back {G : Hp} {c0 c : Cfg} {vs : List Nat} {p : Addr} {l : List Dat} (hq : ∀ v ∈ vs, quiet c0.r[v]? = true) (z : Lone F (wipe σ vs) G H c p l) : Lone F σ G H { c with r := back vs c0.r c.r } p l := by
  obtain ⟨xs, h1, h2, h3, h4, h5, h6⟩ := z
  refine ⟨xs, h1, h2, h3, h4, fun j l' e => ?_, h6⟩
  obtain ⟨_, ⟨hj, e⟩ | ⟨hj, e⟩⟩ := back_get e
  · exfalso
    have q := hq j hj
    rw [List.getD_eq_getElem?_getD] at e
    cases e2 : c0.r[j]? with
    | none => rw [e2] at e; cases e
    | some y =>
      rw [e2] at e q
      have e : Sl.own l' = y := e
      subst e
      cases q
  · rw [← wipe_out hj]
    exact h5 j l' e
def lcL (b : Dat → Cfg → Option Cfg) (mt : M Bool) (me : M Dat) (vs : List Nat) : List Dat → List Dat → M (List Dat)
  | [], acc => ret acc
  | d :: ds, acc => fun c => match b d c with
    | none => .bad
    | some c1 => match mt c1 with
      | .ok true c2 => match me c2 with
        | .ok y c3 => if acc.length < 100000 then lcL b mt me vs ds (acc ++ [y]) { c3 with r := clr vs c3.r } else .bad
        | _ => .bad
      | .ok false c2 => lcL b mt me vs ds acc { c2 with r := clr vs c2.r }
      | _ => .bad
def lcM (vs : List Nat) (b : Dat → Cfg → Option Cfg) (mt : M Bool) (me : M Dat) (items : List Dat) : M RV := fun c =>
  if vs.all (fun v => quiet c.r[v]?) then match lcL b mt me vs items [] { c with r := clr vs c.r } with
    | .ok l c' => .ok (.fr l) { c' with r := back vs c.r c'.r }
    | _ => .bad
  else .bad
def W0 : L2.WX := fun _ _ _ _ => False
theorem asx_mono {m : M Dat} {σ : L2.St} {H : Hp} {Q : VK} (h : EX F W (asx m) σ H Q) : E F W m σ H Q := sx_mono (sx_bind h) fun x H1 ⟨a, G1, c1, r1, q, p⟩ => po_ret r1 p q
theorem frz_mono {m : M RV} {σ : L2.St} {H : Hp} {Q : VK} (h : E F W (frz m) σ H Q) : EX F W m σ H Q := sx_mono (sx_bind h) fun x H1 ⟨a, G1, c1, r1, q, p⟩ => by
  cases a with
  | sh d => exact po_ret r1 p q
  | fr l =>
    obtain ⟨p1, rfl, z⟩ := q
    obtain ⟨G', r', s', d'⟩ := r1.freeze z
    exact p _ G' H1 r' s' d'
theorem lc_mono {vs is : List Nat} {mi : M (List Dat)} {g : TG} {b : Dat → Cfg → Option Cfg} {mt : M Bool} {me : M Dat} {tt : TT} (hgk : ∀ ps, GOk (F.pn ps) g is b) (his : ∀ i ∈ is, i ∈ vs) (htt : ∀ ps σ H Q, B (F.pn ps) W0 mt σ H Q → tt σ H Q) {σ : L2.St} {H : Hp} {Q : VK}
    (h : EX F W (M.bind mi (lcM vs b mt me)) σ H Q) : tLc (I_ F W mi) g tt (fun σ H Q => ∃ ps, (∀ q ∈ F.pins, q ∈ ps) ∧ E (F.pn ps) W0 me σ H Q) vs σ H Q := by
  refine sx_mono (sx_bind (R1 := RS F) h) fun J H1 ⟨items, G1, c1, r1, src, p⟩ D hD => ?_
  unfold lcM at p
  by_cases hq : vs.all (fun v => quiet c1.r[v]?) = true
  · rw [if_pos hq] at p
    have hq' : ∀ v ∈ vs, quiet c1.r[v]? = true := List.all_eq_true.mp hq
    have rw0 := r1.wiped vs
    obtain ⟨rl, zl⟩ := rw0.lone (xs := []) (l := []) hD .nil
    generalize hR0 : lcL b mt me vs items [] { c1 with r := clr vs c1.r } = R0 at p
    refine ⟨fun i m H => m = items.length - i ∧ i ≤ items.length ∧ ∃ G' c' acc, Same G1 G' ∧ Rel F G' c' (wipe σ vs) H ∧ Lone F (wipe σ vs) G' H c' D acc ∧ lcL b mt me vs (items.drop i) acc c' = R0, ⟨_, rfl, Nat.zero_le _, G1, _, [], Same.refl _, rl, zl, hR0⟩, ?_⟩
    rintro i m H ⟨rfl, hi, G', c', acc, s', r', z', el⟩
    by_cases hlt : i < items.length
    · obtain ⟨xs, hx, qx, gx, n0, nown, npin⟩ := id z'
      have rp := r'.pinned z' hx
      obtain ⟨go, yl⟩ := (src (F.pn ((D, .lst xs) :: F.pins)) G' c' _ H rfl s' rp).2 i items[i] (List.getElem?_eq_getElem hlt)
      refine .inr ⟨go, fun H' => ∃ G2 c2 acc2, Same G1 G2 ∧ Rel F G2 c2 (wipe σ vs) H' ∧ Lone F (wipe σ vs) G2 H' c2 D acc2 ∧ lcL b mt me vs (items.drop (i + 1)) acc2 c2 = R0, fun H' ⟨G2, c2, acc2, s2, r2, z2, e2⟩ => ⟨items.length - (i + 1), by omega, rfl, hlt, G2, c2, acc2, s2, r2, z2, e2⟩, fun x H' y => ?_⟩
      obtain ⟨G2, r2, s2, q2⟩ := yl x H' y
      rw [List.drop_eq_getElem_cons hlt] at el
      unfold lcL at el
      cases eb : b items[i] c' with
      | none =>
        simp only [eb] at el
        rw [← el] at p
        exact p.elim
      | some c2 =>
        simp only [eb] at el
        refine hgk ((D, .lst xs) :: F.pins) G2 c' c2 (wipe σ vs) H' x _ _ r2 q2 eb fun σ2 r3 w2 => ?_
        have hw : wipe σ2 vs = wipe σ vs := (w2 vs his).trans (wipe_wipe σ vs vs fun v h => h)
        refine ⟨hw, htt ((D, .lst xs) :: F.pins) σ2 H' _ ⟨G2, c2, r3, ?_⟩⟩
        cases em : mt c2 with
        | ok k c3 =>
          intro v G3 H3 r4 s4 ev
          have ev : v = k := ev
          subst ev
          cases v with
          | false =>
            simp only [em] at el
            rw [if_neg (show ¬(false = true) by decide)]
            obtain ⟨r5, z5, _⟩ := r4.unpin (dpAll_mono (s2.trans s4) qx) npin
            have r6 := r5.wiped vs
            have z6 := z5.wiped vs
            rw [hw] at r6 z6
            exact ⟨G3, _, acc, (s'.trans s2).trans s4, r6, z6, el⟩
          | true =>
            simp only [em] at el
            rw [if_pos rfl]
            refine ⟨(D, .lst xs) :: F.pins, fun q hq => List.mem_cons_of_mem _ hq, G3, c3, r4, ?_⟩
            cases ee : me c3 with
            | ok y c4 =>
              simp only [ee] at el
              intro v G4 H4 r5 s5 qv
              obtain ⟨r6, z6, hx4⟩ := r5.unpin (dpAll_mono ((s2.trans s4).trans s5) qx) npin
              by_cases hl : acc.length < 100000
              · rw [if_pos hl] at el
                refine ⟨xs, hx4, by rw [dpAll_len qx]; exact Evl.sz_lt hl, ?_⟩
                obtain ⟨r7, z7⟩ := r6.lwr z6 (dpAll_app (dpAll_mono ((s2.trans s4).trans s5) qx) (.cons qv .nil))
                have r8 := r7.wiped vs
                have z8 := z7.wiped vs
                rw [hw] at r8 z8
                exact ⟨G4, _, acc ++ [y], ((s'.trans s2).trans s4).trans s5, r8, z8, el⟩
              · rw [if_neg hl] at el
                rw [← el] at p
                exact p.elim
            | exc k d c4 =>
              simp only [ee] at el
              rw [← el] at p
              exact p.elim
            | bad =>
              simp only [ee] at el
              rw [← el] at p
              exact p.elim
        | exc k d c3 =>
          simp only [em] at el
          rw [← el] at p
          exact p.elim
        | bad =>
          simp only [em] at el
          rw [← el] at p
          exact p.elim
    · have e : i = items.length := by omega
      subst e
      rw [List.drop_length] at el
      have k1 := (src F G' c' (wipe σ vs) H rfl s' r').1
      rw [← el] at p
      exact .inl ⟨k1, p (.ref D) G' H (r1.back hq' s' r') s' ⟨D, rfl, z'.back hq'⟩⟩
  · rw [if_neg hq] at p
    exact p.elim
theorem e_lc {elt tg iter : Expr} {ifs : List Expr} {scope : Scope} {own : List (Str × Nat)} {pos : Pos} {mi : M (List Dat)} {is : List Nat} {g : TG} {b : Dat → Cfg → Option Cfg} {mt : M Bool} {me : M Dat} {tt : TT} (hc : X.calm = true) (hN : X.N.Nodup) (hi : PI X tg iter (I_ F W mi)) (ok : BlkOk X.N X.env.scope scope own)
    (hg : ∀ (s : Shared) (H : Hp) (C : Addr) (cl : List (Str × Addr)) (fp : List Addr), PG (X.blk s H scope (compEnvC scope cl C X.env) fp) tg g) (hgk : ∀ ps, GOk (F.pn ps) g is b) (his : ∀ i ∈ is, i ∈ own.map (·.2))
    (ht : ∀ (s : Shared) (H : Hp) (C : Addr) (cl : List (Str × Addr)) (fp : List Addr), PTs (X.blk s H scope (compEnvC scope cl C X.env) fp) ifs tt) (htt : ∀ ps σ H Q, B (F.pn ps) W0 mt σ H Q → tt σ H Q)
    (he : ∀ (s : Shared) (H : Hp) (C : Addr) (cl : List (Str × Addr)) (fp : List Addr) (ps : List (Addr × HO)), PE (X.blk s H scope (compEnvC scope cl C X.env) fp) elt (E (F.pn ps) W0 me)) (hs : ∀ x, foldedSetIterable iter X.env x = pure x := by intro _; rfl) :
    PE X (.ListComp elt [⟨tg, iter, ifs, 0⟩] scope pos) (EX F W (M.bind mi (lcM (own.map (·.2)) b mt me))) := by
  exact (pe_lc (te := fun σ H Q => ∃ ps, (∀ q ∈ F.pins, q ∈ ps) ∧ E (F.pn ps) W0 me σ H Q) hc hN hi ok hg ht (fun s H C cl fp => ⟨fun pins s σ H Q I ⟨ps, _, h⟩ => (he _ _ _ _ _ ps).run pins s σ H Q I h⟩) hs).mono fun σ H Q h => lc_mono hgk his htt h
/-- .. where what is under way around it is known -/
theorem e_lcP {elt tg iter : Expr} {ifs : List Expr} {scope : Scope} {own : List (Str × Nat)} {pos : Pos} {mi : M (List Dat)} {is : List Nat} {g : TG} {b : Dat → Cfg → Option Cfg} {mt : M Bool} {me : M Dat} {tt : TT} (hc : X.calm = true) (hN : X.N.Nodup) (hi : PI X tg iter (I_ F W mi)) (ok : BlkOk X.N X.env.scope scope own)
    (hg : ∀ (s : Shared) (H : Hp) (C : Addr) (cl : List (Str × Addr)) (fp : List Addr), PG (X.blk s H scope (compEnvC scope cl C X.env) fp) tg g) (hgk : ∀ ps, GOk (F.pn ps) g is b) (his : ∀ i ∈ is, i ∈ own.map (·.2))
    (ht : ∀ (s : Shared) (H : Hp) (C : Addr) (cl : List (Str × Addr)) (fp : List Addr), PTs (X.blk s H scope (compEnvC scope cl C X.env) fp) ifs tt) (htt : ∀ ps σ H Q, B (F.pn ps) W0 mt σ H Q → tt σ H Q)
    (he : ∀ (s : Shared) (H : Hp) (C : Addr) (cl : List (Str × Addr)) (fp : List Addr) (ps : List (Addr × HO)), (∀ q ∈ F.pins, q ∈ ps) → PE (X.blk s H scope (compEnvC scope cl C X.env) fp) elt (E (F.pn ps) W0 me)) (hs : ∀ x, foldedSetIterable iter X.env x = pure x := by intro _; rfl) :
    PE X (.ListComp elt [⟨tg, iter, ifs, 0⟩] scope pos) (EX F W (M.bind mi (lcM (own.map (·.2)) b mt me))) := by
  exact (pe_lc (te := fun σ H Q => ∃ ps, (∀ q ∈ F.pins, q ∈ ps) ∧ E (F.pn ps) W0 me σ H Q) hc hN hi ok hg ht (fun s H C cl fp => ⟨fun pins s σ H Q I ⟨ps, k, h⟩ => (he _ _ _ _ _ ps k).run pins s σ H Q I h⟩) hs).mono fun σ H Q h => lc_mono hgk his htt h
/-- name = [..] on one line -/
theorem s_asgLc {i : Nat} {y : Str} {py spos : Pos} {elt tg iter : Expr} {ifs : List Expr} {scope : Scope} {own : List (Str × Nat)} {pos : Pos} {mi : M (List Dat)} {is : List Nat} {g : TG} {b : Dat → Cfg → Option Cfg} {mt : M Bool} {me : M Dat} {tt : TT} (hc : X.calm = true) (hN : X.N.Nodup) (hy : X.N[i]? = some y) (hyl : X.env.scope.names.lookup y = some .local)
    (hsw : swapsWith (.ListComp elt [⟨tg, iter, ifs, 0⟩] scope pos) (some (.Name y py)) spos.line X.env = pure true) (hi : PI X tg iter (I_ F W mi)) (ok : BlkOk X.N X.env.scope scope own)
    (hg : ∀ (s : Shared) (H : Hp) (C : Addr) (cl : List (Str × Addr)) (fp : List Addr), PG (X.blk s H scope (compEnvC scope cl C X.env) fp) tg g) (hgk : ∀ ps, GOk (F.pn ps) g is b) (his : ∀ i ∈ is, i ∈ own.map (·.2))
    (ht : ∀ (s : Shared) (H : Hp) (C : Addr) (cl : List (Str × Addr)) (fp : List Addr), PTs (X.blk s H scope (compEnvC scope cl C X.env) fp) ifs tt) (htt : ∀ ps σ H Q, B (F.pn ps) W0 mt σ H Q → tt σ H Q)
    (he : ∀ (s : Shared) (H : Hp) (C : Addr) (cl : List (Str × Addr)) (fp : List Addr) (ps : List (Addr × HO)), PE (X.blk s H scope (compEnvC scope cl C X.env) fp) elt (E (F.pn ps) W0 me)) (hs : ∀ x, foldedSetIterable iter X.env x = pure x := by intro _; rfl) :
    PS X (.Assign [.Name y py] (.ListComp elt [⟨tg, iter, ifs, 0⟩] scope pos) spos) (T F W (M.bind (M.bind mi (lcM (own.map (·.2)) b mt me)) (asg i))) :=
  (ps_setLc (te := fun σ H Q => ∃ ps, (∀ q ∈ F.pins, q ∈ ps) ∧ E (F.pn ps) W0 me σ H Q) hc hN hy hyl hsw hi ok hg ht (fun s H C cl fp => ⟨fun pins s σ H Q I ⟨ps, _, h⟩ => (he _ _ _ _ _ ps).run pins s σ H Q I h⟩) hs).mono fun D σ H ⟨G, c, r, p⟩ =>
    lc_mono hgk his htt (sx_mono (ps_bind (R1 := RX F) r p) fun x H1 ⟨a, G1, c1, r1, s1, q, p1⟩ => ps_asg_ok r1 q p1)
/-- .. what is made is still from then on -/
theorem s_asgLcF {i : Nat} {y : Str} {py spos : Pos} {elt tg iter : Expr} {ifs : List Expr} {scope : Scope} {own : List (Str × Nat)} {pos : Pos} {mi : M (List Dat)} {is : List Nat} {g : TG} {b : Dat → Cfg → Option Cfg} {mt : M Bool} {me : M Dat} {tt : TT} (hc : X.calm = true) (hN : X.N.Nodup) (hy : X.N[i]? = some y) (hyl : X.env.scope.names.lookup y = some .local)
    (hsw : swapsWith (.ListComp elt [⟨tg, iter, ifs, 0⟩] scope pos) (some (.Name y py)) spos.line X.env = pure true) (hi : PI X tg iter (I_ F W mi)) (ok : BlkOk X.N X.env.scope scope own)
    (hg : ∀ (s : Shared) (H : Hp) (C : Addr) (cl : List (Str × Addr)) (fp : List Addr), PG (X.blk s H scope (compEnvC scope cl C X.env) fp) tg g) (hgk : ∀ ps, GOk (F.pn ps) g is b) (his : ∀ i ∈ is, i ∈ own.map (·.2))
    (ht : ∀ (s : Shared) (H : Hp) (C : Addr) (cl : List (Str × Addr)) (fp : List Addr), PTs (X.blk s H scope (compEnvC scope cl C X.env) fp) ifs tt) (htt : ∀ ps σ H Q, B (F.pn ps) W0 mt σ H Q → tt σ H Q)
    (he : ∀ (s : Shared) (H : Hp) (C : Addr) (cl : List (Str × Addr)) (fp : List Addr) (ps : List (Addr × HO)), PE (X.blk s H scope (compEnvC scope cl C X.env) fp) elt (E (F.pn ps) W0 me)) (hs : ∀ x, foldedSetIterable iter X.env x = pure x := by intro _; rfl) :
    PS X (.Assign [.Name y py] (.ListComp elt [⟨tg, iter, ifs, 0⟩] scope pos) spos) (T F W (M.bind (asx (frz (M.bind mi (lcM (own.map (·.2)) b mt me)))) (asg i))) :=
  (ps_setLc (te := fun σ H Q => ∃ ps, (∀ q ∈ F.pins, q ∈ ps) ∧ E (F.pn ps) W0 me σ H Q) hc hN hy hyl hsw hi ok hg ht (fun s H C cl fp => ⟨fun pins s σ H Q I ⟨ps, _, h⟩ => (he _ _ _ _ _ ps).run pins s σ H Q I h⟩) hs).mono fun D σ H ⟨G, c, r, p⟩ =>
    lc_mono hgk his htt (frz_mono (asx_mono (sx_mono (ps_bind (R1 := RX F) r p) fun x H1 ⟨a, G1, c1, r1, s1, q, p1⟩ => ps_asg_ok r1 q p1)))
theorem noif (ps : List (Addr × HO)) (σ : L2.St) (H : Hp) (Q : Bool → Hp → Prop) (h : B (F.pn ps) W0 (ret true) σ H Q) : tYes σ H Q := by
  obtain ⟨G, c, r, p⟩ := h
  exact po_ret r p rfl
end
end Pn

set_option maxHeartbeats 1000001
namespace Pn
open L2 PyProof.Rows PySem.Spec PySem
section
variable {F : Fr} {W : L2.WX} {σ : L2.St} {H : Hp} {X : Cx} {D : Ends}

/-! ### in, not in, of flat things -/
def vOf : Dat → V
  | .bool b => .bl b
  | .int i => .int i
  | .str x => .str x
  | _ => .non
def flatD : Dat → Bool
  | .none => true | .bool _ => true | .int _ => true | .str _ => true | _ => false
theorem flat_v {K : PySem.W.Frag} {G : Hp} {v : V} {d : Dat} (q : Rp K G v d) (h : flatD d = true) : v = vOf d ∧ flatV v = true := by
  cases q with
  | lst _ _ => cases h
  | tup _ _ => cases h
  | _ => exact ⟨rfl, rfl⟩
theorem flat_vs {K : PySem.W.Frag} {G : Hp} : ∀ {vs : List V} {l : List Dat}, RpA K G vs l → l.all flatD = true → vs = l.map vOf ∧ vs.all flatV = true
  | _, _, .nil, _ => ⟨rfl, rfl⟩
  | _, _, .cons q t, h => by
    rw [List.all_cons, Bool.and_eq_true_iff] at h
    obtain ⟨e1, f1⟩ := flat_v q h.1
    obtain ⟨e2, f2⟩ := flat_vs t h.2
    refine ⟨by rw [List.map_cons, ← e1, ← e2], ?_⟩
    rw [List.all_cons, f1, f2]
    rfl
def inF (d : Dat) (l : List Dat) : Bool := inV (vOf d) (l.map vOf)
def inR (neg : Bool) (d : Dat) (r : Row) : M Dat := if flatD d && r.2.all flatD then ret (.bool (if neg then !inF d r.2 else inF d r.2)) else bad
theorem hf_in {neg : Bool} (hK : F.K = X.K) {G : Hp} {c : Cfg} {x y : V} {d : Dat} {k : Row} {Q : VK} (r : Rel F G c σ H) (h1 : Rp F.K G x d) (h2 : RR F σ G H c y k) (p : Po F W σ (RD F) Q G (inR neg d k c)) : rIn X.K neg x y H Q := by
  obtain ⟨a, xs, rfl, h, q⟩ := h2
  unfold inR at p
  by_cases o : (flatD d && k.2.all flatD) = true
  · rw [if_pos o] at p
    rw [Bool.and_eq_true] at o
    obtain ⟨rfl, f1⟩ := flat_v h1 o.1
    obtain ⟨rfl, f2⟩ := flat_vs q o.2
    exact ⟨a, _, rfl, rr_or hK r.sub h, f1, f2, po_ret r p (.bl _)⟩
  · rw [if_neg o] at p
    exact p.elim
theorem rr_mono {G G' : Hp} {c c' : Cfg} {v : V} {d : Dat} {H' : Hp} (r : Rel F G c σ H) (q : Rp F.K G v d) : ∀ k, rowOf d c = .ok k c → RR F σ G H c v k := fun k e => (rowOf_at r q e).2
def inM (neg : Bool) (a : M Dat) (b : M Row) : M Dat := M.bind a fun x => M.bind b fun k => inR neg x k
theorem e_in {op : CmpOp} {neg : Bool} {a b : Expr} {ma : M Dat} {mb : M Row} {pos : Pos} (hK : F.K = X.K) (ho : OpR X (compareOp op) (rIn X.K neg)) (ha : PE X a (E F W ma)) (hb : PE X b (R_ F W mb)) (hm : behindInMarks op b = false := by rfl) : PE X (.Compare a [op] [b] pos) (E F W (inM neg ma mb)) :=
  (pe_cmpR ho ha hb hm).mono fun σ H Q h => sx_mono (sx_bind (R1 := RD F) h) fun x H1 ⟨d, G1, c1, r1, q, p⟩ => sx_mono (po_bind (R1 := RR F) r1 p) fun y H2 ⟨k, G2, c2, r2, s2, q2, p2⟩ => hf_in hK r2 (dp_mono s2 q) q2 p2

/-! ### globals: constants of the modules -/
/-- a module's name and the datum that it holds -/
def GloD (K : PySem.W.Frag) (mg : Str → Option Value) (x : Str) (d : Dat) : Prop := ∃ v u, mg x = some u ∧ RelV v u ∧ Rp K (fun _ => none) v d
theorem e_glo {x : Str} {d : Dat} {pos : Pos} (hK : F.K = X.K) (hg : Gl X x) (h : GloD X.K X.mg x d) (hd : (x == ("__debug__" : Str)) = false := by decide) : PE X (.Name x pos) (E F W (ret d)) := by
  obtain ⟨v, u, h1, h2, h3⟩ := h
  exact (pe_glob hg h1 h2 hd).mono fun σ H Q ⟨G, c, r, p⟩ => po_ret r p (by
    have z : Rp X.K G v d := dp_mono (fun b o e => by cases e) h3
    rw [← hK] at z
    exact z)

/-! ### + of data -/
def catD : Dat → Dat → M RV
  | .int i, .int j => ret (.sh (.int (i + j)))
  | .tuple a, .tuple b => if many a && many b then ret (.sh (.tuple (a ++ b))) else bad
  | .list a, .list b => if many a && many b then ret (.fr (a ++ b)) else bad
  | _, _ => bad
theorem many2 {K : PySem.W.Frag} {G : Hp} {xs ys : List V} {a b : List Dat} (h : (many a && many b) = true) (q : RpA K G xs a) (q2 : RpA K G ys b) : xs.length + ys.length ≤ sizeLine := by
  rw [Bool.and_eq_true] at h
  rw [dpAll_len q, dpAll_len q2]
  have h1 : a.length ≤ 100000 := of_decide_eq_true h.1
  have h2 : b.length ≤ 100000 := of_decide_eq_true h.2
  have : sizeLine = 16777216 := sizeLine_eq
  omega
theorem e_cat {a b : Expr} {ma mb : M Dat} {pos : Pos} (hK : F.K = X.K) (ha : PE X a (E F W ma)) (hb : PE X b (E F W mb)) : PE X (.BinOp a .Add b pos) (EX F W (M.bind ma fun x => M.bind mb fun y => catD x y)) := by
  have ho : OpR X (binaryOp .Add) (fun x y H Q => rI0 (fun i j => .int (i + j)) x y H Q ∨ rCatA X.K x y H Q ∨ rCat x y H Q) := fun pins s σ H x y v u Q I rx ry h => by
    rcases h with h | h | h
    · exact op_add pins s σ H x y v u Q I rx ry h
    · exact op_catA pins s σ H x y v u Q I rx ry h
    · exact op_cat pins s σ H x y v u Q I rx ry h
  refine (pe_op ho ha hb).mono fun σ H Q h => sx_mono (sx_bind2 h) fun x H1 hh => sx_mono hh fun y H2 ⟨d, e, G2, c2, r2, q1, q2, p⟩ => ?_
  cases q1 with
  | int i =>
    cases q2 with
    | int j => exact .inl ⟨i, j, rfl, rfl, po_ret (v := V.int (i + j)) r2 p (.int _)⟩
    | _ => exact p.elim
  | @tup a1 xs l1 t1 k1 =>
    cases q2 with
    | @tup a2 ys l2 t2 k2 =>
      unfold catD at p
      by_cases o : (many l1 && many l2) = true
      · simp only [o, if_true] at p
        refine .inr (.inl ⟨a1, a2, xs, ys, rfl, rfl, hK ▸ sqT_mono r2.sub t1, hK ▸ sqT_mono r2.sub t2, many2 o k1 k2, fun e => ?_, fun _ e => ?_, fun _ _ z hz => ?_⟩)
        · subst e
          cases k1
          exact po_ret r2 p (.tup t2 k2)
        · subst e
          cases k2
          rw [List.append_nil] at p
          exact po_ret r2 p (.tup t1 k1)
        · obtain ⟨r3, s3⟩ := r2.laid (o := .tup (xs ++ ys)) hz
          exact p _ _ _ r3 s3 (.tup (Evl.st_of upd_same) (dpAll_mono s3 (dpAll_app k1 k2)))
      · simp only [o] at p
        exact p.elim
    | _ => exact p.elim
  | @lst a1 xs l1 t1 k1 =>
    cases q2 with
    | @lst a2 ys l2 t2 k2 =>
      unfold catD at p
      by_cases o : (many l1 && many l2) = true
      · simp only [o, if_true] at p
        refine .inr (.inr ⟨a1, a2, xs, ys, rfl, rfl, r2.sub _ _ t1, r2.sub _ _ t2, many2 o k1 k2, fun z hz => ?_⟩)
        obtain ⟨r3, z3⟩ := r2.lone hz (dpAll_app k1 k2)
        exact p _ _ _ r3 (Same.refl _) ⟨z, rfl, z3⟩
      · simp only [o] at p
        exact p.elim
    | _ => exact p.elim
  | _ => exact p.elim

/-! ### slices of data -/
abbrev O_ (F : Fr) (W : L2.WX) (m : M (Option Int)) : TO := Sx F W (fun _ _ _ _ o a => o = a) m
def partO (m : M Dat) : M (Option Int) := M.bind m fun d => match d with
  | .int i => ret (some i)
  | _ => bad
theorem o_none : PO X none (O_ F W (ret none)) := ⟨fun pins s σ H Q I h => po_none.run pins s σ H Q I (by
  obtain ⟨G, c, r, p⟩ := h
  exact po_ret r p rfl)⟩
theorem o_some {e : Expr} {m : M Dat} (h : PE X e (E F W m)) : PO X (some e) (O_ F W (partO m)) := ⟨fun pins s σ H Q I h2 => (po_some h).run pins s σ H Q I (sx_mono (sx_bind (R1 := RD F) h2) fun x H1 ⟨d, G1, c1, r1, q, p⟩ => by
  cases q with
  | int i => exact ⟨i, rfl, po_ret r1 p rfl⟩
  | _ => exact p.elim)⟩
def slD (d : Dat) (lo hi : Option Int) : M RV := match d with
  | .tuple l => ret (.sh (.tuple (cutL l lo hi)))
  | .list l => ret (.fr (cutL l lo hi))
  | _ => bad
theorem cut_whole {xs : List Dat} {lo hi : Option Int} (h : HT.sIx xs.length 0 lo = 0 ∧ HT.sIx xs.length xs.length hi = xs.length) : cutL xs lo hi = xs := by
  unfold cutL
  rw [h.1, h.2, List.drop_zero, Nat.sub_zero, List.take_length]
theorem e_slice {a : Expr} {lo hi : Option Expr} {ma : M Dat} {ml mh : M (Option Int)} {pos p2 : Pos} (hK : F.K = X.K) (ha : PE X a (E F W ma)) (hl : PO X lo (O_ F W ml)) (hh : PO X hi (O_ F W mh)) :
    PE X (.Subscript a (.Slice lo hi none p2) pos) (EX F W (M.bind ma fun d => M.bind ml fun i => M.bind mh fun j => slD d i j)) :=
  (pe_slice (sl_tupA.or sl_list) ha hl hh).mono fun σ H Q h => sx_mono (sx_bind (R1 := RD F) h) fun x H1 ⟨d, G1, c1, r1, q, p⟩ =>
    sx_mono (po_bind (R1 := fun _ _ _ _ o a => o = a) r1 p) fun l H2 ⟨i, G2, c2, r2, s2, e2, p2⟩ => sx_mono (po_bind (R1 := fun _ _ _ _ o a => o = a) r2 p2) fun u H3 ⟨j, G3, c3, r3, s3, e3, p3⟩ => by
      subst e2
      subst e3
      cases dp_mono (s2.trans s3) q with
      | tup h k =>
        refine .inl ⟨_, _, rfl, hK ▸ sqT_mono r3.sub h, fun w => ?_, fun _ z hz => ?_⟩
        · rw [dpAll_len k] at w
          have p3 : Po F W σ (RX F) Q G3 (.ok (.sh (.tuple (cutL _ l u))) c3) := p3
          rw [cut_whole w] at p3
          exact po_ret r3 p3 (.tup h k)
        · obtain ⟨r4, s4⟩ := r3.laid (o := .tup (cutV _ l u)) hz
          exact p3 _ _ _ r4 s4 (.tup (Evl.st_of upd_same) (dpAll_mono s4 (cut_dp l u k)))
      | lst h k =>
        refine .inr ⟨_, _, rfl, Evl.sq_of (r3.sub _ _ h), fun z hz => ?_⟩
        obtain ⟨r4, z4⟩ := r3.lone hz (cut_dp l u k)
        exact p3 _ _ _ r4 (Same.refl _) ⟨z, rfl, z4⟩
      | _ => exact p3.elim
end
end Pn

set_option maxHeartbeats 1000001
namespace Pn
open L2 PyProof.Rows PySem.Spec PySem
section
variable {F : Fr} {W : L2.WX} {σ : L2.St} {H : Hp} {X : Cx} {D : Ends}

/-! ### lists that change -/
def held (i : Nat) (c : Cfg) : Option (List Dat) := match c.r[i]? with
  | some (.own l) => some l
  | some (.io l) => some l
  | _ => none
def wr (i : Nat) (l : List Dat) (c : Cfg) : Cfg := match c.r[i]? with
  | some (.own _) => { c with r := c.r.set i (.own l) }
  | some (.io _) => { c with r := c.r.set i (.io l) }
  | _ => c
theorem Rel.wr {G : Hp} {c : Cfg} {i : Nat} {l : List Dat} (r : Rel F G c σ H) (e : held i c = some l) : ∃ a xs, σ[i]? = some (some (.ref a)) ∧ H a = some (.lst xs) ∧ RpA F.K G xs l ∧
    ∀ (xs' : List V) (l' : List Dat), RpA F.K G xs' l' → Rel F G (Pn.wr i l' c) σ (upd H a (.lst xs')) := by
  have core : ∀ (a : Addr) (s s' : Sl) (xs' : List V), c.r[i]? = some s → G a = none → (F.H0 a = none ∨ a ∈ F.mu) → (∃ ys, H a = some (.lst ys)) → (∀ j l2, j ≠ i → c.r[j]? = some (.own l2) → σ[j]? ≠ some (some (.ref a))) → (∀ j l2, j ≠ i → c.r[j]? = some (.io l2) → F.ia j ≠ a) → (∀ q ∈ F.pins, a ≠ q.1) →
      SlOk F G (upd H a (.lst xs')) i s' (σ[i]?) → ((∃ l1 l2, s = .own l1 ∧ s' = .own l2) ∨ ∃ l1 l2, s = .io l1 ∧ s' = .io l2) → Rel F G { c with r := c.r.set i s' } σ (upd H a (.lst xs')) := by
    intro a s s' xs' es ga h0 ha ho hi hp hs hk
    have ne : ∀ (b : Addr) (o : HO), G b = some o → b ≠ a := fun b o e z => by rw [z, ga] at e; cases e
    have nsta : a ∉ F.sta := fun m => by
      rcases h0 with h0 | h0
      · exact r.st0 a m h0
      · exact (r.mu0 a h0).2 m
    have nst : F.us = true → a ≠ F.sa ∧ a ≠ F.sc ∧ a ≠ F.sl := fun hu => by
      unfold Fr.sta at nsta
      rw [if_pos hu] at nsta
      simp only [List.mem_cons, List.not_mem_nil, or_false, not_or] at nsta
      exact nsta
    refine { sub := fun b o e => by rw [upd_ne (ne b o e)]; exact r.sub b o e, g0 := r.g0, fresh := r.fresh, len := by rw [← r.len]; exact List.length_set, mu0 := r.mu0, st0 := r.st0
             keep := fun b o e k1 k2 => ?_, sl := fun j x e => ?_, inj := fun j k l1 l2 e1 e2 e3 => ?_, ioj := fun j k l1 l2 e1 e2 e3 => ?_, st := fun hu => ?_, dom := fun b e k => ?_, pin := fun b hb => ?_
             tabs := r.tabs.move (fun b u e t => by
               have : b ≠ a := fun z => by
                 obtain ⟨ys, hy⟩ := ha
                 rw [z, hy] at e; cases e; exact isT_lst t
               rw [upd_ne this]; exact e) (fun b u e _ g => g) }
    · have : b ≠ a := fun z => by
        rcases h0 with h0 | h0
        · rw [z, h0] at e; cases e
        · exact k1 (z ▸ h0)
      rw [upd_ne this]
      exact r.keep b o e k1 k2
    · rcases get_set e with ⟨rfl, rfl, _⟩ | ⟨hj, e⟩
      · exact hs
      · refine (r.sl j x e).move (Same.refl _) (fun l2 b ys e1 e2 q1 q2 _ => ?_) (fun l2 ys e1 q1 q2 m => ?_)
        · subst e1
          have : b ≠ a := fun z => ho j l2 (fun w => hj w.symm) e (z ▸ e2)
          exact ⟨by rw [upd_ne this]; exact q1, q2⟩
        · subst e1
          have : F.ia j ≠ a := hi j l2 (fun w => hj w.symm) e
          exact ⟨by rw [upd_ne this]; exact q1, q2⟩
    · have f : ∀ (j : Nat) (l : List Dat), (c.r.set i s')[j]? = some (.own l) → ∃ l', c.r[j]? = some (.own l') := fun j l e => by
        rcases get_set e with ⟨rfl, z, _⟩ | ⟨_, e⟩
        · rcases hk with ⟨l1, l2, rfl, z2⟩ | ⟨l1, l2, rfl, z2⟩
          · exact ⟨l1, es⟩
          · rw [z2] at z
            cases z
        · exact ⟨l, e⟩
      obtain ⟨_, e1⟩ := f j l1 e1
      obtain ⟨_, e2⟩ := f k l2 e2
      exact r.inj j k _ _ e1 e2 e3
    · have f : ∀ (j : Nat) (l : List Dat), (c.r.set i s')[j]? = some (.io l) → ∃ l', c.r[j]? = some (.io l') := fun j l e => by
        rcases get_set e with ⟨rfl, z, _⟩ | ⟨_, e⟩
        · rcases hk with ⟨l1, l2, rfl, z2⟩ | ⟨l1, l2, rfl, z2⟩
          · rw [z2] at z
            cases z
          · exact ⟨l1, es⟩
        · exact ⟨l, e⟩
      obtain ⟨_, e1⟩ := f j l1 e1
      obtain ⟨_, e2⟩ := f k l2 e2
      exact r.ioj j k _ _ e1 e2 e3
    · obtain ⟨n1, n2, n3⟩ := nst hu
      obtain ⟨k1, k2, k3, k4⟩ := r.st hu
      exact ⟨by rw [upd_ne n1.symm]; exact k1, by rw [upd_ne n2.symm]; exact k2, by rw [upd_ne n3.symm]; exact k3, k4⟩
    · by_cases hb : b = a
      · rw [hb, upd_same] at k
        cases k
      · rw [upd_ne hb] at k
        exact r.dom b e k
    · obtain ⟨k1, k2, k3⟩ := r.pin b hb
      exact ⟨by rw [upd_ne (hp b hb).symm]; exact k1, k2, k3⟩
  unfold held at e
  cases es : c.r[i]? with
  | none => rw [es] at e; cases e
  | some s =>
    rw [es] at e
    cases s with
    | no => cases e
    | sh d => cases e
    | st => cases e
    | fn _ => cases e
    | own l0 =>
      cases e
      obtain ⟨a, xs, e1, e2, e3, e4, e5, e6⟩ := r.sl i _ es
      refine ⟨a, xs, e1, e2, e4, fun xs' l' q => ?_⟩
      unfold Pn.wr
      rw [es]
      exact core a _ (.own l') xs' es e3 (.inl e5) ⟨_, e2⟩ (fun j l2 hj ej z => hj (r.inj j i l2 l ej es (z.trans e1.symm))) (fun j l2 hj ej z => by
        have k := r.sl j _ ej
        obtain ⟨_, _, _, _, _, m⟩ := k
        exact (r.mu0 _ m).1 (z ▸ e5)) e6 ⟨a, xs', e1, upd_same, e3, q, e5, e6⟩ (.inl ⟨l, l', rfl, rfl⟩)
    | io l0 =>
      cases e
      obtain ⟨xs, e1, e2, e3, e4, e5⟩ := r.sl i _ es
      refine ⟨F.ia i, xs, e1, e2, e4, fun xs' l' q => ?_⟩
      unfold Pn.wr
      rw [es]
      exact core _ _ (.io l') xs' es e3 (.inr e5) ⟨_, e2⟩ (fun j l2 hj ej z => by
        obtain ⟨b, ys, f1, f2, f3, f4, f5⟩ := r.own_ne ej
        rw [f1] at z
        cases z
        exact (r.mu0 _ e5).1 f5.1) (fun j l2 hj ej z => hj (r.ioj j i l2 l ej es z)) (fun q hq z => (r.mu0 _ e5).1 (z ▸ (r.pin q hq).2.2)) ⟨xs', e1, upd_same, e3, q, e5⟩ (.inr ⟨l, l', rfl, rfl⟩)
theorem tyL {K : PySem.W.Frag} {a : Addr} {xs : List V} (h : H a = some (.lst xs)) : tyV K "list" (.ref a) H := .inl ⟨rfl, xs, Evl.sq_of h⟩
def heldM (i : Nat) : M (List Dat) := fun c => match held i c with
  | some l => .ok l c
  | none => .bad
theorem po_held {γ δ : Type} {R : L2.St → Hp → Hp → Cfg → δ → γ → Prop} {Q : δ → Hp → Prop} {G : Hp} {c : Cfg} {i : Nat} {f : List Dat → M γ} (r : Rel F G c σ H) (p : Po F W σ R Q G (M.bind (heldM i) f c)) :
    ∃ l a xs, held i c = some l ∧ σ[i]? = some (some (.ref a)) ∧ H a = some (.lst xs) ∧ RpA F.K G xs l ∧ Po F W σ R Q G (f l c) := by
  unfold M.bind heldM at p
  cases e : held i c with
  | none => rw [e] at p; exact p.elim
  | some l =>
    rw [e] at p
    obtain ⟨a, xs, e2, h2, q, _⟩ := r.wr e
    exact ⟨l, a, xs, rfl, e2, h2, q, p⟩
def wrM (i : Nat) (l : List Dat) : M Dat := fun c => .ok .none (wr i l c)
def appV (i : Nat) (m : M Dat) : M Dat := M.bind (heldM i) fun _ => M.bind m fun d => M.bind (heldM i) fun l => if l.length < 100000 then wrM i (l ++ [d]) else bad
theorem e_app {i : Nat} {x : Str} {e : Expr} {m : M Dat} {p apos cpos : Pos} (hN : X.N[i]? = some x) (hv : Vis X.env.scope x) (hd : (x == ("__debug__" : Str)) = false) (hcd : (x == ("__classdict__" : Str)) = false) (h : PE X e (E F W m))
    (hbase : attributeBase (.Name x p) "append" X.env (eval (.Name x p) X.env) = eval (.Name x p) X.env := by rfl)
    (hfew : ((backTo cpos (starEach [e] X.env)).all (fun x => !x.1) && (backToKw cpos (keywordEach [] X.env)).all (fun x => x.1.isSome) && decide (([e] : List Expr).length + ([] : List Keyword).length + (if ([] : List Keyword).isEmpty then 0 else 1) < 30)) = true := by rfl)
    (hLn : (apos.endLine == cpos.line) = true := by rfl)
    (hSt : starEach [e] X.env = (false, eval e X.env) :: starEach [] X.env := by rfl)
    (hPl : (backTo cpos (starEach [] X.env)).any (·.1) = false := by rfl) :
    PE X (.Call (.Attribute (.Name x p) "append" apos) [e] [] cpos) (E F W (appV i m)) :=
  (pe_bm PySem.F.plainAttrs_list PySem.F.slot_list_append PySem.F.type_list_append mt_append (pe_var hN hv hd hcd) (pa_cons h pa_nil hSt) hbase hfew hLn hSt hPl).mono fun σ H Q ⟨G, c, r, p⟩ => by
    obtain ⟨l, a, xs, _, e1, h1, q1, p⟩ := po_held r p
    refine ⟨.ref a, e1, tyL h1, sx_mono (po_bind (R1 := RD F) r p) fun y H2 ⟨d, G2, c2, r2, s2, q2, p2⟩ => ?_⟩
    obtain ⟨l2, a2, xs2, e0, e2, h2, q3, p3⟩ := po_held r2 p2
    rw [e1] at e2
    cases e2
    by_cases hl : l2.length < 100000
    · rw [if_pos hl] at p3
      refine ⟨a, xs2, y, rfl, rfl, h2, by rw [dpAll_len q3]; exact Evl.sz_lt hl, ?_⟩
      obtain ⟨a3, xs3, f1, f2, f3, f4⟩ := r2.wr e0
      rw [e1] at f1
      cases f1
      rw [h2] at f2
      cases f2
      exact p3 .non G2 _ (f4 _ _ (dpAll_app q3 (.cons q2 .nil))) (Same.refl _) .non
    · rw [if_neg hl] at p3
      exact p3.elim
def extV (i : Nat) (m : M Row) : M Dat := M.bind (heldM i) fun _ => M.bind m fun k => M.bind (heldM i) fun l => if k.1 = false ∧ l.length < 100000 ∧ k.2.length < 100000 then wrM i (l ++ k.2) else bad
theorem e_ext {i : Nat} {x : Str} {e : Expr} {m : M Row} {p apos cpos : Pos} (hN : X.N[i]? = some x) (hv : Vis X.env.scope x) (hd : (x == ("__debug__" : Str)) = false) (hcd : (x == ("__classdict__" : Str)) = false) (h : PE X e (R_ F W m))
    (hbase : attributeBase (.Name x p) "extend" X.env (eval (.Name x p) X.env) = eval (.Name x p) X.env := by rfl)
    (hfew : ((backTo cpos (starEach [e] X.env)).all (fun x => !x.1) && (backToKw cpos (keywordEach [] X.env)).all (fun x => x.1.isSome) && decide (([e] : List Expr).length + ([] : List Keyword).length + (if ([] : List Keyword).isEmpty then 0 else 1) < 30)) = true := by rfl)
    (hLn : (apos.endLine == cpos.line) = true := by rfl)
    (hSt : starEach [e] X.env = (false, eval e X.env) :: starEach [] X.env := by rfl)
    (hPl : (backTo cpos (starEach [] X.env)).any (·.1) = false := by rfl) :
    PE X (.Call (.Attribute (.Name x p) "extend" apos) [e] [] cpos) (E F W (extV i m)) :=
  (pe_bm PySem.F.plainAttrs_list PySem.F.slot_list_extend PySem.F.type_list_extend mt_extend (pe_var hN hv hd hcd) (pa_cons h pa_nil hSt) hbase hfew hLn hSt hPl).mono fun σ H Q ⟨G, c, r, p⟩ => by
    obtain ⟨l, a, xs, _, e1, h1, q1, p⟩ := po_held r p
    refine ⟨.ref a, e1, tyL h1, sx_mono (po_bind (R1 := RR F) r p) fun y H2 ⟨k, G2, c2, r2, s2, ⟨b, zs, ey, hb, qb⟩, p2⟩ => ?_⟩
    subst ey
    obtain ⟨l2, a2, xs2, e0, e2, h2, q3, p3⟩ := po_held r2 p2
    rw [e1] at e2
    cases e2
    by_cases hl : k.1 = false ∧ l2.length < 100000 ∧ k.2.length < 100000
    · rw [if_pos hl] at p3
      obtain ⟨hk, h5, h6⟩ := hl
      rw [hk, if_neg Bool.false_ne_true] at hb
      refine ⟨a, b, xs2, zs, rfl, rfl, h2, hb, by
        rw [dpAll_len q3, dpAll_len qb]
        have : sizeLine = 16777216 := sizeLine_eq
        omega, ?_⟩
      obtain ⟨a3, xs3, f1, f2, f3, f4⟩ := r2.wr e0
      rw [e1] at f1
      cases f1
      exact p3 .non G2 _ (f4 _ _ (dpAll_app q3 qb)) (Same.refl _) .non
    · rw [if_neg hl] at p3
      exact p3.elim
def popV (i : Nat) : M Dat := M.bind (heldM i) fun l => match l.getLast? with
  | some d => M.bind (wrM i l.dropLast) fun _ => ret d
  | none => bad
theorem dpAll_dropLast {K : PySem.W.Frag} {G : Hp} {xs : List V} {l : List Dat} (q : RpA K G xs l) : RpA K G xs.dropLast l.dropLast := by
  rw [List.dropLast_eq_take, List.dropLast_eq_take, dpAll_len q]
  exact dpAll_take _ q
theorem e_pop {i : Nat} {x : Str} {p apos cpos : Pos} (hN : X.N[i]? = some x) (hv : Vis X.env.scope x) (hd : (x == ("__debug__" : Str)) = false) (hcd : (x == ("__classdict__" : Str)) = false)
    (hbase : attributeBase (.Name x p) "pop" X.env (eval (.Name x p) X.env) = eval (.Name x p) X.env := by rfl) (hLn : (apos.endLine == cpos.line) = true := by rfl) :
    PE X (.Call (.Attribute (.Name x p) "pop" apos) [] [] cpos) (E F W (popV i)) :=
  (pe_bm0 PySem.F.plainAttrs_list PySem.F.slot_list_pop PySem.F.type_list_pop mt_pop (pe_var hN hv hd hcd) hbase hLn).mono fun σ H Q ⟨G, c, r, p⟩ => by
    obtain ⟨l, a, xs, e0, e1, h1, q1, p⟩ := po_held r p
    cases el : l.getLast? with
    | none => rw [el] at p; exact p.elim
    | some d =>
      rw [el] at p
      rw [List.getLast?_eq_getElem?] at el
      obtain ⟨v, ev, qv⟩ := dpAll_get q1 el
      rw [← dpAll_len q1] at ev
      refine ⟨.ref a, e1, tyL h1, a, xs, v, rfl, rfl, h1, ev, ?_⟩
      obtain ⟨a3, xs3, f1, f2, f3, f4⟩ := r.wr e0
      rw [e1] at f1
      cases f1
      exact p v G _ (f4 _ _ (dpAll_dropLast q1)) (Same.refl _) qv
def revV (i : Nat) : M Dat := M.bind (heldM i) fun l => wrM i l.reverse
theorem dpAll_rev {K : PySem.W.Frag} {G : Hp} : ∀ {xs : List V} {l : List Dat}, RpA K G xs l → RpA K G xs.reverse l.reverse
  | _, _, .nil => .nil
  | _, _, .cons h t => by
    simp only [List.reverse_cons]
    exact dpAll_app (dpAll_rev t) (.cons h .nil)
theorem e_rev {i : Nat} {x : Str} {p apos cpos : Pos} (hN : X.N[i]? = some x) (hv : Vis X.env.scope x) (hd : (x == ("__debug__" : Str)) = false) (hcd : (x == ("__classdict__" : Str)) = false)
    (hbase : attributeBase (.Name x p) "reverse" X.env (eval (.Name x p) X.env) = eval (.Name x p) X.env := by rfl) (hLn : (apos.endLine == cpos.line) = true := by rfl) :
    PE X (.Call (.Attribute (.Name x p) "reverse" apos) [] [] cpos) (E F W (revV i)) :=
  (pe_bm0 PySem.F.plainAttrs_list PySem.F.slot_list_reverse PySem.F.type_list_reverse mt_reverse (pe_var hN hv hd hcd) hbase hLn).mono fun σ H Q ⟨G, c, r, p⟩ => by
    obtain ⟨l, a, xs, e0, e1, h1, q1, p⟩ := po_held r p
    refine ⟨.ref a, e1, tyL h1, a, xs, rfl, rfl, h1, ?_⟩
    obtain ⟨a3, xs3, f1, f2, f3, f4⟩ := r.wr e0
    rw [e1] at f1
    cases f1
    exact p .non G _ (f4 _ _ (dpAll_rev q1)) (Same.refl _) .non

/-! ### truth of rows -/
def truR (r : Row) : M Bool := ret (!r.2.isEmpty)
theorem empty_dp {K : PySem.W.Frag} {G : Hp} {xs : List V} {l : List Dat} (q : RpA K G xs l) : xs.isEmpty = l.isEmpty := by
  cases q <;> rfl
theorem tru_rr (hK : F.K = X.K) {G : Hp} {c : Cfg} {v : V} {k : Row} (r : Rel F G c σ H) (q : RR F σ G H c v k) : TruV X.K v H (!k.2.isEmpty) := by
  obtain ⟨a, xs, rfl, h, q⟩ := q
  rw [← empty_dp q]
  rcases rr_or hK r.sub h with h | h
  · exact .inl ⟨xs, h, rfl⟩
  · exact .inr (.inl ⟨xs, h, rfl⟩)
theorem t_row {a : Expr} {m : M Row} (hK : F.K = X.K) (h : PE X a (R_ F W m)) (he : ∀ whole, isTrue a X.env whole = (do let v ← whole; standAt a.pos; holding [v] (truthy v)) := by intro _; rfl) : PT X a (B F W (M.bind m truR)) :=
  (pt_truth h he).mono fun σ H Q h => sx_mono (sx_bind (R1 := RR F) h) fun x H1 ⟨k, G1, c1, r1, q, p⟩ => ⟨_, tru_rr hK r1 q, po_ret r1 p rfl⟩
def nrowV (m : M Row) : M Dat := M.bind m fun r => ret (.bool r.2.isEmpty)
theorem e_nrow {a : Expr} {m : M Row} {pos : Pos} (hK : F.K = X.K) (h : PE X a (R_ F W m)) : PE X (.UnaryOp .Not a pos) (E F W (nrowV m)) :=
  (pe_notT h).mono fun σ H Q h => sx_mono (sx_bind (R1 := RR F) h) fun x H1 ⟨k, G1, c1, r1, q, p⟩ => ⟨_, tru_rr hK r1 q, by
    rw [Bool.not_not]
    exact po_ret r1 p (.bl _)⟩

/-! ### a datum parted into slots, while -/
def tgtM (b : Dat → Cfg → Option Cfg) (d : Dat) : M Ctl := fun c => match b d c with
  | some c' => .ok .nx c'
  | none => .bad
theorem s_asgT {tg e : Expr} {m : M Dat} {is : List Nat} {b : Dat → Cfg → Option Cfg} {pos : Pos} (h : PE X e (E F W m)) (ht : Tgt X F tg is b) (hs : swapsWithSole [tg] e pos.line X.env = pure false := by rfl) (hw : swappedStores [tg] e X.env = pure none := by rfl) (h1 : (assignEach [tg] X.env).map (·.2) = [assign tg X.env] := by rfl) :
    PS X (.Assign [tg] e pos) (T F W (M.bind m (tgtM b))) := by
  obtain ⟨g, pg, kg⟩ := ht
  exact (ps_asg h pg hs hw h1).mono fun D σ H ⟨G, c, r, p⟩ => sx_mono (ps_bind (R1 := RD F) r p) fun x H1 ⟨d, G1, c1, r1, s1, q, p1⟩ => by
    unfold tgtM at p1
    cases e : b d c1 with
    | none => rw [e] at p1; exact p1.elim
    | some c' =>
      rw [e] at p1
      exact kg G1 c1 c' σ H1 x d _ r1 q e fun σ2 r2 _ => p1 σ2 G1 H1 r2 (Same.refl _)
theorem Rel.drops {G : Hp} {c : Cfg} (r : Rel F G c σ H) : ∀ vs : List Nat, Rel F G { c with r := clr vs c.r } σ H
  | [] => r
  | v :: vs => (Rel.drops r vs).drop (i := v)
/-- a loop: behind each turn what the turn has put into its slots is forgotten -/
def whileL (vs : List Nat) (t : M Bool) (b : M Ctl) : Nat → M Ctl
  | 0 => bad
  | n + 1 => M.bind t fun k => if k = true then fun c => match b c with
    | .ok .nx c2 => whileL vs t b n { c2 with r := clr vs c2.r }
    | .ok .ct c2 => whileL vs t b n { c2 with r := clr vs c2.r }
    | .ok .bk c2 => .ok .nx c2
    | r => r
    else ret .nx
theorem s_while (vs : List Nat) (n : Nat) {c : Expr} {body : List Stmt} {mt : M Bool} {mb : M Ctl} {pos : Pos} (hp : PassesOwn (model X.prog X.w) X.A X.env X.xe) (hc : PT X c (B F W mt)) (hb : PSs X body (T F W mb)) : PS X (.While c body [] pos) (T F W (whileL vs mt mb n)) :=
  (ps_while hp hc hb).mono fun D σ H ⟨G, c, r, p⟩ => by
    refine ⟨fun m σ H => ∃ G' c', Same G G' ∧ Rel F G' c' σ H ∧ Ps F W D G' (whileL vs mt mb m c'), ⟨n, G, c, Same.refl _, r, p⟩, ?_⟩
    rintro m σ H ⟨G', c', s', r', p'⟩
    cases m with
    | zero => exact p'.elim
    | succ m =>
      refine sx_mono (ps_bind (R1 := RB) r' p') fun k H1 ⟨k', G1, c1, r1, s1, q, p1⟩ => ?_
      cases q
      cases k with
      | true =>
        rw [if_pos rfl]
        have p1 : Ps F W D G1 (match mb c1 with
          | .ok .nx c2 => whileL vs mt mb m { c2 with r := clr vs c2.r }
          | .ok .ct c2 => whileL vs mt mb m { c2 with r := clr vs c2.r }
          | .ok .bk c2 => .ok .nx c2
          | r => r) := p1
        refine ⟨fun σ' H' => ∃ G2 c2, Same G G2 ∧ Rel F G2 c2 σ' H' ∧ Ps F W D G2 (whileL vs mt mb m c2), fun σ' H' z => ⟨m, Nat.lt_succ_self _, z⟩, G1, c1, r1, ?_⟩
        cases em : mb c1 with
        | ok a c3 =>
          simp only [em] at p1
          cases a with
          | nx => exact fun σ' G3 H3 r4 s4 => ⟨G3, _, (s'.trans s1).trans s4, r4.drops vs, p1.up s4⟩
          | ct => exact fun σ' G3 H3 r4 s4 => ⟨G3, _, (s'.trans s1).trans s4, r4.drops vs, p1.up s4⟩
          | bk => exact fun σ' G3 H3 r4 s4 => p1 σ' G3 H3 r4 s4
          | rt v => exact p1
        | exc k d c3 => simp only [em] at p1; exact p1
        | bad => simp only [em] at p1; exact p1.elim
      | false =>
        rw [if_neg (show ¬(false = true) by decide)]
        exact p1 σ G1 H1 r1 (Same.refl _)
end
end Pn

set_option maxHeartbeats 1000001
namespace Pn
open L2 PyProof.Rows PySem.Spec PySem

/-! ### errors with one field -/
def spEx (Ca : Addr) (f : Str) : Sp := fun vs H Q _ => ∃ a v, vs = [.ref a, v] ∧ H a = some (exo a Ca none) ∧ ∀ dx, H dx = none → dx ≠ a → Q .non (upd (upd H dx (exd dx [(f, v)])) a (exo a Ca (some dx)))
theorem ok_exInit {P : Program} {w : World} {K : PySem.W.Frag} {mg : Str → Option Value} {base : Heap} {qual : Str} {st : Stmt} {fI Ca : Addr} {fd : FuncData} {f x : Str} (Fn : Fun K "__init__" qual st fI fd) (S : FnScope ["self", x] ["self", x] (defScope st))
    (hb : ∃ p1 p2 p3 p4, defBody st = [.Assign [.Attribute (.Name "self" p1) f p2] (.Name x p3) p4]) (hx : (x == ("__debug__" : Str)) = false) (hx2 : (x == ("__classdict__" : Str)) = false) (hv0 : Vis (defScope st) "self") (hv1 : Vis (defScope st) x) (T : OexC K Ca) (hno : PySem.W.findIn K (.ref Ca) f = some none) :
    FnOk P w K mg base CX0 1 fI fd ["self", x] (spEx Ca f) := by
  refine Fn.ok S (fun vs H Q E h => ?_) (fun cdv A outer s H vs Q E hr h => ?_)
  · obtain ⟨a, v, rfl, _⟩ := h
    rfl
  · obtain ⟨a, v, rfl, ha, k⟩ := h
    obtain ⟨p1, p2, p3, p4, eb⟩ := hb
    rw [eb]
    refine ⟨_, pss_one (ps_ost (pe_var (i := 0) rfl hv0 (by decide) (by decide)) (pe_var (i := 1) rfl hv1 hx hx2)), ?_⟩
    exact ⟨v, rfl, .ref a, rfl, a, Ca, rfl, T, hno, .inl ⟨ha, k⟩⟩
/-- an error's class of the text, the k-th -/
structure ErrX (P : Program) (w : World) (K : PySem.W.Frag) (mg : Str → Option Value) (base : Heap) (C : Cls) (k : Nat) (x : Str) : Prop where
  ex : ∃ (Ca fI : Addr) (fd : FuncData) (ps : List Str), C.at_ k = .ref Ca ∧ OexC K Ca ∧ PySem.W.findIn K (.ref Ca) "__init__" = some (some (.ref fI)) ∧ PySem.W.typeIn K (.ref fI) = some (.type "function") ∧
    FnOk P w K mg base CX0 1 fI fd ps (spEx Ca (C.fld k)) ∧ Binds K fd ps [] ∧ mg x = some (.ref Ca)
section
variable {F : Fr} {W : L2.WX} {σ : L2.St} {H : Hp} {X : Cx} {D : Ends}
/-- another object is laid -/
theorem Rel.other {G : Hp} {c : Cfg} {p : Addr} {o : HO} (r : Rel F G c σ H) (hp : H p = none) : Rel F G c σ (upd H p o) := by
  have sH : Same H (upd H p o) := fun b u e => by
    rw [upd_ne (ne_of_none e hp)]
    exact e
  exact { tabs := r.tabs.move (fun b u e _ => sH _ _ e) (fun b u e _ g => g), sub := r.sub.trans sH, g0 := r.g0, fresh := r.fresh, keep := fun b u e h1 h2 => sH _ _ (r.keep b u e h1 h2), len := r.len, inj := r.inj, ioj := r.ioj, mu0 := r.mu0, st0 := r.st0
          sl := fun i s e => (r.sl i s e).move (Same.refl _) (fun l a xs _ _ q1 q2 _ => ⟨sH _ _ q1, q2⟩) (fun l xs _ q1 q2 _ => ⟨sH _ _ q1, q2⟩)
          st := fun hu => by
            obtain ⟨h1, h2, h3, k⟩ := r.st hu
            exact ⟨sH _ _ h1, sH _ _ h2, sH _ _ h3, k⟩
          pin := fun b hb => by
            obtain ⟨h1, k⟩ := r.pin b hb
            exact ⟨sH _ _ h1, k⟩
          dom := fun b e z => by
            by_cases hb : b = p
            · exact e (hb ▸ r.old hp)
            · rw [upd_ne hb] at z
              exact r.dom b e z }
def excM {α : Type} (k : Nat) (d : Dat) : M α := fun c => .exc k d c
theorem s_raise {k : Nat} {x : Str} {e : Expr} {m : M Dat} {p pos pos' : Pos} (hK : F.K = X.K) (hc : X.calm = true) (tk : Takes X W) (Z : ErrX X.prog X.w X.K X.mg X.base F.C k x) (hr : Room 2 X.A) (hg : Gl X x) (h : PE X e (E F W m)) (hdb : (x == ("__debug__" : Str)) = false := by decide)
    (he : starEach [e] X.env = (false, eval e X.env) :: starEach [] X.env := by rfl) : PS X (.Raise (some (.Call (.Name x p) [e] [] pos)) none pos') (T F W (M.bind m fun d => excM k d)) := by
  obtain ⟨Ca, fI, fd, ps, eC, TC, iC, tI, F1, hb, hm⟩ := Z.ex
  refine (ps_raise hc tk (pmk_oex TC iC tI F1 hr hb .nil pass0 hg hm (pa_cons h pa_nil he) hdb he)).mono fun D σ H ⟨G, c, r, p⟩ => sx_mono (ps_bind (R1 := RD F) r p) fun v H1 ⟨d, G1, c1, r1, s1, q, p1⟩ => ?_
  refine ⟨by show 1 ≤ 1000; decide, fun a ha => ⟨a, v, rfl, upd_same, fun dx hd ne => ⟨rfl, dx, [(F.C.fld k, v)], upd_same, ?_, ?_, ?_⟩⟩⟩
  · rw [upd_ne ne, upd_same]
  · rw [upd_ne ne] at hd
    exact hd
  · have hd1 : H1 dx = none := by
      rw [upd_ne ne] at hd
      exact hd
    have eh : upd (del (upd (upd (upd H1 a (exo a Ca none)) dx (exd dx [(F.C.fld k, v)])) a (exo a Ca (some dx))) a) dx (.xd [(F.C.fld k, v)]) = upd H1 dx (.xd [(F.C.fld k, v)]) := by
      funext b
      by_cases h1 : b = dx
      · rw [h1, upd_same, upd_same]
      · rw [upd_ne h1, upd_ne h1]
        by_cases h2 : b = a
        · rw [h2, del_same]
          exact ha.symm
        · rw [del_ne h2, upd_ne h2, upd_ne h1, upd_ne h2]
    rw [eh, ← eC]
    exact p1 dx v σ G1 _ (r1.other hd1) upd_same q

/-! ### defs at hand -/
structure Has (P : Program) (w : World) (K : PySem.W.Frag) (mg : Str → Option Value) (base : Heap) (C : Cls) (x : Str) (k n : Nat) (g : List Dat → PR) : Prop where
  ex : ∃ (f : Addr) (fd : FuncData) (ps : List Str), ps.length = n ∧ FnOk P w K mg base (L2.CX P w) k f fd ps (spP K C n g) ∧ mg x = some (.ref f) ∧ PySem.W.keepIn K (.ref f) = true ∧ Binds K fd ps []
def callN (n : Nat) (g : List Dat → PR) (ms : M (List Dat)) : M RV := M.bind ms fun ds => if ds.length = n then callP g ds else bad
theorem e_callH {k n j : Nat} {g : List Dat → PR} {x : Str} {p pos : Pos} {e : Expr} {es : List Expr} {ms : M (List Dat)} (hK : F.K = X.K) (Z : Has X.prog X.w X.K X.mg X.base F.C x k n g) (hr : Room j X.A) (hkj : k ≤ j) (hg : Gl X x) (tk : Takes X W) (ha : PA X (e :: es) (A F W ms)) (hlen : (e :: es).length = n)
    (hdb : (x == ("__debug__" : Str)) = false := by decide) (he : starEach (e :: es) X.env = (false, eval e X.env) :: starEach es X.env := by rfl) (hpl : (backTo pos (starEach es X.env)).any (·.1) = false := by rfl) : PE X (.Call (.Name x p) (e :: es) [] pos) (EX F W (callN n g ms)) := by
  obtain ⟨f, fd, ps, h1, h2, h3, h4, h5⟩ := Z.ex
  exact e_call hK h1 h2 (hr.mono hkj) hg h3 h4 h5 tk ha hlen hdb he hpl
theorem Has.up {P : Program} {w : World} {K : PySem.W.Frag} {mg : Str → Option Value} {base : Heap} {C : Cls} {x : Str} {k k' n : Nat} {g : List Dat → PR} (Z : Has P w K mg base C x k n g) (h : k ≤ k') : Has P w K mg base C x k' n g := by
  obtain ⟨f, fd, ps, h1, h2, h3⟩ := Z.ex
  exact ⟨f, fd, ps, h1, h2.mono h, h3⟩
/-- where the body hangs on what it has not got, nothing is promised -/
theorem fn_none {P : Program} {w : World} {K : PySem.W.Frag} {mg : Str → Option Value} {base : Heap} {f : Addr} {fd : FuncData} {ps : List Str} {k n : Nat} {C : Cls} {CX : CXT} : FnOk P w K mg base CX k f fd ps (spP K C n fun _ => .bad) :=
  ⟨fun vs H Q E ⟨_, _, _, _, _, z⟩ => z.elim, fun _ _ _ _ _ _ _ _ _ _ _ _ _ ⟨_, _, _, _, _, z⟩ => z.elim⟩
end
end Pn

set_option maxHeartbeats 2000001
/-! enumerate of a tuple. -/
namespace PnEn
open L2 PyProof.Rows PySem.Spec PySem
open AutoSeq1
theorem newT (t : Addr) (its : Array Value) (n : Nat) (dct : Option Addr) (sl : Array (Option Value)) :
    Meets (Builtin.«enumerate.__new__» ⟨[.type "enumerate", .ref t], []⟩) (fun _ R s => s.heap.get? t = some { cls := .type "tuple", dict := dct, data := .seq its n, slots := sl } ∧
      R (.ok (.ret (.ref (s.heap.push { cls := .type "tuple_iterator", data := .fields #[.ref t, .int 0 0] }).objs.size)))
        { s with heap := (s.heap.push { cls := .type "tuple_iterator", data := .fields #[.ref t, .int 0 0] }).push { cls := .type "enumerate", data := .fields #[.none, .bool false, .ref s.heap.objs.size, rawInt 0, .none, .none] } }) :=
  .of_wp fun P w A R s ⟨e, q⟩ => by
    have sub := sub_enumerate
    obtain ⟨h, g, d, tk, os⟩ := s
    have isT : Heap.IsTuple (Shared.heap ⟨h, g, d, tk, os⟩) t its := ⟨_, e, rfl, n, rfl⟩
    wp_walk using wpAny_loadPart' e
    apply wpAny_stack_any
    intro st
    apply wpAny_pure
    split
    · rename_i c _ _ _ _ _
      cases (c == Value.type "enumerate") <;> (wp_walk using wpAny_loadPart' e, wpAny_pyIter_tuple isT; exact ⟨_, rfl, q⟩)
    · wp_walk using wpAny_loadPart' e, wpAny_pyIter_tuple isT
      exact ⟨_, rfl, q⟩
section
variable {P : Program} {w : World} {A : Around} {s : Shared}
variable {E : Value → Shared → Prop}
theorem callT {t : Addr} {its : Array Value} {Q : Value → Shared → Prop} (isT : s.heap.IsTuple t its)
    (q : ∀ h', IsEnum h' (s.heap.objs.size + 1) s.heap.objs.size 0 .none → h'.IsTupleIter s.heap.objs.size t 0 → (∀ b o, s.heap.get? b = some o → h'.get? b = some o) → Q (.ref (s.heap.objs.size + 1)) { s with heap := h' }) :
    wpAny (model P w) A (call (.type "enumerate") [.ref t]) Q E s := by
  obtain ⟨⟨c, dct, dt, sl⟩, e, hc, n, hd⟩ := isT
  obtain rfl : c = .type "tuple" := hc
  obtain rfl : dt = .seq its n := hd
  refine callType_new F.called_enumerate (by decide) (F.typeCall_enumerate_1 _) (F.newCall_enumerate_1 _) (fun ob => F.args_object_init_2 ob _) F.entry_enumerate_new (newT t its n dct sl) ⟨e, ?_⟩
  let h1 := s.heap.push { cls := .type "tuple_iterator", data := .fields #[.ref t, .int 0 0] }
  have z : h1.objs.size = s.heap.objs.size + 1 := Heap.size_push ..
  have en : IsEnum (h1.push { cls := .type "enumerate", data := .fields #[.none, .bool false, .ref s.heap.objs.size, rawInt 0, .none, .none] }) (s.heap.objs.size + 1) s.heap.objs.size 0 .none := by
    have k := Heap.get?_push_size h1 (o := { cls := .type "enumerate", data := .fields #[.none, .bool false, .ref s.heap.objs.size, rawInt 0, .none, .none] }) rfl
    rwa [z] at k
  have z' : (s.heap.push { cls := .type "tuple_iterator", data := .fields #[.ref t, .int 0 0] }).objs.size = s.heap.objs.size + 1 := z
  show _ ∧ _
  rw [z']
  exact ⟨⟨_, en, rfl⟩, q _ en ⟨_, Heap.get?_push_of_some _ (Heap.get?_push_size _ rfl), rfl, rfl⟩ fun b o x => Heap.get?_push_of_some _ (Heap.get?_push_of_some _ x)⟩
end
theorem of_two {P : Nat → Prop} {b e it : Nat} (hb : b ∈ [e, it]) (h1 : P e) (h2 : P it) : P b := by
  simp only [or_false, List.mem_cons, List.not_mem_nil] at hb
  rcases hb with h | h <;> subst h <;> assumption
/-- the tuple at a, each item in a new pair with its place -/
def IteT (K : PySem.W.Frag) (a : Addr) : It :=
  ⟨fun i H => ∃ (xs : List V) (x : V), SqT K H a xs ∧ xs[i]? = some x, fun i H v H' => ∃ T x, v = .ref T ∧ H T = none ∧ H' = upd H T (.tup [.int (i : Nat), x]) ∧ ∀ xs, SqT K H a xs → xs[i]? = some x, fun i H => ∃ xs : List V, SqT K H a xs ∧ xs.length = i⟩
/-- where an enumerate of a tuple stands before its turn i -/
def AtE (a e it : Addr) (i : Nat) (h : Heap) : Prop := (∃ old, IsEnum h e it ((i : Nat) : Int) old) ∧ h.IsTupleIter it a i ∧ e ≠ it ∧ a ≠ it ∧ e ≠ a
theorem turnT {P : Program} {w : World} {K : PySem.W.Frag} {elts : List Expr} {kk : Nat} {tpos : Pos} (a e it : Addr) :
    Turn P w K (.Tuple elts kk tpos) (IteT K a) [e, it] e (AtE a e it) where
  mem := List.mem_cons_self
  obj := by
    rintro i h ⟨⟨old, he⟩, ⟨o, ho, hc, hd⟩, _⟩ b hb
    refine of_two (P := fun b => ∃ o, h.get? b = some o ∧ ∀ v, o.data ≠ .cell v) hb ⟨_, he, ?_⟩ ⟨o, ho, ?_⟩
    · intro v z
      cases z
    · intro v z
      rw [hd] at z
      cases z
  keep := fun i h h' ⟨⟨old, he⟩, hi, hne⟩ k => ⟨⟨old, k e List.mem_cons_self _ he⟩, hi.at fun o q => k it (List.mem_cons_of_mem _ List.mem_cons_self) o q, hne⟩
  item := by
    rintro X rfl rfl rfl hc i pins s σ H E I hf ⟨⟨old, he⟩, hit, n1, n2, n3⟩ ⟨xs, x, hq, hx⟩
    obtain ⟨its, rv, isT, hz⟩ := I.tuple hq
    obtain ⟨y, hu, ru⟩ := rv.get hx
    have le : e < s.heap.objs.size := Heap.lt_size he
    have li : it < s.heap.objs.size := hit.elim fun _ q => Heap.lt_size q.1
    have hlt : i < its.toArray.size := by
      have := (List.getElem?_eq_some_iff.mp hu).1
      simpa using this
    have hd : X.A.in1.handled = none := I.ok.hd hc
    refine wpAny_pyNext_enum_itemD (Draws.tuple (prog := X.prog) (w := X.w) (A := X.A.in1) hd it a n2 its.toArray) he ⟨hit, isT⟩ hlt n1 (by simp [n1, n3]) fun y' h' tk hy ho hit' hT hsz hk => ?_
    obtain rfl : y' = y := by
      have e1 : its.toArray[i]? = some y' := hy
      rw [List.getElem?_toArray, hu] at e1
      exact (Option.some.inj e1).symm
    refine ⟨_, rfl, wpAny_letOwnedTupleGo_enum (s := { s with heap := h', toks := tk + 1 }) ho fun h'' he' sb => ?_⟩
    have cell := (sb.2 _ (Nat.ne_of_gt le)).trans hT
    have ok : ObjOk X.prog X.w (upd H s.heap.objs.size (.tup [.int (i : Nat), x])) h'' s.heap.objs.size (.tup [.int (i : Nat), x]) :=
      ⟨by show 2 ≤ sizeLine; decide, [.int i tk, y'], .cons ⟨_, rfl⟩ (.cons ru .nil), ⟨_, cell, rfl, _, rfl⟩⟩
    have same : ∀ b ob, b ∉ [e, it] → s.heap.get? b = some ob → h''.get? b = some ob := by
      intro b ob hb q
      have b1 : b ≠ e := fun z => hb (z ▸ List.mem_cons_self)
      have b2 : b ≠ it := fun z => hb (z ▸ List.mem_cons_of_mem _ List.mem_cons_self)
      exact (sb.2 b b1).trans (hk b ob b1 b2 q)
    refine ⟨.ref s.heap.objs.size, _, I.turnedNew (ch := [e, it]) (h' := h'') (t' := tk + 1) same hf (Nat.le_refl _) ok, rfl, ⟨_, x, rfl, I.hok.fresh (Nat.le_refl _), rfl, fun ys hy => by rw [I.tuple_inj hy hq]; exact hx⟩, ⟨⟨y', ?_⟩, hit'.1.at fun o q => (sb.2 it (Ne.symm n1)).trans q, n1, n2, n3⟩, fun b hb => ?_⟩
    · rw [Int.natCast_succ]
      exact he'
    · have lt : b < s.heap.objs.size := of_two (P := fun b => b < s.heap.objs.size) hb le li
      exact (upd_ne (Nat.ne_of_lt lt)).trans (hf b hb).1
  done := by
    rintro X rfl rfl rfl hc i pins s σ H E I hf ⟨⟨old, he⟩, hit, n1, n2, n3⟩ ⟨xs, hq, hx⟩
    obtain ⟨its, rv, isT, hz⟩ := I.tuple hq
    obtain ⟨w0, w1, w2, w3, w4, w5⟩ := hf it (List.mem_cons_of_mem _ List.mem_cons_self)
    obtain rfl : i = its.toArray.size := by rw [List.size_toArray, ← rv.length, hx]
    have hd : X.A.in1.handled = none := I.ok.hd hc
    exact wpAny_pyNext_enum_endD (Draws.tuple (prog := X.prog) (w := X.w) (A := X.A.in1) hd it a n2 its.toArray) he ⟨hit, isT⟩ fun h' eb => ⟨rfl, I.turned (t' := s.toks) (fun b o hb q => eb b o hb q) w0 w1 w3 w4 w5⟩
  self := fun A i s Q E k h => k.1.elim fun _ he => wpAny_pyIter_enum he h
def iEnumT (K : PySem.W.Frag) (ta : TA) : TI := fun σ H R => ta σ H fun vs H1 => ∃ a xs, vs = [.ref a] ∧ SqT K H1 a xs ∧ R (IteT K a) H1
theorem pi_enumT {X : Cx} {e : Expr} {ta : TA} {p pos tpos : Pos} {elts : List Expr} {kk : Nat} (hg : Gl X "enumerate") (hm : X.mg "enumerate" = none) (ha : PA X [e] ta) (hs : starEach [e] X.env = [(false, eval e X.env)] := by rfl) :
    PI X (.Tuple elts kk tpos) (.Call (.Name "enumerate" p) [e] [] pos) (iEnumT X.K ta) where
  run := by
    intro pins s σ H R I h
    refine Call_ (ld_blt I hg hm boot_enumerate (PyProof.Rows.callWith_type1 (thn (ha.run pos pins s σ H _ I h) fun us s1 => ?_) hs rfl))
    rintro ⟨vs, H1, I1, r1, a, xs, rfl, hq, q⟩
    cases r1 with
    | cons r rr =>
      cases rr
      cases r
      obtain ⟨its, rv, isT, hz⟩ := I1.tuple hq
      have la : a < s1.heap.objs.size := isT.elim fun _ z => Heap.lt_size z.1
      refine callT isT fun h' he hit hk => wpAny_pyIter_enum he ?_
      refine ⟨s1.heap.objs.size + 1, [s1.heap.objs.size + 1, s1.heap.objs.size], _, _, H1, rfl, I1.kept (h' := h') (t' := s1.toks) hk, turnT a (s1.heap.objs.size + 1) s1.heap.objs.size, ⟨⟨.none, he⟩, hit, Nat.succ_ne_self _, Nat.ne_of_lt la, Nat.ne_of_gt (Nat.lt_succ_of_lt la)⟩, fun b hb => ?_, q⟩
      have up : s1.heap.objs.size ≤ b := of_two (P := fun b => s1.heap.objs.size ≤ b) hb (Nat.le_succ _) (Nat.le_refl _)
      exact I1.fpOk up (I1.hok.fresh up)
end PnEn
namespace Pn
open L2 PyProof.Rows PySem.Spec PySem
/-- pairs of the places and the items -/
def pairsF : Nat → List Dat → List Dat
  | _, [] => []
  | i, d :: ds => .tuple [.int (i : Int), d] :: pairsF (i + 1) ds
theorem pairsF_len : ∀ (ds : List Dat) (i : Nat), (pairsF i ds).length = ds.length
  | [], _ => rfl
  | _ :: ds, i => congrArg (· + 1) (pairsF_len ds (i + 1))
theorem pairsF_get : ∀ {ds : List Dat} {k i : Nat} {d : Dat}, (pairsF k ds)[i]? = some d → ∃ x, ds[i]? = some x ∧ d = .tuple [.int ((k + i : Nat) : Int), x]
  | [], _, _, _, e => by simp [pairsF] at e
  | x :: ds, k, 0, d, e => by
    simp only [pairsF, List.getElem?_cons_zero, Option.some.injEq] at e
    exact ⟨x, rfl, e.symm⟩
  | x :: ds, k, i + 1, d, e => by
    simp only [pairsF, List.getElem?_cons_succ] at e
    obtain ⟨y, h1, h2⟩ := pairsF_get e
    exact ⟨y, by simpa using h1, by rw [h2, show k + 1 + i = k + (i + 1) by omega]⟩
section
variable {F : Fr} {W : L2.WX} {σ : L2.St} {H : Hp} {X : Cx} {D : Ends}
theorem src_enumL {K : PySem.W.Frag} {G : Hp} {a : Addr} {xs : List V} {items : List Dat} (h : G a = some (.lst xs)) (q : RpA K G xs items) : Src K G (Ite K a) (pairsF 0 items) := fun F G' c σ H e s r => by
  have hq : SqL K H a xs := Evl.sq_of (r.sub _ _ (s _ _ h))
  refine ⟨⟨xs, hq, by rw [pairsF_len]; exact Nat.le_of_eq (dpAll_len q)⟩, fun i d ed => ?_⟩
  obtain ⟨x, ex, rfl⟩ := pairsF_get ed
  obtain ⟨v, ev, qv⟩ := dpAll_get q ex
  refine ⟨⟨xs, v, hq, ev⟩, fun y H' ⟨T, z, e1, e2, e3, e4⟩ => ?_⟩
  subst e1
  subst e3
  cases (e4 xs hq).symm.trans ev
  obtain ⟨r2, s2⟩ := r.laid (o := .tup [.int (i : Nat), v]) e2
  refine ⟨_, r2, s2, .tup (Evl.st_of upd_same) (.cons ?_ (.cons (dp_mono (s.trans s2) qv) .nil))⟩
  rw [Nat.zero_add]
  exact .int _
theorem src_enumT {K : PySem.W.Frag} {G : Hp} {a : Addr} {xs : List V} {items : List Dat} (h : SqT K G a xs) (q : RpA K G xs items) : Src K G (PnEn.IteT K a) (pairsF 0 items) := fun F G' c σ H e s r => by
  have hq : SqT K H a xs := sqT_mono (s.trans r.sub) h
  refine ⟨⟨xs, hq, by rw [pairsF_len]; exact dpAll_len q⟩, fun i d ed => ?_⟩
  obtain ⟨x, ex, rfl⟩ := pairsF_get ed
  obtain ⟨v, ev, qv⟩ := dpAll_get q ex
  refine ⟨⟨xs, v, hq, ev⟩, fun y H' ⟨T, z, e1, e2, e3, e4⟩ => ?_⟩
  subst e1
  subst e3
  cases (e4 xs hq).symm.trans ev
  obtain ⟨r2, s2⟩ := r.laid (o := .tup [.int (i : Nat), v]) e2
  refine ⟨_, r2, s2, .tup (Evl.st_of upd_same) (.cons ?_ (.cons (dp_mono (s.trans s2) qv) .nil))⟩
  rw [Nat.zero_add]
  exact .int _
def enL : Dat → M (List Dat)
  | .list l => ret (pairsF 0 l)
  | _ => bad
def enT : Dat → M (List Dat)
  | .tuple l => ret (pairsF 0 l)
  | _ => bad
theorem i_enumL {e : Expr} {m : M Dat} {p pos tpos : Pos} {elts : List Expr} {kk : Nat} (hK : F.K = X.K) (hg : Gl X "enumerate") (hm : X.mg "enumerate" = none) (h : PE X e (E F W m)) (hs : starEach [e] X.env = [(false, eval e X.env)] := by rfl) :
    PI X (.Tuple elts kk tpos) (.Call (.Name "enumerate" p) [e] [] pos) (I_ F W (M.bind m enL)) :=
  (pi_enum hg hm (pa_cons h pa_nil hs) hs).mono fun σ H Q h => sx_mono (sx_bind (R1 := RD F) h) fun x H1 ⟨d, G1, c1, r1, q, p⟩ => by
    cases q with
    | lst h q => exact ⟨_, _, rfl, Evl.sq_of (r1.sub _ _ h), hK ▸ po_ret (v := Ite F.K _) r1 p (src_enumL h q)⟩
    | _ => exact p.elim
theorem i_enumT {e : Expr} {m : M Dat} {p pos tpos : Pos} {elts : List Expr} {kk : Nat} (hK : F.K = X.K) (hg : Gl X "enumerate") (hm : X.mg "enumerate" = none) (h : PE X e (E F W m)) (hs : starEach [e] X.env = [(false, eval e X.env)] := by rfl) :
    PI X (.Tuple elts kk tpos) (.Call (.Name "enumerate" p) [e] [] pos) (I_ F W (M.bind m enT)) :=
  (PnEn.pi_enumT hg hm (pa_cons h pa_nil hs) hs).mono fun σ H Q h => sx_mono (sx_bind (R1 := RD F) h) fun x H1 ⟨d, G1, c1, r1, q, p⟩ => by
    cases q with
    | tup h q => exact ⟨_, _, rfl, hK ▸ sqT_mono r1.sub h, hK ▸ po_ret (v := PnEn.IteT F.K _) r1 p (src_enumT h q)⟩
    | _ => exact p.elim
end
end Pn

set_option maxHeartbeats 4000001
/-! a set of a list or a tuple of integers, as a thing of its own in the heap -/
namespace PnSet
open L2 PyProof.Rows PySem.Spec PySem
abbrev mt (w : World) : Obj := { cls := .type "set", dict := none, data := .set #[] 0 (.fresh 0 0 (!w.params.followText "set-order")) }
section
variable {Pr : Program} {w : World} {A : Around} {s : Shared}
variable {E : Value → Shared → Prop}
/-- a set is made of x, if x is walked so -/
theorem made {l : Addr} {its : Array Value} (ns : List Int) {Q : Value → Shared → Prop} (hh : A.handled = none) (hl : s.heap.IsList l its) (hi : IntsAre its.toList ns) (hb : ns.length + 1 < scanBound)
    (fin : ∀ (g : Heap) (tk c : Nat), SetR w g s.heap.objs.size (fun j => decide (j ∈ ns)) c → c ≤ ns.length → (∀ b o, s.heap.get? b = some o → g.get? b = some o) → Q (.ref s.heap.objs.size) { s with heap := g, toks := tk }) : wpAny (model Pr w) A (call (.type "set") [.ref l]) Q E s := by
  have many : its.size = ns.length := (Array.length_toList (xs := its)).symm.trans (IntsAre.length hi)
  obtain ⟨c, rest, order⟩ := F.called_set.mro
  have k0 := F.called_set.made
  have k1 := F.called_set.sub
  have k2 := F.called_set.notType
  have k3 := F.called_set.canCreate
  have k4 := F.typeCall_set_1 (.ref l)
  refine wpAny_call (codeAny_of_tree (show wpAny _ _ (callAny (.type "set") _) _ _ _ from ?_))
  refine wpAny_pure ⟨Code.quiet_builtin _ (by decide +kernel), ?_⟩
  refine codeAny_builtin F.entry_type_call (Around.under_plain (weight_type_call_type "set" [.ref l] []) rfl ▸ ?_)
  repeat any_goals first | assumption | wp_step
  refine codeAny_mono (code_set_led1 (.ref l) (E := E) (Q₁ := fun ob s1 => ob = .ref s.heap.objs.size ∧ s1 = { s with heap := s.heap.push (mt w) }) ⟨rfl, rfl⟩) ?_
  rintro (e | r) s1 hr
  · exact hr
  · cases r with
    | ret ob =>
      obtain ⟨rfl, rfl⟩ := hr
      have at0 : (s.heap.push (mt w)).get? s.heap.objs.size = some (mt w) := Heap.get?_push_size _ rfl
      have is0 : Shared.TypeIs { s with heap := s.heap.push (mt w) } (.ref s.heap.objs.size) "set" := ⟨_, at0, rfl⟩
      have k5 := F.called_set.init.lookup
      have k6 := F.called_set.init.bind (.ref s.heap.objs.size)
      repeat any_goals first | assumption | wp_step
      refine codeAny_mono (codeAny_call_builtin (R := wants (fun r s2 => r = .none ∧ ∃ h' tk c, s2 = { s with heap := h', toks := tk } ∧ SetR w h' s.heap.objs.size (fun j => decide (j ∈ ns)) c ∧ c ≤ ns.length ∧ (∀ b o, s.heap.get? b = some o → h'.get? b = some o)) E)
        F.called_set.init.plain F.entry_set_init (check_set_init_1 is0 ?_)) ?_
      · obtain ⟨⟨c1, dct, dt, sl⟩, ol, hc, nl, hd⟩ := hl
        obtain rfl : c1 = .type "list" := hc
        obtain rfl : dt = .seq its nl := hd
        have ol1 : (s.heap.push (mt w)).get? l = some { cls := .type "list", dict := dct, data := .seq its nl, slots := sl } := Heap.get?_push_of_some _ ol
        have isL : (s.heap.push (mt w)).IsList l its := ⟨_, ol1, rfl, nl, rfl⟩
        have z1 := F.sub_list_set
        have z2 := F.sub_list_frozenset
        have z3 : (Value.type "list" == Value.type "dict") = false := by decide
        unfold Builtin.«set.__init__»
        unfold noKeywords Builtin.Frozenset.updateFrom
        generalize hPI : pyIter = PI
        wp_walk
        subst hPI
        refine wpAny_pyIter_list isL (wpAny_bind (wpAny_runValue ?_))
        have lS : l < s.heap.objs.size := Heap.lt_size ol
        have hno : A.in1.in1.in1.handled = none := by simp [hh]
        have hp : (s.heap.push (mt w)).objs.size = s.heap.objs.size + 1 := Heap.size_push ..
        have lI : l ≠ (s.heap.push (mt w)).objs.size := hp ▸ Nat.ne_of_lt (Nat.lt_succ_of_lt lS)
        have out : s.heap.objs.size ∉ [(s.heap.push (mt w)).objs.size, l] := by
          rw [hp]
          intro m
          rcases List.mem_cons.mp m with z | z
          · exact Nat.ne_of_lt (Nat.lt_succ_self _) z
          · exact Nat.ne_of_gt lS (List.mem_singleton.mp z)
        have val : ∀ (i : Nat) (v : Value), its[i]? = some v → ∃ k t, ns[i]? = some k ∧ v = .int k t := by
          intro i v hv
          have li : i < ns.length := many ▸ (Array.getElem?_eq_some_iff.mp hv).1
          have ge : ns[i]? = some ns[i] := List.getElem?_eq_getElem li
          obtain ⟨t, e⟩ := PyProof.Rows.IntsAre.int_at hi i v (Array.getElem?_toList.trans hv)
          exact ⟨ns[i], t, ge, by rw [e, List.getD_eq_getElem?_getD, ge]; rfl⟩
        refine set_update_ints (Walks.list hno _ l lI its).toS s.heap.objs.size out ns many hb val (its.size - 0) 0 _ (by omega) (Nat.zero_le _) ⟨⟨_, Heap.get?_push_size _ rfl, rfl, rfl⟩, isL.push _⟩ ⟨0, Nat.le_refl 0, setR_new_at (Heap.get?_push_of_some _ at0)⟩ ?_
        rintro ⟨h', g', d', tk', os'⟩ c' hm hc' hS'
        obtain rfl : g' = s.gens := hm.gens
        obtain rfl : d' = s.drawn := hm.drawn
        obtain rfl : os' = s.os := hm.os
        show wpAny _ _ _ _ _ _
        refine wpAny_pure (show wpAny _ _ (ret Value.none) _ _ _ from ?_)
        refine wpAny_pure ⟨rfl, h', tk', c', rfl, hS', many ▸ hc', fun b o e => ?_⟩
        have bl : b < s.heap.objs.size := Heap.lt_size e
        refine hm.heap b o (fun m => ?_) (Heap.get?_push_of_some _ (Heap.get?_push_of_some _ e))
        rcases List.mem_cons.mp m with z | z
        · exact Nat.ne_of_lt bl z
        · exact Nat.ne_of_lt (Nat.lt_succ_of_lt bl) ((List.mem_singleton.mp z).trans hp)
      · rintro (e | r2) s2 hr2
        · exact hr2
        · cases r2 with
          | ret r =>
            obtain ⟨rfl, h', tk, c', rfl, hS', hc', hk'⟩ := hr2
            repeat any_goals first | assumption | wp_step
            exact fin _ _ _ hS' hc' hk'
          | _ => exact hr2.elim
    | _ => exact hr.elim
end
section
variable {X : Cx}
/-- set(x), x a list or a tuple of integers -/
def tSet (K : PySem.W.Frag) (w : World) (te : TE) : TE := fun σ H Q => te σ H fun v H1 => ∃ (a : Addr) (ns : List Int), v = .ref a ∧ (SqL K H1 a (ns.map V.int) ∨ SqT K H1 a (ns.map V.int)) ∧ ns.length ≤ 1000 ∧ ∀ p c, H1 p = none → c ≤ ns.length → Q (.ref p) (upd H1 p (SetO w p (fun j => decide (j ∈ ns)) c))
theorem pe_set {e : Expr} {te : TE} {p pos : Pos} (hc : X.calm = true) (hg : Gl X "set") (hm : X.mg "set" = none) (he : PE X e te) (hs : starEach [e] X.env = (false, eval e X.env) :: starEach [] X.env := by rfl) :
    PE X (.Call (.Name "set" p) [e] [] pos) (tSet X.K X.w te) where
  run := by
    intro pins s σ H Q I h
    refine Call_ (ld_blt I hg hm PyProof.Rows.boot_set (PyProof.Rows.callWith_type1 (args_cons (thn (he.run pins s σ H _ I h) fun u s1 => ?_) hs) hs rfl))
    rintro ⟨v, H1, I1, r1, a, ns, rfl, hq, hn, q⟩
    refine args_nil ?_
    cases (show u = Value.ref a from r1)
    have hd := I1.ok.hd hc
    have fin : ∀ (h' : Heap) (tk c : Nat), SetR X.w h' s1.heap.objs.size (fun j => decide (j ∈ ns)) c → c ≤ ns.length → (∀ b o, s1.heap.get? b = some o → h'.get? b = some o) → EP X pins σ Q (Value.ref s1.heap.objs.size) { s1 with heap := h', toks := tk } := by
      intro h' tk c R hc' k
      exact ⟨.ref s1.heap.objs.size, _, I1.laid (t' := tk) k (Nat.le_refl _) (setO_new R), rfl, q _ c (I1.hok.fresh (Nat.le_refl _)) hc'⟩
    rcases hq with hq | hq
    · obtain ⟨its, rv, pt, hz⟩ := I1.list hq
      exact made ns hd pt.isList (ints_of_vals rv) (by unfold scanBound; omega) fin
    · obtain ⟨its, rv, pt, hz⟩ := I1.tuple hq
      exact call_set_tupI ns hd (show s1.heap.IsTuple a its.toArray from pt) (ints_of_vals rv) (by unfold scanBound; omega) fin
end
end PnSet

set_option maxHeartbeats 1000001
namespace Pn
open L2 PyProof.Rows PySem.Spec PySem
section
variable {F : Fr} {W : L2.WX} {σ : L2.St} {H : Hp} {X : Cx} {D : Ends}

/-! ### from the back -/
theorem rev_at {α : Type} {l : List α} {i : Nat} {d : α} (e : l.reverse[i]? = some d) : i < l.length ∧ l[l.length - 1 - i]? = some d := by
  have hi : i < l.length := by
    have := (List.getElem?_eq_some_iff.mp e).1
    simpa using this
  exact ⟨hi, (List.getElem?_reverse hi).symm.trans e⟩
theorem src_revL {K : PySem.W.Frag} {G : Hp} {a : Addr} {xs : List V} {ds : List Dat} (h : G a = some (.lst xs)) (q : RpA K G xs ds) : Src K G (Itv K a xs.length) ds.reverse := by
  intro F G' c σ H e s r
  have hq : SqL K H a xs := Evl.sq_of (r.sub _ _ (s _ _ h))
  have n := dpAll_len q
  refine ⟨by show xs.length ≤ ds.reverse.length; rw [List.length_reverse, n]; exact Nat.le_refl _, fun i d ed => ?_⟩
  obtain ⟨hi, hd⟩ := rev_at ed
  obtain ⟨v, ev, qv⟩ := dpAll_get q hd
  rw [← n] at hi ev
  refine ⟨⟨hi, xs, v, hq, ev⟩, ?_⟩
  rintro x H' ⟨rfl, k⟩
  cases (k xs hq).symm.trans ev
  exact ⟨G', r, Same.refl _, dp_mono s qv⟩
theorem src_revT {K : PySem.W.Frag} {G : Hp} {a : Addr} {xs : List V} {ds : List Dat} (h : SqT K G a xs) (q : RpA K G xs ds) : Src K G (RT.ItvT K a xs.length) ds.reverse := by
  intro F G' c σ H e s r
  have hq : SqT K H a xs := sqT_mono (s.trans r.sub) h
  have n := dpAll_len q
  refine ⟨by show xs.length ≤ ds.reverse.length; rw [List.length_reverse, n]; exact Nat.le_refl _, fun i d ed => ?_⟩
  obtain ⟨hi, hd⟩ := rev_at ed
  obtain ⟨v, ev, qv⟩ := dpAll_get q hd
  rw [← n] at hi ev
  refine ⟨⟨hi, xs, v, hq, ev⟩, ?_⟩
  rintro x H' ⟨rfl, k⟩
  cases (k xs hq).symm.trans ev
  exact ⟨G', r, Same.refl _, dp_mono s qv⟩
def itBack : Dat → M (List Dat)
  | .list l => ret l.reverse
  | .tuple l => ret l.reverse
  | _ => bad
theorem i_rev {tg e : Expr} {m : M Dat} {p pos : Pos} (hK : F.K = X.K) (hg : Gl X "reversed") (hm : X.mg "reversed" = none) (h : PE X e (E F W m)) (hs : starEach [e] X.env = (false, eval e X.env) :: starEach [] X.env := by rfl) :
    PI X tg (.Call (.Name "reversed" p) [e] [] pos) (I_ F W (M.bind m itBack)) :=
  (RT.pi_revA hg hm h hs).mono fun σ H Q h => sx_mono (sx_bind (R1 := RD F) h) fun x H1 ⟨d, G1, c1, r1, q, p⟩ => by
    cases q with
    | lst h q => exact ⟨_, _, rfl, .inl ⟨Evl.sq_of (r1.sub _ _ h), hK ▸ po_ret (v := Itv F.K _ _) r1 p (src_revL h q)⟩⟩
    | tup h q => exact ⟨_, _, rfl, .inr ⟨hK ▸ sqT_mono r1.sub h, hK ▸ po_ret (v := RT.ItvT F.K _ _) r1 p (src_revT h q)⟩⟩
    | _ => exact p.elim

/-! ### integers in a row -/
def intL : List Dat → Option (List Int)
  | [] => some []
  | .int i :: r => (intL r).map (i :: ·)
  | _ => none
theorem intL_map : ∀ ns : List Int, intL (ns.map PyData.int) = some ns
  | [] => rfl
  | n :: ns => by
    show (intL (ns.map PyData.int)).map (n :: ·) = _
    rw [intL_map ns]
    rfl
theorem intL_dp {K : PySem.W.Frag} {G : Hp} : ∀ {l : List Dat} {xs : List V} {ns : List Int}, RpA K G xs l → intL l = some ns → xs = ns.map V.int
  | [], _, _, .nil, e => by cases e; rfl
  | d :: l, _, ns, .cons h t, e => by
    cases h with
    | int i =>
      unfold intL at e
      cases e2 : intL l with
      | none => rw [e2] at e; cases e
      | some js =>
        rw [e2] at e
        cases e
        rw [intL_dp t e2]
        rfl
    | _ => simp [intL] at e
theorem intR_dp {K : PySem.W.Frag} {G : Hp} : ∀ ns : List Int, RpA K G (ns.map V.int) (ns.map PyData.int)
  | [] => .nil
  | n :: ns => .cons (.int n) (intR_dp ns)
/-- the greatest -/
def topI : List Int → Int
  | [] => 0
  | a :: r => r.foldl max a
theorem foldl_max_ge : ∀ (r : List Int) (a : Int), a ≤ r.foldl max a ∧ ∀ x ∈ r, x ≤ r.foldl max a
  | [], a => ⟨Int.le_refl _, fun _ h => nomatch h⟩
  | b :: r, a => by
    obtain ⟨h1, h2⟩ := foldl_max_ge r (max a b)
    refine ⟨Int.le_trans (Int.le_max_left a b) h1, fun x hx => ?_⟩
    (rcases List.mem_cons.mp hx with rfl | hx)
    · exact Int.le_trans (Int.le_max_right a _) h1
    · exact h2 x hx
theorem foldl_max_mem : ∀ (r : List Int) (a : Int), r.foldl max a = a ∨ r.foldl max a ∈ r
  | [], a => .inl rfl
  | b :: r, a => by
    show r.foldl max (max a b) = a ∨ r.foldl max (max a b) ∈ b :: r
    rcases foldl_max_mem r (max a b) with h | h
    · rw [h]
      by_cases g : a ≤ b
      · rw [Int.max_eq_right g]; exact .inr List.mem_cons_self
      · rw [Int.max_eq_left (by omega)]; exact .inl rfl
    · exact .inr (List.mem_cons_of_mem _ h)
theorem topI_only {ns : List Int} {m : Int} (h1 : m ∈ ns) (h2 : ∀ y, y ∈ ns → y ≤ m) : m = topI ns := by
  cases ns with
  | nil => cases h1
  | cons a r =>
    obtain ⟨g1, g2⟩ := foldl_max_ge r a
    have up : m ≤ topI (a :: r) := by
      rcases List.mem_cons.mp h1 with rfl | h
      · exact g1
      · exact g2 m h
    have dn : topI (a :: r) ≤ m := by
      show r.foldl max a ≤ m
      rcases foldl_max_mem r a with h | h
      · rw [h]; exact h2 a List.mem_cons_self
      · exact h2 _ (List.mem_cons_of_mem _ h)
    omega
def maxR (r : Row) : M Dat := match r.1, intL r.2 with
  | false, some (n :: ns) => ret (.int (topI (n :: ns)))
  | _, _ => bad
theorem e_max {m : M Row} {a : Expr} {p pos : Pos} (hK : F.K = X.K) (hc : X.calm = true) (hg : Gl X "max") (hm : X.mg "max" = none) (ha : PE X a (R_ F W m)) (he : starEach [a] X.env = (false, eval a X.env) :: starEach [] X.env := by rfl) : PE X (.Call (.Name "max" p) [a] [] pos) (E F W (M.bind m maxR)) :=
  b_call1 (δ := V) (cr_max hc) hg hm (by decide +kernel) (fun {G H c v d Q σ} r ⟨a, xs, e, h, q⟩ p => by
    obtain ⟨k, l⟩ := d
    unfold maxR at p
    cases k with
    | true => exact p.elim
    | false =>
      cases eb : intL l with
      | none => simp only [eb] at p; exact p.elim
      | some ns =>
        cases ns with
        | nil => simp only [eb] at p; exact p.elim
        | cons n ns =>
          simp only [eb] at p
          refine ⟨a, n :: ns, by rw [e], by rw [← intL_dp q eb]; exact Evl.sq_of h, Nat.succ_pos _, fun m h1 h2 => ?_⟩
          rw [topI_only h1 h2]
          exact po_ret r p (.int _)) ha (by decide) (by decide) he
/-- max(xs, default=d) of a list of integers -/
def rMaxDf (K : PySem.W.Frag) : List V → List V → Hp → VK → Prop := fun vs zs H Q => ∃ (a : Addr) (ns : List Int) (z : V), vs = [.ref a] ∧ zs = [z] ∧ SqL K H a (ns.map V.int) ∧ (ns = [] → Q z H) ∧ (ns ≠ [] → Q (.int (topI ns)) H)
theorem fold_lt (r : List Int) (a : Int) : r.foldl (fun x y => if decide (x < y) = true then y else x) a = r.foldl max a := by
  congr 1
  funext x y
  by_cases h : x < y
  · rw [if_pos (decide_eq_true h), Int.max_eq_right (Int.le_of_lt h)]
  · rw [if_neg (by simpa using h), Int.max_eq_left (by omega)]
theorem cr_maxDf (hc : X.calm = true) (hu : X.A.units + 2 < cLine) : CallRK X (.builtin "max") [Str.ofString "default"] (rMaxDf X.K) := by
  (intro pins s σ H vs zs us ws Q I r rz h)
  obtain ⟨a, ns, z, rfl, rfl, hs, h0, h1⟩ := h
  (obtain ⟨its, rv, hl, _⟩ := I.list hs)
  obtain ⟨u, rfl, ru⟩ := rz.one
  rw [Vals.ref1 r]
  have hi : IntsAre (its.toArray.toList) ns := ints_of_vals rv
  refine PySem.W.max_list_datum_default (α := Int) (xs := ns) (I.ok.hd hc) hl.isList (PySem.W.HoldAll.of_ints hi) (by show X.A.units + 1 + 0 < cLine; omega) (fun e h' tk k => ⟨z, H, I.kept k, ru, h0 e⟩) ?_
  intro y ys i v h' tk e hv ho k
  obtain ⟨t, rfl⟩ := PySem.W.int_of_holds ho
  subst e
  refine ⟨.int _, H, I.kept k, ⟨t, rfl⟩, ?_⟩
  have q := h1 (by simp)
  have e2 : topI (y :: ys) = PySem.W.maxOf y ys := (fold_lt ys y).symm
  rw [← e2]
  exact q
def maxDfR (i : Int) (r : Row) : M Dat := match r.1, intL r.2 with
  | false, some [] => ret (.int i)
  | false, some (n :: ns) => ret (.int (topI (n :: ns)))
  | _, _ => bad
/-- the default is a number that stands there -/
theorem e_maxDf {i : Int} {j : Nat} {m : M Row} {a : Expr} {p pos pos2 kpos : Pos} (hK : F.K = X.K) (hc : X.calm = true) (hr : X.A.units + 2 < cLine) (hg : Gl X "max") (hm : X.mg "max" = none) (ha : PE X a (R_ F W m))
    (h1 : backTo pos (starEach [a] X.env) = (false, eval a X.env) :: backTo pos (starEach [] X.env) := by rfl) (h2 : (backTo pos (starEach [a] X.env)).any (·.1) = false := by rfl) (h0 : starEach [a] X.env = (false, eval a X.env) :: starEach [] X.env := by rfl)
    (h3 : (backToKw pos (keywordEach [⟨some (Str.ofString "default"), .Constant (.int i) j pos2, kpos⟩] X.env)).all (·.1.isSome) = true := by rfl)
    (h4 : (backToKw pos (keywordEach [⟨some (Str.ofString "default"), .Constant (.int i) j pos2, kpos⟩] X.env)).any (·.1.isNone) = false := by rfl)
    (h5 : (backToKw pos (keywordEach [⟨some (Str.ofString "default"), .Constant (.int i) j pos2, kpos⟩] X.env)).filterMap (·.1) = [Str.ofString "default"] := by rfl) :
    PE X (.Call (.Name "max" p) [a] [⟨some (Str.ofString "default"), .Constant (.int i) j pos2, kpos⟩] pos) (E F W (M.bind m (maxDfR i))) :=
  (pe_callBK (cr_maxDf hc hr) hg hm (by decide +kernel) (pa_cons ha pa_nil h0) (pk_cons pe_int pk_nil) (by decide) (by decide) h1 h2 h3 h4 h5).mono fun σ H Q h => sx_mono (sx_bind (R1 := RR F) h) fun x H1 ⟨⟨k, l⟩, G1, c1, r1, ⟨a0, xs, e1, q1, q2⟩, p⟩ => by
    cases k with
    | true => exact p.elim
    | false =>
      unfold maxDfR at p
      cases eb : intL l with
      | none => simp only [eb] at p; exact p.elim
      | some ns =>
        have hq : SqL X.K H1 a0 (ns.map V.int) := by rw [← intL_dp q2 eb]; exact Evl.sq_of q1
        refine ⟨a0, ns, .int i, by rw [e1], rfl, hq, fun z => ?_, fun z => ?_⟩
        · subst z
          simp only [eb] at p
          exact po_ret r1 p (.int _)
        · cases ns with
          | nil => exact absurd rfl z
          | cons n ns =>
            simp only [eb] at p
            exact po_ret r1 p (.int _)

/-! ### min and max of two, powers -/
def minI2 := int2 fun i j => .int (if j < i then j else i)
theorem e_min2 {a b : Expr} {ma mb : M Dat} {p pos : Pos} (hc : X.calm = true) (hg : Gl X "min") (hm : X.mg "min" = none) (ha : PE X a (E F W ma)) (hb : PE X b (E F W mb)) (h1 : starEach [a, b] X.env = (false, eval a X.env) :: starEach [b] X.env := by rfl) (h2 : starEach [b] X.env = (false, eval b X.env) :: starEach [] X.env := by rfl)
    (h3 : (backTo pos (starEach [b] X.env)).any (·.1) = false := by rfl) : PE X (.Call (.Name "min" p) [a, b] [] pos) (E F W (m2 minI2 ma mb)) :=
  (pe_callB (call_min2 hc) hg hm (by decide +kernel) (pa_cons ha (pa_cons hb pa_nil h2) h1) (by decide) (by decide) h1 h3).mono fun σ H Q h => sx_mono (sx_bind2 h) fun x H1 h1 => sx_mono h1 fun y H2 ⟨d, e, G2, c2, r2, q1, q2, p⟩ => by
    cases q1 with
    | int i =>
      cases q2 with
      | int j => exact ⟨i, j, rfl, po_ret r2 p (.int _)⟩
      | _ => exact p.elim
    | _ => exact p.elim
def powI := int2c (fun i j => decide (0 ≤ j ∧ j ≤ 1000000 ∧ i.natAbs < 2 ^ 64)) fun i j => .int (i ^ j.toNat)
theorem e_pow {a b : Expr} {ma mb : M Dat} {pos : Pos} (ha : PE X a (E F W ma)) (hb : PE X b (E F W mb)) : PE X (.BinOp a .Pow b pos) (E F W (m2 powI ma mb)) :=
  e_op2 op_pow (hf_int (fun i j h => of_decide_eq_true h) fun i j => .int _) ha hb

/-! ### sets of integers that are sorted or counted at once -/
/-- the integers, ascending, each once -/
def insI (x : Int)
  : List Int → List Int
  | [] => [x]
  | y :: r => if x < y then x :: y :: r else if x = y then y :: r else y :: insI x r
def upI : List Int → List Int
  | [] => []
  | x :: r => insI x (upI r)
theorem insI_mem {x y : Int} : ∀ {l : List Int}, y ∈ insI x l ↔ y = x ∨ y ∈ l
  | [] => by simp [insI]
  | z :: r => by
    unfold insI
    by_cases h1 : x < z
    · rw [if_pos h1]; simp
    · rw [if_neg h1]
      by_cases h2 : x = z
      · rw [if_pos h2]; subst h2; simp
      · rw [if_neg h2]
        simp only [List.mem_cons, insI_mem (l := r)]
        constructor
        · rintro (h | h | h)
          · exact .inr (.inl h)
          · exact .inl h
          · exact .inr (.inr h)
        · rintro (h | h | h)
          · exact .inr (.inl h)
          · exact .inl h
          · exact .inr (.inr h)
theorem insI_up {x : Int} : ∀ {l : List Int}, l.Pairwise (· < ·) → (insI x l).Pairwise (· < ·)
  | [], _ => by simp [insI]
  | z :: r, h => by
    (obtain ⟨h1, h2⟩ := List.pairwise_cons.mp h)
    unfold insI
    by_cases g : x < z
    · rw [if_pos g]
      exact List.pairwise_cons.mpr ⟨fun y hy => by
        (rcases List.mem_cons.mp hy with rfl | hy)
        · exact g
        · exact Int.lt_trans g (h1 y hy), h⟩
    · rw [if_neg g]
      by_cases g2 : x = z
      · rw [if_pos g2]; exact h
      · rw [if_neg g2]
        refine List.pairwise_cons.mpr ⟨fun y hy => ?_, insI_up h2⟩
        rcases insI_mem.mp hy with rfl | hy
        · omega
        · exact h1 y hy
theorem upI_mem {y : Int} : ∀ {l : List Int}, y ∈ upI l ↔ y ∈ l
  | [] => Iff.rfl
  | x :: r => by
    unfold upI
    rw [insI_mem, List.mem_cons, upI_mem (l := r)]
theorem upI_up : ∀ l : List Int, (upI l).Pairwise (· < ·)
  | [] => .nil
  | x :: r => insI_up (upI_up r)
theorem up_only : ∀ {l m : List Int}, l.Pairwise (· < ·) → m.Pairwise (· < ·) → (∀ x, x ∈ l ↔ x ∈ m) → l = m
  | [], [], _, _, _ => rfl
  | [], y :: m, _, _, h => nomatch (h y).mpr List.mem_cons_self
  | x :: l, [], _, _, h => nomatch (h x).mp List.mem_cons_self
  | x :: l, y :: m, h1, h2, h => by
    obtain ⟨a1, b1⟩ := List.pairwise_cons.mp h1
    obtain ⟨a2, b2⟩ := List.pairwise_cons.mp h2
    have e : x = y := by
      rcases List.mem_cons.mp ((h x).mp List.mem_cons_self) with e | q
      · exact e
      · rcases List.mem_cons.mp ((h y).mpr List.mem_cons_self) with e | q2
        · exact e.symm
        · have := a1 y q2
          have := a2 x q
          omega
    subst e
    refine congrArg (x :: ·) (up_only b1 b2 fun z => ⟨fun hz => ?_, fun hz => ?_⟩)
    · rcases List.mem_cons.mp ((h z).mp (List.mem_cons_of_mem _ hz)) with e | q
      · have := a1 z hz; omega
      · exact q
    · rcases List.mem_cons.mp ((h z).mpr (List.mem_cons_of_mem _ hz)) with e | q
      · have := a2 z hz; omega
      · exact q
def setSortR (r : Row) : M RV := match intL r.2 with
  | some ns => if ns.length < 64 then ret (.fr ((upI ns).map PyData.int)) else bad
  | none => bad
theorem e_setSort {m : M Row} {a : Expr} {p p2 pos pos2 : Pos} (hK : F.K = X.K) (hc : X.calm = true) (hg : Gl X "sorted") (hm : X.mg "sorted" = none) (hg2 : Gl X "set") (hm2 : X.mg "set" = none) (ha : PE X a (R_ F W m))
    (he : starEach [a] X.env = (false, eval a X.env) :: starEach [] X.env := by rfl) (he2 : starEach [.Call (.Name "set" p2) [a] [] pos2] X.env = (false, eval (.Call (.Name "set" p2) [a] [] pos2) X.env) :: starEach [] X.env := by rfl)
    (hpl : (backTo pos (starEach [] X.env)).any (·.1) = false := by rfl) :
    PE X (.Call (.Name "sorted" p) [.Call (.Name "set" p2) [a] [] pos2] [] pos) (EX F W (M.bind m setSortR)) :=
  (pe_callB (cr_sortedSet hc) hg hm (by decide +kernel) (pa_cons (PnSet.pe_set hc hg2 hm2 ha he) pa_nil he2) (by decide) (by decide) he2 hpl).mono fun σ H Q h => sx_mono (sx_bind (R1 := RR F) h) fun x H1 ⟨⟨k, l⟩, G1, c1, r1, ⟨a0, xs, e1, q1, q2⟩, p⟩ => by
    unfold setSortR at p
    cases eb : intL l with
    | none => simp only [eb] at p; exact p.elim
    | some ns =>
      simp only [eb] at p
      by_cases hn : ns.length < 64
      · rw [if_pos hn] at p
        have ex := intL_dp q2 eb
        refine ⟨a0, ns, e1, by rw [← ex]; exact rr_or hK r1.sub q1, by omega, fun s c hs hcn => ?_⟩
        refine ⟨s, _, c, rfl, upd_same, by omega, fun ms q u1 u2 u3 u4 => ?_⟩
        have em : ms = upI ns := up_only u1 (upI_up ns) fun y => by rw [u2, upI_mem, decide_eq_true_eq]
        subst em
        have r2 := r1.other (o := SetO X.w s (fun j => decide (j ∈ ns)) c) hs
        obtain ⟨r3, z3⟩ := r2.lone u4 (intR_dp (upI ns))
        exact p _ _ _ r3 (Same.refl _) ⟨q, rfl, z3⟩
      · rw [if_neg hn] at p
        exact p.elim
/-- len of a set of integers -/
def rLenSet (w : World) : List V → Hp → VK → Prop := fun vs H Q => ∃ (a : Addr) (S : Int → Bool) (n : Nat) (L : List Int), vs = [.ref a] ∧ H a = some (SetO w a S n) ∧ L.Nodup ∧ (∀ k, S k = true ↔ k ∈ L) ∧ Q (.int (L.length : Nat)) H
theorem cr_lenSet : CallR X (.builtin "len") (rLenSet X.w) := by
  (intro pins s σ H vs us Q I r h)
  obtain ⟨a, S, n, L, rfl, ha, hL, hS, q⟩ := h
  obtain ⟨o, es, ep, t, ho, hex, hdt, g, nd, hm, hb, hf, hn, hr, hl⟩ := setO_get I ha
  rw [Vals.ref1 r]
  have e : es.size = L.length := by
    have pm : (es.toList.map keyOf).Perm L := (List.perm_ext_iff_of_nodup nd hL).mpr fun k => (hm k).symm.trans (hS k)
    have := pm.length_eq
    simpa using this
  have big : (es.size : Int) < 2 ^ 63 := by unfold scanBound at hb; omega
  refine call_len_set ho hex hdt hf big ?_
  rw [e]
  exact ⟨.int _, H, I.tok _, ⟨_, rfl⟩, q⟩
def setLenR (r : Row) : M Dat := match intL r.2 with
  | some ns => if ns.length ≤ 1000 then ret (.int ((upI ns).length : Nat)) else bad
  | none => bad
theorem e_setLen {m : M Row} {a : Expr} {p p2 pos pos2 : Pos} (hK : F.K = X.K) (hc : X.calm = true) (hg : Gl X "len") (hm : X.mg "len" = none) (hg2 : Gl X "set") (hm2 : X.mg "set" = none) (ha : PE X a (R_ F W m))
    (he : starEach [a] X.env = (false, eval a X.env) :: starEach [] X.env := by rfl) (he2 : starEach [.Call (.Name "set" p2) [a] [] pos2] X.env = (false, eval (.Call (.Name "set" p2) [a] [] pos2) X.env) :: starEach [] X.env := by rfl)
    (hpl : (backTo pos (starEach [] X.env)).any (·.1) = false := by rfl) :
    PE X (.Call (.Name "len" p) [.Call (.Name "set" p2) [a] [] pos2] [] pos) (E F W (M.bind m setLenR)) :=
  (pe_callB cr_lenSet hg hm boot_len (pa_cons (PnSet.pe_set hc hg2 hm2 ha he) pa_nil he2) (by decide) (by decide) he2 hpl).mono fun σ H Q h => sx_mono (sx_bind (R1 := RR F) h) fun x H1 ⟨⟨k, l⟩, G1, c1, r1, ⟨a0, xs, e1, q1, q2⟩, p⟩ => by
    unfold setLenR at p
    cases eb : intL l with
    | none => simp only [eb] at p; exact p.elim
    | some ns =>
      simp only [eb] at p
      by_cases hn : ns.length ≤ 1000
      · rw [if_pos hn] at p
        have ex := intL_dp q2 eb
        refine ⟨a0, ns, e1, by rw [← ex]; exact rr_or hK r1.sub q1, hn, fun s c hs hcn => ?_⟩
        have nd : (upI ns).Nodup := (upI_up ns).imp fun h => Int.ne_of_lt h
        refine ⟨s, _, c, upI ns, rfl, upd_same, nd, fun y => by rw [upI_mem, decide_eq_true_eq], ?_⟩
        exact po_ret (r1.other (o := SetO X.w s (fun j => decide (j ∈ ns)) c) hs) p (.int _)
      · rw [if_neg hn] at p
        exact p.elim
end
end Pn

set_option maxHeartbeats 1000001
namespace Pn
open L2 PyProof.Rows PySem.Spec PySem

/-! ### defs that change a list or the law's state -/
structure AfterT (T : List Addr) (G H G' H' : Hp) : Prop where
  g : Same G G'
  sub : Same G' H'
  h : ∀ b o, H b = some o → b ∉ T → H' b = some o
  new : ∀ b, G' b ≠ none → G b ≠ none ∨ H b = none
  dom : ∀ b, H b ≠ none → H' b ≠ none
theorem AfterT.no {T : List Addr} {G H G' H' : Hp} (a : AfterT T G H G' H') {b : Addr} {o : HO} (e1 : H b = some o) (e2 : G b = none) : G' b = none := by
  cases e : G' b with
  | none => rfl
  | some u =>
    rcases a.new b (by rw [e]; simp) with z | z
    · exact absurd e2 z
    · rw [z] at e1
      cases e1
/-- what comes back: a value, the list as it is now, the state as it is now -/
inductive GR where
  | ok (v : RV) (l : List Dat) (s : DS) | exc (k : Nat) (d : Dat) (l : List Dat) (s : DS) | bad
def onS (us : Bool) (sa sc sl : Addr) : List Addr := if us then [sa, sc, sl] else []
def onI (io : Bool) (ia : Addr) : List Addr := if io then [ia] else []
def onM (io : Bool) (ia : Addr) (tb : List (Addr × Str)) : List Addr := onI io ia ++ tb.map (·.1)
def preV (us : Bool) (sa : Addr) : List V := if us then [.ref sa] else []
def posV (io : Bool) (ia : Addr) : List V := if io then [.ref ia] else []
/-- the list in hand -/
def IoOk (K : PySem.W.Frag) (io : Bool) (ia : Addr) (G H : Hp) (l : List Dat) : Prop := io = true → ∃ xs, H ia = some (.lst xs) ∧ G ia = none ∧ RpA K G xs l
def SsOk (us : Bool) (sa sc sl : Addr) (G H : Hp) (s : DS) : Prop := us = true → StOk sa sc sl G H s
/-- tables at hand -/
def TsOk (tb : List (Addr × Str)) (G H : Hp) : Prop := ∀ p ∈ tb, LamX.TabS H p.1 p.2 ∧ G p.1 = none
abbrev Tbs := List (Addr × Str)
def spG (K : PySem.W.Frag) (C : Cls) (us io : Bool) (okT : Tbs → Prop) (n : Nat) (g : List Dat → List Dat → DS → GR) : Sp := fun vs H Q E => ∃ (G : Hp) (vs' : List V) (ds l : List Dat) (s : DS) (sa sc sl ia : Addr) (tb : Tbs), okT tb ∧ TsOk tb G H ∧ Same G H ∧ RpA K G vs' ds ∧ ds.length = n ∧ vs = preV us sa ++ vs' ++ posV io ia ∧ SsOk us sa sc sl G H s ∧ IoOk K io ia G H l ∧ (us = true → io = true → ia ∉ [sa, sc, sl]) ∧
  match g ds l s with
  | .ok v l' s' => ∀ x G' H', AfterT (onS us sa sc sl ++ onM io ia tb) G H G' H' → TsOk tb G' H' → SsOk us sa sc sl G' H' s' → IoOk K io ia G' H' l' → Ret K H G' H' x v → Q x H'
  | .exc k d l' s' => ∀ ad v G' H', AfterT (onS us sa sc sl ++ onM io ia tb) G H G' H' → TsOk tb G' H' → SsOk us sa sc sl G' H' s' → IoOk K io ia G' H' l' → H' ad = some (.xd [(C.fld k, v)]) → Rp K G' v d → E (C.at_ k) (some ad) H'
  | .bad => False
def initG (us io : Bool) (N : Nat) (ds l : List Dat) : List Sl := (if us then [Sl.st] else []) ++ ds.map Sl.sh ++ (if io then [Sl.io l] else []) ++ List.replicate (N - ((if us then 1 else 0) + ds.length + (if io then 1 else 0))) Sl.no
def ioAt (j : Nat) (c : Cfg) : Option (List Dat) := match c.r[j]? with
  | some (.io l) => some l
  | _ => none
def endG (us io : Bool) (n : Nat) (c : Cfg) (k : List Dat → GR) : GR := if io then (match ioAt ((if us then 1 else 0) + n) c with
  | some l => k l
  | none => .bad) else k []
def runG (us io : Bool) (N : Nat) (m : M Ctl) (ds l : List Dat) (s : DS) : GR := match m ⟨initG us io N ds l, s⟩ with
  | .ok .nx c => endG us io ds.length c fun l' => .ok (.sh .none) l' c.s
  | .ok (.rt v) c => endG us io ds.length c fun l' => .ok v l' c.s
  | .ok _ _ => .bad
  | .exc k d c => endG us io ds.length c fun l' => .exc k d l' c.s
  | .bad => .bad
def frG (K : PySem.W.Frag) (C : Cls) (us io : Bool) (sa sc sl ia : Addr) (tb : Tbs) (G H : Hp) : Fr := ⟨K, C, sa, sc, sl, us, fun _ => ia, onM io ia tb, G, H, [], tb⟩

section
variable {F : Fr} {W : L2.WX} {σ : L2.St} {H : Hp} {X : Cx} {D : Ends}
theorem Rel.tbMu {G : Hp} {c : Cfg} (r : Rel F G c σ H) {b : Addr} (m : b ∈ F.tb.map (·.1)) : b ∈ F.mu := by
  obtain ⟨p, hp, rfl⟩ := List.mem_map.mp m
  exact (r.tabs p hp).2.2
theorem Rel.tbNe {G : Hp} {c : Cfg} (r : Rel F G c σ H) {b : Addr} {xs : List V} (h : H b = some (.lst xs)) (m : b ∈ F.tb.map (·.1)) : False := by
  obtain ⟨p, hp, rfl⟩ := List.mem_map.mp m
  obtain ⟨⟨ps, e, _⟩, _⟩ := r.tabs p hp
  rw [h] at e
  cases e
theorem Rel.ts {G : Hp} {c : Cfg} (r : Rel F G c σ H) : TsOk F.tb G H := fun p hp => ⟨(r.tabs p hp).1, (r.tabs p hp).2.1⟩
/-- the state is another one -/
theorem Rel.afterS {G : Hp} {c : Cfg} {G' H' : Hp} {s' : DS} (r : Rel F G c σ H) (hu : F.us = true) (a : AfterT ([F.sa, F.sc, F.sl] ++ F.tb.map (·.1)) G H G' H') (zt : TsOk F.tb G' H') (z : StOk F.sa F.sc F.sl G' H' s') : Rel F G' { c with s := s' } σ H' := by
  have esta : F.sta = [F.sa, F.sc, F.sl] := by unfold Fr.sta; rw [if_pos hu]
  have off : ∀ {b : Addr}, F.H0 b = none → b ∉ [F.sa, F.sc, F.sl] ++ F.tb.map (·.1) := fun {b} e m => by
    rcases List.mem_append.mp m with m | m
    · exact r.st0 b (esta ▸ m) e
    · exact (r.mu0 b (r.tbMu m)).1 e
  have off2 : ∀ {b : Addr} {xs : List V}, b ∈ F.mu → H b = some (.lst xs) → b ∉ [F.sa, F.sc, F.sl] ++ F.tb.map (·.1) := fun {b xs} e h m => by
    rcases List.mem_append.mp m with m | m
    · exact (r.mu0 b e).2 (esta ▸ m)
    · exact r.tbNe h m
  exact { sub := a.sub, g0 := r.g0.trans a.g, len := r.len, inj := r.inj, ioj := r.ioj, mu0 := r.mu0, st0 := r.st0
          fresh := fun b e => (a.new b e).elim (r.fresh b) fun z => .inr (r.old z)
          keep := fun b o e h1 h2 => a.h _ _ (r.keep b o e h1 h2) fun m => (List.mem_append.mp m).elim (esta ▸ h2) fun m => h1 (r.tbMu m)
          tabs := fun p hp => ⟨(zt p hp).1, (zt p hp).2, (r.tabs p hp).2.2⟩
          sl := fun i s e => (r.sl i s e).move a.g (fun l b xs _ _ q1 q2 q3 => ⟨a.h _ _ q1 (off q3), a.no q1 q2⟩) (fun l xs _ q1 q2 q3 => ⟨a.h _ _ q1 (off2 q3 q1), a.no q1 q2⟩)
          st := fun _ => z
          pin := fun b hb => by
            obtain ⟨k1, k2, k3⟩ := r.pin b hb
            exact ⟨a.h _ _ k1 (off k3), a.no k1 k2, k3⟩
          dom := fun b e => a.dom b (r.dom b e) }
/-- the list that the slot i holds is another one -/
theorem Rel.afterI {G : Hp} {c : Cfg} {G' H' : Hp} {i : Nat} {l l' : List Dat} {p : Addr} {xs' : List V} (r : Rel F G c σ H) (e : held i c = some l) (ep : σ[i]? = some (some (.ref p))) (a : AfterT ([p] ++ F.tb.map (·.1)) G H G' H') (zt : TsOk F.tb G' H') (z1 : H' p = some (.lst xs')) (z2 : G' p = none) (z3 : RpA F.K G' xs' l') :
    Rel F G' (Pn.wr i l' c) σ H' := by
  have one : ∀ {b : Addr}, b ≠ p → b ∉ F.tb.map (·.1) → b ∉ [p] ++ F.tb.map (·.1) := fun hb h2 m => (List.mem_append.mp m).elim (fun m => hb (List.mem_singleton.mp m)) h2
  have offT : ∀ {b : Addr}, F.H0 b = none → b ∉ F.tb.map (·.1) := fun {b} e m => (r.mu0 b (r.tbMu m)).1 e
  have core : ∀ (s s' : Sl), c.r[i]? = some s → ((∃ l1, s = .own l1 ∧ s' = .own l') ∨ ∃ l1, s = .io l1 ∧ s' = .io l') → (F.H0 p = none ∨ p ∈ F.mu) → (∀ j l2, j ≠ i → c.r[j]? = some (.own l2) → σ[j]? ≠ some (some (.ref p))) →
      (∀ j l2, j ≠ i → c.r[j]? = some (.io l2) → F.ia j ≠ p) → (∀ q ∈ F.pins, p ≠ q.1) → SlOk F G' H' i s' (σ[i]?) → Rel F G' { c with r := c.r.set i s' } σ H' := by
    intro s s' es hk hp n1 n2 n3 hs
    have nst : F.us = true → p ≠ F.sa ∧ p ≠ F.sc ∧ p ≠ F.sl := fun hu => by
      have esta : F.sta = [F.sa, F.sc, F.sl] := by unfold Fr.sta; rw [if_pos hu]
      have : p ∉ [F.sa, F.sc, F.sl] := by
        rcases hp with hp | hp
        · exact fun m => r.st0 p (esta ▸ m) hp
        · exact fun m => (r.mu0 p hp).2 (esta ▸ m)
      simp only [List.mem_cons, not_or] at this
      exact ⟨this.1, this.2.1, this.2.2.1⟩
    have back : ∀ {j : Nat} {t : Sl}, (c.r.set i s')[j]? = some t → j ≠ i → c.r[j]? = some t := fun {j t} e hj => by
      rw [List.getElem?_set_ne (Ne.symm hj)] at e
      exact e
    refine { sub := a.sub, g0 := r.g0.trans a.g, len := ?_, inj := ?_, ioj := ?_, mu0 := r.mu0, st0 := r.st0, fresh := fun b e => (a.new b e).elim (r.fresh b) fun z => .inr (r.old z), keep := ?_, sl := ?_, st := ?_, pin := ?_, dom := fun b e => a.dom b (r.dom b e), tabs := fun p hp => ⟨(zt p hp).1, (zt p hp).2, (r.tabs p hp).2.2⟩ }
    · intro b o eb h1 h2
      refine a.h _ _ (r.keep b o eb h1 h2) (one (fun z => ?_) fun m => h1 (r.tbMu m))
      subst z
      rcases hp with hp | hp
      · rw [hp] at eb; cases eb
      · exact h1 hp
    · show (c.r.set i s').length = _
      rw [List.length_set, r.len]
    · intro j t et
      by_cases hj : j = i
      · subst hj
        rcases get_set et with ⟨_, z, _⟩ | ⟨n, _⟩
        · rw [z]; exact hs
        · exact absurd rfl n
      · have et := back et hj
        refine (r.sl j t et).move a.g (fun l2 b xs es2 eb q1 q2 _ => ⟨a.h _ _ q1 (one (fun zb => ?_) fun m => r.tbNe q1 m), a.no q1 q2⟩) (fun l2 xs es2 q1 q2 _ => ⟨a.h _ _ q1 (one (fun zb => ?_) fun m => r.tbNe q1 m), a.no q1 q2⟩)
        · subst zb
          exact n1 j l2 hj (es2 ▸ et) eb
        · exact n2 j l2 hj (es2 ▸ et) zb
    · intro j k l1 l2 e1 e2 e3
      have f : ∀ (j : Nat) (l : List Dat), (c.r.set i s')[j]? = some (.own l) → ∃ l', c.r[j]? = some (.own l') := fun j l e => by
        rcases get_set e with ⟨rfl, z, _⟩ | ⟨_, e⟩
        · rcases hk with ⟨l1, e5, _⟩ | ⟨l1, _, z2⟩
          · exact ⟨l1, e5 ▸ es⟩
          · rw [z2] at z; cases z
        · exact ⟨l, e⟩
      obtain ⟨_, e1⟩ := f j l1 e1
      obtain ⟨_, e2⟩ := f k l2 e2
      exact r.inj j k _ _ e1 e2 e3
    · intro j k l1 l2 e1 e2 e3
      have f : ∀ (j : Nat) (l : List Dat), (c.r.set i s')[j]? = some (.io l) → ∃ l', c.r[j]? = some (.io l') := fun j l e => by
        rcases get_set e with ⟨rfl, z, _⟩ | ⟨_, e⟩
        · rcases hk with ⟨l1, _, z2⟩ | ⟨l1, e5, _⟩
          · rw [z2] at z; cases z
          · exact ⟨l1, e5 ▸ es⟩
        · exact ⟨l, e⟩
      obtain ⟨_, e1⟩ := f j l1 e1
      obtain ⟨_, e2⟩ := f k l2 e2
      exact r.ioj j k _ _ e1 e2 e3
    · intro hu
      obtain ⟨h1, h2, h3, g1, g2, g3, h4⟩ := r.st hu
      obtain ⟨k1, k2, k3⟩ := nst hu
      exact ⟨a.h _ _ h1 (one k1.symm fun m => by
        (obtain ⟨q, hq, e⟩ := List.mem_map.mp m)
        obtain ⟨⟨ps, e2, _⟩, _⟩ := r.tabs q hq
        rw [e, h1] at e2
        cases e2), a.h _ _ h2 (one k2.symm fun m => r.tbNe h2 m), a.h _ _ h3 (one k3.symm fun m => r.tbNe h3 m), a.no h1 g1, a.no h2 g2, a.no h3 g3, h4⟩
    · intro b hb
      obtain ⟨k1, k2, k3⟩ := r.pin b hb
      exact ⟨a.h _ _ k1 (one (n3 b hb).symm (offT k3)), a.no k1 k2, k3⟩
  unfold held at e
  cases es : c.r[i]? with
  | none => rw [es] at e; cases e
  | some s =>
    rw [es] at e
    cases s with
    | no => cases e
    | sh d => cases e
    | st => cases e
    | fn _ => cases e
    | own l0 =>
      obtain ⟨b, xs, e1, e2, e3, e4, e5, e6⟩ := r.sl i _ es
      rw [ep] at e1
      cases e1
      unfold Pn.wr
      rw [es]
      exact core _ (.own l') es (.inl ⟨l0, rfl, rfl⟩) (.inl e5) (fun j l2 hj ej z => hj (r.inj j i l2 l0 ej es (z.trans ep.symm))) (fun j l2 hj ej z => by
        obtain ⟨_, _, _, _, _, m⟩ := r.sl j _ ej
        exact (r.mu0 _ m).1 (z ▸ e5)) e6 ⟨p, xs', ep, z1, z2, z3, e5, e6⟩
    | io l0 =>
      obtain ⟨xs, e1, e2, e3, e4, e5⟩ := r.sl i _ es
      rw [ep] at e1
      have e1 : p = F.ia i := by cases e1; rfl
      unfold Pn.wr
      rw [es]
      exact core _ (.io l') es (.inr ⟨l0, rfl, rfl⟩) (.inr (e1 ▸ e5)) (fun j l2 hj ej z => by
        obtain ⟨b, ys, f1, f2, f3, f4, f5⟩ := r.own_ne ej
        rw [f1] at z
        cases z
        exact (r.mu0 _ e5).1 (e1 ▸ f5.1)) (fun j l2 hj ej z => hj (r.ioj j i l2 l0 ej es (z.trans e1))) (fun q hq z => (r.mu0 _ e5).1 (e1 ▸ z ▸ (r.pin q hq).2.2)) ⟨xs', by rw [ep, e1], e1 ▸ z1, e1 ▸ z2, z3, e5⟩
/-! ### arguments: the state ahead, a list behind -/
/-- the state's name, then data -/
def stArg (i : Nat) (ms : M (List Dat)) : M (List Dat) := fun c => match c.r[i]? with
  | some .st => ms c
  | _ => .bad
def RAS (F : Fr) : L2.St → Hp → Hp → Cfg → List V → List Dat → Prop := fun _ G _ _ vs ds => F.us = true ∧ ∃ vs', vs = .ref F.sa :: vs' ∧ RpA F.K G vs' ds
theorem a_st {i : Nat} {x : Str} {p : Pos} {es : List Expr} {ms : M (List Dat)} (hN : X.N[i]? = some x) (hv : Vis X.env.scope x) (hd : (x == ("__debug__" : Str)) = false) (hcd : (x == ("__classdict__" : Str)) = false) (hs : PA X es (A F W ms)) (h2 : starEach (.Name x p :: es) X.env = (false, eval (.Name x p) X.env) :: starEach es X.env := by rfl) :
    PA X (.Name x p :: es) (Sx F W (RAS F) (stArg i ms)) :=
  (pa_cons (pe_var hN hv hd hcd) hs h2).mono fun σ H Q ⟨G, c, r, p⟩ => by
    unfold stArg at p
    cases e : c.r[i]? with
    | none => rw [e] at p; exact p.elim
    | some s =>
      rw [e] at p
      cases s with
      | st =>
        obtain ⟨e2, hu⟩ := r.sl i _ e
        refine ⟨_, e2, G, c, r, ?_⟩
        cases em : ms c with
        | ok a c' =>
          simp only [em] at p
          exact fun vs G' H' r' s' q => p _ G' H' r' s' ⟨hu, vs, rfl, q⟩
        | exc k d c' => simp only [em] at p; exact p
        | bad => simp only [em] at p; exact p.elim
      | _ => exact p.elim
/-- data, then a list's name -/
def RAI (F : Fr) (i : Nat) : L2.St → Hp → Hp → Cfg → List V → List Dat → Prop := fun σ G _ _ vs ds => ∃ vs' p, vs = vs' ++ [.ref p] ∧ RpA F.K G vs' ds ∧ σ[i]? = some (some (.ref p))
def ioArg (i : Nat) : M (List Dat) := M.bind (heldM i) fun _ => ret []
theorem a_io {i : Nat} {x : Str} {p : Pos} (hN : X.N[i]? = some x) (hv : Vis X.env.scope x) (hd : (x == ("__debug__" : Str)) = false) (hcd : (x == ("__classdict__" : Str)) = false) (h2 : starEach [.Name x p] X.env = (false, eval (.Name x p) X.env) :: starEach [] X.env := by rfl) :
    PA X [.Name x p] (Sx F W (RAI F i) (ioArg i)) :=
  (pa_cons (pe_var hN hv hd hcd) pa_nil h2).mono fun σ H Q ⟨G, c, r, p⟩ => by
    obtain ⟨l, a, xs, e0, e1, e2, e3, p⟩ := po_held r p
    exact ⟨_, e1, po_ret r p ⟨[], a, rfl, .nil, e1⟩⟩
theorem a_consI {i : Nat} {e : Expr} {es : List Expr} {m : M Dat} {ms : M (List Dat)} (h : PE X e (E F W m)) (hs : PA X es (Sx F W (RAI F i) ms)) (h2 : starEach (e :: es) X.env = (false, eval e X.env) :: starEach es X.env := by rfl) : PA X (e :: es) (Sx F W (RAI F i) (aCons m ms)) :=
  (pa_cons h hs h2).mono fun σ H Q h => sx_mono (sx_bind (R1 := RD F) h) fun x H1 ⟨a, G1, c1, r1, q, p⟩ => sx_mono (po_bind (R1 := RAI F i) r1 p) fun xs H2 ⟨as, G2, c2, r2, s2, ⟨vs, b, e1, q2, e2⟩, p2⟩ =>
    po_ret r2 p2 ⟨x :: vs, b, by rw [e1]; rfl, .cons (dp_mono s2 q) q2, e2⟩

/-! ### calls -/
def callS (g : List Dat → List Dat → DS → GR) (ds : List Dat) : M RV := fun c => match g ds [] c.s with
  | .ok v _ s => .ok v { c with s := s }
  | .exc k d _ s => .exc k d { c with s := s }
  | .bad => .bad
def callI (i : Nat) (g : List Dat → List Dat → DS → GR) (ds : List Dat) : M RV := fun c => match held i c with
  | none => .bad
  | some l => match g ds l ⟨[], [], 0⟩ with
    | .ok v l' _ => .ok v (wr i l' c)
    | .exc k d l' _ => .exc k d (wr i l' c)
    | .bad => .bad
structure HasG (P : Program) (w : World) (K : PySem.W.Frag) (mg : Str → Option Value) (base : Heap) (C : Cls) (us io : Bool) (x : Str) (k n : Nat) (g : List Dat → List Dat → DS → GR) : Prop where
  ex : ∃ (f : Addr) (fd : FuncData) (ps : List Str), FnOk P w K mg base (L2.CX P w) k f fd ps (spG K C us io (fun _ => True) n g) ∧ mg x = some (.ref f) ∧ PySem.W.keepIn K (.ref f) = true ∧ Binds K fd ps []
theorem HasG.up {P : Program} {w : World} {K : PySem.W.Frag} {mg : Str → Option Value} {base : Heap} {C : Cls} {us io : Bool} {x : Str} {k k' n : Nat} {g : List Dat → List Dat → DS → GR} (Z : HasG P w K mg base C us io x k n g) (h : k ≤ k') : HasG P w K mg base C us io x k' n g := by
  obtain ⟨f, fd, ps, h2, h3⟩ := Z.ex
  exact ⟨f, fd, ps, h2.mono h, h3⟩
theorem after_rx {T : List Addr} {G : Hp} {c c' : Cfg} {G' H' : Hp} {x : V} {v : RV} (r : Rel F G c σ H) (hc : ∀ (i : Nat) (l1 : List Dat), c'.r[i]? = some (Sl.own l1) → ∃ l2 : List Dat, c.r[i]? = some (Sl.own l2)) (q : Ret F.K H G' H' x v) : RX F σ G' H' c' x v := by
  cases v with
  | sh d => exact q
  | fr l =>
    obtain ⟨p, xs, e, h1, h2, h3, h4⟩ := q
    refine ⟨p, e, xs, h1, h2, h3, r.old h4, fun i l' e5 e6 => ?_, fun b hb z => ?_⟩
    · obtain ⟨l2, e5⟩ := hc i l' e5
      obtain ⟨b, ys, e7, e8, _⟩ := r.own_ne e5
      rw [e7] at e6
      cases e6
      rw [h4] at e8
      cases e8
    · have k1 := (r.pin b hb).1
      rw [← z, h4] at k1
      cases k1
theorem wr_own {i : Nat} {l : List Dat} {c : Cfg} : ∀ (j : Nat) (l1 : List Dat), (wr i l c).r[j]? = some (Sl.own l1) → ∃ l2 : List Dat, c.r[j]? = some (Sl.own l2) := by
  intro j l' e
  unfold wr at e
  cases es : c.r[i]? with
  | none => rw [es] at e; exact ⟨_, e⟩
  | some s =>
    rw [es] at e
    cases s with
    | own l0 =>
      rcases get_set e with ⟨rfl, _, _⟩ | ⟨_, e⟩
      · exact ⟨_, es⟩
      · exact ⟨_, e⟩
    | io l0 =>
      rcases get_set e with ⟨_, z, _⟩ | ⟨_, e⟩
      · cases z
      · exact ⟨_, e⟩
    | _ => exact ⟨_, e⟩
theorem e_callS {k n j : Nat} {g : List Dat → List Dat → DS → GR} {x : Str} {p pos : Pos} {e : Expr} {es : List Expr} {ms : M (List Dat)} (hK : F.K = X.K) (Z : HasG X.prog X.w X.K X.mg X.base F.C true false x k n g) (hr : Room j X.A) (hkj : k ≤ j) (hg : Gl X x) (tk : Takes X W) (ha : PA X (e :: es) (Sx F W (RAS F) ms))
    (hdb : (x == ("__debug__" : Str)) = false := by decide) (he : starEach (e :: es) X.env = (false, eval e X.env) :: starEach es X.env := by rfl) (hpl : (backTo pos (starEach es X.env)).any (·.1) = false := by rfl) : PE X (.Call (.Name x p) (e :: es) [] pos) (EX F W (M.bind ms fun ds => if ds.length = n then callS g ds else bad)) := by
  obtain ⟨f, fd, ps, h2, h3, h4, h5⟩ := Z.ex
  refine (pe_callS h2 (hr.mono hkj) hg h3 h4 h5 (fun σ => passAt tk σ) ha hdb he hpl).mono fun σ H Q h => sx_mono (sx_bind (R1 := RAS F) h) fun vs H1 ⟨ds, G1, c1, r1, ⟨hu, vs', e1, q⟩, p⟩ => ?_
  by_cases hl : ds.length = n
  · rw [if_pos hl] at p
    refine ⟨G1, vs', ds, [], c1.s, F.sa, F.sc, F.sl, 0, F.tb, trivial, r1.ts, r1.sub, hK ▸ q, hl, by rw [e1]; simp [preV, posV], fun _ => r1.st hu, (fun z => nomatch z), (fun _ z => nomatch z), ?_⟩
    unfold callS at p
    cases e : g ds [] c1.s with
    | ok v l s =>
      rw [e] at p
      intro x G' H' a zt z1 _ z2
      have r2 := r1.afterS hu (by simpa [onS, onI, onM] using a) zt (z1 rfl)
      exact p x G' H' r2 a.g (after_rx (T := []) r1 (fun i l' e => ⟨l', e⟩) (hK ▸ z2))
    | exc k d l s =>
      rw [e] at p
      intro ad v G' H' a zt z1 _ z2 z3
      have r2 := r1.afterS hu (by simpa [onS, onI, onM] using a) zt (z1 rfl)
      exact p ad v G' H' r2 a.g z2 (hK ▸ z3)
    | bad =>
      rw [e] at p
      exact p
  · rw [if_neg hl] at p
    exact p.elim
theorem e_callI {k n j i : Nat} {g : List Dat → List Dat → DS → GR} {x : Str} {p pos : Pos} {e : Expr} {es : List Expr} {ms : M (List Dat)} (hK : F.K = X.K) (Z : HasG X.prog X.w X.K X.mg X.base F.C false true x k n g) (hr : Room j X.A) (hkj : k ≤ j) (hg : Gl X x) (tk : Takes X W) (ha : PA X (e :: es) (Sx F W (RAI F i) ms))
    (hdb : (x == ("__debug__" : Str)) = false := by decide) (he : starEach (e :: es) X.env = (false, eval e X.env) :: starEach es X.env := by rfl) (hpl : (backTo pos (starEach es X.env)).any (·.1) = false := by rfl) : PE X (.Call (.Name x p) (e :: es) [] pos) (EX F W (M.bind ms fun ds => if ds.length = n then callI i g ds else bad)) := by
  obtain ⟨f, fd, ps, h2, h3, h4, h5⟩ := Z.ex
  refine (pe_callS h2 (hr.mono hkj) hg h3 h4 h5 (fun σ => passAt tk σ) ha hdb he hpl).mono fun σ H Q h => sx_mono (sx_bind (R1 := RAI F i) h) fun vs H1 ⟨ds, G1, c1, r1, ⟨vs', b, e1, q, eb⟩, p⟩ => ?_
  by_cases hl : ds.length = n
  · rw [if_pos hl] at p
    unfold callI at p
    cases eh : held i c1 with
    | none => simp only [eh] at p; exact p.elim
    | some l =>
      simp only [eh] at p
      obtain ⟨b2, xs, f1, f2, f3, f4⟩ := r1.wr eh
      rw [eb] at f1
      cases f1
      have gb : G1 b = none := by
        unfold held at eh
        cases es : c1.r[i]? with
        | none => rw [es] at eh; cases eh
        | some s =>
          rw [es] at eh
          cases s with
          | own l0 =>
            obtain ⟨_, _, g1, _, g2, _⟩ := r1.sl i _ es
            rw [eb] at g1
            cases g1
            exact g2
          | io l0 =>
            obtain ⟨_, g1, _, g2, _⟩ := r1.sl i _ es
            rw [eb] at g1
            have : b = F.ia i := by cases g1; rfl
            rw [this]
            exact g2
          | _ => cases eh
      refine ⟨G1, vs', ds, l, ⟨[], [], 0⟩, 0, 0, 0, b, F.tb, trivial, r1.ts, r1.sub, hK ▸ q, hl, by rw [e1]; simp [preV, posV], (fun z => nomatch z), (fun _ => ⟨xs, f2, gb, hK ▸ f3⟩), (fun z => nomatch z), ?_⟩
      cases e : g ds l ⟨[], [], 0⟩ with
      | ok v l' s =>
        rw [e] at p
        intro x G' H' a zt _ z1 z2
        obtain ⟨xs', y1, y2, y3⟩ := z1 rfl
        have r2 := r1.afterI eh eb (by simpa [onS, onI, onM] using a) zt y1 y2 (hK ▸ y3)
        exact p x G' H' r2 a.g (after_rx (T := []) r1 wr_own (hK ▸ z2))
      | exc k d l' s =>
        rw [e] at p
        intro ad v G' H' a zt _ z1 z2 z3
        obtain ⟨xs', y1, y2, y3⟩ := z1 rfl
        have r2 := r1.afterI eh eb (by simpa [onS, onI, onM] using a) zt y1 y2 (hK ▸ y3)
        exact p ad v G' H' r2 a.g z2 (hK ▸ z3)
      | bad =>
        rw [e] at p
        exact p
  · rw [if_neg hl] at p
    exact p.elim
end

/-! ### a body that changes a list or the state -/
section
variable {K : PySem.W.Frag} {C : Cls} {us io : Bool} {sa sc sl ia : Addr} {G H : Hp} {vs : List V} {ds l : List Dat} {s : DS}
theorem listAt {α : Type} {a b : List α} {i : Nat} {x : α} (e : (a ++ b)[i]? = some x) : (i < a.length ∧ a[i]? = some x) ∨ (a.length ≤ i ∧ b[i - a.length]? = some x) := by
  by_cases h : i < a.length
  · rw [List.getElem?_append_left h] at e
    exact .inl ⟨h, e⟩
  · rw [List.getElem?_append_right (by omega)] at e
    exact .inr ⟨by omega, e⟩
/-- the slots at the entry: the state's, the data's, the list's, the others' -/
theorem initG_at {N i : Nat} {x : Sl} (e : (initG us io N ds l)[i]? = some x) :
    (us = true ∧ i = 0 ∧ x = .st) ∨ (∃ j d, i = (if us then 1 else 0) + j ∧ ds[j]? = some d ∧ x = .sh d) ∨ (io = true ∧ i = (if us then 1 else 0) + ds.length ∧ x = .io l) ∨ x = .no := by
  unfold initG at e
  rcases listAt e with ⟨_, e⟩ | ⟨_, e⟩
  · rcases listAt e with ⟨_, e⟩ | ⟨g2, e⟩
    · rcases listAt e with ⟨_, e⟩ | ⟨g1, e⟩
      · cases us with
        | false => cases e
        | true =>
          cases i with
          | zero => cases e; exact .inl ⟨rfl, rfl, rfl⟩
          | succ i => cases e
      · rw [List.getElem?_map] at e
        cases e2 : ds[i - (if us then [Sl.st] else []).length]? with
        | none => rw [e2] at e; cases e
        | some d =>
          rw [e2] at e
          cases e
          have z : (if us then [Sl.st] else []).length = (if us then 1 else 0) := by cases us <;> rfl
          rw [z] at e2 g1
          exact .inr (.inl ⟨_, d, by omega, e2, rfl⟩)
    · cases io with
      | false => cases e
      | true =>
        have z : ((if us then [Sl.st] else []) ++ ds.map Sl.sh).length = (if us then 1 else 0) + ds.length := by
          rw [List.length_append, List.length_map]
          cases us <;> rfl
        rw [z] at e g2
        cases ej : i - ((if us then 1 else 0) + ds.length) with
        | zero =>
          rw [ej] at e
          cases e
          exact .inr (.inr (.inl ⟨rfl, by omega, rfl⟩))
        | succ j => rw [ej] at e; cases e
  · obtain ⟨h1, h2⟩ := List.getElem?_eq_some_iff.mp e
    rw [List.getElem_replicate] at h2
    exact .inr (.inr (.inr h2.symm))
theorem argAt {N : List Str} {vs' : List V} (ev : vs = preV us sa ++ vs' ++ posV io ia) (hl : vs'.length = ds.length) :
    (us = true → (L2.start N vs)[0]? = some (some (.ref sa))) ∧ (∀ (j : Nat) (v : V), vs'[j]? = some v → (L2.start N vs)[(if us then 1 else 0) + j]? = some (some v)) ∧ (io = true → (L2.start N vs)[(if us then 1 else 0) + ds.length]? = some (some (.ref ia))) := by
  have go : ∀ (i : Nat) (v : V), vs[i]? = some v → (L2.start N vs)[i]? = some (some v) := fun i v e => by
    show (vs.map some ++ _)[i]? = _
    rw [List.getElem?_append_left (by rw [List.length_map]; exact (List.getElem?_eq_some_iff.mp e).1), List.getElem?_map, e]
    rfl
  have z : (preV us sa).length = (if us then 1 else 0) := by cases us <;> rfl
  refine ⟨fun h => go _ _ ?_, fun j v e => go _ _ ?_, fun h => go _ _ ?_⟩
  · subst h
    rw [ev]
    rfl
  · rw [ev, List.append_assoc, List.getElem?_append_right (by omega), z, Nat.add_sub_cancel_left, List.getElem?_append_left (List.getElem?_eq_some_iff.mp e).1]
    exact e
  · subst h
    rw [ev, List.getElem?_append_right (by rw [List.length_append, z, hl]; exact Nat.le_refl _), List.length_append, z, hl, Nat.sub_self]
    rfl
theorem relG_init {N : List Str} {vs' : List V} (hs : Same G H) (q : RpA K G vs' ds) (ev : vs = preV us sa ++ vs' ++ posV io ia) (hl : (if us then 1 else 0) + ds.length + (if io then 1 else 0) ≤ N.length) (h1 : SsOk us sa sc sl G H s) (h2 : IoOk K io ia G H l) (h3 : us = true → io = true → ia ∉ [sa, sc, sl]) {tb : Tbs} (ht : TsOk tb G H) :
    Rel (frG K C us io sa sc sl ia tb G H) G ⟨initG us io N.length ds l, s⟩ (L2.start N vs) H := by
  have hln := dpAll_len q
  obtain ⟨k1, k2, k3⟩ := argAt (N := N) ev hln
  have own : ∀ {i : Nat} {l1 : List Dat}, (initG us io N.length ds l)[i]? = some (.own l1) → False := fun {i l1} e => by
    rcases initG_at e with ⟨_, _, z⟩ | ⟨_, _, _, _, z⟩ | ⟨_, _, z⟩ | z <;> cases z
  have esta : (frG K C us io sa sc sl ia tb G H).sta = onS us sa sc sl := rfl
  exact
  { sub := hs, g0 := Same.refl _, fresh := fun b e => .inl e, keep := fun b o e _ _ => e
    len := by
      show (initG us io N.length ds l).length = (vs.map some ++ List.replicate (N.length - vs.length) none).length
      have z : vs.length = (if us then 1 else 0) + ds.length + (if io then 1 else 0) := by
        rw [ev, List.length_append, List.length_append, hln]
        cases us <;> cases io <;> rfl
      unfold initG
      simp only [List.length_append, List.length_map, List.length_replicate, z]
      cases us <;> cases io <;> rfl
    sl := fun i x e => by
      rcases initG_at e with ⟨hu, rfl, rfl⟩ | ⟨j, d, rfl, ed, rfl⟩ | ⟨hi, rfl, rfl⟩ | rfl
      · exact ⟨k1 hu, hu⟩
      · obtain ⟨v, e2, q2⟩ := dpAll_get q ed
        exact ⟨v, k2 j v e2, q2⟩
      · obtain ⟨xs, y1, y2, y3⟩ := h2 hi
        exact ⟨xs, k3 hi, y1, y2, y3, by show ia ∈ onM io ia tb; rw [hi]; exact List.mem_append_left _ (List.mem_singleton.mpr rfl)⟩
      · trivial
    inj := fun i j l1 l2 e1 _ _ => (own e1).elim
    ioj := fun i j l1 l2 e1 e2 _ => by
      rcases initG_at e1 with ⟨_, _, z⟩ | ⟨_, _, _, _, z⟩ | ⟨_, r1, _⟩ | z
      · cases z
      · cases z
      · rcases initG_at e2 with ⟨_, _, z⟩ | ⟨_, _, _, _, z⟩ | ⟨_, r2, _⟩ | z
        · cases z
        · cases z
        · exact r1.trans r2.symm
        · cases z
      · cases z
    st := fun z => h1 z
    mu0 := fun b m => by
      have m : b ∈ onI io ia ++ tb.map (·.1) := m
      rcases List.mem_append.mp m with m | m
      case inr =>
        obtain ⟨p, hp, rfl⟩ := List.mem_map.mp m
        obtain ⟨⟨ps, e, _⟩, _⟩ := ht p hp
        refine ⟨by show H p.1 ≠ none; rw [e]; simp, fun z => ?_⟩
        rw [esta] at z
        cases us with
        | false => cases z
        | true =>
          obtain ⟨y1, y2, y3, _⟩ := h1 rfl
          simp only [onS, if_true, List.mem_cons, List.not_mem_nil, or_false] at z
          rcases z with z | z | z
          · rw [z, y1] at e; cases e
          · rw [z, y2] at e; cases e
          · rw [z, y3] at e; cases e
      cases io with
      | false => cases m
      | true =>
        obtain ⟨xs, y1, _⟩ := h2 rfl
        have e : b = ia := List.mem_singleton.mp m
        rw [e]
        refine ⟨by show H ia ≠ none; rw [y1]; simp, fun z => ?_⟩
        rw [esta] at z
        cases us with
        | false => cases z
        | true => exact h3 rfl rfl z
    st0 := fun b z => by
      rw [esta] at z
      cases us with
      | false => cases z
      | true =>
        obtain ⟨y1, y2, y3, _⟩ := h1 rfl
        show H b ≠ none
        simp only [onS, if_true, List.mem_cons, List.not_mem_nil, or_false] at z
        rcases z with z | z | z
        · rw [z, y1]; simp
        · rw [z, y2]; simp
        · rw [z, y3]; simp
    dom := fun b e => e
    pin := fun b z => nomatch z
    tabs := fun p hp => ⟨(ht p hp).1, (ht p hp).2, List.mem_append_right _ (List.mem_map.mpr ⟨p, hp, rfl⟩)⟩ }
theorem Rel.aftG {G0 H0 : Hp} {c : Cfg} {σ : L2.St} {tb : Tbs} (r : Rel (frG K C us io sa sc sl ia tb G0 H0) G c σ H) : AfterT (onS us sa sc sl ++ onM io ia tb) G0 H0 G H :=
  ⟨r.g0, r.sub, fun b o e m => r.keep b o e (fun z => m (List.mem_append_right _ z)) (fun z => m (List.mem_append_left _ z)), r.fresh, r.dom⟩
theorem Rel.ioG {G0 H0 : Hp} {c : Cfg} {σ : L2.St} {n : Nat} {k : List Dat → GR} {Z : GR → Prop} {tb : Tbs} (r : Rel (frG K C us io sa sc sl ia tb G0 H0) G c σ H) (hb : ¬ Z .bad) (z : Z (endG us io n c k)) : ∃ l', Z (k l') ∧ IoOk K io ia G H l' := by
  unfold endG at z
  cases io with
  | false => exact ⟨[], z, fun e => nomatch e⟩
  | true =>
    simp only [if_true] at z
    unfold ioAt at z
    cases e : c.r[(if us then 1 else 0) + n]? with
    | none => simp only [e] at z; exact (hb z).elim
    | some x =>
      cases x with
      | io l' =>
        simp only [e] at z
        obtain ⟨xs, _, y1, y2, y3, _⟩ := r.sl _ _ e
        exact ⟨l', z, fun _ => ⟨xs, y1, y2, y3⟩⟩
      | _ => simp only [e] at z; exact (hb z).elim
theorem fn_gen {P : Program} {w : World} {mg : Str → Option Value} {base : Heap} {x qual : Str} {st : Stmt} {f : Addr} {fd : FuncData} {N ps : List Str} {k n : Nat} {m : M Ctl} (Fn : Fun K x qual st f fd) (S : FnScope N ps (defScope st)) (hn : (if us then 1 else 0) + n + (if io then 1 else 0) = ps.length) (hps : ps.length ≤ N.length)
    {okT : Tbs → Prop} (hb : ∀ (sa sc sl ia : Addr) (tb : Tbs) (G0 H0 : Hp) (cdv : Value) (A : Around) (outer : List Env) (s : Shared) (E : XK), okT tb → Room k (A.deeper (envOfC qual (defScope st) s.heap.objs.size f cdv)) →
      PSs (cxOf (L2.CX P w) P w K mg base N qual (defScope st) f cdv A outer s H0 E) (defBody st) (T (frG K C us io sa sc sl ia tb G0 H0) (fun cls d _ H => E cls d H) m)) :
    FnOk P w K mg base (L2.CX P w) (k + 1) f fd ps (spG K C us io okT n (runG us io N.length m)) := by
  refine Fn.okX S (fun vs H Q E h => ?_) (fun cdv A outer s H vs Q E hr h => ?_)
  · obtain ⟨G, vs', ds, l, s, sa, sc, sl, ia, tb, _, _, _, q, hl, ev, _⟩ := h
    rw [ev, ← hn, List.length_append, List.length_append, dpAll_len q, hl]
    cases us <;> cases io <;> rfl
  · obtain ⟨G, vs', ds, l, s0, sa, sc, sl, ia, tb, okt, ts, hs, q, hl, ev, h1, h2, h3, z⟩ := h
    refine ⟨_, hb sa sc sl ia tb G H cdv A outer s E okt hr, G, ⟨initG us io N.length ds l, s0⟩, relG_init hs q ev (by rw [hl, hn]; exact hps) h1 h2 h3 ts, ?_⟩
    unfold runG at z
    cases e : m ⟨initG us io N.length ds l, s0⟩ with
    | ok a c =>
      rw [e] at z
      cases a with
      | nx =>
        intro σ' G' H' r' _
        obtain ⟨l', z2, io2⟩ := r'.ioG (Z := fun g => match g with
          | .ok v l' s' => ∀ x G' H', AfterT (onS us sa sc sl ++ onM io ia tb) G H G' H' → TsOk tb G' H' → SsOk us sa sc sl G' H' s' → IoOk K io ia G' H' l' → Ret K H G' H' x v → Q x H'
          | .exc k d l' s' => ∀ ad v G' H', AfterT (onS us sa sc sl ++ onM io ia tb) G H G' H' → TsOk tb G' H' → SsOk us sa sc sl G' H' s' → IoOk K io ia G' H' l' → H' ad = some (.xd [(C.fld k, v)]) → Rp K G' v d → E (C.at_ k) (some ad) H'
          | .bad => False) id z
        exact z2 .non G' H' r'.aftG r'.ts (fun hu => r'.st hu) io2 .non
      | rt v =>
        intro x σ' G' H' r' q'
        obtain ⟨l', z2, io2⟩ := r'.ioG (Z := fun g => match g with
          | .ok v l' s' => ∀ x G' H', AfterT (onS us sa sc sl ++ onM io ia tb) G H G' H' → TsOk tb G' H' → SsOk us sa sc sl G' H' s' → IoOk K io ia G' H' l' → Ret K H G' H' x v → Q x H'
          | .exc k d l' s' => ∀ ad v G' H', AfterT (onS us sa sc sl ++ onM io ia tb) G H G' H' → TsOk tb G' H' → SsOk us sa sc sl G' H' s' → IoOk K io ia G' H' l' → H' ad = some (.xd [(C.fld k, v)]) → Rp K G' v d → E (C.at_ k) (some ad) H'
          | .bad => False) id z
        refine z2 x G' H' r'.aftG r'.ts (fun hu => r'.st hu) io2 ?_
        cases v with
        | sh d => exact q'
        | fr l =>
          obtain ⟨p, e1, xs, y1, y2, y3, y4, _⟩ := q'
          exact ⟨p, xs, e1, y1, y2, y3, y4⟩
      | bk => exact z.elim
      | ct => exact z.elim
    | exc j d c =>
      rw [e] at z
      intro ad v σ' G' H' r' y1 y2
      obtain ⟨l', z2, io2⟩ := r'.ioG (Z := fun g => match g with
          | .ok v l' s' => ∀ x G' H', AfterT (onS us sa sc sl ++ onM io ia tb) G H G' H' → TsOk tb G' H' → SsOk us sa sc sl G' H' s' → IoOk K io ia G' H' l' → Ret K H G' H' x v → Q x H'
          | .exc k d l' s' => ∀ ad v G' H', AfterT (onS us sa sc sl ++ onM io ia tb) G H G' H' → TsOk tb G' H' → SsOk us sa sc sl G' H' s' → IoOk K io ia G' H' l' → H' ad = some (.xd [(C.fld k, v)]) → Rp K G' v d → E (C.at_ k) (some ad) H'
          | .bad => False) id z
      exact z2 ad v G' H' r'.aftG r'.ts (fun hu => r'.st hu) io2 y1 y2
    | bad =>
      rw [e] at z
      exact z
end
end Pn

set_option maxHeartbeats 1000001
namespace Pn
open L2 PyProof.Rows PySem.Spec PySem
section
variable {F : Fr} {W : L2.WX} {σ : L2.St} {H : Hp} {X : Cx} {D : Ends}

/-! ### the law's state -/
def onSt {γ : Type} (i : Nat) (m : M γ) : M γ := fun c => match c.r[i]? with
  | some .st => m c
  | _ => .bad
theorem po_st {γ δ : Type} {R : L2.St → Hp → Hp → Cfg → δ → γ → Prop} {Q : δ → Hp → Prop} {G : Hp} {c : Cfg} {i : Nat} {m : M γ} (r : Rel F G c σ H) (p : Po F W σ R Q G (onSt i m c)) : σ[i]? = some (some (.ref F.sa)) ∧ F.us = true ∧ StOk F.sa F.sc F.sl G H c.s ∧ Po F W σ R Q G (m c) := by
  unfold onSt at p
  cases e : c.r[i]? with
  | none => simp only [e] at p; exact p.elim
  | some s =>
    cases s with
    | st =>
      simp only [e] at p
      obtain ⟨e2, hu⟩ := r.sl i _ e
      exact ⟨e2, hu, r.st hu, p⟩
    | _ => simp only [e] at p; exact p.elim
def key3 : Bool → Str
  | true => "cells"
  | false => "lefts"
theorem dget_at {G : Hp} {s : DS} (z : StOk F.sa F.sc F.sl G H s) : DGet H F.sa (.str "at") (some (.int s.at_)) := DGet.k (kvs := stKv F.sc F.sl s.at_) (k := Sum.inr "at") z.1
theorem dget_row {G : Hp} {s : DS} (z : StOk F.sa F.sc F.sl G H s) : ∀ b : Bool, DGet H F.sa (.str (key3 b)) (some (.ref (if b then F.sc else F.sl)))
  | true => DGet.k (kvs := stKv F.sc F.sl s.at_) (k := Sum.inr "cells") z.1
  | false => DGet.k (kvs := stKv F.sc F.sl s.at_) (k := Sum.inr "lefts") z.1
def stAt (i : Nat) : M Dat := onSt i fun c => .ok (.int c.s.at_) c
theorem e_stAt {i j : Nat} {x : Str} {p p2 pos : Pos} (hu : X.A.units + 1 < cLine) (hN : X.N[i]? = some x) (hv : Vis X.env.scope x) (hd : (x == ("__debug__" : Str)) = false) (hcd : (x == ("__classdict__" : Str)) = false) (hs : NoSl (.Constant (.str "at") j p2) := by intro _ _; rfl) :
    PE X (.Subscript (.Name x p) (.Constant (.str "at") j p2) pos) (E F W (stAt i)) :=
  (pe_dget hu (pe_var hN hv hd hcd) pe_str hs).mono fun σ H Q ⟨G, c, r, p⟩ => by
    obtain ⟨e2, hus, z, p⟩ := po_st r p
    exact ⟨_, e2, _, _, rfl, dget_at z, po_ret r p (.int _)⟩
def rowSel (b : Bool) (s : DS) : List Int := if b then s.cells else s.lefts
/-- state["cells"], state["lefts"] as rows -/
def stRow (b : Bool) (i : Nat) : M Row := onSt i fun c => .ok (false, (rowSel b c.s).map PyData.int) c
theorem r_st (b : Bool) {i j : Nat} {x : Str} {p p2 pos : Pos} (hu : X.A.units + 1 < cLine) (hN : X.N[i]? = some x) (hv : Vis X.env.scope x) (hd : (x == ("__debug__" : Str)) = false) (hcd : (x == ("__classdict__" : Str)) = false) (hs : NoSl (.Constant (.str (key3 b)) j p2) := by intro _ _; rfl) :
    PE X (.Subscript (.Name x p) (.Constant (.str (key3 b)) j p2) pos) (R_ F W (stRow b i)) :=
  (pe_dget hu (pe_var hN hv hd hcd) pe_str hs).mono fun σ H Q ⟨G, c, r, p⟩ => by
    obtain ⟨e2, hus, z, p⟩ := po_st r p
    refine ⟨_, e2, _, _, rfl, dget_row z b, po_ret r p ⟨_, (rowSel b c.s).map V.int, rfl, ?_, intR_dp _⟩⟩
    obtain ⟨_, z2, z3, _⟩ := z
    cases b
    · exact z3
    · exact z2
/-- state["cells"][k], state["lefts"][k] -/
def stIx (b : Bool) (i : Nat) (m : M Dat) : M Dat := onSt i (M.bind m fun d => onSt i fun c => match d with
  | .int k => (match atI (rowSel b c.s) k with
    | some n => .ok (.int n) c
    | none => .bad)
  | _ => .bad)
theorem atI_map {α β : Type} (f : α → β) (xs : List α) (i : Int) : atI (xs.map f) i = (atI xs i).map f := by
  unfold atI
  rw [List.length_map]
  cases ixN xs.length i with
  | none => rfl
  | some j => exact List.getElem?_map
theorem e_stIx (b : Bool) {i j : Nat} {x : Str} {e : Expr} {m : M Dat} {p p2 pos pos2 : Pos} (hK : F.K = X.K) (hu : X.A.units + 1 < cLine) (hN : X.N[i]? = some x) (hv : Vis X.env.scope x) (hd : (x == ("__debug__" : Str)) = false) (hcd : (x == ("__classdict__" : Str)) = false) (he : PE X e (E F W m)) (hs : NoSl (.Constant (.str (key3 b)) j p2) := by intro _ _; rfl) (hs2 : PlainIx e := by intro _ _; rfl) :
    PE X (.Subscript (.Subscript (.Name x p) (.Constant (.str (key3 b)) j p2) pos2) e pos) (E F W (stIx b i m)) :=
  (pe_ix ix_list (pe_dget hu (pe_var hN hv hd hcd) pe_str hs) he hs2).mono fun σ H Q ⟨G, c, r, p⟩ => by
    obtain ⟨e2, hus, z, p⟩ := po_st r p
    refine ⟨_, e2, _, _, rfl, dget_row z b, sx_mono (po_bind (R1 := RD F) r p) fun y H2 ⟨d, G2, c2, r2, s2, q2, p2⟩ => ?_⟩
    obtain ⟨_, _, z2, p2⟩ := po_st r2 p2
    cases q2 with
    | int k =>
      cases ek : atI (rowSel b c2.s) k with
      | none => simp only [ek] at p2; exact p2.elim
      | some n =>
        simp only [ek] at p2
        refine ⟨_, (rowSel b c2.s).map V.int, k, .int n, rfl, rfl, Evl.sq_of ?_, by rw [atI_map, ek]; rfl, po_ret r2 p2 (.int _)⟩
        obtain ⟨_, z3, z4, _⟩ := z2
        cases b
        · exact z4
        · exact z3
    | _ => exact p2.elim

/-! ### the state written -/
theorem Rel.stW {G : Hp} {c : Cfg} {b : Addr} {o : HO} {s' : DS} (r : Rel F G c σ H) (hu : F.us = true) (hb : b ∈ [F.sa, F.sc, F.sl]) (z : StOk F.sa F.sc F.sl G (upd H b o) s') : Rel F G { c with s := s' } σ (upd H b o) := by
  obtain ⟨_, _, _, g1, g2, g3, _⟩ := id z
  have gb : G b = none := by
    (simp only [List.mem_cons, List.not_mem_nil, or_false] at hb)
    rcases hb with rfl | rfl | rfl <;> assumption
  have noT : ∀ o : HO, H b = some o → ¬ IsT o := fun o e t => by
    obtain ⟨h1, h2, h3, _⟩ := r.st hu
    (simp only [List.mem_cons, List.not_mem_nil, or_false] at hb)
    (rcases hb with rfl | rfl | rfl)
    · rw [h1] at e; cases e; exact isT_dK t
    · rw [h2] at e; cases e; exact isT_lst t
    · rw [h3] at e; cases e; exact isT_lst t
  refine r.afterS hu ⟨Same.refl _, fun x u e => ?_, fun x u e hx => ?_, fun x e => .inl e, fun x e => ?_⟩ (fun p hp => ⟨tabS_move (r.ts p hp).1 fun x u e t => ?_, (r.ts p hp).2⟩) z
  · have : x ≠ b := fun h => by rw [h, gb] at e; cases e
    rw [upd_ne this]
    exact r.sub x u e
  · have : x ≠ b := fun h => hx (List.mem_append_left _ (h ▸ hb))
    rw [upd_ne this]
    exact e
  · by_cases h : x = b
    · rw [h, upd_same]; simp
    · rw [upd_ne h]; exact e
  · have : x ≠ b := fun h => noT u (h ▸ e) t
    rw [upd_ne this]
    exact e
theorem stOk_at {G : Hp} {s : DS} {n : Int} (z : StOk F.sa F.sc F.sl G H s) : StOk F.sa F.sc F.sl G (upd H F.sa (.dK (putK (stKv F.sc F.sl s.at_) (Sum.inr "at") (.int n)))) { s with at_ := n } := by
  obtain ⟨h1, h2, h3, g1, g2, g3, h4⟩ := z
  have n1 : F.sc ≠ F.sa := fun e => by rw [e, h1] at h2; cases h2
  have n2 : F.sl ≠ F.sa := fun e => by rw [e, h1] at h3; cases h3
  refine ⟨?_, by rw [upd_ne n1]; exact h2, by rw [upd_ne n2]; exact h3, g1, g2, g3, h4⟩
  rw [upd_same]
  rfl
theorem stOk_left {G : Hp} {s : DS} {j : Nat} {n : Int} (z : StOk F.sa F.sc F.sl G H s) : StOk F.sa F.sc F.sl G (upd H F.sl (.lst ((s.lefts.map V.int).set j (.int n)))) { s with lefts := s.lefts.set j n } := by
  obtain ⟨h1, h2, h3, g1, g2, g3, h4⟩ := z
  have n2 : F.sa ≠ F.sl := fun e => by rw [← e, h1] at h3; cases h3
  refine ⟨by rw [upd_ne n2]; exact h1, by rw [upd_ne h4]; exact h2, ?_, g1, g2, g3, h4⟩
  rw [upd_same, List.map_set]
/-- state["at"] = a number -/
def putAt (i : Nat) (m : M Dat) : M Ctl := M.bind m fun d => onSt i fun c => match d with
  | .int n => .ok .nx { c with s := { c.s with at_ := n } }
  | _ => .bad
theorem ps_onSt {G : Hp} {c : Cfg} {i : Nat} {m : M Ctl} (r : Rel F G c σ H) (p : Ps F W D G (onSt i m c)) : σ[i]? = some (some (.ref F.sa)) ∧ F.us = true ∧ StOk F.sa F.sc F.sl G H c.s ∧ Ps F W D G (m c) := by
  unfold onSt at p
  cases e : c.r[i]? with
  | none => simp only [e] at p; exact p.elim
  | some s =>
    cases s with
    | st =>
      simp only [e] at p
      obtain ⟨e2, hu⟩ := r.sl i _ e
      exact ⟨e2, hu, r.st hu, p⟩
    | _ => simp only [e] at p; exact p.elim
theorem s_stAt {i j : Nat} {x : Str} {e : Expr} {m : M Dat} {p p2 pos pos2 : Pos} (hu : X.A.units + 1 < cLine) (hN : X.N[i]? = some x) (hv : Vis X.env.scope x) (hd : (x == ("__debug__" : Str)) = false) (hcd : (x == ("__classdict__" : Str)) = false) (he : PE X e (E F W m))
    (ha : ∀ v, assign (.Subscript (.Name x p) (.Constant (.str "at") j p2) pos2) X.env v = (do
      let ov ← holding [v] (eval (.Name x p) X.env)
      let iv ← holding [v, ov] (eval (.Constant (.str "at") j p2) X.env)
      standAt pos2
      holding [v, ov, iv] (setItem ov iv (v))
      release [v, ov, iv] []) := by intro _; rfl)
    (hs : swapsWithSole [.Subscript (.Name x p) (.Constant (.str "at") j p2) pos2] e pos.line X.env = pure false := by rfl) (hw : swappedStores [.Subscript (.Name x p) (.Constant (.str "at") j p2) pos2] e X.env = pure none := by rfl) (h1 : (assignEach [.Subscript (.Name x p) (.Constant (.str "at") j p2) pos2] X.env).map (·.2) = [assign (.Subscript (.Name x p) (.Constant (.str "at") j p2) pos2) X.env] := by rfl) :
    PS X (.Assign [.Subscript (.Name x p) (.Constant (.str "at") j p2) pos2] e pos) (T F W (putAt i m)) :=
  (ps_asg he (pg_sub (pe_var hN hv hd hcd) pe_str (set_dict hu) ha) hs hw h1).mono fun D σ H ⟨G, c, r, p⟩ => sx_mono (ps_bind (R1 := RD F) r p) fun x H1 ⟨d, G1, c1, r1, s1, q, p1⟩ => by
    obtain ⟨e2, hus, z, p1⟩ := ps_onSt r1 p1
    cases q with
    | int n =>
      refine ⟨_, e2, F.sa, _, rfl, DPut.k (kvs := stKv F.sc F.sl c1.s.at_) (k := Sum.inr "at") z.1 (by show 3 < sizeLine; rw [sizeLine_eq]; decide), ?_⟩
      exact p1 σ G1 _ (r1.stW hus (by simp) (stOk_at z)) (Same.refl _)
    | _ => exact p1.elim
/-- state["lefts"][k] = a number -/
def putLeft (i : Nat) (m mk : M Dat) : M Ctl := M.bind m fun d => match d with
  | .int n => onSt i (M.bind mk fun k => onSt i fun c => match k with
    | .int k => (match ixN c.s.lefts.length k with
      | some j => .ok .nx { c with s := { c.s with lefts := c.s.lefts.set j n } }
      | none => .bad)
    | _ => .bad)
  | _ => bad
theorem s_stLeft {i j : Nat} {x : Str} {e k : Expr} {m mk : M Dat} {p p2 pos pos2 pos3 : Pos} (hu : X.A.units + 1 < cLine) (hN : X.N[i]? = some x) (hv : Vis X.env.scope x) (hd : (x == ("__debug__" : Str)) = false) (hcd : (x == ("__classdict__" : Str)) = false) (he : PE X e (E F W m)) (hk : PE X k (E F W mk)) (hns : NoSl (.Constant (.str "lefts") j p2) := by intro _ _; rfl)
    (ha : ∀ v, assign (.Subscript (.Subscript (.Name x p) (.Constant (.str "lefts") j p2) pos3) k pos2) X.env v = (do
      let ov ← holding [v] (eval (.Subscript (.Name x p) (.Constant (.str "lefts") j p2) pos3) X.env)
      let iv ← holding [v, ov] (eval k X.env)
      standAt pos2
      holding [v, ov, iv] (setItem ov iv (v))
      release [v, ov, iv] []) := by intro _; rfl)
    (hs : swapsWithSole [.Subscript (.Subscript (.Name x p) (.Constant (.str "lefts") j p2) pos3) k pos2] e pos.line X.env = pure false := by rfl) (hw : swappedStores [.Subscript (.Subscript (.Name x p) (.Constant (.str "lefts") j p2) pos3) k pos2] e X.env = pure none := by rfl)
    (h1 : (assignEach [.Subscript (.Subscript (.Name x p) (.Constant (.str "lefts") j p2) pos3) k pos2] X.env).map (·.2) = [assign (.Subscript (.Subscript (.Name x p) (.Constant (.str "lefts") j p2) pos3) k pos2) X.env] := by rfl) :
    PS X (.Assign [.Subscript (.Subscript (.Name x p) (.Constant (.str "lefts") j p2) pos3) k pos2] e pos) (T F W (putLeft i m mk)) :=
  (ps_asg he (pg_sub (pe_dget hu (pe_var hN hv hd hcd) pe_str hns) hk set_list ha) hs hw h1).mono fun D σ H ⟨G, c, r, p⟩ => sx_mono (ps_bind (R1 := RD F) r p) fun x H1 ⟨d, G1, c1, r1, s1, q, p1⟩ => by
    cases q with
    | int n =>
      obtain ⟨e2, hus, z, p1⟩ := ps_onSt r1 p1
      refine ⟨_, e2, _, _, rfl, dget_row z false, sx_mono (ps_bind (R1 := RD F) r1 p1) fun y H2 ⟨d2, G2, c2, r2, s2, q2, p2⟩ => ?_⟩
      obtain ⟨_, _, z2, p2⟩ := ps_onSt r2 p2
      cases q2 with
      | int k =>
        cases ek : ixN c2.s.lefts.length k with
        | none => simp only [ek] at p2; exact p2.elim
        | some j =>
          simp only [ek] at p2
          refine ⟨F.sl, c2.s.lefts.map V.int, k, j, rfl, rfl, z2.2.2.1, by rw [List.length_map]; exact ek, ?_⟩
          exact p2 σ G2 _ (r2.stW hus (by simp) (stOk_left z2)) (Same.refl _)
      | _ => exact p2.elim
    | _ => exact p1.elim
end
end Pn

set_option maxHeartbeats 1000001
/-! several except clauses, each with a name for what is caught -/
namespace PnTry
open L2 PyProof.Rows PySem.Spec PySem
abbrev Suite := Addr → Value → Option Addr → TS
structure Way where
  i : Nat
  c : Value
  ts : Suite
/-- the name goes behind the suite -/
def gone (i : Nat) (D : Ends) : Ends where
  rt := D.rt
  nx := fun s h => D.nx (s.set i none) h
  ct := fun s h => D.ct (s.set i none) h
  bk := fun s h => D.bk (s.set i none) h
def wWays (K : PySem.W.Frag) (Wout : WX) (D : Ends) : List Way → WX
  | [] => Wout
  | q :: l => fun cls d σ H => ∃ b, PySem.W.exmOne K cls q.c = some b ∧ (b = true → ∀ a, H a = none → q.ts a cls d (gone q.i D) (σ.set q.i (some (.ref a))) H) ∧ (b = false → wWays K Wout D l cls d σ H)
structure WayOk (X : Cx) (h : ExceptHandler) (q : Way) : Prop where
  ex : ∃ (x n : Str) (b₀ : Stmt) (suite : List Stmt) (np pos : Pos), h = .ExceptHandler (some (.Name x np)) (some n) (b₀ :: suite) pos ∧ X.N[q.i]? = some n ∧ X.env.kindOf n = some .local ∧ Names X x q.c ∧
    ∀ (a : Addr) (ob : Obj) (cls : Value) (d : Option Addr) (pn : List (Addr × Obj)), Zc cls d ob → (∃ vs, ob.data = .fields vs) → PSs (X.suite a ((a, ob) :: pn)) (b₀ :: suite) (q.ts a cls d)
inductive WaysOk (X : Cx) : List ExceptHandler → List Way → Prop
  | nil : WaysOk X [] []
  | cons {h : ExceptHandler} {hs : List ExceptHandler} {q : Way} {l : List Way} : WayOk X h q → WaysOk X hs l → WaysOk X (h :: hs) (q :: l)
section
variable {X : Cx} {body : List Stmt} {h₀ : ExceptHandler} {hs : List ExceptHandler} {l : List Way} {pos : Pos} {tb : WX → TS} {Wout : WX}
theorem ps_ways (hst : X.stack = X.env :: X.outer) (hfr : X.env.frame = some X.env.locals) (hN : X.N.Nodup) (tk : Takes X Wout)
    (hb : ∀ (W : WX) (pn : List (Addr × Obj)) (xe : Value → Shared → Prop), Takes (X.tr pn xe) W → PassesOwn (model X.prog X.w) X.A X.env xe → PSs (X.tr pn xe) body (tb W)) (hw : WaysOk X (h₀ :: hs) l) :
    PS X (.Try body (h₀ :: hs) [] [] pos) (fun D σ H => tb (wWays X.K Wout D l) D σ H) where
  run := by
    intro pins s σ H D I h
    have ok := I.ok
    have frs0 : X.A.frames = some (X.env :: X.outer) := hst ▸ ok.frames
    let caught : Value → Shared → Prop := fun e s1 => wpAny (model X.prog X.w) X.A (noteFrame e X.env) (fun _ s2 => wpAny (model X.prog X.w) X.A (setFlight e none) (fun _ s3 => wpAny (model X.prog X.w) X.A (handleBy e X.env (h₀ :: hs)) (SP X pins D) X.xe s3) X.xe s2) X.xe s1
    have catches : Takes (X.tr (X.pn ++ pins) caught) (wWays X.K Wout D l) := by
      rintro u s' ⟨a, B, s0, pins', σ', H', cls, d, rfl, I', nb, up, sky, fresh, os, ag, w⟩
      have J : Inv X pins σ' H' s0 := I'.ofTry ok
      have sk : Sky B (X.env :: X.outer) a (Zc cls d) X.env.locals s'.heap := hst ▸ sky
      (show wpAny (model X.prog X.w) X.A (noteFrame (.ref a) X.env) _ _ _)
      refine Sky.land Zc.steady frs0 hfr sk fun h1 in1 up1 => ?_
      have J1 : Inv X pins σ' H' { s' with heap := h1 } := J.landed nb in1.1 (up.trans up1) os ag
      obtain ⟨ob, fs, at1, z1, dt1⟩ := in1.there
      have off : a ∉ frs (X.env :: X.outer) := fun m => by
        obtain ⟨_, ob', e', no⟩ := in1.2.2.1.mem m
        cases at1.symm.trans e'
        exact no fs dt1
      have offL : a ≠ X.env.locals := fun e => off (List.mem_filterMap.mpr ⟨X.env, List.mem_cons_self, e ▸ hfr⟩)
      have offF : a ∉ X.fs := fun m => by
        obtain ⟨f, mf, ef⟩ := List.mem_filterMap.mp m
        exact off (List.mem_filterMap.mpr ⟨f, List.mem_cons_of_mem _ mf, ef⟩)
      have S1 := J1.suite at1 dt1 fresh offL offF
      have ways : ∀ {hs' : List ExceptHandler} {l' : List Way}, WaysOk X hs' l' → wWays X.K Wout D l' cls d σ' H' → wpAny (model X.prog X.w) X.A (handleBy (.ref a) X.env hs') (SP X pins D) X.xe { s' with heap := h1 } := by
        intro hs' l' k
        induction k with
        | nil =>
          intro w
          refine wpAny_handleBy_nil ?_
          obtain ⟨_, _, _, ob2, vs2, T, _, _, e2, _, d2, f2, _⟩ := id in1
          unfold PySem.passOn
          refine wpAny_bind (wpAny_field e2 d2 f2 ?_)
          rw [if_neg (show ¬((Value.ref T == Value.none) = true) by simp)]
          have out : wpAny (model X.prog X.w) X.A (setFlight (.ref a) X.env.frame) (fun _ s4 => wpAny (model X.prog X.w) X.A (throw (.ref a) : Sem Flow) (SP X pins D) X.xe s4) X.xe { s' with heap := h1 } := by
            rw [hfr]
            refine HandSPX.setFlight_upZ in1 fun h2 sk2 up2 => wpAny_throw (tk _ _ ?_)
            exact ⟨a, B, s0, pins, σ', H', cls, d, rfl, J, nb, (up.trans up1).trans up2, .inr (.inr (hst.symm ▸ sk2)), fresh, os, ag, w⟩
          first
            | exact wpAny_bind (wpAny_pure (wpAny_bind out))
            | exact wpAny_bind out
        | @cons hd tl q lq hq _ ih =>
          rintro ⟨b, one, yes, no⟩
          obtain ⟨x, n, b₀, suite, np, pos1, rfl, hi, loc, nm, run⟩ := hq.ex
          refine wpAny_handleBy_cons (codeAny_handlers_test ?_) (by intro z; cases z)
          have seen : PySem.W.Looks (model X.prog X.w) h1 (typeOf (.ref a)) cls := fun A Q E s k z => wpAny_typeOf_ref (k _ _ at1) (z1.1.symm ▸ z)
          have fits := PySem.W.exm_one (M := model X.prog X.w) S1.kIn seen one
          have named : ∀ {Q E : Value → Shared → Prop}, Q q.c { s' with heap := h1 } → wpAny (model X.prog X.w) (X.A.mark (some (.ref a))) (eval (.Name x np) X.env) Q E { s' with heap := h1 } := by
            intro Q E z
            obtain ⟨g, dbg, m | ⟨m, v, nn⟩⟩ := nm
            · exact ld_glob (X := X.suite a ((a, ob) :: (X.pn ++ pins))) S1 g m z dbg
            · exact ld_blt (X := X.suite a ((a, ob) :: (X.pn ++ pins))) S1 g m v z nn dbg
          refine named (fits.here ?_)
          cases b with
          | false => exact ih (no rfl)
          | true =>
            refine codeAny_handlers_suite_as (HandSPX.lands_againZ in1 fun h2 in2 up2 => ?_)
            have J2 : Inv X pins σ' H' { s' with heap := h2 } := J.landed nb in2.1 ((up.trans up1).trans up2) os ag
            obtain ⟨ob2, fs2, at2, z2, dt2⟩ := in2.there
            refine store_ok (X := X.suite a ((a, ob2) :: (X.pn ++ pins))) (v := .ref a) (J2.suite at2 dt2 fresh offL offF) hN hi (.inl loc) rfl (fun s5 S5 => ?_) (.inr loc)
            refine wpAny_mono ((run a ob2 cls d (X.pn ++ pins) z2 ⟨_, dt2⟩).run [] s5 _ H' _ S5 (yes rfl a fresh)) (fun f s6 sp => ?_) (fun _ _ z => z.elim)
            have fin : ∀ {σ6 : L2.St} {H6 : Hp} {Q : Shared → Prop}, Inv (X.suite a ((a, ob2) :: (X.pn ++ pins))) [] σ6 H6 s6 → (∀ s7, Inv X pins (σ6.set q.i none) H6 s7 → Q s7) →
                wpAny (model X.prog X.w) X.A (do bindName X.env n .none; unbindBehindTheSuite X.env n pos1) (fun _ s7 => Q s7) X.xe s6 := fun S6 z => gone_ok (S6.unsuite ok) hN hi loc z
            cases f with
            | ret u =>
              obtain ⟨v6, σ6, H6, S6, r6, q6⟩ := sp
              exact fin S6 fun s7 J7 => ⟨_, _, _, J7, r6, q6⟩
            | next =>
              obtain ⟨σ6, H6, S6, q6⟩ := sp
              exact fin S6 fun s7 J7 => ⟨_, _, J7, q6⟩
            | brk =>
              obtain ⟨σ6, H6, S6, q6⟩ := sp
              exact fin S6 fun s7 J7 => ⟨_, _, J7, q6⟩
            | cont =>
              obtain ⟨σ6, H6, S6, q6⟩ := sp
              exact fin S6 fun s7 J7 => ⟨_, _, J7, q6⟩
      exact ways hw w
    refine wpAny_Try_except (wpAny_mono ((hb _ (X.pn ++ pins) caught catches PassesOwn.looking).run [] s σ H D (I.toTry _) h) (fun f s1 sp => ?_) (fun e s1 he => he))
    cases f with
    | ret u =>
      obtain ⟨v, σ', H', J', r, z⟩ := sp
      exact ⟨v, σ', H', J'.ofTry ok, r, z⟩
    | next =>
      obtain ⟨σ', H', J', z⟩ := sp
      exact wpAny_execs_nil ⟨σ', H', J'.ofTry ok, z⟩
    | brk =>
      obtain ⟨σ', H', J', z⟩ := sp
      exact ⟨σ', H', J'.ofTry ok, z⟩
    | cont =>
      obtain ⟨σ', H', J', z⟩ := sp
      exact ⟨σ', H', J'.ofTry ok, z⟩
end
end PnTry

set_option maxHeartbeats 1000001
/-! defs whose promise holds while no text of a thing is being made around them; repr of data -/
namespace Pn
open L2 PyProof.Rows PySem.Spec PySem
/-- a promise as FnOk, for calls with no guard around -/
structure FnG (P : Program) (w : World) (K : PySem.W.Frag) (mg : Str → Option Value) (base : Heap) (CX : CXT) (k : Nat) (f : Addr) (fd : FuncData) (ps : List Str) (sp : Sp) : Prop where
  (len : ∀ vs
  H Q E, sp vs H Q E → vs.length = ps.length)
  run : ∀ (A : Around) (outer : List Env) (s : Shared) (H : Hp) (args : Args) (us : List Value) (vs : List V) (Q : VK) (E : XK), A.guards = some [] → Room k A → Env0 P w K mg base A outer s H → BindsTo s fd args (ps.zip us) → Vals vs us → sp vs H Q E →
    codeAny (model P w) A (.call (.ref f) args) (CR CX outer P w H s Q (E)) s
section
variable {P : Program} {w : World} {K : PySem.W.Frag} {mg : Str → Option Value} {base : Heap} {CX : CXT} {k : Nat} {f : Addr} {fd : FuncData} {ps : List Str} {sp : Sp}
theorem FnG.of (F : FnOk P w K mg base CX k f fd ps sp) : FnG P w K mg base CX k f fd ps sp := ⟨F.len, fun A outer s H args us vs Q E _ => F.run A outer s H args us vs Q E⟩
theorem FnG.mono {j : Nat} (F : FnG P w K mg base CX j f fd ps sp) (h : j ≤ k) : FnG P w K mg base CX k f fd ps sp := ⟨F.len, fun A outer s H args us vs Q E hg hr => F.run A outer s H args us vs Q E hg (hr.mono h)⟩
/-- a def's body, its code object's value known -/
theorem fnG_core {x qual : Str} {st : Stmt} {N : List Str} {oc : Value} {od an : Option Addr} {osl : Array (Option Value)} {kV doc pm cdv ct : Value} (lk : K.lookup f = some ⟨oc, od, .func (PySem.W.fnOf x qual (defArgs st) (defBody st) (defScope st) .none kV doc pm an cdv ct), osl⟩) (hcd : PySem.W.codeIn K cdv qual = true) (S : FnScope N ps (defScope st)) (len : ∀ vs H Q E, sp vs H Q E → vs.length = ps.length)
    (hb : ∀ (A : Around) (outer : List Env) (s : Shared) (H : Hp) (vs : List V) (Q : VK) (E : XK), A.guards = some [] → Room k (A.deeper (envOfC qual (defScope st) s.heap.objs.size f cdv)) → sp vs H Q E →
      ∃ t, PSs (cxOf CX P w K mg base N qual (defScope st) f cdv A outer s H E) (defBody st) t ∧ t { nx := fun _ H' => Q .non H', rt := Q } (start N vs) H) : FnG P w K mg base CX (k + 1) f (PySem.W.fnOf x qual (defArgs st) (defBody st) (defScope st) .none kV doc pm an cdv ct) ps sp := by
  refine ⟨len, ?_⟩
  intro A outer s H args us vs Q E hg hr e0 bind r hsp
  have n := len _ _ _ _ hsp
  have kin : K.In s.heap := e0.mod.kin.keeps fun b o e => (e0.bs b o e).1
  have few : s.heap.NoLimit := e0.mod.nolimit.keeps fun b o e => (e0.bs b o e).1
  have where_ : ∀ y ∈ ps.zip us, (defScope st).names.lookup y.1 = some .local ∨ ((defScope st).names.lookup y.1 = some .cell ∧ ((cellsFrom (s.heap.objs.size + 1) (defScope st).names []).lookup y.1).isSome = true) := by
    rintro ⟨m, v⟩ hy
    exact (S.par m (List.of_mem_zip hy).1).imp id fun q => ⟨q, PySem.W.cellsFrom_some _ _ _ (.inl q)⟩
  refine codeAny_call_function hr.depth (kin _ _ lk) rfl S.co S.gen rfl (PySem.W.codeRec_of kin hcd) (bind _ _ _ _ ?_)
  refine wpAny_newFunctionEnv_cells S.kind where_ ?_
  rintro env rfl s1 x
  refine ⟨few.keeps x.toInCall.keep, codeAny_func ?_⟩
  obtain ⟨t, ht, hq⟩ := hb A outer s H vs Q E hg (hr.deeper _) hsp
  have I : Inv (cxOf CX P w K mg base N qual (defScope st) f cdv A outer s H E) [] (start N vs) H s1 := inv_start S hr.hd e0 n r x
  refine wpAny_mono (ht.run [] s1 (start N vs) H _ I hq) ?_ fun e s' z => z
  rintro fl s' hs
  have fin : ∀ {σ' : L2.St} {H' : Hp} {v : V} {u : Value}, Inv (cxOf CX P w K mg base N qual (defScope st) f cdv A outer s H E) [] σ' H' s' → RelV v u → Q v H' → CE outer P w H s Q u s' :=
    fun J rv q => ⟨_, _, J.os, J.bare, J.base, J.hok, rv, q⟩
  cases fl with
  | next => exact hs.elim fun σ' z => z.elim fun H' z => fin (v := V.non) (u := Value.none) z.1 rfl z.2
  | ret u =>
    (obtain ⟨v, σ', H', J, rv, q⟩ := hs)
    exact fin J rv q
  | brk =>
    exact (hs.elim fun _ z => z.elim fun _ z => z.2 : False).elim
  | cont =>
    exact (hs.elim fun _ z => z.elim fun _ z => z.2 : False).elim
theorem fnG_body {x qual : Str} {st : Stmt} {N : List Str} (Fn : Fun K x qual st f fd) (S : FnScope N ps (defScope st)) (len : ∀ vs H Q E, sp vs H Q E → vs.length = ps.length)
    (hb : ∀ (cdv : Value) (A : Around) (outer : List Env) (s : Shared) (H : Hp) (vs : List V) (Q : VK) (E : XK), A.guards = some [] → Room k (A.deeper (envOfC qual (defScope st) s.heap.objs.size f cdv)) → sp vs H Q E →
      ∃ t, PSs (cxOf CX P w K mg base N qual (defScope st) f cdv A outer s H E) (defBody st) t ∧ t { nx := fun _ H' => Q .non H', rt := Q } (start N vs) H) : FnG P w K mg base CX (k + 1) f fd ps sp := by
  obtain ⟨oc, od, kV, doc, pm, an, cdv, ct, osl, rfl, lk, hcd⟩ := Fn.ex
  exact fnG_core lk hcd S len fun A outer s H vs Q E => hb cdv A outer s H vs Q E
end
theorem fn_genG {K : PySem.W.Frag} {C : Cls} {us io : Bool} {P : Program} {w : World} {mg : Str → Option Value} {base : Heap} {x qual : Str} {st : Stmt} {f : Addr} {fd : FuncData} {N ps : List Str} {k n : Nat} {m : M Ctl} (Fn : Fun K x qual st f fd) (S : FnScope N ps (defScope st)) (hn : (if us then 1 else 0) + n + (if io then 1 else 0) = ps.length) (hps : ps.length ≤ N.length)
    {okT : Tbs → Prop} (hb : ∀ (sa sc sl ia : Addr) (tb : Tbs) (G0 H0 : Hp) (cdv : Value) (A : Around) (outer : List Env) (s : Shared) (E : XK), A.guards = some [] → okT tb → Room k (A.deeper (envOfC qual (defScope st) s.heap.objs.size f cdv)) →
      PSs (cxOf (L2.CX P w) P w K mg base N qual (defScope st) f cdv A outer s H0 E) (defBody st) (T (frG K C us io sa sc sl ia tb G0 H0) (fun cls d _ H => E cls d H) m)) :
    FnG P w K mg base (L2.CX P w) (k + 1) f fd ps (spG K C us io okT n (runG us io N.length m)) := by
  refine fnG_body Fn S (fun vs H Q E h => ?_) (fun cdv A outer s H vs Q E hg hr h => ?_)
  · obtain ⟨G, vs', ds, l, s, sa, sc, sl, ia, tb, _, _, _, q, hl, ev, _⟩ := h
    rw [ev, ← hn, List.length_append, List.length_append, dpAll_len q, hl]
    cases us <;> cases io <;> rfl
  · obtain ⟨G, vs', ds, l, s0, sa, sc, sl, ia, tb, okt, ts, hs, q, hl, ev, h1, h2, h3, z⟩ := h
    refine ⟨_, hb sa sc sl ia tb G H cdv A outer s E hg okt hr, G, ⟨initG us io N.length ds l, s0⟩, relG_init hs q ev (by rw [hl, hn]; exact hps) h1 h2 h3 ts, ?_⟩
    unfold runG at z
    cases e : m ⟨initG us io N.length ds l, s0⟩ with
    | ok a c =>
      rw [e] at z
      cases a with
      | nx =>
        intro σ' G' H' r' _
        obtain ⟨l', z2, io2⟩ := r'.ioG (Z := fun g => match g with
          | .ok v l' s' => ∀ x G' H', AfterT (onS us sa sc sl ++ onM io ia tb) G H G' H' → TsOk tb G' H' → SsOk us sa sc sl G' H' s' → IoOk K io ia G' H' l' → Ret K H G' H' x v → Q x H'
          | .exc k d l' s' => ∀ ad v G' H', AfterT (onS us sa sc sl ++ onM io ia tb) G H G' H' → TsOk tb G' H' → SsOk us sa sc sl G' H' s' → IoOk K io ia G' H' l' → H' ad = some (.xd [(C.fld k, v)]) → Rp K G' v d → E (C.at_ k) (some ad) H'
          | .bad => False) id z
        exact z2 .non G' H' r'.aftG r'.ts (fun hu => r'.st hu) io2 .non
      | rt v =>
        intro x σ' G' H' r' q'
        obtain ⟨l', z2, io2⟩ := r'.ioG (Z := fun g => match g with
          | .ok v l' s' => ∀ x G' H', AfterT (onS us sa sc sl ++ onM io ia tb) G H G' H' → TsOk tb G' H' → SsOk us sa sc sl G' H' s' → IoOk K io ia G' H' l' → Ret K H G' H' x v → Q x H'
          | .exc k d l' s' => ∀ ad v G' H', AfterT (onS us sa sc sl ++ onM io ia tb) G H G' H' → TsOk tb G' H' → SsOk us sa sc sl G' H' s' → IoOk K io ia G' H' l' → H' ad = some (.xd [(C.fld k, v)]) → Rp K G' v d → E (C.at_ k) (some ad) H'
          | .bad => False) id z
        refine z2 x G' H' r'.aftG r'.ts (fun hu => r'.st hu) io2 ?_
        cases v with
        | sh d => exact q'
        | fr l =>
          obtain ⟨p, e1, xs, y1, y2, y3, y4, _⟩ := q'
          exact ⟨p, xs, e1, y1, y2, y3, y4⟩
      | bk => exact z.elim
      | ct => exact z.elim
    | exc j d c =>
      rw [e] at z
      intro ad v σ' G' H' r' y1 y2
      obtain ⟨l', z2, io2⟩ := r'.ioG (Z := fun g => match g with
          | .ok v l' s' => ∀ x G' H', AfterT (onS us sa sc sl ++ onM io ia tb) G H G' H' → TsOk tb G' H' → SsOk us sa sc sl G' H' s' → IoOk K io ia G' H' l' → Ret K H G' H' x v → Q x H'
          | .exc k d l' s' => ∀ ad v G' H', AfterT (onS us sa sc sl ++ onM io ia tb) G H G' H' → TsOk tb G' H' → SsOk us sa sc sl G' H' s' → IoOk K io ia G' H' l' → H' ad = some (.xd [(C.fld k, v)]) → Rp K G' v d → E (C.at_ k) (some ad) H'
          | .bad => False) id z
      exact z2 ad v G' H' r'.aftG r'.ts (fun hu => r'.st hu) io2 y1 y2
    | bad =>
      rw [e] at z
      exact z

theorem fn_genC {K : PySem.W.Frag} {C : Cls} {us io : Bool} {P : Program} {w : World} {mg : Str → Option Value} {base : Heap} {x qual : Str} {st : Stmt} {f : Addr} {N ps : List Str} {k n : Nat} {m : M Ctl} {oc : Value} {od an : Option Addr} {osl : Array (Option Value)} {kV doc pm cdv ct : Value} (lk : K.lookup f = some ⟨oc, od, .func (PySem.W.fnOf x qual (defArgs st) (defBody st) (defScope st) .none kV doc pm an cdv ct), osl⟩) (hcd : PySem.W.codeIn K cdv qual = true) (S : FnScope N ps (defScope st)) (hn : (if us then 1 else 0) + n + (if io then 1 else 0) = ps.length) (hps : ps.length ≤ N.length)
    {okT : Tbs → Prop} (hb : ∀ (sa sc sl ia : Addr) (tb : Tbs) (G0 H0 : Hp) (A : Around) (outer : List Env) (s : Shared) (E : XK), A.guards = some [] → okT tb → Room k (A.deeper (envOfC qual (defScope st) s.heap.objs.size f cdv)) →
      PSs (cxOf (L2.CX P w) P w K mg base N qual (defScope st) f cdv A outer s H0 E) (defBody st) (T (frG K C us io sa sc sl ia tb G0 H0) (fun cls d _ H => E cls d H) m)) :
    FnG P w K mg base (L2.CX P w) (k + 1) f (PySem.W.fnOf x qual (defArgs st) (defBody st) (defScope st) .none kV doc pm an cdv ct) ps (spG K C us io okT n (runG us io N.length m)) := by
  refine fnG_core lk hcd S (fun vs H Q E h => ?_) (fun A outer s H vs Q E hg hr h => ?_)
  · obtain ⟨G, vs', ds, l, s, sa, sc, sl, ia, tb, _, _, _, q, hl, ev, _⟩ := h
    rw [ev, ← hn, List.length_append, List.length_append, dpAll_len q, hl]
    cases us <;> cases io <;> rfl
  · obtain ⟨G, vs', ds, l, s0, sa, sc, sl, ia, tb, okt, ts, hs, q, hl, ev, h1, h2, h3, z⟩ := h
    refine ⟨_, hb sa sc sl ia tb G H A outer s E hg okt hr, G, ⟨initG us io N.length ds l, s0⟩, relG_init hs q ev (by rw [hl, hn]; exact hps) h1 h2 h3 ts, ?_⟩
    unfold runG at z
    cases e : m ⟨initG us io N.length ds l, s0⟩ with
    | ok a c =>
      rw [e] at z
      cases a with
      | nx =>
        intro σ' G' H' r' _
        obtain ⟨l', z2, io2⟩ := r'.ioG (Z := fun g => match g with
          | .ok v l' s' => ∀ x G' H', AfterT (onS us sa sc sl ++ onM io ia tb) G H G' H' → TsOk tb G' H' → SsOk us sa sc sl G' H' s' → IoOk K io ia G' H' l' → Ret K H G' H' x v → Q x H'
          | .exc k d l' s' => ∀ ad v G' H', AfterT (onS us sa sc sl ++ onM io ia tb) G H G' H' → TsOk tb G' H' → SsOk us sa sc sl G' H' s' → IoOk K io ia G' H' l' → H' ad = some (.xd [(C.fld k, v)]) → Rp K G' v d → E (C.at_ k) (some ad) H'
          | .bad => False) id z
        exact z2 .non G' H' r'.aftG r'.ts (fun hu => r'.st hu) io2 .non
      | rt v =>
        intro x σ' G' H' r' q'
        obtain ⟨l', z2, io2⟩ := r'.ioG (Z := fun g => match g with
          | .ok v l' s' => ∀ x G' H', AfterT (onS us sa sc sl ++ onM io ia tb) G H G' H' → TsOk tb G' H' → SsOk us sa sc sl G' H' s' → IoOk K io ia G' H' l' → Ret K H G' H' x v → Q x H'
          | .exc k d l' s' => ∀ ad v G' H', AfterT (onS us sa sc sl ++ onM io ia tb) G H G' H' → TsOk tb G' H' → SsOk us sa sc sl G' H' s' → IoOk K io ia G' H' l' → H' ad = some (.xd [(C.fld k, v)]) → Rp K G' v d → E (C.at_ k) (some ad) H'
          | .bad => False) id z
        refine z2 x G' H' r'.aftG r'.ts (fun hu => r'.st hu) io2 ?_
        cases v with
        | sh d => exact q'
        | fr l =>
          obtain ⟨p, e1, xs, y1, y2, y3, y4, _⟩ := q'
          exact ⟨p, xs, e1, y1, y2, y3, y4⟩
      | bk => exact z.elim
      | ct => exact z.elim
    | exc j d c =>
      rw [e] at z
      intro ad v σ' G' H' r' y1 y2
      obtain ⟨l', z2, io2⟩ := r'.ioG (Z := fun g => match g with
          | .ok v l' s' => ∀ x G' H', AfterT (onS us sa sc sl ++ onM io ia tb) G H G' H' → TsOk tb G' H' → SsOk us sa sc sl G' H' s' → IoOk K io ia G' H' l' → Ret K H G' H' x v → Q x H'
          | .exc k d l' s' => ∀ ad v G' H', AfterT (onS us sa sc sl ++ onM io ia tb) G H G' H' → TsOk tb G' H' → SsOk us sa sc sl G' H' s' → IoOk K io ia G' H' l' → H' ad = some (.xd [(C.fld k, v)]) → Rp K G' v d → E (C.at_ k) (some ad) H'
          | .bad => False) id z
      exact z2 ad v G' H' r'.aftG r'.ts (fun hu => r'.st hu) io2 y1 y2
    | bad =>
      rw [e] at z
      exact z

section
variable {F : Fr} {W : L2.WX} {σ : L2.St} {H : Hp} {X : Cx} {D : Ends}
theorem fnG_run {CX : CXT} {k : Nat} {f : Addr} {fd : FuncData} {ps : List Str} {sp : Sp} {E : L2.St → XK} {pins : List (Addr × Obj)} {s : Shared} {Q : VK} {us : List Value} {vs : List V} (Fk : FnG X.prog X.w X.K X.mg X.base CX k f fd ps sp) (hg : X.A.guards = some []) (hr : Room k X.A) (hb : Binds X.K fd ps []) (hx : PassesAt CX X σ (E σ))
    (I : Inv X pins σ H s)
    (r : Vals vs us) (h : sp vs H Q (E σ)) : wpAny (model X.prog X.w) X.A (call (.ref f) us) (EP X pins σ Q) X.xe s := by
  have n : us.length = ps.length := r.length ▸ Fk.len _ _ _ _ h
  have b : BindsTo s fd ⟨us, []⟩ (ps.zip us) := by
    have := hb s us I.kIn (by rw [List.append_nil, n])
    rwa [List.append_nil] at this
  refine wpAny_call (codeAny_mono (Fk.run X.A X.stack s H ⟨us, []⟩ us vs Q (E σ) hg hr I.env0 b r h) ?_)
  rintro (e | fl) s' hq
  · exact hx pins H s e s' I hq
  · cases fl with
    | ret u => exact I.after hq
    | next => exact hq.elim
    | brk => exact hq.elim
    | cont => exact hq.elim
theorem pe_callFG {CX : CXT} {k : Nat} {f : Addr} {fd : FuncData} {ps : List Str} {sp : Sp} {E : L2.St → XK} {x : Str} {p pos : Pos} {e : Expr} {es : List Expr} {t : TA} (Fk : FnG X.prog X.w X.K X.mg X.base CX k f fd ps sp) (hgd : X.A.guards = some []) (hr : Room k X.A) (hg : Gl X x) (hm : X.mg x = some (.ref f)) (hk : PySem.W.keepIn X.K (.ref f) = true) (hb : Binds X.K fd ps []) (hx : ∀ σ, PassesAt CX X σ (E σ))
    (ha : PA X (e :: es) t) (hdb : (x == ("__debug__" : Str)) = false) (he : starEach (e :: es) X.env = (false, eval e X.env) :: starEach es X.env) (hpl : (backTo pos (starEach es X.env)).any (·.1) = false) :
    PE X (.Call (.Name x p) (e :: es) [] pos) (tCallS sp E t) where
  run := by
    intro pins s σ H Q I h
    refine wpAny_Call_Name_kw (ld_glob I hg hm (PySem.W.callWith_K (h₀ := X.base) I.ok.mod.kin hk (thn (ha.run pos pins s σ H _ I h) fun us s1 z => ?_) he hpl) hdb)
    obtain ⟨vs, H1, I1, r, q⟩ := z
    exact ⟨I1.kIn, fnG_run Fk hgd hr hb (hx σ) I1 r q⟩
structure HasQ (P : Program) (w : World) (K : PySem.W.Frag) (mg : Str → Option Value) (base : Heap) (C : Cls) (us : Bool) (okT : Tbs → Prop) (x : Str) (k n : Nat) (g : List Dat → List Dat → DS → GR) : Prop where
  ex : ∃ (f : Addr) (fd : FuncData) (ps : List Str), FnG P w K mg base (L2.CX P w) k f fd ps (spG K C us false okT n g) ∧ mg x = some (.ref f) ∧ PySem.W.keepIn K (.ref f) = true ∧ Binds K fd ps []
/-- the state is handed on, among no guards -/
theorem e_callQ {okT : Tbs → Prop} {k n j : Nat} {g : List Dat → List Dat → DS → GR} {x : Str} {p pos : Pos} {e : Expr} {es : List Expr} {ms : M (List Dat)} (hK : F.K = X.K) (hgd : X.A.guards = some []) (Z : HasQ X.prog X.w X.K X.mg X.base F.C true okT x k n g) (hok : okT F.tb) (hr : Room j X.A) (hkj : k ≤ j) (hg : Gl X x) (tk : Takes X W) (ha : PA X (e :: es) (Sx F W (RAS F) ms))
    (hdb : (x == ("__debug__" : Str)) = false := by decide) (he : starEach (e :: es) X.env = (false, eval e X.env) :: starEach es X.env := by rfl) (hpl : (backTo pos (starEach es X.env)).any (·.1) = false := by rfl) : PE X (.Call (.Name x p) (e :: es) [] pos) (EX F W (M.bind ms fun ds => if ds.length = n then callS g ds else bad)) := by
  obtain ⟨f, fd, ps, h2, h3, h4, h5⟩ := Z.ex
  refine (pe_callFG h2 hgd (hr.mono hkj) hg h3 h4 h5 (fun σ => passAt tk σ) ha hdb he hpl).mono fun σ H Q h => sx_mono (sx_bind (R1 := RAS F) h) fun vs H1 ⟨ds, G1, c1, r1, ⟨hu, vs', e1, q⟩, p⟩ => ?_
  by_cases hl : ds.length = n
  · rw [if_pos hl] at p
    refine ⟨G1, vs', ds, [], c1.s, F.sa, F.sc, F.sl, 0, F.tb, hok, r1.ts, r1.sub, hK ▸ q, hl, by rw [e1]; simp [preV, posV], fun _ => r1.st hu, (fun z => nomatch z), (fun _ z => nomatch z), ?_⟩
    unfold callS at p
    cases e : g ds [] c1.s with
    | ok v l s =>
      rw [e] at p
      intro x G' H' a zt z1 _ z2
      have r2 := r1.afterS hu (by simpa [onS, onI, onM] using a) zt (z1 rfl)
      exact p x G' H' r2 a.g (after_rx (T := []) r1 (fun i l' e => ⟨l', e⟩) (hK ▸ z2))
    | exc k d l s =>
      rw [e] at p
      intro ad v G' H' a zt z1 _ z2 z3
      have r2 := r1.afterS hu (by simpa [onS, onI, onM] using a) zt (z1 rfl)
      exact p ad v G' H' r2 a.g z2 (hK ▸ z3)
    | bad =>
      rw [e] at p
      exact p
  · rw [if_neg hl] at p
    exact p.elim
def callQ (g : List Dat → List Dat → DS → GR) (ds : List Dat) : M RV := fun c => match g ds [] ⟨[], [], 0⟩ with
  | .ok v _ _ => .ok v c
  | .exc k d _ _ => .exc k d c
  | .bad => .bad
theorem AfterT.nil {G H G' H' : Hp} (a : AfterT [] G H G' H') : After G H G' H' := ⟨a.g, a.sub, fun b o e => a.h b o e (by simp), a.new⟩
/-- data alone are handed on, among no guards -/
theorem e_callP {k n j : Nat} {g : List Dat → List Dat → DS → GR} {x : Str} {p pos : Pos} {e : Expr} {es : List Expr} {ms : M (List Dat)} (hK : F.K = X.K) (hgd : X.A.guards = some []) (Z : HasQ X.prog X.w X.K X.mg X.base F.C false (fun _ => True) x k n g) (hr : Room j X.A) (hkj : k ≤ j) (hg : Gl X x) (tk : Takes X W) (ha : PA X (e :: es) (A F W ms))
    (hdb : (x == ("__debug__" : Str)) = false := by decide) (he : starEach (e :: es) X.env = (false, eval e X.env) :: starEach es X.env := by rfl) (hpl : (backTo pos (starEach es X.env)).any (·.1) = false := by rfl) : PE X (.Call (.Name x p) (e :: es) [] pos) (EX F W (M.bind ms fun ds => if ds.length = n then callQ g ds else bad)) := by
  obtain ⟨f, fd, ps, h2, h3, h4, h5⟩ := Z.ex
  refine (pe_callFG h2 hgd (hr.mono hkj) hg h3 h4 h5 (fun σ => passAt tk σ) ha hdb he hpl).mono fun σ H Q h => sx_mono (sx_bind (R1 := RA F) h) fun vs H1 ⟨ds, G1, c1, r1, q, p⟩ => ?_
  by_cases hl : ds.length = n
  · rw [if_pos hl] at p
    refine ⟨G1, vs, ds, [], ⟨[], [], 0⟩, 0, 0, 0, 0, [], trivial, (fun _ z => nomatch z), r1.sub, hK ▸ q, hl, by simp [preV, posV], (fun z => nomatch z), (fun z => nomatch z), (fun z => nomatch z), ?_⟩
    unfold callQ at p
    cases e : g ds [] ⟨[], [], 0⟩ with
    | ok v l s =>
      rw [e] at p
      intro x G' H' a _ _ _ z2
      have a := AfterT.nil (by simpa [onS, onI, onM] using a)
      exact p x G' H' (r1.after a) a.g (Ret.rx r1 a (hK ▸ z2))
    | exc k d l s =>
      rw [e] at p
      intro ad v G' H' a _ _ _ z2 z3
      have a := AfterT.nil (by simpa [onS, onI, onM] using a)
      exact p ad v G' H' (r1.after a) a.g z2 (hK ▸ z3)
    | bad =>
      rw [e] at p
      exact p
  · rw [if_neg hl] at p
    exact p.elim
end

/-! ### repr -/
section
variable {F : Fr} {W : L2.WX} {σ : L2.St} {H : Hp} {X : Cx} {D : Ends}
/-- what the text of a datum asks -/
def reprOk (d : Dat) : Bool := d.showable && SeqAt.shaped d && decide (d.shown.length ≤ 16777216)
def rRepr (K : PySem.W.Frag) : List V → Hp → VK → Prop := fun vs H Q => ∃ (v : V) (d : Dat), vs = [v] ∧ Dp K H v d ∧ reprOk d = true ∧ (match d with
  | .bool _ => True
  | .int _ => True
  | .list _ => True
  | .tuple _ => True
  | _ => False) ∧ Q (.str d.shown) H
theorem no_dict : (d : Dat) → d.canLay0 = true → d.hasDict = false := by
  suffices h : ∀ n, ∀ d : Dat, sizeOf d < n → d.canLay0 = true → d.hasDict = false from fun d => h _ d (Nat.lt_succ_self _)
  intro n
  induction n with
  | zero => intro d h; omega
  | succ n ih =>
    intro d hs h
    have go : ∀ xs : List Dat, sizeOf xs ≤ n → PyData.canLayAll0 xs = true → PyData.hasDictAll xs = false := by
      intro xs
      induction xs with
      | nil => intro _ _; simp [PyData.hasDictAll]
      | cons x xs ih2 =>
        intro hz hc
        rw [PyData.canLayAll0, Bool.and_eq_true_iff] at hc
        have z : sizeOf (x :: xs) = 1 + sizeOf x + sizeOf xs := rfl
        rw [PyData.hasDictAll, ih x (by omega) hc.1, ih2 (by omega) hc.2]
        rfl
    cases d with
    | dict kvs => simp [PyData.canLay0] at h
    | list xs =>
      rw [PyData.canLay0] at h
      rw [PyData.hasDict]
      have z : sizeOf (PyData.list xs) = 1 + sizeOf xs := by simp only [PyData.list.sizeOf_spec]
      exact go xs (by omega) h
    | tuple xs =>
      rw [PyData.canLay0] at h
      rw [PyData.hasDict]
      have z : sizeOf (PyData.tuple xs) = 1 + sizeOf xs := by simp only [PyData.tuple.sizeOf_spec]
      exact go xs (by omega) h
    | _ => simp [PyData.hasDict]
theorem cr_repr (hgd : X.A.guards = some []) (hu : X.A.units + 66 < cLine) : CallR X (.builtin "repr") (rRepr X.K) := by
  (intro pins s σ H vs us Q I r h)
  obtain ⟨v, d, rfl, hd, ok, hk, q⟩ := h
  (obtain ⟨u, rfl, ru⟩ := vals1 r)
  unfold reprOk at ok
  obtain ⟨ok, hl⟩ := Bool.and_eq_true_iff.mp ok
  obtain ⟨hs, hsh⟩ := Bool.and_eq_true_iff.mp ok
  have hl : d.shown.length ≤ sizeLine := by rw [sizeLine_eq]; exact of_decide_eq_true hl
  have hdep := SeqAt.depth_of_shaped hsh
  have hno := no_dict d (SeqAt.canLay_of_shaped hsh)
  have box : ∀ (a : Addr) (as : List Addr), u = .ref a → Reads s.heap (.ref a) d as → wpAny (model X.prog X.w) X.A (call (.builtin "repr") [u]) (EP X pins σ Q) X.xe s := by
    rintro a as rfl rd
    exact repr_of_reads' rd hs (fun z => absurd z (by rw [hno]; decide)) hgd (by omega) (fun _ _ e => e) (fun h' u tk k => ⟨.str d.shown, H, I.kept k, ⟨u, rfl⟩, q⟩) hl
  obtain ⟨as, rd⟩ := Dp.reads I d v u hd ru
  cases hd with
  | bl b =>
    cases ru
    refine PySem.P.repr_of_bool ⟨.str _, H, I.tok _, ⟨_, rfl⟩, ?_⟩
    rw [PyData.shown_bool] at q
    exact q
  | int i =>
    obtain ⟨t, rfl⟩ := ru
    rw [PyData.shown_int] at q
    have hz : i.natAbs.log2 < 1920 := by
      rw [PyData.showable] at hs
      exact of_decide_eq_true hs
    (exact PySem.P.repr_of_int hz ⟨.str _, H, I.tok _, ⟨_, rfl⟩, q⟩)
  | lst _ _ => exact box _ as ru (ru ▸ rd)
  | tup _ _ => exact box _ as ru (ru ▸ rd)
  | non => exact hk.elim
  | str _ => exact hk.elim
def reprR (d : Dat) : M Dat := if reprOk d = true then (match d with
  | .bool _ => ret (.str d.shown)
  | .int _ => ret (.str d.shown)
  | .list _ => ret (.str d.shown)
  | .tuple _ => ret (.str d.shown)
  | _ => bad) else bad
theorem e_repr {m : M Dat} {a : Expr} {p pos : Pos} (hK : F.K = X.K) (hgd : X.A.guards = some []) (hu : X.A.units + 66 < cLine) (hg : Gl X "repr") (hm : X.mg "repr" = none) (ha : PE X a (E F W m)) (he : starEach [a] X.env = (false, eval a X.env) :: starEach [] X.env := by rfl) : PE X (.Call (.Name "repr" p) [a] [] pos) (E F W (M.bind m reprR)) :=
  b_call1 (δ := V) (cr_repr hgd hu) hg hm (by decide +kernel) (fun {G H c v d Q σ} r q p => by
    unfold reprR at p
    by_cases ok : reprOk d = true
    · rw [if_pos ok] at p
      have dp : Dp X.K H v d := hK ▸ (dp_mono r.sub q).dp
      cases d with
      | bool b => exact ⟨v, _, rfl, dp, ok, True.intro, po_ret r p (.str _)⟩
      | int b => exact ⟨v, _, rfl, dp, ok, True.intro, po_ret r p (.str _)⟩
      | list b => exact ⟨v, _, rfl, dp, ok, True.intro, po_ret r p (.str _)⟩
      | tuple b => exact ⟨v, _, rfl, dp, ok, True.intro, po_ret r p (.str _)⟩
      | _ => exact p.elim
    · rw [if_neg ok] at p
      exact p.elim) ha (by decide) (by decide) he
def eqS : Dat → Dat → M Dat := fun x y => match x, y with
  | .str a, .str b => ret (.bool (decide (a = b)))
  | _, _ => bad
theorem e_eqS {a b : Expr} {ma mb : M Dat} {pos : Pos} (ha : PE X a (E F W ma)) (hb : PE X b (E F W mb)) : PE X (.Compare a [.Eq] [b] pos) (E F W (m2 eqS ma mb)) :=
  e_cmp op_eq (fun {G H c x y d e Q σ} r h1 h2 p => by
    cases h1 with
    | str a =>
      cases h2 with
      | str b =>
        refine ⟨rfl, ?_⟩
        have z : decide (V.str a = V.str b) = decide (a = b) := by
          (rw [Bool.eq_iff_iff, decide_eq_true_eq, decide_eq_true_eq])
          exact ⟨fun z => by cases z; rfl, fun z => by rw [z]⟩
        rw [z]
        exact po_ret r p (.bl _)
      | _ => exact p.elim
    | _ => exact p.elim) (nomark _) ha hb
end
end Pn

set_option maxHeartbeats 1000001
/-! what an except clause tells of an own error: a word, its field, that it is of a class -/
namespace PnCt
open L2 PyProof.Rows PySem.Spec PySem
/-- of an error's class at C: its field f is the object's own, it is beneath the class at B -/
structure ErrF (K : PySem.W.Frag) (C B : Addr) (f : Str) : Prop where
  xf : XfC K C
  own : PySem.W.findIn K (.ref C) f = some none
  cl : (PySem.W.clsIn K C).isSome = true
  (ca : PySem.W.findIn K (.ref C) "__class__" = some (some (.builtin "object.__class__")))
  gt : PySem.W.specialIn K (.builtin "object.__class__") "__get__" = some (some (.builtin "getset_descriptor.__get__"))
  tk : PySem.W.takesIn K (.builtin "object.__class__") = some true
  mo : PySem.W.mroIn K C (.type "object") = some true
  is : PySem.W.kitOne K (.ref C) (.ref B) = some true
section
variable {X : Cx} {a C B dd : Addr} {ob : Obj} {pn : List (Addr × Obj)} {f : Str}
/-- isinstance(e, B) of an error whose dict stands at dd -/
def rIsX (a B dd : Addr) (f : Str) : List V → Hp → VK → Prop := fun xs H Q => ∃ v, xs = [.ref a, .ref B] ∧ H dd = some (.xd [(f, v)]) ∧ Q (.bl true) H
theorem cr_isX (Z : ErrF X.K C B f) (hz : Zc (.ref C) (some dd) ob) (hf : ∃ vs, ob.data = .fields vs) : CallR (X.suite a ((a, ob) :: pn)) (.builtin "isinstance") (rIsX a B dd f) := by
  (intro pins s σ H xs us Q I r h)
  obtain ⟨v, rfl, hd, q⟩ := h
  cases r with
  | cons rx rr =>
    cases rr with
    | cons rt rr =>
      cases rr
      cases rx
      cases rt
      obtain ⟨at_, _⟩ := I.pin (a, ob) (List.mem_append_left _ List.mem_cons_self)
      obtain ⟨vs, hv⟩ := hf
      have hx : ObjOk X.prog X.w H s.heap dd (.xd [(f, v)]) := I.hok dd _ hd
      obtain ⟨mA, hns, _⟩ := hx
      obtain ⟨od, ho, _⟩ := lookIn_ns hns
      have J : PySem.W.InstAt s.heap a ob C (some od) := ⟨at_, hz.1, by unfold PySem.W.notCls; rw [hv] <;> rfl, by rw [hz.2]; exact ho⟩
      have kx := PySem.W.kitx_exc (K := X.K) (x := a) (ox := ob) (od := some od) Z.cl Z.xf.ga Z.xf.gg Z.xf.exC Z.ca Z.gt Z.tk Z.mo
      exact PySem.W.kia_one kx I.kIn J Z.is (fun z => nomatch z) fun tk => ⟨.bl true, H, I.kept (t' := tk) fun _ _ z => z, rfl, q⟩
end
section
variable {X : Cx} {a C B : Addr} {ob : Obj} {pn : List (Addr × Obj)} {f : Str}
/-- t = (w, e.f, isinstance(e, B)) -/
def toldS (C : Addr) (f w : Str) (it ie : Nat) (a : Addr) (cls : Value) (d : Option Addr) : TS := fun D σ H => σ[ie]? = some (some (.ref a)) ∧ cls = .ref C ∧ ∃ dd v, d = some dd ∧ H dd = some (.xd [(f, v)]) ∧ ∀ p, H p = none → D.nx (σ.set it (some (.ref p))) (upd H p (.tup [.str w, v, .bl true]))
theorem told_suite {it ie j kk : Nat} {t e b w : Str} {cls : Value} {d : Option Addr} {tp wp ep ap ip ep2 bp cp tpp pos : Pos} (Z : ErrF X.K C B f) (hz : Zc cls d ob) (hf : ∃ vs, ob.data = .fields vs)
    (hN : X.N.Nodup) (ht : X.N[it]? = some t) (hxt : Loc X.env.scope t) (hlt : X.env.scope.names.lookup t = some .local) (he : X.N[ie]? = some e) (hve : Vis X.env.scope e) (hde : (e == ("__debug__" : Str)) = false) (hce : (e == ("__classdict__" : Str)) = false)
    (hgi : Gl X "isinstance") (hmi : X.mg "isinstance" = none) (hgb : Gl X b) (hmb : X.mg b = some (.ref B)) (hdb : (b == ("__debug__" : Str)) = false)
    (ha : attributeBase (.Name e ep) f X.env (eval (.Name e ep) X.env) = eval (.Name e ep) X.env := by rfl)
    (h1 : starEach [.Name e ep2, .Name b bp] X.env = (false, eval (.Name e ep2) X.env) :: starEach [.Name b bp] X.env := by rfl) (h2 : starEach [.Name b bp] X.env = (false, eval (.Name b bp) X.env) :: starEach [] X.env := by rfl) (h3 : (backTo cp (starEach [.Name b bp] X.env)).any (·.1) = false := by rfl)
    (k1 : starEach [.Constant (.str w) j wp, .Attribute (.Name e ep) f ap, .Call (.Name "isinstance" ip) [.Name e ep2, .Name b bp] [] cp] X.env = (false, eval (.Constant (.str w) j wp) X.env) :: starEach [.Attribute (.Name e ep) f ap, .Call (.Name "isinstance" ip) [.Name e ep2, .Name b bp] [] cp] X.env := by rfl)
    (k2 : starEach [.Attribute (.Name e ep) f ap, .Call (.Name "isinstance" ip) [.Name e ep2, .Name b bp] [] cp] X.env = (false, eval (.Attribute (.Name e ep) f ap) X.env) :: starEach [.Call (.Name "isinstance" ip) [.Name e ep2, .Name b bp] [] cp] X.env := by rfl)
    (k3 : starEach [.Call (.Name "isinstance" ip) [.Name e ep2, .Name b bp] [] cp] X.env = (false, eval (.Call (.Name "isinstance" ip) [.Name e ep2, .Name b bp] [] cp) X.env) :: starEach [] X.env := by rfl)
    (hs : swapsWith (.Tuple [.Constant (.str w) j wp, .Attribute (.Name e ep) f ap, .Call (.Name "isinstance" ip) [.Name e ep2, .Name b bp] [] cp] kk tpp) (some (.Name t tp)) pos.line X.env = pure false := by rfl) :
    PSs (X.suite a ((a, ob) :: pn)) [.Assign [.Name t tp] (.Tuple [.Constant (.str w) j wp, .Attribute (.Name e ep) f ap, .Call (.Name "isinstance" ip) [.Name e ep2, .Name b bp] [] cp] kk tpp) pos] (toldS C f w it ie a cls d) := by
  (refine ⟨fun pins s σ H D I h => ?_⟩)
  obtain ⟨hσ, rfl, dd, v, rfl, hdd, q⟩ := h
  have ex : PE (X.suite a ((a, ob) :: pn)) (.Name e ep) _ := pe_var (i := ie) he hve hde hce
  have fld := pe_xf (a := a) (pn := pn) (pos := ap) Z.xf Z.own hz hf ex ha
  have isx := pe_callB (X := X.suite a ((a, ob) :: pn)) (p := ip) (pos := cp) (cr_isX (a := a) (pn := pn) Z hz hf) hgi hmi (by decide +kernel) (pa_cons (pe_var (pos := ep2) (i := ie) he hve hde hce) (pa_cons (pe_glob (v := .ref B) (pos := bp) hgb hmb rfl hdb) pa_nil h2) h1) (by decide) (by decide) h1 h3
  have tup := pe_tup (x1 := kk) (pos := tpp) (pa_cons (pe_str (X := X.suite a ((a, ob) :: pn)) (x := w) (j := j) (pos := wp)) (pa_cons fld (pa_cons isx pa_nil k3) k2) k1)
  have all := pss_one (ps_set (X := X.suite a ((a, ob) :: pn)) (pos' := tp) (pos := pos) hN ht hxt tup hs (.inr hlt))
  refine all.run pins s σ H D I ?_
  refine ⟨.ref a, hσ, rfl, rfl, dd, [(f, v)], v, rfl, hdd, by simp, ?_⟩
  refine ⟨.ref a, hσ, v, rfl, hdd, ?_⟩
  exact ⟨by show 3 ≤ sizeLine; rw [sizeLine_eq]; decide, fun p hp => q p hp⟩
end

/-! ### a def that calls what it gets and tells what came -/
/-- a clause: the class, its field, the word -/
structure Tell where
  C : Addr
  f : Str
  w : Str
def tellS (K : PySem.W.Frag) : List Tell → VK → XK
  | [], _ => fun _ _ _ => False
  | q :: l, Q => fun cls d H => ∃ b, PySem.W.exmOne K cls (.ref q.C) = some b ∧ (b = true → cls = .ref q.C ∧ ∃ dd v, d = some dd ∧ H dd = some (.xd [(q.f, v)]) ∧ ∀ p, H p = none → Q (.ref p) (upd H p (.tup [.str q.w, v, .bl true]))) ∧ (b = false → tellS K l Q cls d H)
def wayOf (q : Tell) : PnTry.Way := ⟨2, .ref q.C, fun a cls d => toldS q.C q.f q.w 1 2 a cls d⟩
def TCt (K : PySem.W.Frag) (l : List Tell) (w : Str) : (XK → Hp → VK → Prop) → Hp → VK → Prop := fun tl H Q => ∀ Z : VK, (∀ v H1, (∀ p, H1 p = none → Q (.ref p) (upd H1 p (.tup [.str w, v]))) → Z v H1) → tl (tellS K l Q) H Z
theorem takes_len {X : Cx} {W : WX} (t : Takes X W) : Takes X (fun cls d σ H => σ.length = X.N.length → W cls d σ H) := by
  rintro u s' ⟨a, B, s0, pins, σ, H, cls, d, e, I, nb, up, sky, na, os, ag, w⟩
  exact t u s' ⟨a, B, s0, pins, σ, H, cls, d, e, I, nb, up, sky, na, os, ag, w I.len⟩
theorem tell_ways {K : PySem.W.Frag} {Q : VK} {D : Ends} (hD : ∀ (σ : L2.St) (p : Addr) (H : Hp), σ.length = 3 → σ[1]? = some (some (.ref p)) → Q (.ref p) H → D.nx σ H) : ∀ (l : List Tell) (cls : Value) (d : Option Addr) (σ : L2.St) (H : Hp), σ.length = 3 → tellS K l Q cls d H →
    PnTry.wWays K (fun _ _ _ _ => False) D (l.map wayOf) cls d σ H
  | [], _, _, _, _, _, h => h
  | q :: l, cls, d, σ, H, hl, ⟨b, e, yes, no⟩ => by
    refine ⟨b, e, fun hb a ha => ?_, fun hb => tell_ways hD l cls d σ H hl (no hb)⟩
    obtain ⟨e2, dd, v, e3, e4, k⟩ := yes hb
    refine ⟨by show (σ.set 2 _)[2]? = _; rw [List.getElem?_set_self (by omega)], e2, dd, v, e3, e4, fun p hp => ?_⟩
    refine hD _ p _ ?_ ?_ (k p hp)
    · show (((σ.set 2 _).set 1 _).set 2 none).length = 3
      simp only [List.length_set, hl]
    · show (((σ.set 2 (some (V.ref a))).set 1 (some (V.ref p))).set 2 none)[1]? = _
      rw [List.getElem?_set_ne (by decide), List.getElem?_set_self (by simp only [List.length_set]; omega)]
theorem caught_gives {X : Cx} {Ng : List Str} {x a q w : Str} {sg : Scope} {g : Addr} {cdg : Value} {h₀ : ExceptHandler} {hs : List ExceptHandler} {l : List Tell} {j kk : Nat} {p1 p2 tp wp tpp ap rp rp2 pos : Pos}
    (hNg : Ng = [a, "told", "e"]) (hnd : Ng.Nodup) (hlo : Loc sg "told") (hlt : sg.names.lookup ("told" : Str) = some .local) (hvt : Vis sg "told")
    (hw : ∀ (s : Shared) (H : Hp), PnTry.WaysOk (cxOf C8.CX0 X.prog X.w X.K X.mg X.base Ng x sg g cdg X.A X.stack s H C8.E0).nox (h₀ :: hs) (l.map wayOf))
    (k1 : ∀ (s : Shared) (H : Hp), starEach [.Constant (.str w) j wp, .Call (.Name a p1) [] [] p2] (cxOf C8.CX0 X.prog X.w X.K X.mg X.base Ng x sg g cdg X.A X.stack s H C8.E0).env = (false, eval (.Constant (.str w) j wp) (cxOf C8.CX0 X.prog X.w X.K X.mg X.base Ng x sg g cdg X.A X.stack s H C8.E0).env) :: starEach [.Call (.Name a p1) [] [] p2] (cxOf C8.CX0 X.prog X.w X.K X.mg X.base Ng x sg g cdg X.A X.stack s H C8.E0).env := by intro _ _; rfl)
    (k2 : ∀ (s : Shared) (H : Hp), starEach [.Call (.Name a p1) [] [] p2] (cxOf C8.CX0 X.prog X.w X.K X.mg X.base Ng x sg g cdg X.A X.stack s H C8.E0).env = (false, eval (.Call (.Name a p1) [] [] p2) (cxOf C8.CX0 X.prog X.w X.K X.mg X.base Ng x sg g cdg X.A X.stack s H C8.E0).env) :: starEach [] (cxOf C8.CX0 X.prog X.w X.K X.mg X.base Ng x sg g cdg X.A X.stack s H C8.E0).env := by intro _ _; rfl)
    (k3 : ∀ (s : Shared) (H : Hp), swapsWith (.Tuple [.Constant (.str w) j wp, .Call (.Name a p1) [] [] p2] kk tpp) (some (.Name "told" tp)) ap.line (cxOf C8.CX0 X.prog X.w X.K X.mg X.base Ng x sg g cdg X.A X.stack s H C8.E0).env = pure false := by intro _ _; rfl) :
    LamX.GivesTo X Ng x sg g cdg [.Try [.Assign [.Name "told" tp] (.Tuple [.Constant (.str w) j wp, .Call (.Name a p1) [] [] p2] kk tpp) ap] (h₀ :: hs) [] [] pos, .Return (some (.Name "told" rp)) rp2] a q (TCt X.K l w) := by
  intro f c' s H Q tl act hc h
  subst hNg
  let Y : Cx := (cxOf C8.CX0 X.prog X.w X.K X.mg X.base [a, "told", "e"] x sg g cdg X.A X.stack s H C8.E0).nox
  have body : ∀ (W : WX) (pn : List (Addr × Obj)) (xe : Value → Shared → Prop), Takes (Y.tr pn xe) W → PassesOwn (model Y.prog Y.w) Y.A Y.env xe → PSs (Y.tr pn xe) [.Assign [.Name "told" tp] (.Tuple [.Constant (.str w) j wp, .Call (.Name a p1) [] [] p2] kk tpp) ap]
      (fun D σ H => ∃ Ech : XK, (∀ cls d σ' H', Ech cls d H' → σ'.length = 3 → W cls d σ' H') ∧ σ[0]? = some (some (.ref f)) ∧ H c' = some (LamX.CodeO c' q) ∧ tl Ech H fun v H1 => [V.str w, v].length ≤ sizeLine ∧ ∀ p, H1 p = none → D.nx (σ.set 1 (some (.ref p))) (upd H1 p (.tup [.str w, v]))) := by
    intro W pn xe tk _
    refine ⟨fun pins s' σ H' D I h' => ?_⟩
    obtain ⟨Ech, hW, e0, e1, e2⟩ := h'
    have hp := act (fun cls d σ H => σ.length = 3 → W cls d σ H) pn xe Ech p1 p2 (takes_len (X := Y.tr pn xe) tk) hW
    have tup := pe_tup (x1 := kk) (pos := tpp) (pa_cons (pe_str (X := Y.tr pn xe) (x := w) (j := j) (pos := wp)) (pa_cons hp pa_nil (k2 s H)) (k1 s H))
    have all := pss_one (ps_set (X := Y.tr pn xe) (i := 1) (pos' := tp) (pos := ap) hnd rfl hlo tup (k3 s H) (.inr hlt))
    exact all.run pins s' σ H' D I ⟨e0, e1, e2⟩
  have try_ := PnTry.ps_ways (X := Y) (pos := pos) (l := l.map wayOf) rfl rfl hnd L2.takes0 body (hw s H)
  have ret_ := ps_ret (pos := rp2) (pe_var (X := Y) (pos := rp) (i := 1) (x := "told") rfl hvt (by decide) (by decide))
  refine ⟨_, pss_cons try_ (pss_one ret_), ?_⟩
  refine ⟨tellS X.K l Q, fun cls d σ' H' z hl => tell_ways (fun σ p H hl e z => ?_) l cls d σ' H' hl z, rfl, hc, h _ fun v H1 z => ⟨by show 2 ≤ sizeLine; rw [sizeLine_eq]; decide, fun p hp => ?_⟩⟩
  · exact ⟨_, e, z⟩
  · exact ⟨_, rfl, z p hp⟩
end PnCt

set_option maxHeartbeats 1000001
/-! a lambda without parameters that is handed to a def: only its maker's table changes -/
namespace PnLam
open L2 PyProof.Rows PySem.Spec PySem LamX
/-- all stays but what stands at P -/
def OffP (P : Addr) (H H' : Hp) : Prop := ∀ b o, b ≠ P → H b = some o → H' b = some o
theorem tabs_kept {T : List (Addr × Str)} {P : Addr} {H H' : Hp} (hT : Tabs T H) (e : OffP P H H') (hP : ∃ ps, H P = some (.tbl ps)) (hm : ∀ p ∈ T, p.1 = P → TabS H' P p.2) : Tabs T H' := by
  obtain ⟨qs, eP⟩ := hP
  intro p hp
  by_cases z : p.1 = P
  · rw [z]
    exact hm p hp z
  · obtain ⟨ps, a1, a2, a3⟩ := hT p hp
    refine ⟨ps, e _ _ z a1, a2, fun at_ cv h => ?_⟩
    obtain ⟨c, e1, e2⟩ := a3 at_ cv h
    refine ⟨c, e1, e _ _ (fun y => ?_) e2⟩
    rw [y, eP] at e2
    exact codeO_ne qs (Option.some.inj e2).symm
section
variable {X : Cx}
variable {pins : List (Addr × Obj)} {σ : L2.St} {H : Hp} {s : Shared}
theorem made {T : List (Addr × Str)} {c P : Addr} {params : Arguments} {body : Expr} {scope : Scope} {pos : Pos} {E : Value → Shared → Prop} {Q : Value → Shared → Prop} (I : Inv X pins σ H s) (TB : TabB X.base X.mg c P) (hcode : X.env.code = .ref c)
    (hm : (P, X.env.qual ++ "<lambda>") ∈ T)
    (hu : ∀ p ∈ T, p.1 = P → p.2 = X.env.qual ++ "<lambda>") (hT : Tabs T H) (hdef : defaultsOf params X.env = ([], [])) (hfree : ∀ y ∈ scope.names, y.2 = .free → ∃ c, X.env.cells.lookup y.1 = some c)
    (go : ∀ (f c' : Addr) (pm ctv : Value) (H1 : Hp) (s' : Shared), Inv X pins σ H1 s' → OffP P H H1 → Tabs T H1 →
      s'.heap.get? f = some (PySem.W.kla_obj "<lambda>" (X.env.qual ++ "<lambda>") params body scope
      (cloFrom X.env.cells scope.names []) pm c' ctv) → H1 f = none → f ∉ frs X.stack → H1 c' = some (CodeO c' (X.env.qual ++ "<lambda>")) → Q (.ref f) s') :
    wpAny (model X.prog X.w) (X.A) (eval (.Lambda params body scope pos) X.env) Q E s := by
  obtain ⟨ps, hP, ok, known⟩ := hT _ hm
  have bi : s.heap.BuiltinsAt X.mg P := TB.bm.keeps I.bk
  have atP : s.heap.get? P = some { cls := .none, data := .fields ps } := I.hok P _ hP
  have nofr : ∀ f, s.heap.objs.size ≤ f → f ∉ frs X.stack := by
    intro f hf z
    (rcases List.mem_cons.mp (I.stkSub _ z) with e | e)
    · exact absurd I.lt (Nat.not_lt.mpr (e ▸ hf))
    · exact I.nofs hf e
  (refine PySem.W.kla_eval hdef ?_)
  cases hc : codeAmong pos (ps.toList) with
  | some cv =>
    obtain ⟨c', rfl, hco⟩ := known pos cv hc
    refine PySem.W.kla_makeFunctionHit (mg := X.mg) (c := c) (P := P) (ps := ps) (closure_ok hfree) I.ok.glob (I.mod.glob.keeps I.bk) hcode (TB.code.keeps I.bk) atP ok hc bi ?_
    intro ctv h' tk hx hsz
    refine go h'.objs.size c' ((X.mg "__name__").getD .none) ctv H _ (I.kept (t' := tk) fun b o e => Heap.get?_push_of_some _ (hx b o e)) (fun b o _ e => e) hT (Heap.get?_push_size _ rfl) (I.hok.fresh hsz) (nofr _ hsz) hco
  | none =>
    refine PySem.W.kla_makeFunction (mg := X.mg) (c := c) (P := P) (ps := ps) (closure_ok hfree) I.ok.glob (I.mod.glob.keeps I.bk) hcode (TB.code.keeps I.bk) atP ok hc TB.gP bi ?_
    rintro c' ctv h' tk hx hge hlt ⟨c2, oc, vs, t, e2, hoc, hd, hv⟩ htb
    cases e2
    have big : s.heap.objs.size ≤ h'.objs.size := Nat.le_trans hge (Nat.le_of_lt hlt)
    have nC : (H c' = none) := I.hok.fresh hge
    let row : Array Value := #[rawInt pos.line, rawInt pos.col, .ref c']
    let H1 : Hp := upd (upd H P (.tbl (ps ++ row))) c' (CodeO c' (X.env.qual ++ "<lambda>"))
    have I1 : Inv X pins σ H1 { s with heap := h'.push (PySem.W.kla_obj "<lambda>" (X.env.qual ++ "<lambda>") params body scope (cloFrom X.env.cells scope.names []) ((X.mg "__name__").getD .none) c' ctv), toks := tk } :=
      inv_table I hP (fun b o hb e => Heap.get?_push_of_some _ (hx b o hb e)) (Heap.get?_push_of_some _ htb) hge ⟨oc, vs, t, Heap.get?_push_of_some _ hoc, hd, hv⟩
    have off : OffP P H H1 := fun b o hb e => by
      show upd (upd H P _) c' _ b = _
      rw [upd_ne (ne_of_none e nC), upd_ne hb, e]
    have tabP : TabS H1 P (X.env.qual ++ "<lambda>") := by
      have eL : (ps ++ row).toList = ps.toList ++ [rawInt pos.line, rawInt pos.col, .ref c'] := Array.toList_append
      refine ⟨ps ++ row, ?_, ?_, fun p' cv z => ?_⟩
      · show upd (upd H P _) c' _ P = _
        rw [upd_ne (ne_of_none hP nC), upd_same]
      · rw [eL]
        exact PySem.TriplesOk_snoc _ _ _ _ ok
      · rw [eL] at z
        rcases among_app _ ok z with z | z
        · obtain ⟨c0, e1, e2⟩ := known p' cv z
          refine ⟨c0, e1, off _ _ (fun y => ?_) e2⟩
          rw [y, hP] at e2
          exact codeO_ne ps (Option.some.inj e2).symm
        · exact ⟨c', z, upd_same⟩
    refine go h'.objs.size c' ((X.mg "__name__").getD .none) ctv H1 _ I1 off (tabs_kept hT off ⟨ps, hP⟩ fun p hp z => hu p hp z ▸ tabP) (Heap.get?_push_size _ rfl) ?_ (nofr _ big) upd_same
    show upd (upd H P _) c' _ _ = none
    rw [upd_ne (Nat.ne_of_gt hlt), upd_ne (Nat.ne_of_gt (Nat.lt_of_lt_of_le (Heap.lt_size atP) big))]
    exact I.hok.fresh big
end
def tLamP (T : List (Addr × Str)) (P : Addr) (TT : (XK → Hp → VK → Prop) → Hp → VK → Prop) (t : XK → TE) : TE := fun σ H Q => Tabs T H ∧ ∀ H1, OffP P H H1 → Tabs T H1 → TT (fun E H' Q' => t E σ H' Q') H1 Q
section
variable {X : Cx}
/-- x(lambda: body) -/
theorem pe_lam {T : List (Addr × Str)} {TT : (XK → Hp → VK → Prop) → Hp → VK → Prop} {x a : Str} {g c P : Addr} {k : Nat} {pg : Arguments} {bg : List Stmt} {sg : Scope} {dV kV doc pm cdv ct oc : Value} {an od : Option Addr} {osl : Array (Option Value)} {Ng : List Str}
    {params : Arguments}
    {body : Expr} {scope : Scope} {t : XK → TE} {p lpos pos : Pos} (hg : Gl X x) (hm : X.mg x = some (.ref g)) (hk : PySem.W.keepIn X.K (.ref g) = true)
    (lk : X.K.lookup g = some ⟨oc, od, .func (PySem.W.fnOf x x pg bg sg dV kV doc pm an cdv ct), osl⟩)
    (hcg : PySem.W.codeIn X.K cdv x = true) (hb : L2.Binds X.K (PySem.W.fnOf x x pg bg sg dV kV doc pm an cdv ct) [a] []) (Sg : FnScope Ng [a] sg) (hNg : Ng[0]? = some a) (hva : Vis sg a)
    (hG : GivesTo X Ng x sg g cdv bg a (X.env.qual ++ "<lambda>") TT) (TB : TabB X.base X.mg c P) (hcode : X.env.code = .ref c) (hmT : (P, X.env.qual ++ "<lambda>") ∈ T) (hu : ∀ p ∈ T, p.1 = P → p.2 = X.env.qual ++ "<lambda>") (hr : Room (k + 2) X.A) (L : LamS X.env.scope scope) (hdef : defaultsOf params X.env = ([], []))
    (hbind : ∀
    (q : Str) (cl : List (Str × Addr)) (pm cv ctv : Value), bindArgs (PySem.W.kla_fn "<lambda>" q params body scope cl pm cv ctv) ⟨[], []⟩ = pure [])
    (hbody : ∀
    (A : Around) (outer : List Env) (s : Shared) (H : Hp) (E : XK) (f c' : Addr), Room k (A.deeper (lamEnv X scope s.heap.objs.size f c')) → PE (lamCx X A outer s H E scope f c') body (t E))
    (hdb : (x == ("__debug__" : Str)) = false := by decide)
    (hd : (a == ("__debug__" : Str)) = false := by decide) (hcd : (a == ("__classdict__" : Str)) = false := by decide) :
    PE X (.Call (.Name x p) [.Lambda params body scope lpos] [] pos) (tLamP T P TT t) where
  run := by
    rintro pins s σ H Q I ⟨hT, h⟩
    (refine wpAny_Call_Name_kw (ld_glob I hg hm ?_ hdb))
    (refine PySem.W.callWith_K (h₀ := X.base) I.ok.mod.kin hk ?_ (by rfl) (by rfl))
    (show wpAny _ _ (spliced ((false, eval (.Lambda params body scope lpos) X.env) :: backTo pos (starEach [] X.env))) _ _ s)
    refine Calls.spliced_cons (made I TB hcode hmT hu hT hdef (L.has I.ok) fun f c' pm' ctv H1 s' I1 eN T1 hf hfn hfr hco => Calls.spliced_nil ⟨I1.kIn, ?_⟩)
    refine wpAny_call (codeAny_mono (run_ofS (N := Ng) (ps := [a]) (us := [.ref f]) (vs := [.ref f]) (CX := C8.CX0) (E := C8.E0) (Q := Q) lk hcg Sg hr I1.env0 (hb s' [.ref f] I1.kIn rfl) (.cons rfl .nil) rfl fun hr' => ?_) fun r s2 hq => ?_)
    · obtain ⟨t', ht', hq'⟩ := hG f c' s' H1 Q (fun E H' Q' => t E σ H' Q') (fun W pn xe E p1 p2 tk hW => pe_act (i := 0) I1 L hf hfn hfr (hbind _ _ _ _ _) tk hW hr' (fun A outer s H hr2 => hbody A outer s H E f c' hr2) hNg hva hd hcd) hco (h H1 eN T1)
      exact ⟨t', ht'.nox, hq'⟩
    · rcases r with e | fl
      · exact (show False from hq).elim
      · cases fl with
        | ret u => exact I1.after hq
        | next => exact hq.elim
        | brk => exact hq.elim
        | cont => exact hq.elim
end
end PnLam
namespace Pn
open L2 PyProof.Rows PySem.Spec PySem
section
variable {F : Fr} {W : L2.WX} {σ : L2.St} {H : Hp} {X : Cx} {D : Ends}
/-- only a table that the frame knows has changed -/
theorem Rel.offP {G : Hp} {c : Cfg} {P : Addr} {q : Str} {H1 : Hp} (r : Rel F G c σ H) (hm : (P, q) ∈ F.tb) (e : PnLam.OffP P H H1) (t : LamX.Tabs F.tb H1) : Rel F G c σ H1 := by
  obtain ⟨⟨ps, hP, _⟩, gP, mP⟩ := r.tabs (P, q) hm
  have ne : ∀ {b : Addr} {o : HO}, H b = some o → (∀ ps, o ≠ .tbl ps) → b ≠ P := fun {b o} h n z => by
    rw [z, hP] at h
    exact n ps (Option.some.inj h).symm
  exact { g0 := r.g0, fresh := r.fresh, len := r.len, inj := r.inj, ioj := r.ioj, mu0 := r.mu0, st0 := r.st0
          sub := fun b o h => e b o (fun z => by rw [z, gP] at h; cases h) (r.sub b o h)
          keep := fun b o h h1 h2 => e b o (fun z => h1 (z ▸ mP)) (r.keep b o h h1 h2)
          sl := fun i s h => (r.sl i s h).move (Same.refl _) (fun l b xs _ _ q1 q2 _ => ⟨e _ _ (ne q1 fun ps z => by cases z) q1, q2⟩) (fun l xs _ q1 q2 _ => ⟨e _ _ (ne q1 fun ps z => by cases z) q1, q2⟩)
          st := fun hu => by
            obtain ⟨h1, h2, h3, k⟩ := r.st hu
            exact ⟨e _ _ (ne h1 fun ps z => by cases z) h1, e _ _ (ne h2 fun ps z => by cases z) h2, e _ _ (ne h3 fun ps z => by cases z) h3, k⟩
          pin := fun b hb => by
            obtain ⟨k1, k2, k3⟩ := r.pin b hb
            exact ⟨e _ _ (fun z => (r.mu0 P mP).1 (z ▸ k3)) k1, k2, k3⟩
          dom := fun b h z => by
            by_cases hb : b = P
            · obtain ⟨qs, y, _⟩ := t (P, q) hm
              rw [hb] at z
              have y : H1 P = some (.tbl qs) := y
              rw [z] at y
              cases y
            · cases eb : H b with
              | none => exact r.dom b h eb
              | some o =>
                rw [e b o hb eb] at z
                cases z
          tabs := fun p hp => ⟨t p hp, (r.tabs p hp).2⟩ }
/-- what a def of clauses tells of what its lambda did -/
structure Clause where
  k : Nat
  w : Str
def findK (k : Nat) : List Clause → Option Str
  | [] => none
  | q :: l => if q.k = k then some q.w else findK k l
def caughtM (l : List Clause) (w : Str) (m : M RV) : M Dat := fun c => match m c with
  | .ok v c' => .ok (.tuple [.str w, v.dat]) c'
  | .exc k d c' => (match findK k l with
    | some u => .ok (.tuple [.str u, d, .bool true]) c'
    | none => .bad)
  | .bad => .bad
/-- the clauses' classes and fields; of two of them none is beneath the other -/
inductive Tells (K : PySem.W.Frag) (C : Cls) : List Clause → List PnCt.Tell → Prop
  | nil : Tells K C [] []
  | cons {q : Clause} {l : List Clause} {t : PnCt.Tell} {ts : List PnCt.Tell} : t.w = q.w → C.at_ q.k = .ref t.C → C.fld q.k = t.f → PySem.W.exmOne K (C.at_ q.k) (.ref t.C) = some true → (∀ r ∈ l, PySem.W.exmOne K (C.at_ r.k) (.ref t.C) = some false ∧ r.k ≠ q.k) → Tells K C l ts → Tells K C (q :: l) (t :: ts)
theorem findK_mem {k : Nat} {u : Str} : ∀ {l : List Clause}, findK k l = some u → ∃ r ∈ l, r.k = k
  | [], h => nomatch h
  | q :: l, h => by
    unfold findK at h
    by_cases e : q.k = k
    · exact ⟨q, List.mem_cons_self, e⟩
    · rw [if_neg e] at h
      obtain ⟨r, m, z⟩ := findK_mem h
      exact ⟨r, List.mem_cons_of_mem _ m, z⟩
theorem tell_of {K : PySem.W.Frag} {C : Cls} {k : Nat} {u : Str} {Q : VK} {H : Hp} {ad : Addr} {v : V} (hd : H ad = some (.xd [(C.fld k, v)])) (hQ : ∀ p, H p = none → Q (.ref p) (upd H p (.tup [.str u, v, .bl true]))) :
    ∀ {l : List Clause} {ts : List PnCt.Tell}, Tells K C l ts → findK k l = some u → PnCt.tellS K ts Q (C.at_ k) (some ad) H
  | _, _, .nil, h => nomatch h
  | q :: l, t :: ts, .cons hw hC hf yes no r, h => by
    unfold findK at h
    by_cases e : q.k = k
    · rw [if_pos e] at h
      cases h
      subst e
      refine ⟨true, yes, fun _ => ⟨hC, ad, v, rfl, by rw [← hf]; exact hd, fun p hp => ?_⟩, fun z => ?_⟩
      · rw [hw]
        exact hQ p hp
      · cases z
    · rw [if_neg e] at h
      obtain ⟨c, m, z⟩ := findK_mem h
      have one : PySem.W.exmOne K (C.at_ k) (.ref t.C) = some false := by rw [← z]; exact (no c m).1
      refine ⟨false, one, fun y => ?_, fun _ => tell_of hd hQ r h⟩
      cases y
theorem e_caught {l : List Clause} {ts : List PnCt.Tell} {w x a : Str} {g c P : Addr} {k : Nat} {pg : Arguments} {bg : List Stmt} {sg : Scope} {dV kV doc pm cdv ct oc : Value} {an od : Option Addr} {osl : Array (Option Value)} {Ng : List Str}
    {params : Arguments} {body : Expr} {scope : Scope} {m : M RV} {p lpos pos : Pos} (hK : F.K = X.K) (hts : Tells X.K F.C l ts) (hg : Gl X x) (hm : X.mg x = some (.ref g)) (hk : PySem.W.keepIn X.K (.ref g) = true)
    (lk : X.K.lookup g = some ⟨oc, od, .func (PySem.W.fnOf x x pg bg sg dV kV doc pm an cdv ct), osl⟩)
    (hcg : PySem.W.codeIn X.K cdv x = true) (hb : L2.Binds X.K (PySem.W.fnOf x x pg bg sg dV kV doc pm an cdv ct) [a] []) (Sg : FnScope Ng [a] sg) (hNg : Ng[0]? = some a) (hva : Vis sg a)
    (hG : LamX.GivesTo X Ng x sg g cdv bg a (X.env.qual ++ "<lambda>") (PnCt.TCt X.K ts w)) (TB : LamX.TabB X.base X.mg c P) (hcode : X.env.code = .ref c) (hmT : (P, X.env.qual ++ "<lambda>") ∈ F.tb) (hu : ∀ p ∈ F.tb, p.1 = P → p.2 = X.env.qual ++ "<lambda>") (hr : Room (k + 2) X.A) (L : LamX.LamS X.env.scope scope) (hdef : defaultsOf params X.env = ([], []))
    (hbind : ∀
    (q : Str) (cl : List (Str × Addr)) (pm cv ctv : Value), bindArgs (PySem.W.kla_fn "<lambda>" q params body scope cl pm cv ctv) ⟨[], []⟩ = pure [])
    (hbody : ∀ (A : Around) (outer : List Env) (s : Shared) (H : Hp) (E : XK) (f c' : Addr), Room k (A.deeper (LamX.lamEnv X scope s.heap.objs.size f c')) → PE (LamX.lamCx X A outer s H E scope f c') body (EX F (fun cls d _ H' => E cls d H') m))
    (hdb : (x == ("__debug__" : Str)) = false := by decide)
    (hd : (a == ("__debug__" : Str)) = false := by decide) (hcd : (a == ("__classdict__" : Str)) = false := by decide) :
    PE X (.Call (.Name x p) [.Lambda params body scope lpos] [] pos) (E F W (caughtM l w m)) :=
  (PnLam.pe_lam (t := fun E => EX F (fun cls d _ H' => E cls d H') m) hg hm hk lk hcg hb Sg hNg hva hG TB hcode hmT hu hr L hdef hbind hbody hdb hd hcd).mono fun σ H Q ⟨G, c, r, p⟩ => by
    refine ⟨fun q hq => (r.tabs q hq).1, fun H1 off T1 Z hZ => ⟨G, c, r.offP hmT off T1, ?_⟩⟩
    unfold caughtM at p
    cases em : m c with
    | ok v c' =>
      rw [em] at p
      intro x G' H' r' s' q
      refine hZ _ _ fun pa hp => ?_
      have fin : ∀ (G2 : Hp) (d : Dat), Rel F G2 c' σ H' → Same G' G2 → Rp F.K G2 x d → v.dat = d → Q (.ref pa) (upd H' pa (.tup [.str w, x])) := fun G2 d r2 s2 q2 e => by
        obtain ⟨r3, s3⟩ := r2.laid (o := .tup [.str w, x]) hp
        exact p _ _ _ r3 ((s'.trans s2).trans s3) (.tup (Evl.st_of upd_same) (.cons (.str w) (.cons (e ▸ dp_mono s3 q2) .nil)))
      cases v with
      | sh d => exact fin G' d r' (Same.refl _) q rfl
      | fr l =>
        obtain ⟨b, rfl, z⟩ := q
        obtain ⟨G2, r2, s2, q2⟩ := r'.freeze z
        exact fin G2 _ r2 s2 q2 rfl
    | exc k d c' =>
      rw [em] at p
      intro ad v G' H' r' s' hx q
      cases ef : findK k l with
      | none => simp only [ef] at p; exact p.elim
      | some u =>
        simp only [ef] at p
        refine tell_of hx (fun pa hp => ?_) hts ef
        obtain ⟨r3, s3⟩ := r'.laid (o := .tup [.str u, v, .bl true]) hp
        exact p _ _ _ r3 (s'.trans s3) (.tup (Evl.st_of upd_same) (.cons (.str u) (.cons (dp_mono s3 q) (.cons (.bl true) .nil))))
    | bad =>
      rw [em] at p
      exact p
end
end Pn

set_option maxHeartbeats 1000001
/-! the rules again, with what a text gives by itself found by itself -/
namespace Pn
open L2 PyProof.Rows PySem.Spec PySem
section
variable {P : Program} {w : World} {K : PySem.W.Frag} {mg : Str → Option Value} {base : Heap} {N : List Str} {qual : Str} {scope : Scope} {f : Addr} {cd : Value} {A : Around} {outer : List Env} {s : Shared} {H : Hp} {E : XK}
theorem tkC : Takes (cxOf (L2.CX P w) P w K mg base N qual scope f cd A outer s H E) (fun cls d _ H => E cls d H) := takes_of rfl rfl rfl rfl
theorem poC : PassesOwn (model P w) (cxOf (L2.CX P w) P w K mg base N qual scope f cd A outer s H E).A (cxOf (L2.CX P w) P w K mg base N qual scope f cd A outer s H E).env (cxOf (L2.CX P w) P w K mg base N qual scope f cd A outer s H E).xe := passes_of rfl
end
section
variable {F : Fr} {W : L2.WX} {σ : L2.St} {H : Hp} {X : Cx} {D : Ends}
theorem v_ (i : Nat) {x : Str} {pos : Pos} (hN : X.N[i]? = some x := by rfl) (hv : Vis X.env.scope x := by first | exact Or.inl rfl | exact Or.inr (Or.inl rfl) | exact Or.inr (Or.inr rfl)) (hd : (x == ("__debug__" : Str)) = false := by decide) (hcd : (x == ("__classdict__" : Str)) = false := by decide) : PE X (.Name x pos) (Pn.E F W (rd i)) := e_var hN hv hd hcd
theorem rv_ (i : Nat) {x : Str} {pos : Pos} (hN : X.N[i]? = some x := by rfl) (hv : Vis X.env.scope x := by first | exact Or.inl rfl | exact Or.inr (Or.inl rfl) | exact Or.inr (Or.inr rfl)) (hd : (x == ("__debug__" : Str)) = false := by decide) (hcd : (x == ("__classdict__" : Str)) = false := by decide) : PE X (.Name x pos) (R_ F W (rowVar i)) := r_var hN hv hd hcd
theorem out_ (i : Nat) {x : Str} {pos : Pos} (hN : X.N[i]? = some x := by rfl) (hv : Vis X.env.scope x := by first | exact Or.inl rfl | exact Or.inr (Or.inl rfl)) (hd : (x == ("__debug__" : Str)) = false := by decide) (hcd : (x == ("__classdict__" : Str)) = false := by decide) : PE X (.Name x pos) (EX F W (outV i)) := e_out hN hv hd hcd
theorem g_ {x : Str} {d : Dat} {pos : Pos} (h : GloD X.K X.mg x d) (hK : F.K = X.K := by rfl) (hg : Gl X x := by rfl) (hd : (x == ("__debug__" : Str)) = false := by decide) : PE X (.Name x pos) (Pn.E F W (ret d)) := e_glo hK hg h hd
theorem len_ {m : M Row} {a : Expr} {p pos : Pos} (hm : X.mg "len" = none) (ha : PE X a (R_ F W m)) (hK : F.K = X.K := by rfl) (hg : Gl X "len" := by rfl) (he : starEach [a] X.env = (false, eval a X.env) :: starEach [] X.env := by rfl) : PE X (.Call (.Name "len" p) [a] [] pos) (Pn.E F W (M.bind m lenR)) := e_len hK hg hm ha he
theorem tuple_ {m : M Row} {a : Expr} {p pos : Pos} (hm : X.mg "tuple" = none) (ha : PE X a (R_ F W m)) (hK : F.K = X.K := by rfl) (hg : Gl X "tuple" := by rfl) (he : starEach [a] X.env = (false, eval a X.env) :: starEach [] X.env := by rfl) : PE X (.Call (.Name "tuple" p) [a] [] pos) (Pn.E F W (M.bind m tupR)) := e_tuple hK hg hm ha he
theorem list_ {m : M Row} {a : Expr} {p pos : Pos} (hm : X.mg "list" = none) (ha : PE X a (R_ F W m)) (hK : F.K = X.K := by rfl) (hg : Gl X "list" := by rfl) (he : starEach [a] X.env = (false, eval a X.env) :: starEach [] X.env := by rfl) : PE X (.Call (.Name "list" p) [a] [] pos) (EX F W (M.bind m lstR)) := e_list hK hg hm ha he
theorem int_ {m : M Dat} {a : Expr} {p pos : Pos} (hm : X.mg "int" = none) (ha : PE X a (Pn.E F W m)) (hg : Gl X "int" := by rfl) (he : starEach [a] X.env = (false, eval a X.env) :: starEach [] X.env := by rfl) : PE X (.Call (.Name "int" p) [a] [] pos) (Pn.E F W (M.bind m intR)) := e_intC hg hm ha he
theorem all_ {m : M Row} {a : Expr} {p pos : Pos} (hm : X.mg "all" = none) (ha : PE X a (R_ F W m)) (hK : F.K = X.K := by rfl) (hc : X.calm = true := by rfl) (hg : Gl X "all" := by rfl) (he : starEach [a] X.env = (false, eval a X.env) :: starEach [] X.env := by rfl) : PE X (.Call (.Name "all" p) [a] [] pos) (Pn.E F W (M.bind m allR)) := e_all hK hc hg hm ha he
theorem isi_ {m : M Dat} {a : Expr} {T : Str} (T' : String) {p p2 pos : Pos} (hm : X.mg "isinstance" = none) (hmT : X.mg T = none) (ha : PE X a (Pn.E F W m)) (hvT : bootBuiltins T = some (.type T') := by decide +kernel) (hT : T' ∈ (["bool", "int", "str", "list", "tuple"] : List String) := by decide) (hnT : T ≠ "__name__" := by decide) (hdT : (T == ("__debug__" : Str)) = false := by decide) (hK : F.K = X.K := by rfl) (hg : Gl X "isinstance" := by rfl) (hgT : Gl X T := by rfl)
    (h1 : starEach [a, .Name T p2] X.env = (false, eval a X.env) :: starEach [.Name T p2] X.env := by rfl) (h2 : starEach [.Name T p2] X.env = (false, eval (.Name T p2) X.env) :: starEach [] X.env := by rfl) : PE X (.Call (.Name "isinstance" p) [a, .Name T p2] [] pos) (Pn.E F W (M.bind m (isiR T'))) := e_isi hK hg hm hgT hmT hvT hT hnT hdT ha h1 h2
theorem eq_ {a b : Expr} {ma mb : M Dat} {pos : Pos} (hu : X.A.units + 64 < cLine) (ha : PE X a (Pn.E F W ma)) (hb : PE X b (Pn.E F W mb)) (hK : F.K = X.K := by rfl) : PE X (.Compare a [.Eq] [b] pos) (Pn.E F W (m2 eqD ma mb)) := e_eq hK hu ha hb
theorem ne_ {a b : Expr} {ma mb : M Dat} {pos : Pos} (hu : X.A.units + 64 < cLine) (ha : PE X a (Pn.E F W ma)) (hb : PE X b (Pn.E F W mb)) (hK : F.K = X.K := by rfl) : PE X (.Compare a [.NotEq] [b] pos) (Pn.E F W (m2 neD ma mb)) := e_ne hK hu ha hb
theorem in_ {a b : Expr} {ma : M Dat} {mb : M Row} {pos : Pos} (ha : PE X a (Pn.E F W ma)) (hb : PE X b (R_ F W mb)) (hK : F.K = X.K := by rfl) (hm : behindInMarks .In b = false := by rfl) : PE X (.Compare a [.In] [b] pos) (Pn.E F W (inM false ma mb)) := e_in hK op_in_seq ha hb hm
theorem nin_ {a b : Expr} {ma : M Dat} {mb : M Row} {pos : Pos} (ha : PE X a (Pn.E F W ma)) (hb : PE X b (R_ F W mb)) (hK : F.K = X.K := by rfl) (hm : behindInMarks .NotIn b = false := by rfl) : PE X (.Compare a [.NotIn] [b] pos) (Pn.E F W (inM true ma mb)) := e_in hK op_notIn_seq ha hb hm
theorem ix_ {a b : Expr} {ma mb : M Dat} {pos : Pos} (ha : PE X a (Pn.E F W ma)) (hb : PE X b (Pn.E F W mb)) (hK : F.K = X.K := by rfl) (hs : PlainIx b := by intro _ _; rfl) : PE X (.Subscript a b pos) (Pn.E F W (ixD ma mb)) := e_ix hK ha hb hs
theorem cat_ {a b : Expr} {ma mb : M Dat} {pos : Pos} (ha : PE X a (Pn.E F W ma)) (hb : PE X b (Pn.E F W mb)) (hK : F.K = X.K := by rfl) : PE X (.BinOp a .Add b pos) (EX F W (M.bind ma fun x => M.bind mb fun y => catD x y)) := e_cat hK ha hb
theorem nrow_ {a : Expr} {m : M Row} {pos : Pos} (h : PE X a (R_ F W m)) (hK : F.K = X.K := by rfl) : PE X (.UnaryOp .Not a pos) (Pn.E F W (nrowV m)) := e_nrow hK h
theorem trow_ {a : Expr} {m : M Row} (h : PE X a (R_ F W m)) (hK : F.K = X.K := by rfl) (he : ∀ whole, isTrue a X.env whole = (do let v ← whole; standAt a.pos; holding [v] (truthy v)) := by intro _; rfl) : PT X a (B F W (M.bind m truR)) := t_row hK h he
theorem call_ {k n j : Nat} {g : List Dat → PR} {x : Str} {p pos : Pos} {e : Expr} {es : List Expr} {ms : M (List Dat)} (Z : Has X.prog X.w X.K X.mg X.base F.C x k n g) (hr : Room j X.A) (tk : Takes X W) (ha : PA X (e :: es) (Pn.A F W ms)) (hkj : k ≤ j := by decide) (hlen : (e :: es).length = n := by rfl) (hK : F.K = X.K := by rfl) (hg : Gl X x := by rfl)
    (hdb : (x == ("__debug__" : Str)) = false := by decide) (he : starEach (e :: es) X.env = (false, eval e X.env) :: starEach es X.env := by rfl) (hpl : (backTo pos (starEach es X.env)).any (·.1) = false := by rfl) : PE X (.Call (.Name x p) (e :: es) [] pos) (EX F W (callN n g ms)) := e_callH hK Z hr hkj hg tk ha hlen hdb he hpl
theorem as_ (i : Nat) {x : Str} {e : Expr} {m : M RV} {pos pos' : Pos} (hN : X.N.Nodup) (h : PE X e (EX F W m)) (hi : X.N[i]? = some x := by rfl) (hx : Loc X.env.scope x := by first | exact Or.inl rfl | exact Or.inr rfl) (hs : swapsWith e (some (.Name x pos')) pos.line X.env = pure false := by rfl)
    (hf : X.fn x = true ∨ X.env.scope.names.lookup x = some .local := by first | exact .inl rfl | exact .inr rfl) : PS X (.Assign [.Name x pos'] e pos) (T F W (M.bind m (asg i))) := s_asg hN hi hx h hs hf
theorem tn_ (i : Nat) {x : Str} {pos : Pos} (hN : X.N.Nodup) (hi : X.N[i]? = some x := by rfl) (hx : Loc X.env.scope x := by first | exact Or.inl rfl | exact Or.inr rfl) (hf : X.fn x = true ∨ X.env.scope.names.lookup x = some .local := by first | exact .inl rfl | exact .inr rfl) : Tgt X F (.Name x pos) [i] (put i) := tg_name hN hi hx hf
/-- a comprehension over one name, without a test -/
theorem lc1_ (N' : List Str) (sc' : Scope) (hN : X.N.Nodup) (i : Nat) {x : Str} {elt iter : Expr} {scope : Scope} {pos np : Pos} {mi : M (List Dat)} {me : M Dat} (hi : PI X (.Name x np) iter (I_ F W mi)) (he : ∀ (s : Shared) (H : Hp) (C : Addr) (cl : List (Str × Addr)) (fp : List Addr) (ps : List (Addr × HO)), PE (X.blk s H scope (compEnvC scope cl C X.env) fp) elt (Pn.E (F.pn ps) W0 me))
    (ok : BlkOk N' sc' scope [(x, i)] := by exact ⟨rfl, by decide +kernel, by decide +kernel, by decide +kernel, by decide +kernel⟩) (eN : X.N = N' := by rfl) (eS : X.env.scope = sc' := by rfl) (hc : X.calm = true := by rfl) (hx : X.N[i]? = some x := by rfl) (hl : ∀ (s : Shared) (H : Hp) (C : Addr) (cl : List (Str × Addr)) (fp : List Addr), (X.blk s H scope (compEnvC scope cl C X.env) fp).env.scope.names.lookup x = some .local := by intro _ _ _ _ _; rfl) (hs : ∀ x, foldedSetIterable iter X.env x = pure x := by intro _; rfl) : PE X (.ListComp elt [⟨.Name x np, iter, [], 0⟩] scope pos) (EX F W (M.bind mi (lcM [i] (put i) (ret true) me))) :=
  e_lc (own := [(x, i)]) hc hN hi (eN ▸ eS ▸ ok) (fun s H C cl fp => pg_name (X := X.blk s H scope (compEnvC scope cl C X.env) fp) hN hx (.inl (hl s H C cl fp)) (.inr (hl s H C cl fp))) (fun ps => gok_name) (fun j hj => by simpa using hj) (fun s H C cl fp => pts_nil) (fun ps σ H Q h => noif ps σ H Q h) he hs
/-- .. over several names -/
theorem lcT_ (N' : List Str) (sc' : Scope) (own : List (Str × Nat)) (hN : X.N.Nodup) {elt tg iter : Expr} {ifs : List Expr} {scope : Scope} {pos : Pos} {mi : M (List Dat)} {is : List Nat} {g : TG} {b : Dat → Cfg → Option Cfg} {mt : M Bool} {me : M Dat} {tt : TT} (hi : PI X tg iter (I_ F W mi))
    (hg : ∀ (s : Shared) (H : Hp) (C : Addr) (cl : List (Str × Addr)) (fp : List Addr), PG (X.blk s H scope (compEnvC scope cl C X.env) fp) tg g) (hgk : ∀ ps, GOk (F.pn ps) g is b)
    (ht : ∀ (s : Shared) (H : Hp) (C : Addr) (cl : List (Str × Addr)) (fp : List Addr), PTs (X.blk s H scope (compEnvC scope cl C X.env) fp) ifs tt) (htt : ∀ ps σ H Q, B (F.pn ps) W0 mt σ H Q → tt σ H Q)
    (he : ∀ (s : Shared) (H : Hp) (C : Addr) (cl : List (Str × Addr)) (fp : List Addr) (ps : List (Addr × HO)), PE (X.blk s H scope (compEnvC scope cl C X.env) fp) elt (Pn.E (F.pn ps) W0 me))
    (his : ∀ i ∈ is, i ∈ own.map (·.2) := by decide) (ok : BlkOk N' sc' scope own := by exact ⟨rfl, by decide +kernel, by decide +kernel, by decide +kernel, by decide +kernel⟩) (eN : X.N = N' := by rfl) (eS : X.env.scope = sc' := by rfl) (hc : X.calm = true := by rfl) (hs : ∀ x, foldedSetIterable iter X.env x = pure x := by intro _; rfl) :
    PE X (.ListComp elt [⟨tg, iter, ifs, 0⟩] scope pos) (EX F W (M.bind mi (lcM (own.map (·.2)) b mt me))) := e_lc hc hN hi (eN ▸ eS ▸ ok) hg hgk his ht htt he hs
/-- .. with one test -/
theorem lcI_ (N' : List Str) (sc' : Scope) (own : List (Str × Nat)) (hN : X.N.Nodup) {elt tg iter tst : Expr} {scope : Scope} {pos : Pos} {mi : M (List Dat)} {is : List Nat} {g : TG} {b : Dat → Cfg → Option Cfg} {mt : M Bool} {me : M Dat} (hi : PI X tg iter (I_ F W mi))
    (hg : ∀ (s : Shared) (H : Hp) (C : Addr) (cl : List (Str × Addr)) (fp : List Addr), PG (X.blk s H scope (compEnvC scope cl C X.env) fp) tg g) (hgk : ∀ ps, GOk (F.pn ps) g is b)
    (ht : ∀ (s : Shared) (H : Hp) (C : Addr) (cl : List (Str × Addr)) (fp : List Addr) (ps : List (Addr × HO)), PT (X.blk s H scope (compEnvC scope cl C X.env) fp) tst (B (F.pn ps) W0 mt))
    (he : ∀ (s : Shared) (H : Hp) (C : Addr) (cl : List (Str × Addr)) (fp : List Addr) (ps : List (Addr × HO)), PE (X.blk s H scope (compEnvC scope cl C X.env) fp) elt (Pn.E (F.pn ps) W0 me))
    (his : ∀ i ∈ is, i ∈ own.map (·.2) := by decide) (ok : BlkOk N' sc' scope own := by exact ⟨rfl, by decide +kernel, by decide +kernel, by decide +kernel, by decide +kernel⟩) (eN : X.N = N' := by rfl) (eS : X.env.scope = sc' := by rfl) (hc : X.calm = true := by rfl) (hs : ∀ x, foldedSetIterable iter X.env x = pure x := by intro _; rfl) :
    PE X (.ListComp elt [⟨tg, iter, [tst], 0⟩] scope pos) (EX F W (M.bind mi (lcM (own.map (·.2)) b mt me))) :=
  e_lc (tt := fun σ H Q => ∃ ps, B (F.pn ps) W0 mt σ H Q) hc hN hi (eN ▸ eS ▸ ok) hg hgk his (fun s H C cl fp => pts_one ⟨fun pins s2 σ H2 Q I ⟨ps, z⟩ => (ht s H C cl fp ps).run pins s2 σ H2 Q I z⟩) (fun ps σ H Q z => ⟨ps, z⟩) he hs
theorem asLco_ (N' : List Str) (sc' : Scope) (own : List (Str × Nat)) (hN : X.N.Nodup) (i : Nat) {y : Str} {py spos : Pos} {elt tg iter : Expr} {scope : Scope} {pos : Pos} {mi : M (List Dat)} {is : List Nat} {g : TG} {b : Dat → Cfg → Option Cfg} {me : M Dat} (hi : PI X tg iter (I_ F W mi))
    (hg : ∀ (s : Shared) (H : Hp) (C : Addr) (cl : List (Str × Addr)) (fp : List Addr), PG (X.blk s H scope (compEnvC scope cl C X.env) fp) tg g) (hgk : ∀ ps, GOk (F.pn ps) g is b)
    (he : ∀ (s : Shared) (H : Hp) (C : Addr) (cl : List (Str × Addr)) (fp : List Addr) (ps : List (Addr × HO)), PE (X.blk s H scope (compEnvC scope cl C X.env) fp) elt (Pn.E (F.pn ps) W0 me))
    (his : ∀ i ∈ is, i ∈ own.map (·.2) := by decide) (ok : BlkOk N' sc' scope own := by exact ⟨rfl, by decide +kernel, by decide +kernel, by decide +kernel, by decide +kernel⟩) (eN : X.N = N' := by rfl) (eS : X.env.scope = sc' := by rfl) (hc : X.calm = true := by rfl) (hy : X.N[i]? = some y := by rfl) (hyl : X.env.scope.names.lookup y = some .local := by rfl)
    (hsw : swapsWith (.ListComp elt [⟨tg, iter, [], 0⟩] scope pos) (some (.Name y py)) spos.line X.env = pure true := by exact sw_true rfl rfl rfl rfl) (hs : ∀ x, foldedSetIterable iter X.env x = pure x := by intro _; rfl) :
    PS X (.Assign [.Name y py] (.ListComp elt [⟨tg, iter, [], 0⟩] scope pos) spos) (T F W (M.bind (M.bind mi (lcM (own.map (·.2)) b (ret true) me)) (asg i))) :=
  s_asgLc hc hN hy hyl hsw hi (eN ▸ eS ▸ ok) hg hgk his (fun s H C cl fp => pts_nil) (fun ps σ H Q h => noif ps σ H Q h) he hs
theorem asLcIo_ (N' : List Str) (sc' : Scope) (own : List (Str × Nat)) (hN : X.N.Nodup) (i : Nat) {y : Str} {py spos : Pos} {elt tg iter tst : Expr} {scope : Scope} {pos : Pos} {mi : M (List Dat)} {is : List Nat} {g : TG} {b : Dat → Cfg → Option Cfg} {mt : M Bool} {me : M Dat} (hi : PI X tg iter (I_ F W mi))
    (hg : ∀ (s : Shared) (H : Hp) (C : Addr) (cl : List (Str × Addr)) (fp : List Addr), PG (X.blk s H scope (compEnvC scope cl C X.env) fp) tg g) (hgk : ∀ ps, GOk (F.pn ps) g is b)
    (ht : ∀ (s : Shared) (H : Hp) (C : Addr) (cl : List (Str × Addr)) (fp : List Addr) (ps : List (Addr × HO)), PT (X.blk s H scope (compEnvC scope cl C X.env) fp) tst (B (F.pn ps) W0 mt))
    (he : ∀ (s : Shared) (H : Hp) (C : Addr) (cl : List (Str × Addr)) (fp : List Addr) (ps : List (Addr × HO)), PE (X.blk s H scope (compEnvC scope cl C X.env) fp) elt (Pn.E (F.pn ps) W0 me))
    (his : ∀ i ∈ is, i ∈ own.map (·.2) := by decide) (ok : BlkOk N' sc' scope own := by exact ⟨rfl, by decide +kernel, by decide +kernel, by decide +kernel, by decide +kernel⟩) (eN : X.N = N' := by rfl) (eS : X.env.scope = sc' := by rfl) (hc : X.calm = true := by rfl) (hy : X.N[i]? = some y := by rfl) (hyl : X.env.scope.names.lookup y = some .local := by rfl)
    (hsw : swapsWith (.ListComp elt [⟨tg, iter, [tst], 0⟩] scope pos) (some (.Name y py)) spos.line X.env = pure true := by exact sw_true rfl rfl rfl rfl) (hs : ∀ x, foldedSetIterable iter X.env x = pure x := by intro _; rfl) :
    PS X (.Assign [.Name y py] (.ListComp elt [⟨tg, iter, [tst], 0⟩] scope pos) spos) (T F W (M.bind (M.bind mi (lcM (own.map (·.2)) b mt me)) (asg i))) :=
  s_asgLc (tt := fun σ H Q => ∃ ps, B (F.pn ps) W0 mt σ H Q) hc hN hy hyl hsw hi (eN ▸ eS ▸ ok) hg hgk his (fun s H C cl fp => pts_one ⟨fun pins s2 σ H2 Q I ⟨ps, z⟩ => (ht s H C cl fp ps).run pins s2 σ H2 Q I z⟩) (fun ps σ H Q z => ⟨ps, z⟩) he hs
theorem asLcf_ (N' : List Str) (sc' : Scope) (own : List (Str × Nat)) (hN : X.N.Nodup) (i : Nat) {y : Str} {py spos : Pos} {elt tg iter : Expr} {scope : Scope} {pos : Pos} {mi : M (List Dat)} {is : List Nat} {g : TG} {b : Dat → Cfg → Option Cfg} {me : M Dat} (hi : PI X tg iter (I_ F W mi))
    (hg : ∀ (s : Shared) (H : Hp) (C : Addr) (cl : List (Str × Addr)) (fp : List Addr), PG (X.blk s H scope (compEnvC scope cl C X.env) fp) tg g) (hgk : ∀ ps, GOk (F.pn ps) g is b)
    (he : ∀ (s : Shared) (H : Hp) (C : Addr) (cl : List (Str × Addr)) (fp : List Addr) (ps : List (Addr × HO)), PE (X.blk s H scope (compEnvC scope cl C X.env) fp) elt (Pn.E (F.pn ps) W0 me))
    (his : ∀ i ∈ is, i ∈ own.map (·.2) := by decide) (ok : BlkOk N' sc' scope own := by exact ⟨rfl, by decide +kernel, by decide +kernel, by decide +kernel, by decide +kernel⟩) (eN : X.N = N' := by rfl) (eS : X.env.scope = sc' := by rfl) (hc : X.calm = true := by rfl) (hy : X.N[i]? = some y := by rfl) (hyl : X.env.scope.names.lookup y = some .local := by rfl)
    (hsw : swapsWith (.ListComp elt [⟨tg, iter, [], 0⟩] scope pos) (some (.Name y py)) spos.line X.env = pure true := by exact sw_true rfl rfl rfl rfl) (hs : ∀ x, foldedSetIterable iter X.env x = pure x := by intro _; rfl) :
    PS X (.Assign [.Name y py] (.ListComp elt [⟨tg, iter, [], 0⟩] scope pos) spos) (T F W (M.bind (asx (frz (M.bind mi (lcM (own.map (·.2)) b (ret true) me)))) (asg i))) :=
  s_asgLcF hc hN hy hyl hsw hi (eN ▸ eS ▸ ok) hg hgk his (fun s H C cl fp => pts_nil) (fun ps σ H Q h => noif ps σ H Q h) he hs
theorem asLcIf_ (N' : List Str) (sc' : Scope) (own : List (Str × Nat)) (hN : X.N.Nodup) (i : Nat) {y : Str} {py spos : Pos} {elt tg iter tst : Expr} {scope : Scope} {pos : Pos} {mi : M (List Dat)} {is : List Nat} {g : TG} {b : Dat → Cfg → Option Cfg} {mt : M Bool} {me : M Dat} (hi : PI X tg iter (I_ F W mi))
    (hg : ∀ (s : Shared) (H : Hp) (C : Addr) (cl : List (Str × Addr)) (fp : List Addr), PG (X.blk s H scope (compEnvC scope cl C X.env) fp) tg g) (hgk : ∀ ps, GOk (F.pn ps) g is b)
    (ht : ∀ (s : Shared) (H : Hp) (C : Addr) (cl : List (Str × Addr)) (fp : List Addr) (ps : List (Addr × HO)), PT (X.blk s H scope (compEnvC scope cl C X.env) fp) tst (B (F.pn ps) W0 mt))
    (he : ∀ (s : Shared) (H : Hp) (C : Addr) (cl : List (Str × Addr)) (fp : List Addr) (ps : List (Addr × HO)), PE (X.blk s H scope (compEnvC scope cl C X.env) fp) elt (Pn.E (F.pn ps) W0 me))
    (his : ∀ i ∈ is, i ∈ own.map (·.2) := by decide) (ok : BlkOk N' sc' scope own := by exact ⟨rfl, by decide +kernel, by decide +kernel, by decide +kernel, by decide +kernel⟩) (eN : X.N = N' := by rfl) (eS : X.env.scope = sc' := by rfl) (hc : X.calm = true := by rfl) (hy : X.N[i]? = some y := by rfl) (hyl : X.env.scope.names.lookup y = some .local := by rfl)
    (hsw : swapsWith (.ListComp elt [⟨tg, iter, [tst], 0⟩] scope pos) (some (.Name y py)) spos.line X.env = pure true := by exact sw_true rfl rfl rfl rfl) (hs : ∀ x, foldedSetIterable iter X.env x = pure x := by intro _; rfl) :
    PS X (.Assign [.Name y py] (.ListComp elt [⟨tg, iter, [tst], 0⟩] scope pos) spos) (T F W (M.bind (asx (frz (M.bind mi (lcM (own.map (·.2)) b mt me)))) (asg i))) :=
  s_asgLcF (tt := fun σ H Q => ∃ ps, B (F.pn ps) W0 mt σ H Q) hc hN hy hyl hsw hi (eN ▸ eS ▸ ok) hg hgk his (fun s H C cl fp => pts_one ⟨fun pins s2 σ H2 Q I ⟨ps, z⟩ => (ht s H C cl fp ps).run pins s2 σ H2 Q I z⟩) (fun ps σ H Q z => ⟨ps, z⟩) he hs
/-- a name of a comprehension's own -/
theorem pgn_ (i : Nat) {x : Str} {pos : Pos} (hN : X.N.Nodup) (hi : X.N[i]? = some x := by rfl) (hl : X.env.scope.names.lookup x = some .local := by rfl) : PG X (.Name x pos) (gName i) := pg_name hN hi (.inl hl) (.inr hl)
/-! ### comparisons as tests -/
theorem asT {α : Type} {m : M Dat} {Q : Bool → Hp → Prop} (h : B F W (toB m) σ H Q) : Pn.E F W m σ H (fun x H' => ∃ k, x = .bl k ∧ Q k H') :=
  sx_mono (sx_bind (R1 := RD F) h) fun x H1 ⟨a, G1, c1, r1, q, p⟩ => by
    cases q with
    | bl b => exact ⟨b, rfl, po_ret r1 p rfl⟩
    | _ => exact p.elim
theorem t_cmp {op : CmpOp} {a b : Expr} {ma mb : M Dat} {pos : Pos} {r : R2} {f : Dat → Dat → M Dat} (ho : OpR X (compareOp op) r)
    (hf : ∀ {G H : Hp} {c : Cfg} {x y : V} {d e : Dat} {Q : VK} {σ : L2.St}, Rel F G c σ H → Rp F.K G x d → Rp F.K G y e → Po F W σ (RD F) Q G (f d e c) → r x y H Q)
    (hm : behindInMarks op b = false) (ha : PE X a (Pn.E F W ma)) (hb : PE X b (Pn.E F W mb)) : PT X (.Compare a [op] [b] pos) (B F W (toB (m2 f ma mb))) :=
  (pt_cmpR ho ha hb hm).mono fun σ H Q h => sx_mono (sx_bind2 (asT (α := Unit) h)) fun x H1 h1 => sx_mono h1 fun y H2 ⟨d, e, G2, c2, r2, q1, q2, p⟩ => hf r2 q1 q2 p
section
variable {a b : Expr} {ma mb : M Dat} {pos : Pos}
theorem t_lt (ha : PE X a (Pn.E F W ma)) (hb : PE X b (Pn.E F W mb)) : PT X (.Compare a [.Lt] [b] pos) (B F W (toB (m2 ltI ma mb))) := t_cmp op_lt (hf_int0 fun i j => .bl _) (nomark _) ha hb
theorem t_le (ha : PE X a (Pn.E F W ma)) (hb : PE X b (Pn.E F W mb)) : PT X (.Compare a [.LtE] [b] pos) (B F W (toB (m2 leI ma mb))) := t_cmp op_le (hf_int0 fun i j => .bl _) (nomark _) ha hb
theorem t_gt (ha : PE X a (Pn.E F W ma)) (hb : PE X b (Pn.E F W mb)) : PT X (.Compare a [.Gt] [b] pos) (B F W (toB (m2 gtI ma mb))) := t_cmp op_gt (hf_int0 fun i j => .bl _) (nomark _) ha hb
theorem t_ge (ha : PE X a (Pn.E F W ma)) (hb : PE X b (Pn.E F W mb)) : PT X (.Compare a [.GtE] [b] pos) (B F W (toB (m2 geI ma mb))) := t_cmp op_ge (hf_int0 fun i j => .bl _) (nomark _) ha hb
theorem teq_ (hu : X.A.units + 64 < cLine) (ha : PE X a (Pn.E F W ma)) (hb : PE X b (Pn.E F W mb)) (hK : F.K = X.K := by rfl) : PT X (.Compare a [.Eq] [b] pos) (B F W (toB (m2 eqD ma mb))) := t_cmp (op_eqD hu) (hf_eq hK) (nomark _) ha hb
theorem tne_ (hu : X.A.units + 64 < cLine) (ha : PE X a (Pn.E F W ma)) (hb : PE X b (Pn.E F W mb)) (hK : F.K = X.K := by rfl) : PT X (.Compare a [.NotEq] [b] pos) (B F W (toB (m2 neD ma mb))) := t_cmp (op_neD hu) (hf_ne hK) (nomark _) ha hb
theorem t_inG {op : CmpOp} {neg : Bool} {mb : M Row} (hK : F.K = X.K) (ho : OpR X (compareOp op) (rIn X.K neg)) (ha : PE X a (Pn.E F W ma)) (hb : PE X b (R_ F W mb)) (hm : behindInMarks op b = false) : PT X (.Compare a [op] [b] pos) (B F W (toB (inM neg ma mb))) :=
  (pt_cmpR ho ha hb hm).mono fun σ H Q h => sx_mono (sx_bind (R1 := RD F) (asT (α := Unit) h)) fun x H1 ⟨d, G1, c1, r1, q, p⟩ => sx_mono (po_bind (R1 := RR F) r1 p) fun y H2 ⟨k, G2, c2, r2, s2, q2, p2⟩ => hf_in hK r2 (dp_mono s2 q) q2 p2
theorem tin_ {mb : M Row} (ha : PE X a (Pn.E F W ma)) (hb : PE X b (R_ F W mb)) (hK : F.K = X.K := by rfl) (hm : behindInMarks .In b = false := by rfl) : PT X (.Compare a [.In] [b] pos) (B F W (toB (inM false ma mb))) := t_inG hK op_in_seq ha hb hm
theorem tnin_ {mb : M Row} (ha : PE X a (Pn.E F W ma)) (hb : PE X b (R_ F W mb)) (hK : F.K = X.K := by rfl) (hm : behindInMarks .NotIn b = false := by rfl) : PT X (.Compare a [.NotIn] [b] pos) (B F W (toB (inM true ma mb))) := t_inG hK op_notIn_seq ha hb hm
end
theorem pop_ (i : Nat) {x : Str} {p apos cpos : Pos} (hN : X.N[i]? = some x := by rfl) (hv : Vis X.env.scope x := by first | exact Or.inl rfl | exact Or.inr (Or.inl rfl)) (hd : (x == ("__debug__" : Str)) = false := by decide) (hcd : (x == ("__classdict__" : Str)) = false := by decide)
    (hb : attributeBase (.Name x p) "pop" X.env (eval (.Name x p) X.env) = eval (.Name x p) X.env := by rfl) (hl : (apos.endLine == cpos.line) = true := by rfl) : PE X (.Call (.Attribute (.Name x p) "pop" apos) [] [] cpos) (Pn.E F W (popV i)) := e_pop hN hv hd hcd hb hl
theorem raise_ {k n : Nat} {x : Str} {e : Expr} {m : M Dat} {p pos pos' : Pos} (Z : ErrX X.prog X.w X.K X.mg X.base F.C k x) (hr : Room n X.A) (tk : Takes X W) (h : PE X e (Pn.E F W m)) (h2 : 2 ≤ n := by decide) (hK : F.K = X.K := by rfl) (hc : X.calm = true := by rfl) (hg : Gl X x := by rfl) (hdb : (x == ("__debug__" : Str)) = false := by decide)
    (he : starEach [e] X.env = (false, eval e X.env) :: starEach [] X.env := by rfl) : PS X (.Raise (some (.Call (.Name x p) [e] [] pos)) none pos') (T F W (M.bind m fun d => excM k d)) := s_raise hK hc tk Z (hr.mono h2) hg h hdb he
theorem io_ (i : Nat) {x : Str} {p : Pos} (hN : X.N[i]? = some x := by rfl) (hv : Vis X.env.scope x := by first | exact Or.inl rfl | exact Or.inr (Or.inl rfl)) (hd : (x == ("__debug__" : Str)) = false := by decide) (hcd : (x == ("__classdict__" : Str)) = false := by decide) (h2 : starEach [.Name x p] X.env = (false, eval (.Name x p) X.env) :: starEach [] X.env := by rfl) :
    PA X [.Name x p] (Sx F W (RAI F i) (ioArg i)) := a_io hN hv hd hcd h2
def callIM (i n : Nat) (g : List Dat → List Dat → DS → GR) (ms : M (List Dat)) : M RV := M.bind ms fun ds => if ds.length = n then callI i g ds else bad
theorem callI_ (i : Nat) {k n j : Nat} {g : List Dat → List Dat → DS → GR} {x : Str} {p pos : Pos} {e : Expr} {es : List Expr} {ms : M (List Dat)} (Z : HasG X.prog X.w X.K X.mg X.base F.C false true x k n g) (hr : Room j X.A) (tk : Takes X W) (ha : PA X (e :: es) (Sx F W (RAI F i) ms)) (hkj : k ≤ j := by decide) (hK : F.K = X.K := by rfl) (hg : Gl X x := by rfl)
    (hdb : (x == ("__debug__" : Str)) = false := by decide) (he : starEach (e :: es) X.env = (false, eval e X.env) :: starEach es X.env := by rfl) (hpl : (backTo pos (starEach es X.env)).any (·.1) = false := by rfl) : PE X (.Call (.Name x p) (e :: es) [] pos) (EX F W (callIM i n g ms)) := e_callI hK Z hr hkj hg tk ha hdb he hpl
theorem room2 {k : Nat} {A : Around} (r : Room k A) : A.units + 2 < cLine := by have := r.units; omega
def slM (m : M Dat) (l h : M (Option Int)) : M RV := M.bind m fun d => M.bind l fun lo => M.bind h fun hi => slD d lo hi
theorem sl_ {a : Expr} {lo hi : Option Expr} {ma : M Dat} {ml mh : M (Option Int)} {pos p2 : Pos} (ha : PE X a (Pn.E F W ma)) (hl : PO X lo (O_ F W ml)) (hh : PO X hi (O_ F W mh)) (hK : F.K = X.K := by rfl) : PE X (.Subscript a (.Slice lo hi none p2) pos) (EX F W (slM ma ml mh)) := e_slice hK ha hl hh
theorem setSort_ {m : M Row} {a : Expr} {p p2 pos pos2 : Pos} (hm : X.mg "sorted" = none) (hm2 : X.mg "set" = none) (ha : PE X a (R_ F W m)) (hK : F.K = X.K := by rfl) (hc : X.calm = true := by rfl) (hg : Gl X "sorted" := by rfl) (hg2 : Gl X "set" := by rfl)
    (he : starEach [a] X.env = (false, eval a X.env) :: starEach [] X.env := by rfl) (he2 : starEach [.Call (.Name "set" p2) [a] [] pos2] X.env = (false, eval (.Call (.Name "set" p2) [a] [] pos2) X.env) :: starEach [] X.env := by rfl)
    (hpl : (backTo pos (starEach [] X.env)).any (·.1) = false := by rfl) : PE X (.Call (.Name "sorted" p) [.Call (.Name "set" p2) [a] [] pos2] [] pos) (EX F W (M.bind m setSortR)) := e_setSort hK hc hg hm hg2 hm2 ha he he2 hpl
theorem setLen_ {m : M Row} {a : Expr} {p p2 pos pos2 : Pos} (hm : X.mg "len" = none) (hm2 : X.mg "set" = none) (ha : PE X a (R_ F W m)) (hK : F.K = X.K := by rfl) (hc : X.calm = true := by rfl) (hg : Gl X "len" := by rfl) (hg2 : Gl X "set" := by rfl)
    (he : starEach [a] X.env = (false, eval a X.env) :: starEach [] X.env := by rfl) (he2 : starEach [.Call (.Name "set" p2) [a] [] pos2] X.env = (false, eval (.Call (.Name "set" p2) [a] [] pos2) X.env) :: starEach [] X.env := by rfl)
    (hpl : (backTo pos (starEach [] X.env)).any (·.1) = false := by rfl) : PE X (.Call (.Name "len" p) [.Call (.Name "set" p2) [a] [] pos2] [] pos) (Pn.E F W (M.bind m setLenR)) := e_setLen hK hc hg hm hg2 hm2 ha he he2 hpl
theorem app_ (i : Nat) {x : Str} {e : Expr} {m : M Dat} {p apos cpos : Pos} (h : PE X e (Pn.E F W m)) (hN : X.N[i]? = some x := by rfl) (hv : Vis X.env.scope x := by first | exact Or.inl rfl | exact Or.inr (Or.inl rfl)) (hd : (x == ("__debug__" : Str)) = false := by decide) (hcd : (x == ("__classdict__" : Str)) = false := by decide)
    (hb : attributeBase (.Name x p) "append" X.env (eval (.Name x p) X.env) = eval (.Name x p) X.env := by rfl)
    (hf : ((backTo cpos (starEach [e] X.env)).all (fun x => !x.1) && (backToKw cpos (keywordEach [] X.env)).all (fun x => x.1.isSome) && decide (([e] : List Expr).length + ([] : List Keyword).length + (if ([] : List Keyword).isEmpty then 0 else 1) < 30)) = true := by rfl)
    (hl : (apos.endLine == cpos.line) = true := by rfl) (hs : starEach [e] X.env = (false, eval e X.env) :: starEach [] X.env := by rfl) (hp : (backTo cpos (starEach [] X.env)).any (·.1) = false := by rfl) :
    PE X (.Call (.Attribute (.Name x p) "append" apos) [e] [] cpos) (Pn.E F W (appV i m)) := e_app hN hv hd hcd h hb hf hl hs hp
theorem ext_ (i : Nat) {x : Str} {e : Expr} {m : M Row} {p apos cpos : Pos} (h : PE X e (R_ F W m)) (hN : X.N[i]? = some x := by rfl) (hv : Vis X.env.scope x := by first | exact Or.inl rfl | exact Or.inr (Or.inl rfl)) (hd : (x == ("__debug__" : Str)) = false := by decide) (hcd : (x == ("__classdict__" : Str)) = false := by decide)
    (hb : attributeBase (.Name x p) "extend" X.env (eval (.Name x p) X.env) = eval (.Name x p) X.env := by rfl)
    (hf : ((backTo cpos (starEach [e] X.env)).all (fun x => !x.1) && (backToKw cpos (keywordEach [] X.env)).all (fun x => x.1.isSome) && decide (([e] : List Expr).length + ([] : List Keyword).length + (if ([] : List Keyword).isEmpty then 0 else 1) < 30)) = true := by rfl)
    (hl : (apos.endLine == cpos.line) = true := by rfl) (hs : starEach [e] X.env = (false, eval e X.env) :: starEach [] X.env := by rfl) (hp : (backTo cpos (starEach [] X.env)).any (·.1) = false := by rfl) :
    PE X (.Call (.Attribute (.Name x p) "extend" apos) [e] [] cpos) (Pn.E F W (extV i m)) := e_ext hN hv hd hcd h hb hf hl hs hp
end
/-- where a def stands and how it binds -/
structure At (K : PySem.W.Frag) (mg : Str → Option Value) (x : Str) (f : Addr) (fd : FuncData) (ps : List Str) : Prop where
  m : mg x = some (.ref f)
  k : PySem.W.keepIn K (.ref f) = true
  b : Binds K fd ps []
theorem At.has {P : Program} {w : World} {K : PySem.W.Frag} {mg : Str → Option Value} {base : Heap} {C : Cls} {x : Str} {f : Addr} {fd : FuncData} {ps : List Str} {k n : Nat} {g : List Dat → PR} (a : At K mg x f fd ps) (hn : ps.length = n) (F : FnOk P w K mg base (L2.CX P w) k f fd ps (spP K C n g)) : Has P w K mg base C x k n g :=
  ⟨f, fd, ps, hn, F, a.m, a.k, a.b⟩
end Pn

set_option maxHeartbeats 1000001
/-! the state's rules again, two names at once -/
namespace Pn
open L2 PyProof.Rows PySem.Spec PySem
section
variable {F : Fr} {W : L2.WX} {σ : L2.St} {H : Hp} {X : Cx} {D : Ends}
theorem stAt_ (i : Nat) {j : Nat} {x : Str} {p p2 pos : Pos} {k : Nat} (hr : Room k X.A) (hN : X.N[i]? = some x := by rfl) (hv : Vis X.env.scope x := by first | exact Or.inl rfl | exact Or.inr (Or.inl rfl) | exact Or.inr (Or.inr rfl)) (hd : (x == ("__debug__" : Str)) = false := by decide) (hcd : (x == ("__classdict__" : Str)) = false := by decide) (hs : NoSl (.Constant (.str "at") j p2) := by intro _ _; rfl) :
    PE X (.Subscript (.Name x p) (.Constant (.str "at") j p2) pos) (Pn.E F W (stAt i)) := e_stAt (hu_of hr) hN hv hd hcd hs
theorem rst_ (b : Bool) (i : Nat) {j : Nat} {x y : Str} {p p2 pos : Pos} {k : Nat} (hr : Room k X.A) (hy : y = key3 b := by rfl) (hN : X.N[i]? = some x := by rfl) (hv : Vis X.env.scope x := by first | exact Or.inl rfl | exact Or.inr (Or.inl rfl) | exact Or.inr (Or.inr rfl)) (hd : (x == ("__debug__" : Str)) = false := by decide) (hcd : (x == ("__classdict__" : Str)) = false := by decide) (hs : NoSl (.Constant (.str (key3 b)) j p2) := by intro _ _; rfl) :
    PE X (.Subscript (.Name x p) (.Constant (.str y) j p2) pos) (R_ F W (stRow b i)) := hy ▸ r_st b (hu_of hr) hN hv hd hcd hs
theorem stIx_ (b : Bool) (i : Nat) {j : Nat} {x y : Str} {e : Expr} {m : M Dat} {p p2 pos pos2 : Pos} {k : Nat} (hr : Room k X.A) (he : PE X e (Pn.E F W m)) (hy : y = key3 b := by rfl) (hK : F.K = X.K := by rfl) (hN : X.N[i]? = some x := by rfl) (hv : Vis X.env.scope x := by first | exact Or.inl rfl | exact Or.inr (Or.inl rfl) | exact Or.inr (Or.inr rfl)) (hd : (x == ("__debug__" : Str)) = false := by decide) (hcd : (x == ("__classdict__" : Str)) = false := by decide) (hs : NoSl (.Constant (.str (key3 b)) j p2) := by intro _ _; rfl) (hs2 : PlainIx e := by intro _ _; rfl) :
    PE X (.Subscript (.Subscript (.Name x p) (.Constant (.str y) j p2) pos2) e pos) (Pn.E F W (stIx b i m)) := hy ▸ e_stIx b hK (hu_of hr) hN hv hd hcd he hs hs2
theorem sAt_ (i : Nat) {j : Nat} {x : Str} {e : Expr} {m : M Dat} {p p2 pos pos2 : Pos} {k : Nat} (hr : Room k X.A) (he : PE X e (Pn.E F W m)) (hN : X.N[i]? = some x := by rfl) (hv : Vis X.env.scope x := by first | exact Or.inl rfl | exact Or.inr (Or.inl rfl)) (hd : (x == ("__debug__" : Str)) = false := by decide) (hcd : (x == ("__classdict__" : Str)) = false := by decide)
    (ha : ∀ v, assign (.Subscript (.Name x p) (.Constant (.str "at") j p2) pos2) X.env v = (do
      let ov ← holding [v] (eval (.Name x p) X.env)
      let iv ← holding [v, ov] (eval (.Constant (.str "at") j p2) X.env)
      standAt pos2
      holding [v, ov, iv] (setItem ov iv (v))
      release [v, ov, iv] []) := by intro _; rfl)
    (hs : swapsWithSole [.Subscript (.Name x p) (.Constant (.str "at") j p2) pos2] e pos.line X.env = pure false := by rfl) (hw : swappedStores [.Subscript (.Name x p) (.Constant (.str "at") j p2) pos2] e X.env = pure none := by rfl) (h1 : (assignEach [.Subscript (.Name x p) (.Constant (.str "at") j p2) pos2] X.env).map (·.2) = [assign (.Subscript (.Name x p) (.Constant (.str "at") j p2) pos2) X.env] := by rfl) :
    PS X (.Assign [.Subscript (.Name x p) (.Constant (.str "at") j p2) pos2] e pos) (T F W (putAt i m)) := s_stAt (hu_of hr) hN hv hd hcd he ha hs hw h1
theorem sLeft_ (i : Nat) {j : Nat} {x : Str} {e k : Expr} {m mk : M Dat} {p p2 pos pos2 pos3 : Pos} {n : Nat} (hr : Room n X.A) (he : PE X e (Pn.E F W m)) (hk : PE X k (Pn.E F W mk)) (hN : X.N[i]? = some x := by rfl) (hv : Vis X.env.scope x := by first | exact Or.inl rfl | exact Or.inr (Or.inl rfl)) (hd : (x == ("__debug__" : Str)) = false := by decide) (hcd : (x == ("__classdict__" : Str)) = false := by decide) (hns : NoSl (.Constant (.str "lefts") j p2) := by intro _ _; rfl)
    (ha : ∀ v, assign (.Subscript (.Subscript (.Name x p) (.Constant (.str "lefts") j p2) pos3) k pos2) X.env v = (do
      let ov ← holding [v] (eval (.Subscript (.Name x p) (.Constant (.str "lefts") j p2) pos3) X.env)
      let iv ← holding [v, ov] (eval k X.env)
      standAt pos2
      holding [v, ov, iv] (setItem ov iv (v))
      release [v, ov, iv] []) := by intro _; rfl)
    (hs : swapsWithSole [.Subscript (.Subscript (.Name x p) (.Constant (.str "lefts") j p2) pos3) k pos2] e pos.line X.env = pure false := by rfl) (hw : swappedStores [.Subscript (.Subscript (.Name x p) (.Constant (.str "lefts") j p2) pos3) k pos2] e X.env = pure none := by rfl)
    (h1 : (assignEach [.Subscript (.Subscript (.Name x p) (.Constant (.str "lefts") j p2) pos3) k pos2] X.env).map (·.2) = [assign (.Subscript (.Subscript (.Name x p) (.Constant (.str "lefts") j p2) pos3) k pos2) X.env] := by rfl) :
    PS X (.Assign [.Subscript (.Subscript (.Name x p) (.Constant (.str "lefts") j p2) pos3) k pos2] e pos) (T F W (putLeft i m mk)) := s_stLeft (hu_of hr) hN hv hd hcd he hk hns ha hs hw h1
theorem ast_ (i : Nat) {x : Str} {p : Pos} {es : List Expr} {ms : M (List Dat)} (hs : PA X es (Pn.A F W ms)) (hN : X.N[i]? = some x := by rfl) (hv : Vis X.env.scope x := by first | exact Or.inl rfl | exact Or.inr (Or.inl rfl) | exact Or.inr (Or.inr rfl)) (hd : (x == ("__debug__" : Str)) = false := by decide) (hcd : (x == ("__classdict__" : Str)) = false := by decide) (h2 : starEach (.Name x p :: es) X.env = (false, eval (.Name x p) X.env) :: starEach es X.env := by rfl) :
    PA X (.Name x p :: es) (Sx F W (RAS F) (stArg i ms)) := a_st hN hv hd hcd hs h2
def callSM (n : Nat) (g : List Dat → List Dat → DS → GR) (ms : M (List Dat)) : M RV := M.bind ms fun ds => if ds.length = n then callS g ds else bad
theorem callS_ {k n j : Nat} {g : List Dat → List Dat → DS → GR} {x : Str} {p pos : Pos} {e : Expr} {es : List Expr} {ms : M (List Dat)} (Z : HasG X.prog X.w X.K X.mg X.base F.C true false x k n g) (hr : Room j X.A) (tk : Takes X W) (ha : PA X (e :: es) (Sx F W (RAS F) ms)) (hkj : k ≤ j := by decide) (hK : F.K = X.K := by rfl) (hg : Gl X x := by rfl)
    (hdb : (x == ("__debug__" : Str)) = false := by decide) (he : starEach (e :: es) X.env = (false, eval e X.env) :: starEach es X.env := by rfl) (hpl : (backTo pos (starEach es X.env)).any (·.1) = false := by rfl) : PE X (.Call (.Name x p) (e :: es) [] pos) (EX F W (callSM n g ms)) := e_callS hK Z hr hkj hg tk ha hdb he hpl
/-- a, b = x, y -/
def parM (i j : Nat) (ms : M (List Dat)) : M Ctl := M.bind ms fun ds c => match ds with
  | [d, e] => (match put i d c with
    | none => .bad
    | some c1 => match put j e c1 with
      | none => .bad
      | some c2 => .ok .nx c2)
  | _ => .bad
theorem par_ (i j : Nat) {x y : Str} {a b : Expr} {ms : M (List Dat)} {px py pt pos : Pos} {kt k2 : Nat} {pt2 : Pos} (hN : X.N.Nodup) (ha : PA X [a, b] (Pn.A F W ms)) (hc : X.calm = true := by rfl) (hi : X.N[i]? = some x := by rfl) (hj : X.N[j]? = some y := by rfl) (hij : i ≠ j := by decide)
    (hx : X.env.scope.names.lookup x = some .local := by rfl) (hy : X.env.scope.names.lookup y = some .local := by rfl) (hw : swappedStores [.Tuple [.Name x px, .Name y py] kt pt] (.Tuple [a, b] k2 pt2) X.env = pure (some [x, y]) := by rfl)
    (hs : swapsWithSole [.Tuple [.Name x px, .Name y py] kt pt] (.Tuple [a, b] k2 pt2) pos.line X.env = pure false := by rfl) : PS X (.Assign [.Tuple [.Name x px, .Name y py] kt pt] (.Tuple [a, b] k2 pt2) pos) (T F W (parM i j ms)) :=
  (ps_par hc hN hi hj hij hx hy ha hw hs).mono fun D σ H ⟨G, c, r, p⟩ => sx_mono (ps_bind (R1 := RA F) r p) fun vs H1 ⟨ds, G1, c1, r1, s1, q, p1⟩ => by
    cases q with
    | nil => exact p1.elim
    | @cons v vs d ds q1 q =>
      cases q with
      | nil => exact p1.elim
      | @cons w ws e es q2 q =>
        cases q with
        | cons _ _ => exact p1.elim
        | nil =>
          refine ⟨v, w, rfl, ?_⟩
          cases e1 : put i d c1 with
          | none => simp only [e1] at p1; exact p1.elim
          | some c2 =>
            simp only [e1] at p1
            cases e2 : put j e c2 with
            | none => simp only [e2] at p1; exact p1.elim
            | some c3 =>
              simp only [e2] at p1
              exact p1 _ G1 _ (put_rel (put_rel r1 q1 e1) q2 e2) (Same.refl _)
/-! ### list(range(n)) -/
def lsRgR : Dat → M RV
  | .int j => if -(2 ^ 62) ≤ j ∧ j ≤ 100000 then ret (.fr (numL 0 j.toNat)) else bad
  | _ => bad
theorem rgV_dp {K : PySem.W.Frag} {G : Hp} (j : Int) : RpA K G (L2.rgV 0 j) (numL 0 j.toNat) := by
  have go : ∀ l : List Nat, RpA K G (l.map fun i => V.int (0 + (i : Nat))) (l.map fun i : Nat => PyData.int (0 + (i : Int))) := by
    intro l
    induction l with
    | nil => exact .nil
    | cons a l ih => exact .cons (.int _) ih
  unfold L2.rgV numL
  rw [Int.sub_zero]
  exact go _
theorem listRg_ {a : Expr} {m : M Dat} {p p2 pos pos2 : Pos} (hm : X.mg "list" = none) (hm2 : X.mg "range" = none) (ha : PE X a (Pn.E F W m)) (hK : F.K = X.K := by rfl) (hc : X.calm = true := by rfl) (hg : Gl X "list" := by rfl) (hg2 : Gl X "range" := by rfl) (h1 : starEach [a] X.env = (false, eval a X.env) :: starEach [] X.env := by rfl)
    (h2 : starEach [.Call (.Name "range" p2) [a] [] pos2] X.env = (false, eval (.Call (.Name "range" p2) [a] [] pos2) X.env) :: starEach [] X.env := by rfl) : PE X (.Call (.Name "list" p) [.Call (.Name "range" p2) [a] [] pos2] [] pos) (EX F W (M.bind m lsRgR)) :=
  (pe_listRg hc hg hm (prg_1 hg2 hm2 ha h1) h2).mono fun σ H Q h => sx_mono (sx_bind (R1 := RD F) h) fun x H1 ⟨d, G1, c1, r1, q, p⟩ => by
    cases q with
    | int j =>
      unfold lsRgR at p
      dsimp only at p
      by_cases hj : -(2 ^ 62) ≤ j ∧ j ≤ 100000
      · rw [if_pos hj] at p
        refine ⟨j, rfl, ⟨by decide, by decide, by omega, by omega, by omega⟩, fun q hq => ?_⟩
        obtain ⟨r2, z2⟩ := r1.lone hq (rgV_dp (K := F.K) (G := G1) j)
        exact p _ _ _ r2 (Same.refl _) ⟨q, rfl, z2⟩
      · rw [if_neg hj] at p
        exact p.elim
    | _ => exact p.elim
end
section
variable {F : Fr} {W : L2.WX} {σ : L2.St} {H : Hp} {X : Cx} {D : Ends}
theorem room66 {k : Nat} {A : Around} (r : Room k A) : A.units + 66 < cLine := by have := r.un; omega
theorem repr_ {m : M Dat} {a : Expr} {p pos : Pos} {k : Nat} (hgd : X.A.guards = some []) (hr : Room k X.A) (hm : X.mg "repr" = none) (ha : PE X a (Pn.E F W m)) (hK : F.K = X.K := by rfl) (hg : Gl X "repr" := by rfl) (he : starEach [a] X.env = (false, eval a X.env) :: starEach [] X.env := by rfl) : PE X (.Call (.Name "repr" p) [a] [] pos) (Pn.E F W (M.bind m reprR)) := e_repr hK hgd (room66 hr) hg hm ha he
def callQM (us : Bool) (n : Nat) (g : List Dat → List Dat → DS → GR) (ms : M (List Dat)) : M RV := M.bind ms fun ds => if ds.length = n then (if us then callS g ds else callQ g ds) else bad
/-- data alone, among no guards -/
theorem callP_ {k n j : Nat} {g : List Dat → List Dat → DS → GR} {x : Str} {p pos : Pos} {e : Expr} {es : List Expr} {ms : M (List Dat)} (hgd : X.A.guards = some []) (Z : HasQ X.prog X.w X.K X.mg X.base F.C false (fun _ => True) x k n g) (hr : Room j X.A) (tk : Takes X W) (ha : PA X (e :: es) (Pn.A F W ms)) (hkj : k ≤ j := by decide) (hK : F.K = X.K := by rfl) (hg : Gl X x := by rfl)
    (hdb : (x == ("__debug__" : Str)) = false := by decide) (he : starEach (e :: es) X.env = (false, eval e X.env) :: starEach es X.env := by rfl) (hpl : (backTo pos (starEach es X.env)).any (·.1) = false := by rfl) : PE X (.Call (.Name x p) (e :: es) [] pos) (EX F W (callQM false n g ms)) := e_callP hK hgd Z hr hkj hg tk ha hdb he hpl
end
abbrev GF := List Dat → List Dat → DS → GR
def noG : GF := fun _ _ _ => .bad
theorem fn_noneG {P : Program} {w : World} {K : PySem.W.Frag} {mg : Str → Option Value} {base : Heap} {f : Addr} {fd : FuncData} {ps : List Str} {k n : Nat} {C : Cls} {CX : CXT} {us io : Bool} {okT : Tbs → Prop} : FnOk P w K mg base CX k f fd ps (spG K C us io okT n noG) :=
  ⟨fun vs H Q E ⟨_, _, _, _, _, _, _, _, _, _, _, _, _, _, _, _, _, _, _, z⟩ => z.elim, fun _ _ _ _ _ _ _ _ _ _ _ _ _ ⟨_, _, _, _, _, _, _, _, _, _, _, _, _, _, _, _, _, _, _, z⟩ => z.elim⟩
theorem At.hasG {P : Program} {w : World} {K : PySem.W.Frag} {mg : Str → Option Value} {base : Heap} {C : Cls} {us io : Bool} {x : Str} {f : Addr} {fd : FuncData} {ps : List Str} {k n : Nat} {g : GF} (a : At K mg x f fd ps) (F : FnOk P w K mg base (L2.CX P w) k f fd ps (spG K C us io (fun _ => True) n g)) : HasG P w K mg base C us io x k n g :=
  ⟨f, fd, ps, F, a.m, a.k, a.b⟩
end Pn

set_option maxHeartbeats 2000001
namespace Pn
open L2 PyProof.Rows PySem.Spec PySem
theorem room3 {k : Nat} {A : Around} (r : Room k A) : A.units + 3 < cLine := by have := r.un; omega
section
variable {F : Fr} {W : L2.WX} {σ : L2.St} {H : Hp} {X : Cx} {D : Ends}
/-- a new object is laid that stays meanwhile -/
theorem Rel.pin1 {G : Hp} {c : Cfg} {p : Addr} {o : HO} (r : Rel F G c σ H) (hp : H p = none) : Rel (F.pn ((p, o) :: F.pins)) G c σ (upd H p o) := by
  have z := r.other (o := o) hp
  exact { tabs := z.tabs, sub := z.sub, g0 := z.g0, fresh := z.fresh, keep := z.keep, len := z.len, mu0 := z.mu0, st0 := z.st0, dom := z.dom, st := z.st, inj := z.inj, ioj := z.ioj
          pin := fun q hq => by
            obtain rfl | hq := List.mem_cons.mp hq
            · exact ⟨upd_same, r.gNone hp, r.old hp⟩
            · exact z.pin q hq
          sl := fun j s e => by
            have k := r.sl j s e
            have k2 := z.sl j s e
            cases s with
            | no => trivial
            | sh d => exact k2
            | own l' =>
              obtain ⟨a, zs, e1, e2, e3, e4, e5, e6⟩ := k
              obtain ⟨a', zs', f1, f2, f3, f4, f5, f6⟩ := k2
              refine ⟨a', zs', f1, f2, f3, f4, f5, fun q hq => ?_⟩
              obtain rfl | hq := List.mem_cons.mp hq
              · intro ea
                have ea : a' = p := ea
                rw [e1] at f1
                cases f1
                rw [ea, hp] at e2
                cases e2
              · exact f6 q hq
            | io l' => exact k2
            | st => exact k2
            | fn _ => exact k2 }
theorem Rel.unpin1 {G : Hp} {c : Cfg} {x : Addr × HO} (r : Rel (F.pn (x :: F.pins)) G c σ H) : Rel F G c σ H :=
  { tabs := r.tabs, sub := r.sub, g0 := r.g0, fresh := r.fresh, keep := r.keep, len := r.len, mu0 := r.mu0, st0 := r.st0, dom := r.dom, st := r.st, inj := r.inj, ioj := r.ioj, pin := fun q hq => r.pin q (List.mem_cons_of_mem _ hq)
    sl := fun j s e => by
      have k := r.sl j s e
      cases s with
      | no => trivial
      | sh d => exact k
      | own l' =>
        obtain ⟨a, zs, e1, e2, e3, e4, e5, e6⟩ := k
        exact ⟨a, zs, e1, e2, e3, e4, e5, fun q hq => e6 q (List.mem_cons_of_mem _ hq)⟩
      | io l' => exact k
      | st => exact k
      | fn _ => exact k }
theorem ps_bindP {α β : Type} {R1 : L2.St → Hp → Hp → Cfg → β → α → Prop} {m : M α} {f : α → M Ctl} {G : Hp} {c : Cfg} (p : Ps F W D G (M.bind m f c)) :
    Po F W σ R1 (fun x H1 => ∃ a G1 c1, Rel F G1 c1 σ H1 ∧ Same G G1 ∧ R1 σ G1 H1 c1 x a ∧ Ps F W D G1 (f a c1)) G (m c) := by
  unfold M.bind at p
  cases e : m c with
  | ok a c' =>
    rw [e] at p
    exact fun v G' H' r' s' q => ⟨a, G', c', r', s', q, p.up s'⟩
  | exc k d c' =>
    rw [e] at p
    exact fun ad v G' H' r' _ h q => p ad v σ G' H' r' h q
  | bad =>
    rw [e] at p
    exact p
theorem RX.pin1 {G : Hp} {c : Cfg} {x : Addr × HO} {v : V} {d : RV} (q : RX (F.pn (x :: F.pins)) σ G H c v d) : RX F σ G H c v d := by
  cases d with
  | sh d => exact q
  | fr l =>
    obtain ⟨p, e, xs, h1, h2, h3, h4, h5, h6⟩ := q
    exact ⟨p, e, xs, h1, h2, h3, h4, h5, fun q hq => h6 q (List.mem_cons_of_mem _ hq)⟩
theorem Ps.pin1 {G : Hp} {x : Addr × HO} {r : Res Ctl} (p : Ps F W D G r) : Ps (F.pn (x :: F.pins)) W D G r := by
  cases r with
  | ok a c =>
    cases a with
    | nx => exact fun σ' G' H' r' s => p σ' G' H' r'.unpin1 s
    | rt v => exact fun y σ' G' H' r' q => p y σ' G' H' r'.unpin1 q.pin1
    | bk => exact fun σ' G' H' r' s => p σ' G' H' r'.unpin1 s
    | ct => exact fun σ' G' H' r' s => p σ' G' H' r'.unpin1 s
  | exc k d c => exact fun ad v σ' G' H' r' h q => p ad v σ' G' H' r'.unpin1 h q
  | bad => exact p
/-- a slot of which nothing is known takes any value -/
theorem Rel.setNo {G : Hp} {c : Cfg} {i : Nat} {x : Option V} (r : Rel F G c σ H) : Rel F G { c with r := c.r.set i .no } (σ.set i x) H :=
  { sub := r.sub, g0 := r.g0, fresh := r.fresh, keep := r.keep, len := by simp only [List.length_set]; exact r.len, mu0 := r.mu0, st0 := r.st0, dom := r.dom, st := r.st, pin := r.pin, tabs := r.tabs
    sl := fun j s e => by
      rcases get_set e with ⟨_, rfl, _⟩ | ⟨n, e⟩
      · trivial
      · rw [List.getElem?_set_ne n]
        exact r.sl j s e
    inj := fun j k l l' e1 e2 e3 => by
      rcases get_set e1 with ⟨_, z, _⟩ | ⟨n1, e1⟩
      · cases z
      · rcases get_set e2 with ⟨_, z, _⟩ | ⟨n2, e2⟩
        · cases z
        · rw [List.getElem?_set_ne n1, List.getElem?_set_ne n2] at e3
          exact r.inj j k l l' e1 e2 e3
    ioj := fun j k l l' e1 e2 => by
      rcases get_set e1 with ⟨_, z, _⟩ | ⟨_, e1⟩
      · cases z
      · rcases get_set e2 with ⟨_, z, _⟩ | ⟨_, e2⟩
        · cases z
        · exact r.ioj j k l l' e1 e2 }
end
end Pn

set_option maxHeartbeats 2000001
/-! defs that get a def as their last argument -/
namespace Pn
open L2 PyProof.Rows PySem.Spec PySem
def spF (K : PySem.W.Frag) (C : Cls) (n : Nat) (fa : Addr) (g : List Dat → PR) : Sp := fun vs H Q E => ∃ vs', vs = vs' ++ [.ref fa] ∧ spP K C n g vs' H Q E
def initF (N : Nat) (ds : List Dat) : List Sl := ds.map Sl.sh ++ .fn 1 :: List.replicate (N - ds.length - 1) Sl.no
def frF (K : PySem.W.Frag) (C : Cls) (fa : Addr) (G H : Hp) : Fr := ⟨K, C, 0, fa, 0, false, fun _ => 0, [], G, H, [], []⟩
def runF (N : Nat) (m : M Ctl) (ds : List Dat) : PR := match m ⟨initF N ds, ⟨[], [], 0⟩⟩ with
  | .ok .nx _ => .ok (.sh .none)
  | .ok (.rt v) _ => .ok v
  | .ok _ _ => .bad
  | .exc k d _ => .exc k d
  | .bad => .bad
section
variable {F : Fr} {W : L2.WX} {σ : L2.St} {H : Hp} {X : Cx} {D : Ends}
theorem initF_at {N : Nat} {ds : List Dat} {i : Nat} {s : Sl} (e : (initF N ds)[i]? = some s) : (∃ d, ds[i]? = some d ∧ s = .sh d) ∨ (i = ds.length ∧ s = .fn 1) ∨ s = .no := by
  unfold initF at e
  by_cases hi : i < ds.length
  · rw [List.getElem?_append_left (by rw [List.length_map]; exact hi), List.getElem?_map] at e
    cases e2 : ds[i]? with
    | none => rw [e2] at e; cases e
    | some d =>
      rw [e2] at e
      cases e
      exact .inl ⟨d, rfl, rfl⟩
  · rw [List.getElem?_append_right (by rw [List.length_map]; omega), List.length_map] at e
    cases ej : i - ds.length with
    | zero =>
      rw [ej] at e
      cases e
      exact .inr (.inl ⟨by omega, rfl⟩)
    | succ j =>
      rw [ej, List.getElem?_cons_succ] at e
      obtain ⟨h1, h2⟩ := List.getElem?_eq_some_iff.mp e
      rw [List.getElem_replicate] at h2
      exact .inr (.inr h2.symm)
theorem rel_initF {K : PySem.W.Frag} {C : Cls} {G H : Hp} {vs : List V} {ds : List Dat} {n : Nat} {N : List Str} {s : DS} {fa : Addr} (hs : Same G H) (q : RpA K G vs ds) (hN : N.length = n) (hl : ds.length + 1 ≤ n) : Rel (frF K C fa G H) G ⟨initF n ds, s⟩ (L2.start N (vs ++ [.ref fa])) H :=
  { sub := hs, g0 := Same.refl _, fresh := fun b e => .inl e, keep := fun b o e _ _ => e
    len := by
      show (initF n ds).length = ((vs ++ [V.ref fa]).map some ++ List.replicate (N.length - (vs ++ [V.ref fa]).length) none).length
      unfold initF
      simp only [List.length_append, List.length_map, List.length_replicate, List.length_cons, List.length_nil, dpAll_len q, hN]
      omega
    sl := fun i s e => by
      have go : ∀ v, (vs ++ [V.ref fa])[i]? = some v → (L2.start N (vs ++ [V.ref fa]))[i]? = some (some v) := fun v e => by
        show ((vs ++ [V.ref fa]).map some ++ _)[i]? = _
        rw [List.getElem?_append_left (by rw [List.length_map]; exact (List.getElem?_eq_some_iff.mp e).1), List.getElem?_map, e]
        rfl
      rcases initF_at e with ⟨d, e2, rfl⟩ | ⟨rfl, rfl⟩ | rfl
      · obtain ⟨v, e3, q3⟩ := dpAll_get q e2
        exact ⟨v, go v (by rw [List.getElem?_append_left (List.getElem?_eq_some_iff.mp e3).1]; exact e3), q3⟩
      · show _ = some (some (V.ref fa))
        exact go _ (by rw [← dpAll_len q, List.getElem?_append_right (Nat.le_refl _), Nat.sub_self]; rfl)
      · trivial
    inj := fun i j l l' e1 _ _ => by
      rcases initF_at e1 with ⟨d, _, z⟩ | ⟨_, z⟩ | z <;> cases z
    ioj := fun i j l l' e1 _ _ => by
      rcases initF_at e1 with ⟨d, _, z⟩ | ⟨_, z⟩ | z <;> cases z
    st := fun z => nomatch z
    mu0 := fun b z => nomatch z
    st0 := fun b z => nomatch z
    dom := fun b e => e
    pin := fun b z => nomatch z
    tabs := fun b z => nomatch z }
theorem Rel.aftF {K : PySem.W.Frag} {C : Cls} {G0 H0 G H : Hp} {c : Cfg} {fa : Addr} (r : Rel (frF K C fa G0 H0) G c σ H) : After G0 H0 G H :=
  ⟨r.g0, r.sub, fun b o e => r.keep b o e (by intro z; cases z) (by intro z; cases z), r.fresh⟩
theorem fn_pureF {P : Program} {w : World} {K : PySem.W.Frag} {mg : Str → Option Value} {base : Heap} {x qual : Str} {st : Stmt} {f : Addr} {fd : FuncData} {N ps : List Str} {k n : Nat} {C : Cls} {fa : Addr} {m : M Ctl} (Fn : Fun K x qual st f fd) (S : FnScope N ps (defScope st)) (hn : n + 1 = ps.length) (hps : ps.length ≤ N.length)
    (hb : ∀ (G0 H0 : Hp) (cdv : Value) (A : Around) (outer : List Env) (s : Shared) (E : XK), Room k (A.deeper (envOfC qual (defScope st) s.heap.objs.size f cdv)) →
      PSs (cxOf (L2.CX P w) P w K mg base N qual (defScope st) f cdv A outer s H0 E) (defBody st) (T (frF K C fa G0 H0) (fun cls d _ H => E cls d H) m)) :
    FnOk P w K mg base (L2.CX P w) (k + 1) f fd ps (spF K C n fa (runF N.length m)) := by
  refine Fn.okX S (fun vs H Q E h => ?_) (fun cdv A outer s H vs Q E hr h => ?_)
  · obtain ⟨vs', rfl, G, ds, _, q, hl, _⟩ := h
    rw [List.length_append, dpAll_len q, hl, ← hn]
    rfl
  · obtain ⟨vs', rfl, G, ds, hs, q, hl, z⟩ := h
    refine ⟨_, hb G H cdv A outer s E hr, G, ⟨initF N.length ds, ⟨[], [], 0⟩⟩, rel_initF hs q rfl (by rw [hl, hn]; exact hps), ?_⟩
    unfold runF at z
    cases e : m ⟨initF N.length ds, ⟨[], [], 0⟩⟩ with
    | ok a c =>
      rw [e] at z
      cases a with
      | nx => exact fun σ' G' H' r' _ => z .non G' H' r'.aftF .non
      | rt v => exact fun x σ' G' H' r' q' => z x G' H' r'.aftF (by
          cases v with
          | sh d => exact q'
          | fr l =>
            obtain ⟨p, e1, xs, h1, h2, h3, h4, _⟩ := q'
            exact ⟨p, xs, e1, h1, h2, h3, h4⟩)
      | bk => exact z.elim
      | ct => exact z.elim
    | exc j d c =>
      rw [e] at z
      exact fun ad v σ' G' H' r' h1 h2 => z ad v G' H' r'.aftF h1 h2
    | bad =>
      rw [e] at z
      exact z
theorem fn_noneF {P : Program} {w : World} {K : PySem.W.Frag} {mg : Str → Option Value} {base : Heap} {f : Addr} {fd : FuncData} {ps : List Str} {k n : Nat} {fa : Addr} {C : Cls} {CX : CXT} : FnOk P w K mg base CX k f fd ps (spF K C n fa fun _ => .bad) :=
  ⟨fun vs H Q E ⟨_, _, _, _, _, _, _, z⟩ => z.elim, fun _ _ _ _ _ _ _ _ _ _ _ _ _ ⟨_, _, _, _, _, _, _, z⟩ => z.elim⟩

/-! ### arguments: a def behind -/
def RAF (F : Fr) (fa : Addr) : L2.St → Hp → Hp → Cfg → List V → List Dat → Prop := fun _ G _ _ vs ds => ∃ vs', vs = vs' ++ [.ref fa] ∧ RpA F.K G vs' ds
/-- a slot holds the def -/
def fnAt (i : Nat) (c : Cfg) : Bool := match c.r[i]? with
  | some (.fn 1) => true
  | _ => false
theorem fnAt_ok {G : Hp} {c : Cfg} {i : Nat} (r : Rel F G c σ H) (e : fnAt i c = true) : σ[i]? = some (some (.ref F.sc)) := by
  unfold fnAt at e
  split at e
  · rename_i es
    exact r.sl i _ es
  · cases e
def fnArg (i : Nat) : M (List Dat) := fun c => if fnAt i c = true then .ok [] c else .bad
theorem afn_ (i : Nat) {x : Str} {p : Pos} (hN : X.N[i]? = some x := by rfl) (hv : Vis X.env.scope x := by first | exact Or.inl rfl | exact Or.inr (Or.inl rfl) | exact Or.inr (Or.inr rfl)) (hd : (x == ("__debug__" : Str)) = false := by decide) (hcd : (x == ("__classdict__" : Str)) = false := by decide) (h2 : starEach [.Name x p] X.env = (false, eval (.Name x p) X.env) :: starEach [] X.env := by rfl) :
    PA X [.Name x p] (Sx F W (RAF F F.sc) (fnArg i)) :=
  (pa_cons (pe_var hN hv hd hcd) pa_nil h2).mono fun σ H Q ⟨G, c, r, p⟩ => by
    unfold fnArg at p
    by_cases e : fnAt i c = true
    · rw [if_pos e] at p
      exact ⟨_, fnAt_ok r e, po_ret r p ⟨[], rfl, .nil⟩⟩
    · rw [if_neg e] at p
      exact p.elim
theorem afng_ {fa : Addr} {x : Str} {p : Pos} (hm : X.mg x = some (.ref fa)) (hg : Gl X x := by rfl) (hd : (x == ("__debug__" : Str)) = false := by decide) (h2 : starEach [.Name x p] X.env = (false, eval (.Name x p) X.env) :: starEach [] X.env := by rfl) :
    PA X [.Name x p] (Sx F W (RAF F fa) (ret [])) :=
  (pa_cons (pe_glob (v := .ref fa) hg hm rfl hd) pa_nil h2).mono fun σ H Q ⟨G, c, r, p⟩ => po_ret r p ⟨[], rfl, .nil⟩
theorem a_consF {fa : Addr} {e : Expr} {es : List Expr} {m : M Dat} {ms : M (List Dat)} (h : PE X e (Pn.E F W m)) (hs : PA X es (Sx F W (RAF F fa) ms)) (h2 : starEach (e :: es) X.env = (false, eval e X.env) :: starEach es X.env := by rfl) : PA X (e :: es) (Sx F W (RAF F fa) (aCons m ms)) :=
  (pa_cons h hs h2).mono fun σ H Q h => sx_mono (sx_bind (R1 := RD F) h) fun x H1 ⟨a, G1, c1, r1, q, p⟩ => sx_mono (po_bind (R1 := RAF F fa) r1 p) fun xs H2 ⟨as, G2, c2, r2, s2, ⟨vs, e1, q2⟩, p2⟩ =>
    po_ret r2 p2 ⟨x :: vs, by rw [e1]; rfl, .cons (dp_mono s2 q) q2⟩

/-! ### calls -/
structure HasF (P : Program) (w : World) (K : PySem.W.Frag) (mg : Str → Option Value) (base : Heap) (C : Cls) (x : Str) (k n : Nat) (fa : Addr) (g : List Dat → PR) : Prop where
  ex : ∃ (f : Addr) (fd : FuncData) (ps : List Str), FnOk P w K mg base (L2.CX P w) k f fd ps (spF K C n fa g) ∧ mg x = some (.ref f) ∧ PySem.W.keepIn K (.ref f) = true ∧ Binds K fd ps []
theorem spP_end {G1 : Hp} {n : Nat} {g : List Dat → PR} {c1 : Cfg} {ds : List Dat} {vs : List V} {Q : VK} (hK : F.K = X.K) (r1 : Rel F G1 c1 σ H) (q : RpA F.K G1 vs ds) (p : Po F W σ (RX F) Q G1 ((if ds.length = n then callP g ds else bad) c1)) : spP X.K F.C n g vs H Q (fun cls d H => W cls d σ H) := by
  by_cases hl : ds.length = n
  · rw [if_pos hl] at p
    refine ⟨G1, ds, r1.sub, hK ▸ q, hl, ?_⟩
    unfold callP at p
    cases e : g ds with
    | ok v =>
      rw [e] at p
      exact fun x G' H' a z => p x G' H' (r1.after a) a.g (Ret.rx r1 a (hK ▸ z))
    | exc k d =>
      rw [e] at p
      exact fun ad v G' H' a z1 z2 => p ad v G' H' (r1.after a) a.g z1 (hK ▸ z2)
    | bad =>
      rw [e] at p
      exact p
  · rw [if_neg hl] at p
    exact p.elim
theorem callF_ {k n j : Nat} {fa : Addr} {g : List Dat → PR} {x : Str} {p pos : Pos} {e : Expr} {es : List Expr} {ms : M (List Dat)} (Z : HasF X.prog X.w X.K X.mg X.base F.C x k n fa g) (hr : Room j X.A) (tk : Takes X W) (ha : PA X (e :: es) (Sx F W (RAF F fa) ms)) (hkj : k ≤ j := by decide) (hK : F.K = X.K := by rfl) (hg : Gl X x := by rfl)
    (hdb : (x == ("__debug__" : Str)) = false := by decide) (he : starEach (e :: es) X.env = (false, eval e X.env) :: starEach es X.env := by rfl) (hpl : (backTo pos (starEach es X.env)).any (·.1) = false := by rfl) : PE X (.Call (.Name x p) (e :: es) [] pos) (EX F W (callN n g ms)) := by
  obtain ⟨f, fd, ps, h2, h3, h4, h5⟩ := Z.ex
  refine (pe_callS h2 (hr.mono hkj) hg h3 h4 h5 (fun σ => passAt tk σ) ha hdb he hpl).mono fun σ H Q h => sx_mono (sx_bind (R1 := RAF F fa) h) fun vs H1 ⟨ds, G1, c1, r1, ⟨vs', e1, q⟩, p⟩ => ?_
  exact ⟨vs', e1, spP_end hK r1 q p⟩
/-- a local name that holds a def is called -/
theorem pe_callLS {CX : CXT} {k i : Nat} {f : Addr} {fd : FuncData} {ps : List Str} {sp : Sp} {E : L2.St → XK} {x : Str} {p pos : Pos} {e : Expr} {es : List Expr} {t : TA} (Fk : FnOk X.prog X.w X.K X.mg X.base CX k f fd ps sp) (hr : Room k X.A) (hN : X.N[i]? = some x) (hv : Vis X.env.scope x) (hk : PySem.W.keepIn X.K (.ref f) = true) (hb : Binds X.K fd ps []) (hx : ∀ σ, PassesAt CX X σ (E σ))
    (ha : PA X (e :: es) t) (hdb : (x == ("__debug__" : Str)) = false) (hcd : (x == ("__classdict__" : Str)) = false) (he : starEach (e :: es) X.env = (false, eval e X.env) :: starEach es X.env) (hpl : (backTo pos (starEach es X.env)).any (·.1) = false) :
    PE X (.Call (.Name x p) (e :: es) [] pos) (fun σ H Q => σ[i]? = some (some (.ref f)) ∧ tCallS sp E t σ H Q) := by
  (refine ⟨fun pins s σ H Q I h => ?_⟩)
  obtain ⟨hs, ht⟩ := h
  (refine wpAny_Call_Name_kw (thn ((pe_var (pos := p) hN hv hdb hcd).run pins s σ H (fun v H1 => v = .ref f ∧ H1 = H) I ⟨.ref f, hs, rfl, rfl⟩) fun u s1 ⟨v, H1, I1, r1, q1⟩ => ?_))
  obtain ⟨rfl, rfl⟩ := q1
  cases r1
  (refine PySem.W.callWith_K (h₀ := X.base) I.ok.mod.kin hk (thn (ha.run pos pins s1 σ _ _ I1 ht) fun us s2 ⟨vs, H2, I2, r, q⟩ => ⟨I2.kIn, ?_⟩) he hpl)
  exact run_fnS Fk hr hb (hx σ) I2 r q
def callL (i n : Nat) (g : List Dat → PR) (ms : M (List Dat)) : M RV := fun c => if fnAt i c = true then callN n g ms c else .bad
structure Held1 (P : Program) (w : World) (K : PySem.W.Frag) (mg : Str → Option Value) (base : Heap) (C : Cls) (k n : Nat) (fa : Addr) (g : List Dat → PR) : Prop where
  ex : ∃ (fd : FuncData) (ps : List Str), FnOk P w K mg base (L2.CX P w) k fa fd ps (spP K C n g) ∧ PySem.W.keepIn K (.ref fa) = true ∧ Binds K fd ps []
theorem callL_ (i : Nat) {k n j : Nat} {g : List Dat → PR} {x : Str} {p pos : Pos} {e : Expr} {es : List Expr} {ms : M (List Dat)} (Z : Held1 X.prog X.w X.K X.mg X.base F.C k n F.sc g) (hr : Room j X.A) (tk : Takes X W) (ha : PA X (e :: es) (Pn.A F W ms)) (hkj : k ≤ j := by decide) (hK : F.K = X.K := by rfl)
    (hN : X.N[i]? = some x := by rfl) (hv : Vis X.env.scope x := by first | exact Or.inl rfl | exact Or.inr (Or.inl rfl) | exact Or.inr (Or.inr rfl))
    (hdb : (x == ("__debug__" : Str)) = false := by decide) (hcd : (x == ("__classdict__" : Str)) = false := by decide) (he : starEach (e :: es) X.env = (false, eval e X.env) :: starEach es X.env := by rfl) (hpl : (backTo pos (starEach es X.env)).any (·.1) = false := by rfl) : PE X (.Call (.Name x p) (e :: es) [] pos) (EX F W (callL i n g ms)) := by
  obtain ⟨fd, ps, h2, h4, h5⟩ := Z.ex
  refine (pe_callLS (i := i) h2 (hr.mono hkj) hN hv h4 h5 (fun σ => passAt tk σ) ha hdb hcd he hpl).mono fun σ H Q ⟨G, c, r, p⟩ => ?_
  unfold callL at p
  by_cases ef : fnAt i c = true
  · rw [if_pos ef] at p
    refine ⟨fnAt_ok r ef, sx_mono (po_bind (R1 := RA F) r p) fun vs H1 ⟨ds, G1, c1, r1, _, q, p1⟩ => ?_⟩
    exact spP_end hK r1 q p1
  · rw [if_neg ef] at p
    exact p.elim
end
end Pn

set_option maxHeartbeats 2000001
/-! max of two, name += a number, a dict of integers that is filled once and then read -/
namespace Pn
open L2 PyProof.Rows PySem.Spec PySem
section
variable {F : Fr} {W : L2.WX} {σ : L2.St} {H : Hp} {X : Cx} {D : Ends}
def maxI2 := int2 fun i j => .int (if j > i then j else i)
theorem e_max2 {a b : Expr} {ma mb : M Dat} {p pos : Pos} (hc : X.calm = true) (hg : Gl X "max") (hm : X.mg "max" = none) (ha : PE X a (E F W ma)) (hb : PE X b (E F W mb)) (h1 : starEach [a, b] X.env = (false, eval a X.env) :: starEach [b] X.env := by rfl) (h2 : starEach [b] X.env = (false, eval b X.env) :: starEach [] X.env := by rfl)
    (h3 : (backTo pos (starEach [b] X.env)).any (·.1) = false := by rfl) : PE X (.Call (.Name "max" p) [a, b] [] pos) (E F W (m2 maxI2 ma mb)) :=
  (pe_callB (call_max2 hc) hg hm (by decide +kernel) (pa_cons ha (pa_cons hb pa_nil h2) h1) (by decide) (by decide) h1 h3).mono fun σ H Q h => sx_mono (sx_bind2 h) fun x H1 h1 => sx_mono h1 fun y H2 ⟨d, e, G2, c2, r2, q1, q2, p⟩ => by
    cases q1 with
    | int i =>
      cases q2 with
      | int j => exact ⟨i, j, rfl, po_ret r2 p (.int _)⟩
      | _ => exact p.elim
    | _ => exact p.elim
/-- name += e, both integers -/
theorem s_aug (i : Nat) {x : Str} {e : Expr} {m : M Dat} {pos pos' : Pos} (hN : X.N.Nodup) (h : PE X e (Pn.E F W m)) (hi : X.N[i]? = some x := by rfl) (hx : Loc X.env.scope x := by first | exact Or.inl rfl | exact Or.inr rfl) (hf : X.fn x = true ∨ X.env.scope.names.lookup x = some .local := by first | exact .inl rfl | exact .inr rfl) :
    PS X (.AugAssign (.Name x pos') .Add e pos) (T F W (M.bind (m2 addI (rd i) m) fun d => asg i (.sh d))) :=
  (ps_aug hN hi hx h ip_add hf).mono fun D σ H ⟨G, c, r, p⟩ => by
    unfold m2 M.bind rd at p
    cases es : c.r[i]? with
    | none => simp only [es] at p; exact p.elim
    | some s =>
      simp only [es] at p
      cases s with
      | sh d0 =>
        obtain ⟨v, e2, q⟩ := r.sl i _ es
        refine ⟨v, e2, ?_⟩
        have p2 : Ps F W D G (M.bind m (fun y => M.bind (addI d0 y) fun d => asg i (.sh d)) c) := by
          unfold M.bind
          simp only at p
          cases em : m c with
          | ok y c1 =>
            simp only [em] at p
            exact p
          | exc k d c1 => simp only [em] at p; exact p
          | bad => simp only [em] at p; exact p
        refine sx_mono (ps_bind (R1 := RD F) r p2) fun y H1 ⟨d1, G1, c1, r1, s1, q1, p1⟩ => ?_
        unfold addI int2 M.bind at p1
        cases q with
        | int a =>
          cases q1 with
          | int b => exact ⟨a, b, rfl, rfl, ps_asg_ok r1 (v := .sh (.int (a + b))) (.int _) p1⟩
          | _ => exact p1.elim
        | _ => cases q1 <;> exact p1.elim
      | _ => exact p.elim

/-! ### a dict of integers -/
abbrev DI := List (Int × Int)
def kvI (m : DI) : List (Key × V) := m.map fun p => (Sum.inl p.1, V.int p.2)
def putI (m : DI) (k v : Int) : DI := if (m.any fun p => decide (p.1 = k)) = true then m.map (fun p => if p.1 = k then (p.1, v) else p) else m ++ [(k, v)]
def getI (m : DI) (k : Int) : Option Int := (m.find? fun p => decide (p.1 = k)).map (·.2)
theorem inl_dec (a b : Int) : decide ((Sum.inl a : Key) = Sum.inl b) = decide (a = b) := by
  (rw [Bool.eq_iff_iff, decide_eq_true_eq, decide_eq_true_eq])
  exact ⟨fun z => by cases z; rfl, fun z => by rw [z]⟩
theorem putK_kvI (m : DI) (k v : Int) : putK (kvI m) (Sum.inl k) (V.int v) = kvI (putI m k v) := by
  unfold putK putI kvI
  have e : (List.map (fun p : Int × Int => ((Sum.inl p.1 : Key), V.int p.2)) m).any (fun kv => decide (kv.1 = Sum.inl k)) = m.any fun p => decide (p.1 = k) := by
    rw [List.any_map]
    exact congrArg (m.any) (funext fun p => inl_dec _ _)
  rw [e]
  by_cases h : (m.any fun p => decide (p.1 = k)) = true
  · rw [if_pos h, if_pos h, List.map_map, List.map_map]
    (refine List.map_congr_left fun p _ => ?_)
    show (if (Sum.inl p.1 : Key) = Sum.inl k then _ else _) = _
    by_cases hp : p.1 = k
    · rw [if_pos (by rw [hp])]
      simp [hp]
    · rw [if_neg (fun z => hp (by cases z; rfl))]
      simp [hp]
  · rw [if_neg h, if_neg h, List.map_append]
    rfl
theorem valV_kvI (m : DI) (k : Int) : valV (kvI m) (Sum.inl k) = (getI m k).map V.int := by
  unfold valV getI kvI
  rw [List.find?_map]
  have e : ((fun kv : Key × V => decide (kv.1 = Sum.inl k)) ∘ fun p : Int × Int => ((Sum.inl p.1 : Key), V.int p.2)) = fun p => decide (p.1 = k) := funext fun p => inl_dec _ _
  rw [e]
  cases m.find? fun p => decide (p.1 = k) <;> rfl
def dkF (F : Fr) (a : Addr) (m : DI) : Fr := { F with pins := (a, .dK (kvI m)) :: F.pins, sa := a }
/-- no slot tells of a def -/
def unS : Sl → Sl
  | .fn _ => .no
  | s => s
def unFn (c : Cfg) : Cfg := { c with r := c.r.map unS }
theorem unS_own {s : Sl} {l : List Dat} (e : unS s = .own l) : s = .own l := by cases s <;> first | exact e | cases e
theorem unS_io {s : Sl} {l : List Dat} (e : unS s = .io l) : s = .io l := by cases s <;> first | exact e | cases e
theorem Rel.unFn {G : Hp} {c : Cfg} (r : Rel F G c σ H) : Rel F G (unFn c) σ H :=
  { sub := r.sub, g0 := r.g0, fresh := r.fresh, keep := r.keep, mu0 := r.mu0, st0 := r.st0, dom := r.dom, st := r.st, pin := r.pin, tabs := r.tabs
    len := by show (c.r.map unS).length = _; rw [List.length_map]; exact r.len
    sl := fun j s e => by
      rw [show (Pn.unFn c).r = c.r.map unS from rfl, List.getElem?_map] at e
      cases e2 : c.r[j]? with
      | none => rw [e2] at e; cases e
      | some t =>
        rw [e2] at e
        cases e
        have k := r.sl j t e2
        cases t with
        | fn _ => trivial
        | _ => exact k
    inj := fun j k l l' e1 e2 => by
      rw [show (Pn.unFn c).r = c.r.map unS from rfl, List.getElem?_map] at e1 e2
      obtain ⟨t1, f1, g1⟩ := Option.map_eq_some_iff.mp e1
      obtain ⟨t2, f2, g2⟩ := Option.map_eq_some_iff.mp e2
      exact r.inj j k l l' (unS_own g1 ▸ f1) (unS_own g2 ▸ f2)
    ioj := fun j k l l' e1 e2 => by
      rw [show (Pn.unFn c).r = c.r.map unS from rfl, List.getElem?_map] at e1 e2
      obtain ⟨t1, f1, g1⟩ := Option.map_eq_some_iff.mp e1
      obtain ⟨t2, f2, g2⟩ := Option.map_eq_some_iff.mp e2
      exact r.ioj j k l l' (unS_io g1 ▸ f1) (unS_io g2 ▸ f2) }
/-- the dict is laid, the slot i holds it -/
theorem Rel.dkNew {G : Hp} {c : Cfg} {a : Addr} {i : Nat} (r : Rel F G c σ H) (hu : F.us = false) (ha : H a = none) : Rel (dkF F a []) G { (Pn.unFn c) with r := (Pn.unFn c).r.set i (.fn 0) } (σ.set i (some (.ref a))) (upd H a (.dK [])) := by
  have z := (r.unFn.pin1 (o := .dK []) ha)
  have zn := z.setNo (i := i) (x := some (.ref a))
  have hlen := r.len
  exact { sub := z.sub, g0 := z.g0, fresh := z.fresh, mu0 := fun b hb => ⟨(z.mu0 b hb).1, fun m => by
              have : b ∈ (if F.us = true then [a, F.sc, F.sl] else []) := m
              rw [hu] at this
              cases this⟩
          st0 := fun b m => by
              have : b ∈ (if F.us = true then [a, F.sc, F.sl] else []) := m
              rw [hu] at this
              cases this
          keep := fun b o e h1 h2 => z.keep b o e h1 (fun m => by
              have : b ∈ (if F.us = true then [F.sa, F.sc, F.sl] else []) := m
              rw [hu] at this
              cases this)
          dom := z.dom, st := fun e => by rw [show F.us = true from e] at hu; cases hu
          pin := z.pin, tabs := z.tabs
          len := by
            show ((Pn.unFn c).r.set i (.fn 0)).length = _
            rw [List.length_set, List.length_set]
            exact z.len
          sl := fun j s e => by
            rcases get_set e with ⟨rfl, rfl, hl⟩ | ⟨n, e⟩
            · show _ = some (some (V.ref a))
              rw [List.getElem?_set_self (by rw [← z.len]; exact hl)]
            · rw [List.getElem?_set_ne n]
              have k := z.sl j s e
              cases s with
              | fn b =>
                rw [show (Pn.unFn c).r = c.r.map unS from rfl, List.getElem?_map] at e
                obtain ⟨t, _, g⟩ := Option.map_eq_some_iff.mp e
                cases t <;> cases g
              | st =>
                have : F.us = true := k.2
                rw [hu] at this
                cases this
              | _ => exact k
          inj := fun j k l l' e1 e2 e3 => by
            rcases get_set e1 with ⟨_, q, _⟩ | ⟨n1, e1⟩
            · cases q
            · rcases get_set e2 with ⟨_, q, _⟩ | ⟨n2, e2⟩
              · cases q
              · rw [List.getElem?_set_ne n1, List.getElem?_set_ne n2] at e3
                exact z.inj j k l l' e1 e2 e3
          ioj := fun j k l l' e1 e2 => by
            rcases get_set e1 with ⟨_, q, _⟩ | ⟨_, e1⟩
            · cases q
            · rcases get_set e2 with ⟨_, q, _⟩ | ⟨_, e2⟩
              · cases q
              · exact z.ioj j k l l' e1 e2 }
theorem Rel.dkPut {G : Hp} {c : Cfg} {a : Addr} {m m' : DI} (r : Rel (dkF F a m) G c σ H) (hu : F.us = false) (hp : F.pins = []) : Rel (dkF F a m') G c σ (upd H a (.dK (kvI m'))) := by
  obtain ⟨h1, h2, h3⟩ := r.pin (a, .dK (kvI m)) List.mem_cons_self
  have ne : ∀ {b : Addr} {o : HO}, H b = some o → b ≠ a → upd H a (.dK (kvI m')) b = some o := fun e n => by rw [upd_ne n]; exact e
  exact { g0 := r.g0, fresh := r.fresh, len := r.len, inj := r.inj, ioj := r.ioj, mu0 := r.mu0, st0 := r.st0
          sub := fun b o e => ne (r.sub _ _ e) fun z => by rw [z] at e; rw [show G a = none from h2] at e; cases e
          keep := fun b o e k1 k2 => ne (r.keep b o e k1 k2) fun z => by
            have h3 : F.H0 a = none := h3
            have e : F.H0 b = some o := e
            rw [z, h3] at e; cases e
          st := fun e => by rw [show F.us = true from e] at hu; cases hu
          dom := fun b e z => by
            by_cases hb : b = a
            · exact e (hb ▸ h3)
            · rw [upd_ne hb] at z
              exact r.dom b e z
          pin := fun q hq => by
            have hq : q ∈ (a, HO.dK (kvI m')) :: F.pins := hq
            rw [hp] at hq
            cases List.mem_singleton.mp hq
            exact ⟨upd_same, h2, h3⟩
          tabs := r.tabs.move (fun b o e k => ne e fun z => by rw [z, show H a = _ from h1] at e; cases e; exact isT_dK k) (fun b o e _ g => g)
          sl := fun j s e => by
            have k := r.sl j s e
            cases s with
            | no => trivial
            | sh d => exact k
            | st => exact k
            | fn b => exact k
            | own l =>
              obtain ⟨b, xs, e1, e2, e3, e4, e5, e6⟩ := k
              exact ⟨b, xs, e1, ne e2 (e6 (a, .dK (kvI m)) List.mem_cons_self), e3, e4, e5, fun q hq => by
                have hq : q ∈ (a, HO.dK (kvI m')) :: F.pins := hq
                rw [hp] at hq
                cases List.mem_singleton.mp hq
                exact e6 (a, .dK (kvI m)) List.mem_cons_self⟩
            | io l =>
              obtain ⟨xs, e1, e2, e3, e4, e5⟩ := k
              refine ⟨xs, e1, ne e2 fun z => ?_, e3, e4, e5⟩
              have z : F.ia j = a := z
              exact (r.mu0 _ e5).1 (by show F.H0 (F.ia j) = none; rw [z]; exact h3) }
theorem Rel.dkEnd {G : Hp} {c : Cfg} {a : Addr} {m : DI} (r : Rel (dkF F a m) G c σ H) (hu : F.us = false) : Rel F G (Pn.unFn c) σ H := by
  have z := r.unFn
  exact { sub := z.sub, g0 := z.g0, fresh := z.fresh, len := z.len, inj := z.inj, ioj := z.ioj, dom := z.dom, tabs := z.tabs
          keep := fun b o e h1 h2 => z.keep b o e h1 fun k => by
            have : b ∈ (if F.us = true then [a, F.sc, F.sl] else []) := k
            rw [hu] at this; cases this
          mu0 := fun b hb => ⟨(z.mu0 b hb).1, fun k => by
            have : b ∈ (if F.us = true then [F.sa, F.sc, F.sl] else []) := k
            rw [hu] at this; cases this⟩
          st0 := fun b k => by
            have : b ∈ (if F.us = true then [F.sa, F.sc, F.sl] else []) := k
            rw [hu] at this; cases this
          st := fun e => by rw [e] at hu; cases hu
          pin := fun q hq => z.pin q (List.mem_cons_of_mem _ hq)
          sl := fun j s e => by
            have k := z.sl j s e
            cases s with
            | no => trivial
            | sh d => exact k
            | st =>
              have : F.us = true := k.2
              rw [hu] at this; cases this
            | fn b =>
              rw [show (Pn.unFn c).r = c.r.map unS from rfl, List.getElem?_map] at e
              obtain ⟨t, _, g⟩ := Option.map_eq_some_iff.mp e
              cases t <;> cases g
            | own l =>
              obtain ⟨b, xs, e1, e2, e3, e4, e5, e6⟩ := k
              exact ⟨b, xs, e1, e2, e3, e4, e5, fun q hq => e6 q (List.mem_cons_of_mem _ hq)⟩
            | io l => exact k }
def dkLoop (b : Dat → Cfg → Option Cfg) (i j l : Nat) : List Dat → DI → Cfg → Option (DI × Cfg)
  | [], m, c => some (m, c)
  | d :: ds, m, c => match b d c with
    | none => none
    | some c1 => match c1.r[i]?, c1.r[j]?, c1.r[l]? with
      | some (.fn 0), some (.sh (.int x)), some (.sh (.int y)) => if m.length < 1000 then dkLoop b i j l ds (putI m y (100 + x)) c1 else none
      | _, _, _ => none
def endD : Res Ctl → Res Ctl
  | .ok a c => .ok a (unFn c)
  | .exc k d c => .exc k d (unFn c)
  | .bad => .bad
def dictM (b : Dat → Cfg → Option Cfg) (i j l : Nat) (mi : M (List Dat)) (mr : DI → M Ctl) : M Ctl := fun c => match mi { (unFn c) with r := (unFn c).r.set i (.fn 0) } with
  | .ok items c1 => match dkLoop b i j l items [] c1 with
    | some (m, c2) => endD (mr m c2)
    | none => .bad
  | _ => .bad
theorem Ps.endD {G : Hp} {a : Addr} {m : DI} {r : Res Ctl} (hu : F.us = false) (p : Ps F W D G (Pn.endD r)) : Ps (dkF F a m) W D G r := by
  cases r with
  | ok x c =>
    cases x with
    | nx => exact fun σ' G' H' r' s => p σ' G' H' (r'.dkEnd hu) s
    | rt v => exact fun y σ' G' H' r' q => p y σ' G' H' (r'.dkEnd hu) (by
        cases v with
        | sh d => exact q
        | fr l =>
          obtain ⟨p, e, xs, h1, h2, h3, h4, h5, h6⟩ := q
          refine ⟨p, e, xs, h1, h2, h3, h4, fun i l' e1 => ?_, fun q hq => h6 q (List.mem_cons_of_mem _ hq)⟩
          rw [show (Pn.unFn c).r = c.r.map unS from rfl, List.getElem?_map] at e1
          obtain ⟨t, f, g⟩ := Option.map_eq_some_iff.mp e1
          exact h5 i l' (unS_own g ▸ f))
    | bk => exact fun σ' G' H' r' s => p σ' G' H' (r'.dkEnd hu) s
    | ct => exact fun σ' G' H' r' s => p σ' G' H' (r'.dkEnd hu) s
  | exc k d c => exact fun ad v σ' G' H' r' h q => p ad v σ' G' H' (r'.dkEnd hu) h q
  | bad => exact p
theorem ss_dict {xd xj xl : Str} {i j l kk : Nat} {tg iter : Expr} {p1 p2 p3 p4 p5 p6 p7 p8 p9 p10 p11 : Pos} {rest : List Stmt} {g : TG} {is : List Nat} {b : Dat → Cfg → Option Cfg} {mi : M (List Dat)} {mr : DI → M Ctl} (hr1 : X.A.units + 1 < cLine) (hpo : PassesOwn (model X.prog X.w) X.A X.env X.xe) (hN : X.N.Nodup) (hu : F.us = false) (hpn : F.pins = [])
    (hit : ∀ a, PI X tg iter (I_ (dkF F a []) W mi)) (hg : PG X tg g) (hgk : ∀ a m, GOk (dkF F a m) g is b) (hrest : ∀ a m, PSs X rest (T (dkF F a m) W (mr m)))
    (hi : X.N[i]? = some xd) (hx : Loc X.env.scope xd) (hj : X.N[j]? = some xj) (hl : X.N[l]? = some xl) (vi : Vis X.env.scope xd) (vj : Vis X.env.scope xj) (vl : Vis X.env.scope xl)
    (di : (xd == ("__debug__" : Str)) = false) (ci : (xd == ("__classdict__" : Str)) = false) (dj : (xj == ("__debug__" : Str)) = false) (cj : (xj == ("__classdict__" : Str)) = false) (dl : (xl == ("__debug__" : Str)) = false) (cl : (xl == ("__classdict__" : Str)) = false)
    (hc : X.calm = true) (hf : X.fn xd = true ∨ X.env.scope.names.lookup xd = some .local)
    (hs1 : swapsWith (.Dict [] [] p2) (some (.Name xd p1)) p3.line X.env = pure false) (hs2 : ∀ x, foldedSetIterable iter X.env x = pure x) (hs3 : swapsWith (.BinOp (.Constant (.int 100) kk p7) .Add (.Name xj p8) p9) (some (.Subscript (.Name xd p4) (.Name xl p5) p6)) p10.line X.env = pure false) :
    PSs X (.Assign [.Name xd p1] (.Dict [] [] p2) p3 :: .For tg iter [.Assign [.Subscript (.Name xd p4) (.Name xl p5) p6] (.BinOp (.Constant (.int 100) kk p7) .Add (.Name xj p8) p9) p10] [] p11 :: rest) (T F W (dictM b i j l mi mr)) := by
  have hit' : PI X tg iter (fun σ H Q => ∃ a, I_ (dkF F a []) W mi σ H Q) := ⟨fun pins s σ H Q I ⟨a, h⟩ => (hit a).run pins s σ H Q I h⟩
  have hrest' : PSs X rest (fun D σ H => ∃ a m, T (dkF F a m) W (mr m) D σ H) := ⟨fun pins s σ H D I ⟨a, m, h⟩ => (hrest a m).run pins s σ H D I h⟩
  refine (pss_cons (ps_set hN hi hx pe_dnewK hs1 hf) (pss_cons (ps_for hpo hc hit' hg (pss_one (ps_dput hr1 (pe_var hi vi di ci) (pe_var hl vl dl cl) (pe_add pe_int (pe_var hj vj dj cj)) hs3)) hs2) hrest')).mono fun D σ H ⟨G, c, r, p⟩ => ?_
  intro a ha
  have r1 := r.dkNew (i := i) hu ha
  refine ⟨a, G, _, r1, ?_⟩
  unfold dictM at p
  cases em : mi { (unFn c) with r := (unFn c).r.set i (.fn 0) } with
  | exc k d c1 => simp only [em] at p; exact p.elim
  | bad => simp only [em] at p; exact p.elim
  | ok items c1 =>
    simp only [em] at p
    cases ed : dkLoop b i j l items [] c1 with
    | none => simp only [ed] at p; exact p.elim
    | some mc =>
      obtain ⟨mf, c2⟩ := mc
      simp only [ed] at p
      intro J G1 H1 r2 s1 src
      refine ⟨fun k mm σ H => mm = items.length - k ∧ k ≤ items.length ∧ ∃ G' m c', Same G1 G' ∧ Rel (dkF F a m) G' c' σ H ∧ dkLoop b i j l (items.drop k) m c' = some (mf, c2), ⟨_, rfl, Nat.zero_le _, G1, [], c1, Same.refl _, r2, ed⟩, ?_⟩
      rintro k mm σ2 H2 ⟨rfl, hk, G', m, c', s', r', el⟩
      obtain ⟨k1, k2⟩ := src (dkF F a m) G' c' σ2 H2 rfl s' r'
      by_cases hlt : k < items.length
      · obtain ⟨go, yl⟩ := k2 k items[k] (List.getElem?_eq_getElem hlt)
        refine .inr ⟨go, fun σ' H' => ∃ G2 m2 c2', Same G1 G2 ∧ Rel (dkF F a m2) G2 c2' σ' H' ∧ dkLoop b i j l (items.drop (k + 1)) m2 c2' = some (mf, c2), fun σ' H' ⟨G2, m2, c2', s2, r3, e3⟩ => ⟨items.length - (k + 1), by omega, rfl, hlt, G2, m2, c2', s2, r3, e3⟩, fun x H' y => ?_⟩
        obtain ⟨G2, r3, s2, q2⟩ := yl x H' y
        rw [List.drop_eq_getElem_cons hlt] at el
        unfold dkLoop at el
        cases eb : b items[k] c' with
        | none => simp only [eb] at el; cases el
        | some c3 =>
          simp only [eb] at el
          refine hgk a m G2 c' c3 σ2 H' x _ _ r3 q2 eb fun σ3 r4 _ => ?_
          split at el
          · rename_i x0 y0 e1 e2 e3
            by_cases hm : m.length < 1000
            · rw [if_pos hm] at el
              obtain ⟨vx, ex, qx⟩ := r4.sl j _ e2
              obtain ⟨vy, ey, qy⟩ := r4.sl l _ e3
              have ea : σ3[i]? = some (some (V.ref a)) := r4.sl i _ e1
              cases qx
              cases qy
              have hH : H' a = some (.dK (kvI m)) := (r4.pin (a, .dK (kvI m)) List.mem_cons_self).1
              refine ⟨V.int x0, ex, 100, x0, rfl, rfl, V.ref a, ea, V.int y0, ey, a, _, rfl, DPut.k (kvs := kvI m) (k := Sum.inl y0) hH (by
                unfold kvI; rw [List.length_map, sizeLine_eq]; omega), ?_⟩
              rw [putK_kvI]
              exact ⟨G2, putI m y0 (100 + x0), c3, s'.trans s2, r4.dkPut hu hpn, el⟩
            · rw [if_neg hm] at el
              cases el
          · cases el
      · have e : k = items.length := by omega
        subst e
        rw [List.drop_length] at el
        unfold dkLoop at el
        cases el
        exact .inl ⟨k1, a, mf, G', c2, r', (Ps.endD hu p).up (s1.trans s')⟩
/-- places_so.get(x, y) -/
def dkGet (i : Nat) (m : DI) (mx my : M Dat) : M Dat := fun c => match c.r[i]? with
  | some (.fn 0) => M.bind mx (fun x => M.bind my fun y => match x with
    | .int k => ret (match getI m k with
      | some v => .int v
      | none => y)
    | _ => bad) c
  | _ => .bad
theorem dget_ (i : Nat) {a : Addr} {m : DI} {x : Str} {e f : Expr} {mx my : M Dat} {p apos cpos : Pos} {n : Nat} (hr : Room n X.A) (hx : PE X e (Pn.E F W mx)) (hy : PE X f (Pn.E F W my)) (hsa : F.sa = a) (hp : (a, HO.dK (kvI m)) ∈ F.pins)
    (hN : X.N[i]? = some x := by rfl) (hv : Vis X.env.scope x := by first | exact Or.inl rfl | exact Or.inr (Or.inl rfl) | exact Or.inr (Or.inr rfl)) (hd : (x == ("__debug__" : Str)) = false := by decide) (hcd : (x == ("__classdict__" : Str)) = false := by decide)
    (hm : M2 X (.Name x p) "get" apos e f cpos := by exact ⟨rfl, rfl, rfl, rfl⟩) : PE X (.Call (.Attribute (.Name x p) "get" apos) [e, f] [] cpos) (Pn.E F W (dkGet i m mx my)) :=
  (pe_dget2 (hu_of hr) (pe_var hN hv hd hcd) hx hy hm).mono fun σ H Q ⟨G, c, r, p⟩ => by
    unfold dkGet at p
    cases es : c.r[i]? with
    | none => simp only [es] at p; exact p.elim
    | some s =>
      simp only [es] at p
      split at p
      · rename_i e0
        cases e0
        have ea : σ[i]? = some (some (V.ref F.sa)) := r.sl i _ es
        subst hsa
        refine ⟨_, ea, F.sa, rfl, .inl ⟨kvI m, .inl (r.pin _ hp).1⟩, ?_⟩
        refine sx_mono (po_bind (R1 := RD F) r p) fun x1 H1 ⟨dx, G1, c1, r1, s1, q1, p1⟩ => ?_
        refine sx_mono (po_bind (R1 := RD F) r1 p1) fun y1 H2 ⟨dy, G2, c2, r2, s2, q2, p2⟩ => ?_
        have q1 := dp_mono s2 q1
        cases q1 with
        | int k =>
          refine ⟨_, DGet.k (k := Sum.inl k) (r2.pin _ hp).1, ?_⟩
          rw [valV_kvI]
          cases eg : getI m k with
          | none =>
            simp only [eg] at p2
            exact po_ret r2 p2 q2
          | some v =>
            simp only [eg] at p2
            exact po_ret r2 p2 (.int v)
        | _ => exact p2.elim
      · exact p.elim
theorem dict_ (i j l : Nat) {xd xj xl : Str} {kk : Nat} {tg iter : Expr} {p1 p2 p3 p4 p5 p6 p7 p8 p9 p10 p11 : Pos} {rest : List Stmt} {g : TG} {is : List Nat} {b : Dat → Cfg → Option Cfg} {mi : M (List Dat)} {mr : DI → M Ctl} (hr1 : X.A.units + 1 < cLine) (hpo : PassesOwn (model X.prog X.w) X.A X.env X.xe) (hN : X.N.Nodup) (hu : F.us = false) (hpn : F.pins = [])
    (hit : ∀ a, PI X tg iter (I_ (dkF F a []) W mi)) (hg : PG X tg g) (hgk : ∀ a m, GOk (dkF F a m) g is b) (hrest : ∀ (a : Addr) (m : DI), PSs X rest (T (dkF F a m) W (mr m)))
    (hi : X.N[i]? = some xd := by rfl) (hx : Loc X.env.scope xd := by first | exact Or.inl rfl | exact Or.inr rfl) (hj : X.N[j]? = some xj := by rfl) (hl : X.N[l]? = some xl := by rfl) (vi : Vis X.env.scope xd := by first | exact Or.inl rfl | exact Or.inr (Or.inl rfl) | exact Or.inr (Or.inr rfl)) (vj : Vis X.env.scope xj := by first | exact Or.inl rfl | exact Or.inr (Or.inl rfl) | exact Or.inr (Or.inr rfl)) (vl : Vis X.env.scope xl := by first | exact Or.inl rfl | exact Or.inr (Or.inl rfl) | exact Or.inr (Or.inr rfl))
    (di : (xd == ("__debug__" : Str)) = false := by decide) (ci : (xd == ("__classdict__" : Str)) = false := by decide) (dj : (xj == ("__debug__" : Str)) = false := by decide) (cj : (xj == ("__classdict__" : Str)) = false := by decide) (dl : (xl == ("__debug__" : Str)) = false := by decide) (cl : (xl == ("__classdict__" : Str)) = false := by decide)
    (hc : X.calm = true := by rfl) (hf : X.fn xd = true ∨ X.env.scope.names.lookup xd = some .local := by first | exact .inl rfl | exact .inr rfl)
    (hs1 : swapsWith (.Dict [] [] p2) (some (.Name xd p1)) p3.line X.env = pure false := by rfl) (hs2 : ∀ x, foldedSetIterable iter X.env x = pure x := by intro _; rfl) (hs3 : swapsWith (.BinOp (.Constant (.int 100) kk p7) .Add (.Name xj p8) p9) (some (.Subscript (.Name xd p4) (.Name xl p5) p6)) p10.line X.env = pure false := by rfl) :
    PSs X (.Assign [.Name xd p1] (.Dict [] [] p2) p3 :: .For tg iter [.Assign [.Subscript (.Name xd p4) (.Name xl p5) p6] (.BinOp (.Constant (.int 100) kk p7) .Add (.Name xj p8) p9) p10] [] p11 :: rest) (T F W (dictM b i j l mi mr)) :=
  ss_dict hr1 hpo hN hu hpn hit hg hgk hrest hi hx hj hl vi vj vl di ci dj cj dl cl hc hf hs1 hs2 hs3
/-- a comprehension over one name, what is under way around it being known -/
theorem lc1P_ (N' : List Str) (sc' : Scope) (hN : X.N.Nodup) (i : Nat) {x : Str} {elt iter : Expr} {scope : Scope} {pos np : Pos} {mi : M (List Dat)} {me : M Dat} (hi : PI X (.Name x np) iter (I_ F W mi)) (he : ∀ (s : Shared) (H : Hp) (C : Addr) (cl : List (Str × Addr)) (fp : List Addr) (ps : List (Addr × HO)), (∀ q ∈ F.pins, q ∈ ps) → PE (X.blk s H scope (compEnvC scope cl C X.env) fp) elt (Pn.E (F.pn ps) W0 me))
    (ok : BlkOk N' sc' scope [(x, i)] := by exact ⟨rfl, by decide +kernel, by decide +kernel, by decide +kernel, by decide +kernel⟩) (eN : X.N = N' := by rfl) (eS : X.env.scope = sc' := by rfl) (hc : X.calm = true := by rfl) (hx : X.N[i]? = some x := by rfl) (hl : ∀ (s : Shared) (H : Hp) (C : Addr) (cl : List (Str × Addr)) (fp : List Addr), (X.blk s H scope (compEnvC scope cl C X.env) fp).env.scope.names.lookup x = some .local := by intro _ _ _ _ _; rfl) (hs : ∀ x, foldedSetIterable iter X.env x = pure x := by intro _; rfl) : PE X (.ListComp elt [⟨.Name x np, iter, [], 0⟩] scope pos) (EX F W (M.bind mi (lcM [i] (put i) (ret true) me))) :=
  e_lcP (own := [(x, i)]) hc hN hi (eN ▸ eS ▸ ok) (fun s H C cl fp => pg_name (X := X.blk s H scope (compEnvC scope cl C X.env) fp) hN hx (.inl (hl s H C cl fp)) (.inr (hl s H C cl fp))) (fun ps => gok_name) (fun j hj => by simpa using hj) (fun s H C cl fp => pts_nil) (fun ps σ H Q h => noif ps σ H Q h) he hs
end
end Pn

set_option maxHeartbeats 2000001
/-! three names at once; a def without parameters -/
namespace Pn
open L2 PyProof.Rows PySem.Spec PySem
section
variable {F : Fr} {W : L2.WX} {σ : L2.St} {H : Hp} {X : Cx} {D : Ends}
/-- a, b, c = x, y, z -/
def par3M (i j l : Nat) (ms : M (List Dat)) : M Ctl := M.bind ms fun ds c => match ds with
  | [d, e, f] => (match put i d c with
    | none => .bad
    | some c1 => match put j e c1 with
      | none => .bad
      | some c2 => match put l f c2 with
        | none => .bad
        | some c3 => .ok .nx c3)
  | _ => .bad
theorem par3_ (i j l : Nat) {x y z : Str} {a b c : Expr} {ms : M (List Dat)} {px py pz pt pos : Pos} {kt k2 : Nat} {pt2 : Pos} (hN : X.N.Nodup) (ha : PA X [a, b, c] (Pn.A F W ms)) (hc : X.calm = true := by rfl) (hi : X.N[i]? = some x := by rfl) (hj : X.N[j]? = some y := by rfl) (hl : X.N[l]? = some z := by rfl) (hij : i ≠ j := by decide) (hil : i ≠ l := by decide) (hjl : j ≠ l := by decide)
    (hx : X.env.scope.names.lookup x = some .local := by rfl) (hy : X.env.scope.names.lookup y = some .local := by rfl) (hz : X.env.scope.names.lookup z = some .local := by rfl) (hw : swappedStores [.Tuple [.Name x px, .Name y py, .Name z pz] kt pt] (.Tuple [a, b, c] k2 pt2) X.env = pure (some [x, y, z]) := by rfl)
    (hs : swapsWithSole [.Tuple [.Name x px, .Name y py, .Name z pz] kt pt] (.Tuple [a, b, c] k2 pt2) pos.line X.env = pure false := by rfl) : PS X (.Assign [.Tuple [.Name x px, .Name y py, .Name z pz] kt pt] (.Tuple [a, b, c] k2 pt2) pos) (T F W (par3M i j l ms)) :=
  (ps_par3 hc hN hi hj hl hij hil hjl hx hy hz ha hw hs).mono fun D σ H ⟨G, c, r, p⟩ => sx_mono (ps_bind (R1 := RA F) r p) fun vs H1 ⟨ds, G1, c1, r1, s1, q, p1⟩ => by
    cases q with
    | nil => exact p1.elim
    | @cons v vs d ds q1 q =>
      cases q with
      | nil => exact p1.elim
      | @cons w ws e es q2 q =>
        cases q with
        | nil => exact p1.elim
        | @cons u us g gs q3 q =>
          cases q with
          | cons _ _ => exact p1.elim
          | nil =>
            refine ⟨v, w, u, rfl, ?_⟩
            cases e1 : put i d c1 with
            | none => simp only [e1] at p1; exact p1.elim
            | some c2 =>
              simp only [e1] at p1
              cases e2 : put j e c2 with
              | none => simp only [e2] at p1; exact p1.elim
              | some c3 =>
                simp only [e2] at p1
                cases e3 : put l g c3 with
                | none => simp only [e3] at p1; exact p1.elim
                | some c4 =>
                  simp only [e3] at p1
                  exact p1 _ G1 _ (put_rel (put_rel (put_rel r1 q1 e1) q2 e2) q3 e3) (Same.refl _)
theorem callP0_ {k j : Nat} {g : List Dat → List Dat → DS → GR} {x : Str} {p pos : Pos} (hgd : X.A.guards = some []) (Z : HasQ X.prog X.w X.K X.mg X.base F.C false (fun _ => True) x k 0 g) (hr : Room j X.A) (tk : Takes X W) (hkj : k ≤ j := by decide) (hK : F.K = X.K := by rfl) (hg : Gl X x := by rfl) (hdb : (x == ("__debug__" : Str)) = false := by decide) :
    PE X (.Call (.Name x p) [] [] pos) (EX F W (callQM false 0 g aNil)) := by
  obtain ⟨f, fd, ps, h2, h3, h4, h5⟩ := Z.ex
  have base : PE X (.Call (.Name x p) [] [] pos) (fun σ H Q => spG X.K F.C false false (fun _ => True) 0 g [] H Q (fun cls d H' => W cls d σ H')) := by
    (refine ⟨fun pins s σ H Q I h => ?_⟩)
    refine wpAny_Call_Name_kw (ld_glob I hg h3 ?_ hdb)
    exact PySem.W.callWith_K0 I.kIn h4 (fnG_run (us := []) h2 hgd (hr.mono hkj) h5 (passAt tk σ) I .nil h)
  refine base.mono fun σ H Q ⟨G, c, r, p⟩ => ?_
  have p : Po F W σ (RX F) Q G (callQ g [] c) := p
  refine ⟨G, [], [], [], ⟨[], [], 0⟩, 0, 0, 0, 0, [], trivial, (fun _ z => nomatch z), r.sub, .nil, rfl, rfl, (fun z => nomatch z), (fun z => nomatch z), (fun z => nomatch z), ?_⟩
  unfold callQ at p
  cases e : g [] [] ⟨[], [], 0⟩ with
  | ok v l s =>
    rw [e] at p
    intro x G' H' a _ _ _ z2
    have a := AfterT.nil (by simpa [onS, onI, onM] using a)
    exact p x G' H' (r.after a) a.g (Ret.rx r a (hK ▸ z2))
  | exc k d l s =>
    rw [e] at p
    intro ad v G' H' a _ _ _ z2 z3
    have a := AfterT.nil (by simpa [onS, onI, onM] using a)
    exact p ad v G' H' (r.after a) a.g z2 (hK ▸ z3)
  | bad =>
    rw [e] at p
    exact p
end
end Pn

set_option maxHeartbeats 2000001
/-! the greatest of a tuple of integers -/
namespace Pn
open L2 PyProof.Rows PySem.Spec PySem
section
variable {X : Cx}
def rMaxTI (K : PySem.W.Frag) : List V → Hp → VK → Prop := fun vs H Q => ∃ (a : Addr) (n : Int) (ns : List Int), vs = [V.ref a] ∧ SqT K H a ((n :: ns).map V.int) ∧ Q (.int (topI (n :: ns))) H
theorem dpInts {K : PySem.W.Frag} {H : Hp} : ∀ ns : List Int, DpAll K H (ns.map V.int) (ns.map PyData.int)
  | [] => .nil
  | n :: ns => .cons (.int n) (dpInts ns)
theorem alikeInts (ns : List Int) : W.AlikeAll (ns.map PyData.int) := by
  refine ⟨fun x hx y hy => ?_, fun x hx e => ?_⟩
  · obtain ⟨i, _, rfl⟩ := List.mem_map.mp hx
    obtain ⟨j, _, rfl⟩ := List.mem_map.mp hy
    rfl
  · obtain ⟨i, _, rfl⟩ := List.mem_map.mp hx
    cases e
theorem depthInts : ∀ ns : List Int, PyData.depthAll (ns.map PyData.int) = 0
  | [] => rfl
  | n :: ns => by
    show max (PyData.depth (.int n)) (PyData.depthAll (ns.map PyData.int)) = 0
    rw [depthInts ns]
    rfl
theorem vals_atI : ∀ {vs : List V} {us : List Value}, Vals vs us → ∀ (i : Nat) (u : Value), us[i]? = some u → ∃ v, vs[i]? = some v ∧ RelV v u
  | _, _, .nil, i, u, h => by cases h
  | _, _, .cons r t, 0, u, h => by cases h; exact ⟨_, rfl, r⟩
  | _, _, .cons r t, i + 1, u, h => vals_atI t i u h
theorem readsAll_posI {h : Heap} : ∀ {vs : List Value} {xs : List PyData} {as : List Addr}, ReadsAll h vs xs as → ∀ (i : Nat) (v : Value), vs[i]? = some v → ∃ d bs, xs[i]? = some d ∧ Reads h v d bs
  | _, _, _, .nil, i, v, h => by cases h
  | _, _, _, .cons a b, 0, v, h => by cases h; exact ⟨_, _, rfl, a⟩
  | _, _, _, .cons a b, i + 1, v, h => readsAll_posI b i v h
theorem cr_maxT (hc : X.calm = true) (hu : X.A.units + 66 < cLine) : CallR X (.builtin "max") (rMaxTI X.K) := by
  (intro pins s σ H vs us Q I r h)
  obtain ⟨a, n, ns, rfl, hs, q⟩ := h
  obtain ⟨its, rv, hl, _⟩ := I.tuple hs
  rw [Vals.ref1 r]
  obtain ⟨as, rd⟩ := Dp.readsAll I ((n :: ns).map PyData.int) ((n :: ns).map V.int) its (dpInts _) rv
  refine W.max_tuple_data (x := .int n) (xs := ns.map .int) (I.ok.hd hc) hl (by simpa using rd) (alikeInts (n :: ns)) (by
    have := depthInts (n :: ns)
    rw [List.map_cons] at this
    rw [this]; omega) fun i v h' tk bs hv rm hk => ?_
  have hv : its[i]? = some v := by simpa using hv
  obtain ⟨x, hx, rx⟩ := vals_atI rv i v hv
  obtain ⟨e, cs, he, re⟩ := readsAll_posI rd i v hv
  have same := (reads_det (fun b o z _ => hk b o z) re rm).1
  have ex : x = .int (topI (n :: ns)) := by
    rw [List.getElem?_map] at hx he
    cases en : (n :: ns)[i]? with
    | none => rw [en] at hx; cases hx
    | some k =>
      rw [en] at hx he
      cases hx
      cases he
      rw [W.maxD_ints] at same
      cases same
      rfl
  exact ⟨x, H, I.kept hk, rx, ex ▸ q⟩
end
def maxTR (r : Row) : M Dat := match r.1, intL r.2 with
  | true, some (n :: ns) => ret (.int (topI (n :: ns)))
  | _, _ => bad
section
variable {F : Fr} {W : L2.WX} {σ : L2.St} {H : Hp} {X : Cx}
theorem maxT_ {m : M Row} {a : Expr} {p pos : Pos} (hu : X.A.units + 66 < cLine) (hm : X.mg "max" = none) (ha : PE X a (R_ F W m)) (hK : F.K = X.K := by rfl) (hc : X.calm = true := by rfl) (hg : Gl X "max" := by rfl) (he : starEach [a] X.env = (false, eval a X.env) :: starEach [] X.env := by rfl) : PE X (.Call (.Name "max" p) [a] [] pos) (Pn.E F W (M.bind m maxTR)) :=
  b_call1 (δ := V) (cr_maxT hc hu) hg hm (by decide +kernel) (fun {G H c v d Q σ} r ⟨a, xs, e, h, q⟩ p => by
    obtain ⟨k, l⟩ := d
    unfold maxTR at p
    cases k with
    | false => exact p.elim
    | true =>
      cases eb : intL l with
      | none => simp only [eb] at p; exact p.elim
      | some ns =>
        cases ns with
        | nil => simp only [eb] at p; exact p.elim
        | cons n ns =>
          simp only [eb] at p
          exact ⟨a, n, ns, by rw [e], by rw [← intL_dp q eb, ← hK]; exact sqT_mono r.sub h, po_ret r p (.int _)⟩) ha (by decide) (by decide) he
end
end Pn

set_option maxHeartbeats 4000003
/-! a tuple told once over: the very same -/
namespace Pn
open L2 PySem PySem.Spec PyProof.Rows
theorem once_own (l : Addr) (items : Array Value) (n : Nat) (dd : Option Addr) (sl : Array (Option Value)) (u : Tok) :
    Meets (Builtin.«tuple.__mul__» ⟨[.ref l, .int 1 u], []⟩) (fun _ R s => s.heap.get? l = some { cls := .type "tuple", dict := dd, data := .seq items n, slots := sl } ∧ R (.ok (.ret (Value.ref l))) s) :=
  .of_wp fun prog w A R s h9 => by
    (obtain ⟨hp, g, d, tk, os⟩ := s)
    obtain ⟨hlu, h⟩ := h9
    have f1 := AutoSeq1.idx_int
    have c0 : (decide ((1 : Int) < -(2 ^ 63)) || decide ((1 : Int) ≥ 2 ^ 63)) = false := by decide
    have c1 : (items.isEmpty || (1 : Int) == 1) = true := by simp
    wp_walk using wpAny_loadPart' hlu
    repeat (first
      | (refine wpAny_ite_false (decide_eq_false (by rw [c0]; exact Bool.false_ne_true)) ?_; wp_walk using wpAny_loadPart' hlu)
      | (refine wpAny_ite_true (decide_eq_true c1) ?_; wp_walk using wpAny_loadPart' hlu))
    exact ⟨_, rfl, h⟩
def rRep1 (K : PySem.W.Frag) : R2 := fun x y H Q => ∃ l k xs, x = .ref l ∧ y = .int k ∧ SqT K H l xs ∧ xs ≠ [] ∧ 1 ≤ k ∧ k ≤ 1000 ∧ xs.length ≤ 1000 ∧ (k = 1 → Q x H) ∧ ∀ p, H p = none → Q (.ref p) (upd H p (.tup (List.replicate k.toNat xs).flatten))
theorem op_rep1 {X : Cx} : OpR X (binaryOp .Mult) (rRep1 X.K) := by
  (intro pins s σ H x y v u Q I rx ry h)
  obtain ⟨l, k, xs, ex, ey, hT, hne, h1, h2, hz, q1, q⟩ := h
  by_cases e : 2 ≤ k
  · exact op_repT pins s σ H x y v u Q I rx ry ⟨l, k, xs, ex, ey, hT, hne, e, h2, hz, q⟩
  · have k1 : k = 1 := by omega
    subst k1
    subst ex
    subst ey
    cases rx
    obtain ⟨t, rfl⟩ := ry
    (obtain ⟨its, r, ⟨⟨cls, dd, data, sl⟩, ho, hc, n, hd⟩, hs⟩ := I.tuple hT)
    simp only at hc hd
    subst hc hd
    refine wpAny_binaryOp_repeat_ref (T := "tuple") (U := "int") (by decide) ⟨_, ho, rfl⟩ (fun s' => typeIs_int s' 1 t) noFill_tuple_mul F.fills_int_mul F.slot_int_rmul repeat_tuple F.slot_int_index.lookup
      (call_meets F.slot_int_rmul (typeIs_int s 1 t) F.entry_int_rmul (F.args_int_rmul_2 _ _) (int_rmul_tuple 1 t l its.toArray n dd sl)
        ⟨ho, rfl, ⟨_, ho, rfl⟩, call_meets F.slot_tuple_mul ⟨_, ho, rfl⟩ F.entry_tuple_mul (F.args_tuple_mul_2 _ _) (once_own l its.toArray n dd sl t) ⟨ho, ?_⟩⟩)
    exact ⟨.ref l, _, I, rfl, q1 rfl⟩
/-- a tuple some times over -/
def repD : Dat → Dat → M RV
  | .tuple a, .int k => if a ≠ [] ∧ 1 ≤ k ∧ k ≤ 1000 ∧ a.length ≤ 1000 then ret (.sh (.tuple (List.replicate k.toNat a).flatten)) else bad
  | _, _ => bad
theorem rep_dp {K : PySem.W.Frag} {G : Hp} {xs : List V} {l : List Dat} (q : RpA K G xs l) : ∀ n : Nat, RpA K G (List.replicate n xs).flatten (List.replicate n l).flatten
  | 0 => .nil
  | n + 1 => by
    (rw [List.replicate_succ, List.replicate_succ, List.flatten_cons, List.flatten_cons])
    exact dpAll_app q (rep_dp q n)
section
variable {F : Fr} {W : L2.WX} {X : Cx} {a b : Expr} {ma mb : M Dat} {pos : Pos}
theorem rep_ (ha : PE X a (Pn.E F W ma)) (hb : PE X b (Pn.E F W mb)) (hK : F.K = X.K := by rfl) : PE X (.BinOp a .Mult b pos) (EX F W (M.bind ma fun x => M.bind mb fun y => repD x y)) := by
  refine (pe_op op_rep1 ha hb).mono fun σ H Q h => sx_mono (sx_bind2 h) fun x H1 hh => sx_mono hh fun y H2 ⟨d, e, G2, c2, r2, q1, q2, p⟩ => ?_
  cases q1 with
  | @tup a1 xs l1 t1 k1 =>
    cases q2 with
    | int k =>
      by_cases o : l1 ≠ [] ∧ 1 ≤ k ∧ k ≤ 1000 ∧ l1.length ≤ 1000
      · have eo : repD (.tuple l1) (.int k) = ret (.sh (.tuple (List.replicate k.toNat l1).flatten)) := if_pos o
        rw [eo] at p
        obtain ⟨o1, o2, o3, o4⟩ := o
        refine ⟨a1, k, xs, rfl, rfl, hK ▸ sqT_mono r2.sub t1, fun z => ?_, o2, o3, by rw [dpAll_len k1]; exact o4, fun e1 => ?_, fun z hz => ?_⟩
        · subst z
          cases k1
          exact o1 rfl
        · subst e1
          have e2 : (List.replicate (1 : Int).toNat l1).flatten = l1 := by simp
          rw [e2] at p
          exact po_ret r2 p (.tup t1 k1)
        · obtain ⟨r3, s3⟩ := r2.laid (o := .tup (List.replicate k.toNat xs).flatten) hz
          exact p _ _ _ r3 s3 (.tup (Evl.st_of upd_same) (dpAll_mono s3 (rep_dp k1 _)))
      · have eo : repD (.tuple l1) (.int k) = bad := if_neg o
        rw [eo] at p
        exact p.elim
    | _ => exact p.elim
  | _ => cases q2 <;> exact p.elim
end
end Pn

set_option maxHeartbeats 2000003
/-! a list times a number; a sum; what is not looked at -/
namespace Pn
open L2 PyProof.Rows PySem.Spec PySem
def repLD : Dat → Dat → M RV
  | .list a, .int k => if 0 ≤ k ∧ k ≤ 1000 ∧ a.length ≤ 1000 then ret (.fr (List.replicate k.toNat a).flatten) else bad
  | _, _ => bad
def sumR (r : Row) : M Dat := match r.1, intL r.2 with
  | false, some ns => ret (.int ns.sum)
  | _, _ => bad
section
variable {F : Fr} {W : L2.WX} {σ : L2.St} {H : Hp} {X : Cx} {a b : Expr} {ma mb : M Dat} {pos : Pos}
theorem repL_ (ha : PE X a (Pn.E F W ma)) (hb : PE X b (Pn.E F W mb)) : PE X (.BinOp a .Mult b pos) (EX F W (M.bind ma fun x => M.bind mb fun y => repLD x y)) := by
  refine (pe_op op_rep ha hb).mono fun σ H Q h => sx_mono (sx_bind2 h) fun x H1 hh => sx_mono hh fun y H2 ⟨d, e, G2, c2, r2, q1, q2, p⟩ => ?_
  cases q1 with
  | @lst a1 xs l1 t1 k1 =>
    cases q2 with
    | int k =>
      by_cases o : 0 ≤ k ∧ k ≤ 1000 ∧ l1.length ≤ 1000
      · have eo : repLD (.list l1) (.int k) = ret (.fr (List.replicate k.toNat l1).flatten) := if_pos o
        rw [eo] at p
        obtain ⟨o2, o3, o4⟩ := o
        have hs : (sizeLine = 16777216) := sizeLine_eq
        have hl : xs.length ≤ 1000 := by rw [dpAll_len k1]; exact o4
        have hk : k.toNat ≤ 1000 := by omega
        have hm : xs.length * k.toNat ≤ 1000 * 1000 := Nat.mul_le_mul hl hk
        refine ⟨a1, k, xs, rfl, rfl, r2.sub _ _ t1, by omega, by omega, by omega, fun z hz => ?_⟩
        obtain ⟨r3, z3⟩ := r2.lone hz (rep_dp k1 k.toNat)
        exact p _ _ _ r3 (Same.refl _) ⟨z, rfl, z3⟩
      · have eo : repLD (.list l1) (.int k) = bad := if_neg o
        rw [eo] at p
        exact p.elim
    | _ => exact p.elim
  | _ => cases q2 <;> exact p.elim
theorem sum_ {m : M Row} {a : Expr} {p pos : Pos} (hm : X.mg "sum" = none) (ha : PE X a (R_ F W m)) (hc : X.calm = true := by rfl) (hg : Gl X "sum" := by rfl) (he : starEach [a] X.env = (false, eval a X.env) :: starEach [] X.env := by rfl) : PE X (.Call (.Name "sum" p) [a] [] pos) (Pn.E F W (M.bind m sumR)) :=
  b_call1 (δ := V) (cr_sum hc) hg hm (by decide +kernel) (fun {G H c v d Q σ} r ⟨a, xs, e, h, q⟩ p => by
    obtain ⟨k, l⟩ := d
    unfold sumR at p
    cases k with
    | true => exact p.elim
    | false =>
      cases eb : intL l with
      | none => simp only [eb] at p; exact p.elim
      | some ns =>
        simp only [eb] at p
        exact ⟨a, ns, by rw [e], by rw [← intL_dp q eb]; exact Evl.sq_of h, po_ret r p (.int _)⟩) ha (by decide) (by decide) he
theorem ss_bad {l : List Stmt} : PSs X l (T F W (fun _ => .bad)) := ⟨fun pins s σ H D I ⟨G, c, r, p⟩ => p.elim⟩
end
end Pn

set_option maxHeartbeats 1000001
/-! x is not None -/
namespace Pn
open L2 PyProof.Rows PySem.Spec PySem
def isntR : Dat → Dat → M Dat
  | .none, .none => ret (.bool false)
  | _, .none => ret (.bool true)
  | _, _ => bad
def isR : Dat → Dat → M Dat
  | .none, .none => ret (.bool true)
  | _, .none => ret (.bool false)
  | _, _ => bad
def negV (m : M Dat) : M Dat := M.bind m fun d => match d with
  | .int i => ret (.int (-i))
  | _ => bad
section
variable {F : Fr} {W : L2.WX} {σ : L2.St} {H : Hp} {X : Cx} {a b : Expr} {ma mb : M Dat} {pos : Pos}
theorem hf_isnt {G H : Hp} {c : Cfg} {x y : V} {d e : Dat} {Q : VK} {σ : L2.St} (r : Rel F G c σ H) (h1 : Rp F.K G x d) (h2 : Rp F.K G y e) (p : Po F W σ (RD F) Q G (isntR d e c)) : y = .non ∧ Q (.bl (!decide (x = .non))) H := by
  cases h2 with
  | non =>
    refine ⟨rfl, ?_⟩
    cases h1 with
    | non => exact po_ret r p (.bl _)
    | _ => exact po_ret r p (.bl _)
  | _ => cases h1 <;> exact p.elim
theorem hf_is {G H : Hp} {c : Cfg} {x y : V} {d e : Dat} {Q : VK} {σ : L2.St} (r : Rel F G c σ H) (h1 : Rp F.K G x d) (h2 : Rp F.K G y e) (p : Po F W σ (RD F) Q G (isR d e c)) : y = .non ∧ Q (.bl (decide (x = .non))) H := by
  cases h2 with
  | non =>
    refine ⟨rfl, ?_⟩
    cases h1 with
    | non => exact po_ret r p (.bl _)
    | _ => exact po_ret r p (.bl _)
  | _ => cases h1 <;> exact p.elim
theorem tis_ (ha : PE X a (Pn.E F W ma)) (hb : PE X b (Pn.E F W mb)) (hm : behindInMarks .Is b = false := by rfl) : PT X (.Compare a [.Is] [b] pos) (B F W (toB (m2 isR ma mb))) := t_cmp op_isN hf_is hm ha hb
theorem tisn_ (ha : PE X a (Pn.E F W ma)) (hb : PE X b (Pn.E F W mb)) (hm : behindInMarks .IsNot b = false := by rfl) : PT X (.Compare a [.IsNot] [b] pos) (B F W (toB (m2 isntR ma mb))) := t_cmp op_notN hf_isnt hm ha hb
theorem neg_ {a : Expr} {m : M Dat} {pos : Pos} (h : PE X a (Pn.E F W m)) : PE X (.UnaryOp .USub a pos) (Pn.E F W (negV m)) :=
  (pe_un un_neg h).mono fun σ H Q h => sx_mono (sx_bind (R1 := RD F) h) fun x H1 ⟨d, G1, c1, r1, q, p⟩ => by
    cases q with
    | int i => exact ⟨i, rfl, po_ret r1 p (.int _)⟩
    | _ => exact p.elim
end
end Pn

set_option maxHeartbeats 2000001
/-! list(enumerate(a list)): each pair stays in the list that is made, so each turn makes a new one. -/
namespace PnEl
open L2 PyProof.Rows PySem.Spec PySem
/-- the enumerate at e has given out the pair at T, which still is -/
abbrev Given (m : Heap) (e j : Addr) (c : Int) (y : Value) (T : Addr) (f : Bool) : Prop :=
  m.get? e = some (Obj.mk (.type "enumerate") none (.fields #[rawInt T, .bool f, .ref j, rawInt c, .none, y]) #[])
section
variable {P : Program}
variable {w : World} {A : Around} {E : Value → Shared → Prop} {s : Shared}
theorem alive_ {T : Addr} {u : Obj} {R : Option Obj → Shared → Prop} (hu : s.heap.get? T = some u) (r : R (some u) s) :
    wpAny (model P w) A (loadIfAlive T) R E s := fun _ _ _ => by
  show R (s.heap.get? T) s
  rw [hu]
  exact r
theorem out_item {e j l T : Addr} {f : Bool} {u : Obj} {n : Nat} {its : Array Value} {x y : Value} {R : Option Value → Shared → Prop}
    (g0 : Given s.heap e j n y T f) (hu : s.heap.get? T = some u) (nT : T ≠ e) (nj : T ≠ j) (ne : e ≠ j)
    (li : s.heap.IsListIter j l n) (hl : s.heap.IsList l its) (hx : its[n]? = some x)
    (r : ∀ m, Given m e j ((n : Int) + 1) y T true → m.IsListIter j l (n + 1) →
      m.get? s.heap.objs.size = some { cls := .type "tuple", data := .seq #[.int n s.toks, x] } →
      (∀ b o, b ≠ j → b ≠ e → s.heap.get? b = some o → m.get? b = some o) → m.objs.size = s.heap.objs.size + 1 →
      R (some (.ref s.heap.objs.size)) { s with heap := m, toks := s.toks + 1 }) : wpAny (model P w) A (pyNext (.ref e)) R E s := by
  obtain ⟨m0, gn, dr, tk, os⟩ := s
  have ty : Shared.TypeIs ⟨m0, gn, dr, tk, os⟩ (.ref e) "enumerate" := ⟨_, g0, rfl⟩
  have hel : e < m0.objs.size := Heap.lt_size g0
  unfold pyNext
  refine wpAny_bind (wpAny_attempt (wpAny_callSpecial?_slot (name := Str.ofString "__next__") ty F.slot_enumerate_next (wpAny_call_entry F.slot_enumerate_next ty
    F.entry_enumerate_next (Q := fun v z => wpAny (model P w) A (pure (some v)) R E z) ?_ (F.args_enumerate_next_1 _))))
  show wpAny _ _ (field (.ref e) 2 >>= fun v => _) _ _ _
  refine wpAny_bind (wpAny_field g0 rfl (x := Value.ref j) rfl (wpAny_bind (wpAny_nextOf_list_item li hl hx fun m1 li1 sb1 => ?_)))
  have k1 : Heap.SameBut j m0 m1 := sb1
  have g1 : Given m1 e j n y T f := by
    have z := k1.2 e ne
    exact z.trans g0
  show wpAny _ _ (field (.ref e) 3 >>= fun v => _) _ _ ⟨m1, gn, dr, tk, os⟩
  refine wpAny_bind (wpAny_field g1 rfl (x := rawInt n) rfl ?_)
  show wpAny _ _ (field (.ref e) 4 >>= fun v => _) _ _ ⟨m1, gn, dr, tk, os⟩
  refine wpAny_bind (wpAny_field g1 rfl (x := Value.none) rfl ?_)
  show wpAny _ _ (mkInt n >>= fun v => _) _ _ ⟨m1, gn, dr, tk, os⟩
  (refine wpAny_bind (wpAny_mkInt ?_))
  show wpAny _ _ (setField (.ref e) 3 (rawInt ((n : Int) + 1)) >>= fun v => _) _ _ ⟨m1, gn, dr, tk + 1, os⟩
  refine wpAny_bind (wpAny_setField_rec g1 (by simp) fun m2 g2 sb2 => ?_)
  have k2 : Heap.SameBut e m1 m2 := sb2
  have g2 : Given m2 e j ((n : Int) + 1) y T f := g2
  show wpAny _ _ (setField (.ref e) 4 .none >>= fun v => _) _ _ ⟨m2, gn, dr, tk + 1, os⟩
  refine wpAny_bind (wpAny_setField_rec g2 (by simp) fun m3 g3 sb3 => ?_)
  have k3 : Heap.SameBut e m2 m3 := sb3
  have g3 : Given m3 e j ((n : Int) + 1) y T f := g3
  have z3 : m3.objs.size = m0.objs.size := by rw [k3.1, k2.1, k1.1]
  show wpAny _ _ (newTuple [.int n tk, x] >>= fun v => _) _ _ ⟨m3, gn, dr, tk + 1, os⟩
  (refine wpAny_bind (wpAny_newTuple ?_))
  have g4 : Given (m3.push { cls := .type "tuple", data := .seq #[.int n tk, x] }) e j ((n : Int) + 1) y T f := Heap.get?_push_of_some _ g3
  have pair4 : (m3.push { cls := .type "tuple", data := .seq #[.int n tk, x] }).get? m0.objs.size = some { cls := .type "tuple", data := .seq #[.int n tk, x] } := by
    rw [← z3]
    (exact Heap.get?_push_size _ rfl)
  have up4 : ∀ b o, b ≠ j → b ≠ e → m0.get? b = some o → (m3.push { cls := .type "tuple", data := .seq #[.int n tk, x] }).get? b = some o := fun b o h1 h2 q =>
    Heap.get?_push_of_some _ (k3.extBut b o h2 (k2.extBut b o h2 (k1.extBut b o h1 q)))
  have li4 : (m3.push { cls := .type "tuple", data := .seq #[.int n tk, x] }).IsListIter j l (n + 1) := li1.at fun o q =>
    Heap.get?_push_of_some _ (k3.extBut j o ne.symm (k2.extBut j o ne.symm q))
  have z4 : (m3.push { cls := .type "tuple", data := .seq #[.int n tk, x] }).objs.size = m0.objs.size + 1 := by rw [Heap.size_push, z3]
  generalize m3.push { cls := .type "tuple", data := .seq #[.int n tk, x] } = m4 at g4 pair4 up4 li4 z4
  rw [z3]
  show wpAny _ _ (Builtin.SmallTypes.ownedTupleIsFree (.ref e) >>= fun v => _) _ _ ⟨m4, gn, dr, tk + 1, os⟩
  refine wpAny_bind ?_
  (unfold Builtin.SmallTypes.ownedTupleIsFree)
  refine wpAny_bind (wpAny_field g4 rfl (x := rawInt T) rfl ?_)
  show wpAny _ _ (loadIfAlive ((T : Int).toNat) >>= fun v => _) _ _ ⟨m4, gn, dr, tk + 1, os⟩
  rw [Int.toNat_natCast]
  refine wpAny_bind (alive_ (up4 T u nj nT hu) ?_)
  (simp only [Option.isNone_some, Bool.false_eq_true, if_false])
  refine wpAny_bind (wpAny_field g4 rfl (x := Value.bool f) rfl ?_)
  cases f with
  | true =>
    rw [if_neg (by decide)]
    exact wpAny_pure (wpAny_pure ⟨_, rfl, wpAny_pure (r m4 g4 li4 pair4 up4 z4)⟩)
  | false =>
    rw [if_pos (by decide)]
    refine wpAny_bind (wpAny_setField_rec g4 (by simp) fun m5 g5 sb5 => ?_)
    have k5 : Heap.SameBut e m4 m5 := sb5
    have g5 : Given m5 e j ((n : Int) + 1) y T true := g5
    refine wpAny_pure (wpAny_pure ⟨_, rfl, wpAny_pure (r m5 g5 (li4.at fun o q => k5.extBut j o ne.symm q) (k5.extBut _ _ (Nat.ne_of_gt hel) pair4) (fun b o h1 h2 q => k5.extBut b o h2 (up4 b o h1 h2 q)) ?_)⟩)
    rw [k5.1, z4]
theorem out_end {e j l T : Addr} {f : Bool} {n : Nat} {its : Array Value} {y : Value} {R : Option Value → Shared → Prop} (hh : A.handled = none)
    (g0 : Given s.heap e j n y T f) (li : s.heap.IsListIter j l n) (hl : s.heap.IsList l its) (hx : its[n]? = none)
    (r : ∀ m, Heap.ExtBut j s.heap m → R none { s with heap := m }) : wpAny (model P w) A (pyNext (.ref e)) R E s := by
  have ty : s.TypeIs (.ref e) "enumerate" := ⟨_, g0, rfl⟩
  unfold pyNext
  refine wpAny_bind (wpAny_attempt (wpAny_callSpecial?_slot (name := Str.ofString "__next__") ty F.slot_enumerate_next (wpAny_call_entry F.slot_enumerate_next ty F.entry_enumerate_next ?_ (F.args_enumerate_next_1 _))))
  show wpAny _ _ (field (.ref e) 2 >>= fun v => _) _ _ _
  refine wpAny_bind (wpAny_field g0 rfl (x := Value.ref j) rfl (wpAny_bind (wpAny_nextOf_list_end hh li hl hx fun m z em hz => ?_)))
  obtain ⟨o, ho, hc⟩ := hz
  exact wpAny_bind (wpAny_isInstance (T := "StopIteration") (b := true) ⟨o, ho, hc⟩ isSubtype_stop (wpAny_pure (r _ em)))
/-- before its turn n -/
def AtN (m : Heap) (e j l S : Addr) (n : Nat) : Prop :=
  m.IsListIter j l n ∧ ((∃ y, IsEnum m e j n y) ∨ ∃ y T f u, Given m e j n y T f ∧ m.get? T = some u ∧ T ≠ e ∧ T ≠ j ∧ T ≠ S)
theorem AtN.keep {m m' : Heap} {e j l S : Addr} {n : Nat} (x : AtN m e j l S n) (k : ∀ b o, b ≠ S → m.get? b = some o → m'.get? b = some o) (he : e ≠ S) (hj : j ≠ S) : AtN m' e j l S n := by
  obtain ⟨x1, x2⟩ := x
  refine ⟨x1.at fun o q => k j o hj q, ?_⟩
  rcases x2 with ⟨y, h⟩ | ⟨y, T, f, u, h, hu, a1, a2, a3⟩
  · exact .inl ⟨y, k _ _ he h⟩
  · exact .inr ⟨y, T, f, u, k _ _ he h, k _ _ a3 hu, a1, a2, a3⟩
theorem at_item {e j l S : Addr} {n : Nat} {its : Array Value} {x : Value} {R : Option Value → Shared → Prop} (h : AtN s.heap e j l S n) (ne : e ≠ j) (hS : S < s.heap.objs.size) (hl : s.heap.IsList l its) (hx : its[n]? = some x)
    (r : ∀ m, AtN m e j l S (n + 1) → m.get? s.heap.objs.size = some { cls := .type "tuple", data := .seq #[.int n s.toks, x] } →
      (∀ b o, b ≠ j → b ≠ e → s.heap.get? b = some o → m.get? b = some o) → m.objs.size = s.heap.objs.size + 1 →
      R (some (.ref s.heap.objs.size)) { s with heap := m, toks := s.toks + 1 }) : wpAny (model P w) A (pyNext (.ref e)) R E s := by
  have en : ((n + 1 : Nat) : Int) = (n : Int) + 1 := by omega
  obtain ⟨li, h⟩ := h
  have hj : j < s.heap.objs.size := li.elim fun _ q => Heap.lt_size q.1
  rcases h with ⟨y, h⟩ | ⟨y, T, f, u, h, hu, a1, a2, a3⟩
  · refine wpAny_pyNext_enum_item h li hl hx ne fun m q1 q2 q3 q4 q5 => r m ⟨q2, .inr ⟨x, s.heap.objs.size, false, _, ?_, q3, ?_, ?_, ?_⟩⟩ q3 (fun b o h1 h2 => q5 b o h2 h1) q4
    · unfold Given
      rw [en]
      exact q1
    · exact Nat.ne_of_gt (Heap.lt_size h)
    · exact Nat.ne_of_gt hj
    · exact Nat.ne_of_gt hS
  · refine out_item h hu a1 a2 ne li hl hx fun m q1 q2 q3 q4 q5 => r m ⟨q2, .inr ⟨y, T, true, u, ?_, q4 T u a2 a1 hu, a1, a2, a3⟩⟩ q3 q4 q5
    unfold Given
    rw [en]
    exact q1
theorem at_end {e j l S : Addr} {n : Nat} {its : Array Value} {R : Option Value → Shared → Prop} (hh : A.handled = none) (h : AtN s.heap e j l S n) (hl : s.heap.IsList l its) (hx : its[n]? = none)
    (r : ∀ m, Heap.ExtBut j s.heap m → R none { s with heap := m }) : wpAny (model P w) A (pyNext (.ref e)) R E s := by
  obtain ⟨li, h⟩ := h
  rcases h with ⟨y, h⟩ | ⟨y, T, f, u, h, _⟩
  · exact wpAny_pyNext_enum_end hh h li hl hx r
  · exact out_end hh h li hl hx r
end
theorem two_cls {o u : Obj} {a b : String} (h : some o = some u) (h1 : o.cls = .type a) (h2 : u.cls = .type b) (n : a ≠ b) : False := by
  cases h
  rw [h1] at h2
  injection h2 with h2
  exact n h2
def numd (i : Nat) : List Value → List (Key × Value)
  | [] => []
  | v :: vs => (Sum.inl (i : Int), v) :: numd (i + 1) vs
theorem numd_len : ∀ (vs : List Value) (i : Nat), (numd i vs).length = vs.length
  | [], _ => rfl
  | _ :: vs, i => congrArg Nat.succ (numd_len vs (i + 1))
theorem numd_get : ∀ {vs : List Value} {i n : Nat} {v : Value}, vs[n]? = some v → (numd i vs)[n]? = some (Sum.inl ((i + n : Nat) : Int), v)
  | [], _, _, _, h => (by simp at h)
  | x :: vs, i, 0, v, h => by
    (simp only [List.getElem?_cons_zero, Option.some.injEq] at h)
    rw [h]
    rfl
  | x :: vs, i, n + 1, v, h => by
    rw [List.getElem?_cons_succ] at h
    have z := numd_get (i := i + 1) h
    rw [show i + (n + 1) = i + 1 + n by omega]
    exact z
section
variable {P : Program} {w : World} {A : Around} {E : Value → Shared → Prop} {s : Shared} {R : Result → Shared → Prop}
theorem en_loop {S e j l : Addr} {its : Array Value} {m0 : Heap} (hh : A.handled = none) (ne : e ≠ j) (eS : e ≠ S) (jS : j ≠ S) (lS : l ≠ S) (le : l ≠ e) (lj : l ≠ j) (hn : its.size ≤ sizeLine) (res : Value)
    (r : ∀ m tk acc c as, (∀ b o, b ≠ S → b ≠ e → b ≠ j → m0.get? b = some o → m.get? b = some o) → m.get? S = some (Obj.mk (.type "list") none (.seq acc c) #[]) → as.length = its.size →
      PySem.W.KdxG (mixKind P w) (numd 0 its.toList) S m as → acc.toList = as.map Value.ref → R (.ok (.ret res)) { s with heap := m, toks := tk }) :
    ∀ (k i : Nat) (m : Heap) (tk c : Nat) (acc : Array Value) (as : List Addr), its.size - i = k → i ≤ its.size → AtN m e j l S i → m.IsList l its → (∀ b o, b ≠ S → b ≠ e → b ≠ j → m0.get? b = some o → m.get? b = some o) →
      m.get? S = some (Obj.mk (.type "list") none (.seq acc c) #[]) → acc.toList = as.map Value.ref → as.length = i → PySem.W.KdxG (mixKind P w) (numd 0 its.toList) S m as →
      codeAny (model P w) A (.builtin "list.extend.loop" ⟨[.ref S, .ref e, res], []⟩) R { s with heap := m, toks := tk } := by
  intro k
  induction k with
  | zero =>
    intro i m tk c acc as hk hi hat hl kp hS hacc hal hG
    (refine codeAny_builtin PySem.F.entry_extend_loop ?_)
    (rw [Around.under_plainId PySem.F.plain_extend_loop _])
    show wpAny _ A.in1 (pyNext (.ref e) >>= fun v => _) _ _ _
    have ei : i = its.size := by omega
    refine wpAny_bind (at_end (s := { s with heap := m, toks := tk }) (A := A.in1) hh hat hl (by rw [ei]; exact Array.getElem?_eq_none (Nat.le_refl _)) fun m' x => wpAny_pure (r m' tk acc c as (fun b o h1 h2 h3 q => x b o h3 (kp b o h1 h2 h3 q)) (x S _ jS.symm hS) (by omega) ⟨hG.rise, hG.above, fun n a ha => ?_⟩ hacc))
    obtain ⟨key, kk, v, e1, e2, e3⟩ := hG.pairs n a ha
    refine ⟨key, kk, v, e1, e2, x a _ (fun z => ?_) e3⟩
    rcases hat.1 with ⟨o, ho, hc, _⟩
    rw [z] at e3
    exact two_cls (ho.symm.trans e3) hc rfl (by decide)
  | succ k ih =>
    intro i m tk c acc as hk hi hat hl kp hS hacc hal hG
    have hlt : (i < its.size) := by omega
    have hx : its[i]? = some its[i] := Array.getElem?_eq_getElem hlt
    have hz : acc.size = i := by rw [← Array.length_toList, hacc, List.length_map, hal]
    have mS : S < m.objs.size := Heap.lt_size hS
    (refine codeAny_builtin PySem.F.entry_extend_loop ?_)
    (rw [Around.under_plainId PySem.F.plain_extend_loop _])
    show wpAny _ A.in1 (pyNext (.ref e) >>= fun v => _) _ _ _
    refine wpAny_bind (at_item (s := { s with heap := m, toks := tk }) (A := A.in1) hat ne mS hl hx fun m' hat' pr kp' sz => ?_)
    have pr : m'.get? m.objs.size = some { cls := .type "tuple", data := .seq #[.int i tk, its[i]] } := pr
    have kp' : ∀ b o, b ≠ j → b ≠ e → m.get? b = some o → m'.get? b = some o := kp'
    have hS' := kp' S _ jS.symm eS.symm hS
    have up : ∀ b o, b ≠ S → m'.get? b = some o → (m'.update S (Obj.mapSeq (·.push (Value.ref m.objs.size)))).get? b = some o := fun b o hb q => by
      rw [Heap.get?_update_other _ _ (Ne.symm hb)]
      exact q
    have tupNe : ∀ {b : Addr} {x y : Value}, m.get? b = some { cls := .type "tuple", data := .seq #[x, y] } → b ≠ j ∧ b ≠ e := fun {b x y} q => by
      (refine ⟨fun z => ?_, fun z => ?_⟩)
      · rcases hat.1 with ⟨o, ho, hc, _⟩
        rw [z] at q
        exact two_cls (ho.symm.trans q) hc rfl (by decide)
      · rcases hat.2 with ⟨_, q2⟩ | ⟨_, _, _, _, q2, _⟩
        · rw [z] at q
          exact two_cls (q2.symm.trans q) rfl rfl (by decide)
        · rw [z] at q
          exact two_cls (q2.symm.trans q) rfl rfl (by decide)
    show wpAny _ A.in1 (updateSeq S (·.push (Value.ref m.objs.size)) >>= fun v => _) _ _ _
    refine wpAny_bind (wpAny_updateSeq hS' rfl (wpAny_pure ⟨plainId_quiet PySem.F.plain_extend_loop _, ih (i + 1) _ (tk + 1) _ (acc.push (Value.ref m.objs.size)) (as ++ [m.objs.size]) (by omega) hlt (hat'.keep up eS jS)
      (hl.at fun o q => up l o lS (kp' l o lj le q)) (fun b o h1 h2 h3 q => up b o h1 (kp' b o h3 h2 (kp b o h1 h2 h3 q))) (Heap.get?_update_self _ hS' rfl) (by rw [Array.toList_push, hacc, List.map_append]; rfl) (by rw [List.length_append, hal]; rfl) ⟨?_, ?_, ?_⟩⟩) (by rw [hz]; omega) (by show (acc.push (Value.ref m.objs.size)).size ≤ sizeLine + 1; rw [Array.size_push, hz]; omega))
    · (refine List.pairwise_append.mpr ⟨hG.rise, List.pairwise_singleton _ _, fun a ha b hb => ?_⟩)
      have eb : b = m.objs.size := List.mem_singleton.mp hb
      rw [eb]
      exact hG.there ha
    · intro a ha
      rcases List.mem_append.mp ha with h | h
      · exact hG.above a h
      · have ea : a = m.objs.size := List.mem_singleton.mp h
        rw [ea]
        exact mS
    · intro n b hb
      rcases Nat.lt_trichotomy n as.length with h1 | h1 | h1
      · rw [List.getElem?_append_left h1] at hb
        obtain ⟨key, kk, v, e1, e2, e3⟩ := hG.pairs n b hb
        have bS := hG.above b (List.mem_of_getElem? hb)
        obtain ⟨n1, n2⟩ := tupNe e3
        exact ⟨key, kk, v, e1, e2, up b _ (Nat.ne_of_gt bS) (kp' b _ n1 n2 e3)⟩
      · subst h1
        have hb : m.objs.size = b := by simpa using hb
        subst hb
        refine ⟨.int as.length tk, Sum.inl ((0 + as.length : Nat) : Int), its[i], numd_get (by rw [hal, Array.getElem?_toList]; exact hx), ?_, up _ _ (Nat.ne_of_gt mS) (by rw [hal]; exact pr)⟩
        show keyIs (Sum.inl ((0 + as.length : Nat) : Int)) (.int as.length tk) = true
        rw [Nat.zero_add]
        simp [keyIs, Value.isInt]
      · have hnone : (as ++ [m.objs.size])[n]? = none := List.getElem?_eq_none (by rw [List.length_append, List.length_singleton]; omega)
        rw [hnone] at hb
        cases hb
end
theorem en_len : typeLookup (.type "enumerate") "__len__" = pure none := by
  (rw [typeLookup_type, builtinLookup_eq_fast])
  kernel_rfl
theorem en_hint : typeLookup (.type "enumerate") "__length_hint__" = pure none := by
  (rw [typeLookup_type, builtinLookup_eq_fast])
  kernel_rfl
section
variable {P : Program}
variable {w : World} {A : Around} {E : Value → Shared → Prop} {s : Shared}
theorem en_extend {R : Result → Shared → Prop} {S e j l : Addr} {its : Array Value} {c0 : Nat} (hh : A.handled = none) (ne : e ≠ j) (eS : e ≠ S) (jS : j ≠ S) (lS : l ≠ S) (le : l ≠ e) (lj : l ≠ j) (hn : its.size ≤ sizeLine) (res : Value)
    (he : IsEnum s.heap e j 0 .none) (li : s.heap.IsListIter j l 0) (hl : s.heap.IsList l its) (hS : s.heap.get? S = some (Obj.mk (.type "list") none (.seq #[] c0) #[]))
    (r : ∀ m tk acc c as, (∀ b o, b ≠ S → b ≠ e → b ≠ j → s.heap.get? b = some o → m.get? b = some o) → m.get? S = some (Obj.mk (.type "list") none (.seq acc c) #[]) → as.length = its.size →
      PySem.W.KdxG (mixKind P w) (numd 0 its.toList) S m as → acc.toList = as.map Value.ref → R (.ok (.ret res)) { s with heap := m, toks := tk }) :
    wpAny (model P w) A.in1 (Builtin.List.listExtendWith (.ref S) (.ref e) res)
      (fun fin z => match fin with
        | .done f => R (.ok f) z
        | .again c => c.quiet = true ∧ codeAny (model P w) A c R z) (fun x z => R (.error x) z) s := by
  have ty : ∀ {z : Shared}, IsEnum z.heap e j 0 .none → z.TypeIs (.ref e) "enumerate" := fun h => ⟨_, h, rfl⟩
  have go : ∀ (m : Heap) (c1 tk : Nat), (∀ b o, b ≠ S → s.heap.get? b = some o → m.get? b = some o) → m.get? S = some (Obj.mk (.type "list") none (.seq #[] c1) #[]) →
      codeAny (model P w) A (.builtin "list.extend.loop" ⟨[.ref S, .ref e, res], []⟩) R { s with heap := m, toks := tk } := fun m c1 tk k h1 =>
    en_loop (m0 := s.heap) hh ne eS jS lS le lj hn res r its.size 0 m tk c1 #[] [] (Nat.sub_zero _) (Nat.zero_le _) ⟨li.at fun o q => k j o jS q, .inl ⟨.none, k e _ eS he⟩⟩ (hl.at fun o q => k l o lS q) (fun b o n1 _ _ q => k b o n1 q) h1 rfl rfl
      ⟨List.Pairwise.nil, (fun _ h => nomatch h), (fun n a h => by simp at h)⟩
  (unfold Builtin.List.listExtendWith)
  refine wpAny_bind (wpAny_typeOf (ty he) ?_)
  have n1 : Builtin.List.listSameRef (.ref S) (.ref e) = false := by simp [Builtin.List.listSameRef, eS.symm]
  have n2 : (Value.type "enumerate" == Value.type "list") = false := by decide
  have n3 : (Value.type "enumerate" == Value.type "tuple") = false := by decide
  simp only [n1, n2, n3, Bool.or_false, Bool.false_eq_true, if_false]
  refine wpAny_bind (wpAny_pyIter_enum he (wpAny_bind (wpAny_holding ?_)))
  (unfold Builtin.List.listLengthHint)
  refine wpAny_bind (wpAny_specialOf (ty he) en_len ?_)
  show wpAny _ A.in1 (specialOf (Value.ref e) (Str.ofString "__length_hint__") >>= fun v => _) _ _ _
  refine wpAny_bind (wpAny_specialOf (ty he) en_hint (wpAny_pure ?_))
  show wpAny _ A.in1 (rule "list.extend.makes-room" >>= fun _ => Builtin.List.listTouch (.ref S) >>= fun _ => again (.builtin "list.extend.loop" ⟨[.ref S, .ref e, res], []⟩)) _ _ _
  (refine wpAny_bind (wpAny_rule (wpAny_bind ?_)))
  show wpAny _ A.in1 (updateSeq S (·.push .none) >>= fun _ => updateSeq S (fun x => x.pop)) _ _ _
  have h2 := Heap.get?_update_self (Obj.mapSeq (·.push Value.none)) hS rfl
  have h3 := Heap.get?_update_self (Obj.mapSeq (·.pop)) h2 rfl
  refine wpAny_bind (wpAny_updateSeq hS rfl (wpAny_updateSeq (hz := by seq_fits) h2 rfl (wpAny_pure ⟨plainId_quiet PySem.F.plain_extend_loop _, go _ _ _ (fun b o hb q => ?_) h3⟩)))
  rw [Heap.get?_update_other _ _ (Ne.symm hb), Heap.get?_update_other _ _ (Ne.symm hb)]
  exact q
theorem en_list {R : Value → Shared → Prop} {e j l : Addr} {its : Array Value} (hh : A.handled = none) (ne : e ≠ j) (le : l ≠ e) (lj : l ≠ j) (hn : its.size ≤ sizeLine)
    (he : IsEnum s.heap e j 0 .none) (li : s.heap.IsListIter j l 0) (hl : s.heap.IsList l its)
    (r : ∀ m tk acc c as, (∀ b o, b ≠ e → b ≠ j → s.heap.get? b = some o → m.get? b = some o) → m.get? s.heap.objs.size = some (Obj.mk (.type "list") none (.seq acc c) #[]) → as.length = its.size →
      PySem.W.KdxG (mixKind P w) (numd 0 its.toList) s.heap.objs.size m as → acc.toList = as.map Value.ref → R (.ref s.heap.objs.size) { s with heap := m, toks := tk }) :
    wpAny (model P w) A (call (.type "list") [.ref e]) R E s := by
  refine callType_codes (Q₁ := fun v z => v = .ref s.heap.objs.size ∧ z = { s with heap := s.heap.push { cls := .type "list", data := .seq #[] } }) PySem.F.called_list (PySem.F.typeCall_list_1 _) PySem.F.entry_list_init (code_list_new _ ⟨rfl, rfl⟩) fun v z hz => ?_
  obtain ⟨rfl, rfl⟩ := hz
  have hS : (s.heap.push { cls := .type "list", data := .seq #[] }).get? s.heap.objs.size = some { cls := .type "list", data := .seq #[] } :=
    Heap.get?_push_size _ rfl
  have le_ : e < s.heap.objs.size := Heap.lt_size he
  have lj_ : j < s.heap.objs.size := li.elim fun _ q => Heap.lt_size q.1
  have ll_ : l < s.heap.objs.size := hl.elim fun _ q => Heap.lt_size q.1
  (refine ⟨⟨_, hS, rfl⟩, PySem.F.args_list_init_2 _ _, ?_⟩)
  show wpAny _ _ (do
    let old ← Builtin.List.listItems (.ref s.heap.objs.size)
    Builtin.List.listUpdate (.ref s.heap.objs.size) (fun _ => #[])
    letGo old.toList.reverse
    Builtin.List.listExtendWith (.ref s.heap.objs.size) (.ref e) .none) _ _ _
  refine wpAny_bind ?_
  unfold Builtin.List.listItems
  (refine wpAny_bind (wpAny_seqItems hS rfl (wpAny_pure ?_)))
  show wpAny _ _ (updateSeq s.heap.objs.size (fun _ => #[]) >>= fun _ => letGo (#[] : Array Value).toList.reverse >>= fun _ => Builtin.List.listExtendWith (.ref s.heap.objs.size) (.ref e) .none) _ _ _
  have h2 := Heap.get?_update_self (Obj.mapSeq (fun _ => (#[] : Array Value))) hS rfl
  have up : ∀ b o, b ≠ s.heap.objs.size → s.heap.get? b = some o → ((s.heap.push { cls := .type "list", data := .seq #[] }).update s.heap.objs.size (Obj.mapSeq (fun _ => (#[] : Array Value)))).get? b = some o := fun b o hb q => by
    rw [Heap.get?_update_other _ _ (Ne.symm hb)]
    (exact Heap.get?_push_of_some _ q)
  refine wpAny_bind (wpAny_updateSeq hS rfl (wpAny_bind (wpAny_letGo ?_)))
  refine en_extend (s := { s with heap := (s.heap.push { cls := .type "list", data := .seq #[] }).update s.heap.objs.size (Obj.mapSeq (fun _ => (#[] : Array Value))) }) (A := A.in1) (R := wants (fun v z => v = .none ∧ R (.ref s.heap.objs.size) z) E) hh ne (Nat.ne_of_lt le_) (Nat.ne_of_lt lj_) (Nat.ne_of_lt ll_) le lj hn .none (up _ _ (Nat.ne_of_lt le_) he) (li.at fun o q => up j o (Nat.ne_of_lt lj_) q) (hl.at fun o q => up l o (Nat.ne_of_lt ll_) q) h2 fun m tk acc c as k h1 h2 h3 h4 => ?_
  exact ⟨rfl, r m tk acc c as (fun b o n1 n2 q => k b o (Nat.ne_of_lt (Heap.lt_size q)) n1 n2 (up b o (Nat.ne_of_lt (Heap.lt_size q)) q)) h1 h2 h3 h4⟩
end
end PnEl

set_option maxHeartbeats 2000001
/-! list(enumerate(..)) as data -/
namespace PnEl
open L2 PyProof.Rows PySem.Spec PySem
/-- the pairs' places -/
def LaidP (H1 H' : Hp) (xs : List V) (p : Addr) (as : List Addr) : Prop :=
  (∀ b o, H1 b = some o → H' b = some o) ∧ H1 p = none ∧ (∀ t ∈ as, H1 t = none) ∧ p ∉ as ∧ H' p = some (.lst (as.map V.ref)) ∧ as.length = xs.length ∧ ∀ (i : Nat) (t : Addr) (x : V), as[i]? = some t → xs[i]? = some x → H' t = some (.tup [.int (i : Int), x])
def tLsEn (K : PySem.W.Frag) (te : TE) : TE := fun σ H Q => te σ H fun v H1 => ∃ a xs, v = .ref a ∧ SqL K H1 a xs ∧ ∀ p as H', LaidP H1 H' xs p as → Q (.ref p) H'
def numV (i : Nat) : List V → List (Key × V)
  | [] => []
  | v :: vs => (Sum.inl (i : Int), v) :: numV (i + 1) vs
theorem numV_kv : ∀ {vs : List V} {us : List Value} {i : Nat}, Vals vs us → KV (numV i vs) (numd i us)
  | _, _, _, .nil => .nil
  | _, _, _, .cons r t => .cons ⟨rfl, r⟩ (numV_kv t)
theorem numV_get : ∀ {vs : List V} {i n : Nat} {v : V}, vs[n]? = some v → (numV i vs)[n]? = some (Sum.inl ((i + n : Nat) : Int), v)
  | [], _, _, _, h => (by simp at h)
  | x :: vs, i, 0, v, h => by
    (simp only [List.getElem?_cons_zero, Option.some.injEq] at h)
    rw [h]
    rfl
  | x :: vs, i, n + 1, v, h => by
    rw [List.getElem?_cons_succ] at h
    have z := numV_get (i := i + 1) h
    rw [show i + (n + 1) = i + 1 + n by omega]
    exact z
theorem numV_len : ∀ (vs : List V) (i : Nat), (numV i vs).length = vs.length
  | [], _ => rfl
  | _ :: vs, i => congrArg Nat.succ (numV_len vs (i + 1))
theorem paired_at {α β : Type} {Z : α → β → Prop} : ∀ {l : List α} {k : List β} {i : Nat} {x : α} {y : β}, Paired Z l k → l[i]? = some x → k[i]? = some y → Z x y
  | _, _, _, _, _, .nil, h, _ => by simp at h
  | _, _, 0, _, _, .cons z _, h, h2 => by
    simp only [List.getElem?_cons_zero, Option.some.injEq] at h h2
    rw [← h, ← h2]
    exact z
  | _, _, i + 1, _, _, .cons _ t, h, h2 => paired_at t (by simpa using h) (by simpa using h2)
open LiI in
/-- the list at S and its pairs are laid at once -/
theorem laid_at {X : Cx} {pins : List (Addr × Obj)} {σ : L2.St} {H1 : Hp} {s1 : Shared} {m2 : Heap} {tk S c : Nat} {xs : List V} {its : List Value} {acc : Array Value} {as : List Addr} (I1 : Inv X pins σ H1 s1) (hz : xs.length ≤ sizeLine) (vals : Vals xs its) (lo : s1.heap.objs.size ≤ S)
    (kp : ∀ b o, s1.heap.get? b = some o → m2.get? b = some o) (hS : m2.get? S = some (Obj.mk (.type "list") none (.seq acc c) #[])) (hal : as.length = its.length) (hG : PySem.W.KdxG (mixKind X.prog X.w) (numd 0 its) S m2 as) (hacc : acc.toList = as.map Value.ref) :
    ∃ H' : Hp, LaidP H1 H' xs S as ∧ Inv X pins σ H' { s1 with heap := m2, toks := tk } := by
  have lx : xs.length = its.length := Paired.length vals
  have lk : as.length = (numV 0 xs).length := by rw [numV_len, hal, lx]
  have nd : as.Nodup := hG.rise.imp fun z => Nat.ne_of_lt z
  have nS : S ∉ as := fun z => Nat.lt_irrefl S (hG.above S z)
  have low : ∀ b, H1 b ≠ none → b ∉ as ∧ b ≠ S := fun b hb => by
    have lt : b < s1.heap.objs.size := by
      cases Nat.lt_or_ge b s1.heap.objs.size with
      | inl z => exact z
      | inr z => exact absurd (I1.hok.fresh z) hb
    exact ⟨fun z => Nat.lt_irrefl b (Nat.lt_trans (Nat.lt_of_lt_of_le lt lo) (hG.above b z)), Nat.ne_of_lt (Nat.lt_of_lt_of_le lt lo)⟩
  have fS : H1 S = none := I1.hok.fresh lo
  have fT : ∀ t ∈ as, H1 t = none := fun t ht => I1.hok.fresh (Nat.le_trans lo (Nat.le_of_lt (hG.above t ht)))
  let H2 : Hp := putT (upd H1 S (.lst (as.map V.ref))) as (numV 0 xs)
  have off : ∀ b, b ∉ as → b ≠ S → H2 b = H1 b := fun b z1 z2 => (putT_off as _ _ z1).trans (upd_ne z2)
  have mono : ∀ b o, H1 b = some o → H2 b = some o := fun b o q => by
    obtain ⟨z1, z2⟩ := low b (by rw [q]; simp)
    rw [off b z1 z2, q]
  have eS : H2 S = some (.lst (as.map V.ref)) := (putT_off as _ _ nS).trans upd_same
  have pr := putT_at as (numV 0 xs) (upd H1 S (.lst (as.map V.ref))) lk nd
  refine ⟨H2, ⟨mono, fS, fT, nS, eS, by rw [hal, lx], fun i t x h1 h2 => ?_⟩, ?_⟩
  · have z := paired_at pr h1 (numV_get (i := 0) h2)
    rw [Nat.zero_add] at z
    exact z
  · refine I1.call' (ch := []) rfl ⟨fun b o q _ _ _ => kp b o q, fun b o q _ _ _ => ⟨o.slots, kp b o q⟩, fun b o q n _ => ?_, fun b o q _ => ⟨o, kp b o q⟩, fun b ys q => mono b _ q, fun b o u q => mono b _ q, fun b ps q => ⟨#[], by rw [mono b _ q]; simp⟩⟩ (fun b u q => ?_) I1.bare fun b z => by cases z
    · have lt := Heap.lt_size q
      rw [off b (fun z => Nat.lt_irrefl b (Nat.lt_trans (Nat.lt_of_lt_of_le lt lo) (hG.above b z))) (Nat.ne_of_lt (Nat.lt_of_lt_of_le lt lo))]
      exact n
    · by_cases hb : b ∈ as
      · obtain ⟨n, pk, e1, e2, e3⟩ := paired_ix pr hb
        have q : H2 b = some u := q
        rw [show H2 b = _ from e3] at q
        cases q
        obtain ⟨key, k, x, f1, f2, f3⟩ := hG.pairs n b e1
        obtain ⟨qv, g1, g2, g3⟩ := LiI.paired_get (numV_kv (i := 0) vals) e2
        rw [f1] at g1
        cases g1
        have rk : (RelV (kV pk.1) key) := by
          rw [g2]
          (exact relV_key (show keyIs k key = true from f2))
        (exact ⟨by show 2 ≤ sizeLine; decide, [key, x], .cons rk (.cons g3 .nil), ⟨_, f3, rfl, _, rfl⟩⟩)
      · by_cases hb2 : b = S
        · rw [hb2] at q ⊢
          have q : H2 S = some u := q
          rw [eS] at q
          cases q
          refine ⟨by rw [List.length_map, hal, ← lx]; exact hz, acc.toList, c, by rw [hacc]; exact LiI.vals_refs as, ?_⟩
          rw [Array.toArray_toList]
          exact hS
        · have q : H2 b = some u := q
          rw [off b hb hb2] at q
          exact (I1.hok b u q).stay (fun d v _ y => kp d v y) (fun d y => mono d _ y) fun d ys y => mono d _ y
theorem pe_lsEn {X : Cx} {a : Expr} {te : TE} {p p2 pos pos2 : Pos} (hc : X.calm = true) (hg : Gl X "list") (hm : X.mg "list" = none) (hg2 : Gl X "enumerate") (hm2 : X.mg "enumerate" = none) (ha : PE X a te)
    (h1 : starEach [a] X.env = (false, eval a X.env) :: starEach [] X.env := by rfl) (h2 : starEach [.Call (.Name "enumerate" p2) [a] [] pos2] X.env = (false, eval (.Call (.Name "enumerate" p2) [a] [] pos2) X.env) :: starEach [] X.env := by rfl) :
    PE X (.Call (.Name "list" p) [.Call (.Name "enumerate" p2) [a] [] pos2] [] pos) (tLsEn X.K te) where
  run := by
    intro pins s σ H Q I h
    refine Call_ (ld_blt I hg hm boot_list (PyProof.Rows.callWith_type1 (args_cons ?_ h2) h2))
    refine Call_ (ld_blt I hg2 hm2 boot_enumerate (PyProof.Rows.callWith_type1 (args_cons (thn (ha.run pins s σ H _ I h) fun u s1 z => args_nil ?_) h1) h1))
    obtain ⟨v, H1, I1, rv, b, xs, rfl, hq, q⟩ := z
    cases (show u = Value.ref b from rv)
    obtain ⟨its, vals, pl, hz⟩ := I1.list hq
    refine call_enumerate_list pl.isList fun m en li sz kp => args_nil ?_
    have bl : b < s1.heap.objs.size := pl.isList.elim fun _ z => Heap.lt_size z.1
    have I2 : Inv X pins σ H1 { s1 with heap := m } := I1.kept (t' := s1.toks) kp
    have hl2 := pl.isList.at fun o z => kp b o z
    have lz : its.toArray.size ≤ sizeLine := by
      rw [List.size_toArray, ← Paired.length vals]
      exact hz
    refine en_list (s := { s1 with heap := m }) (I2.ok.hd hc) (Nat.succ_ne_self _) (Nat.ne_of_lt (Nat.lt_succ_of_lt bl)) (Nat.ne_of_lt bl) lz en li hl2 fun m2 tk acc c as k hS hal hG hacc => ?_
    have kp2 : ∀ d o, s1.heap.get? d = some o → m2.get? d = some o := fun d o z => by
      have ld := Heap.lt_size z
      exact k d o (Nat.ne_of_lt (Nat.lt_succ_of_lt ld)) (Nat.ne_of_lt ld) (kp d o z)
    have lo : s1.heap.objs.size ≤ m.objs.size := by rw [sz]; omega
    obtain ⟨H', z, I3⟩ := laid_at (tk := tk) I1 hz vals lo kp2 hS (by rw [hal, List.size_toArray]) hG hacc
    exact ⟨.ref m.objs.size, H', I3, rfl, q _ _ _ z⟩
end PnEl
namespace Pn
open L2 PyProof.Rows PySem.Spec PySem PnEl
section
variable {F : Fr} {W : L2.WX} {σ : L2.St} {H : Hp} {X : Cx} {D : Ends}
theorem pairs_rp {K : PySem.W.Frag} {G G' : Hp} (sG : Same G G') : ∀ {as : List Addr} {xs : List V} {l : List Dat} {k : Nat}, as.length = xs.length → RpA K G xs l → (∀ (i : Nat) (t : Addr) (x : V), as[i]? = some t → xs[i]? = some x → G' t = some (.tup [.int ((k + i : Nat) : Int), x])) → RpA K G' (as.map V.ref) (pairsF k l)
  | [], [], _, _, _, .nil, _ => .nil
  | [], _ :: _, _, _, e, _, _ => by cases e
  | _ :: _, [], _, _, e, _, _ => by cases e
  | a :: as, v :: vs, _ :: _, k, e, .cons q t, h => by
    refine .cons (.tup (Evl.st_of (h 0 a v rfl rfl)) (.cons (.int _) (.cons (dp_mono sG q) .nil))) (pairs_rp sG (k := k + 1) (Nat.succ.inj e) t fun i u x h1 h2 => ?_)
    rw [show k + 1 + i = k + (i + 1) by omega]
    exact h (i + 1) u x (by simpa using h1) (by simpa using h2)
def lsEnR : Dat → M RV
  | .list l => ret (.fr (pairsF 0 l))
  | _ => bad
theorem lsEn_ {a : Expr} {m : M Dat} {p p2 pos pos2 : Pos} (hm : X.mg "list" = none) (hm2 : X.mg "enumerate" = none) (ha : PE X a (Pn.E F W m)) (hK : F.K = X.K := by rfl) (hc : X.calm = true := by rfl) (hg : Gl X "list" := by rfl) (hg2 : Gl X "enumerate" := by rfl)
    (h1 : starEach [a] X.env = (false, eval a X.env) :: starEach [] X.env := by rfl) (h2 : starEach [.Call (.Name "enumerate" p2) [a] [] pos2] X.env = (false, eval (.Call (.Name "enumerate" p2) [a] [] pos2) X.env) :: starEach [] X.env := by rfl) :
    PE X (.Call (.Name "list" p) [.Call (.Name "enumerate" p2) [a] [] pos2] [] pos) (EX F W (M.bind m lsEnR)) :=
  (pe_lsEn hc hg hm hg2 hm2 ha h1 h2).mono fun σ H Q h => sx_mono (sx_bind (R1 := RD F) h) fun x H1 ⟨d, G1, c1, r1, q, p⟩ => by
    cases q with
    | @lst a xs l hG q =>
      refine ⟨a, xs, rfl, hK ▸ Evl.sq_of (r1.sub _ _ hG), fun b as H' ⟨z1, z2, z3, z4, z5, z6, z7⟩ => ?_⟩
      let G' : Hp := fun t => if t ∈ as then H' t else G1 t
      have gG : Same G1 G' := fun t o e => by
        show (if t ∈ as then H' t else G1 t) = _
        rw [if_neg (fun m => by rw [r1.gNone (z3 t m)] at e; cases e)]
        exact e
      have aft : After G1 H1 G' H' := ⟨gG, fun t o e => by
          by_cases m : t ∈ as
          · have e : (if t ∈ as then H' t else G1 t) = some o := e
            rw [if_pos m] at e
            exact e
          · have e : (if t ∈ as then H' t else G1 t) = some o := e
            rw [if_neg m] at e
            exact z1 t o (r1.sub t o e), z1, fun t e => by
          by_cases m : t ∈ as
          · exact .inr (z3 t m)
          · have e : (if t ∈ as then H' t else G1 t) ≠ none := e
            rw [if_neg m] at e
            exact .inl e⟩
      have r2 := r1.after aft
      have gb : G' b = none := by
        show (if b ∈ as then H' b else G1 b) = none
        rw [if_neg z4]
        exact r1.gNone z2
      refine p _ G' H' r2 gG ⟨b, rfl, as.map V.ref, z5, pairs_rp gG z6 q (fun i t x h1 h2 => ?_), gb, r1.old z2, fun i l' e5 e6 => ?_, fun y hy e => ?_⟩
      · show (if t ∈ as then H' t else G1 t) = _
        rw [if_pos (List.mem_of_getElem? h1), Nat.zero_add]
        exact z7 i t x h1 h2
      · obtain ⟨a', ys, e1, e2, _⟩ := r1.own_ne e5
        rw [e1] at e6
        cases e6
        rw [z2] at e2
        cases e2
      · have k1 := (r1.pin y hy).1
        rw [← e, z2] at k1
        cases k1
    | _ => exact p.elim
end
end Pn

set_option maxHeartbeats 2000001
/-! the end of a law whose promise holds among no guards, with tables of lambdas -/
namespace PnEnd
open L2 PyProof.Rows PySem.Spec PySem LamX
/-- what may be told at the law's call: the tables are empty, the script is known -/
def start0 (T : List Addr) (scr : Option (Addr × Obj × List V)) : Hp := fun b => if b ∈ T then some (.tbl #[]) else match scr with
  | some (a, o, xs) => if b = a then some (.frz o (.lst xs)) else none
  | none => none
theorem start0_cases {T : List Addr} {scr : Option (Addr × Obj × List V)} {b : Addr} {u : HO} (h : start0 T scr b = some u) : (b ∈ T ∧ u = .tbl #[]) ∨ ∃ o xs, scr = some (b, o, xs) ∧ u = .frz o (.lst xs) := by
  unfold start0 at h
  by_cases hb : b ∈ T
  · rw [if_pos hb] at h
    exact .inl ⟨hb, (Option.some.inj h).symm⟩
  · rw [if_neg hb] at h
    cases scr with
    | none => cases h
    | some q =>
      obtain ⟨a, o, xs⟩ := q
      by_cases e : b = a
      · have h : (if b = a then some (HO.frz o (.lst xs)) else none) = some u := h
        rw [if_pos e] at h
        exact .inr ⟨o, xs, by rw [e], (Option.some.inj h).symm⟩
      · have h : (if b = a then some (HO.frz o (.lst xs)) else none) = some u := h
        rw [if_neg e] at h
        cases h
section
variable {P : Program} {w : World} {K : PySem.W.Frag} {mg mb : Str → Option Value} {CX : CXT} {k : Nat} {fa a : Addr} {cs : List (Addr × Addr)} {fd : FuncData} {x : Str} {sp : Sp} {s : Shared} {vs : List Value} {ns : List Int}
theorem call_ends (KX : K.In s.heap) (hns : s.heap.Ns mainGlobals mg) (hb : s.heap.Ns builtinsNs mb) (hbb : ∀ x : Str, x ≠ "__name__" → mb x = bootBuiltins x) (hlim : s.heap.NoLimit) (hg : s.gens = #[])
    (hT : ∀ p ∈ cs, s.heap.get? p.2 = some { cls := .none, data := .fields #[] }) (nT : ∀ p ∈ cs, K.lookup p.2 = none) (hC : ∀ p ∈ cs, PySem.W.CodeHd s.heap p.1 p.2)
    (hbm : ∃ (bm : Addr) (ob : Obj), mg "__builtins__" = some (.ref bm) ∧ bm ≠ builtinsNs ∧ s.heap.get? bm = some ob ∧ ob.cls = .type "module" ∧ ob.dict = some builtinsNs ∧ ob.data = .plain)
    (ha : s.heap.get? a = some { cls := .type "list", data := .seq vs.toArray }) (hi : IntsAre vs ns) (hl : ns.length ≤ sizeLine) (hr : Room k callerA)
    (F : ∀ base : Heap, K.In base → base.Ns mainGlobals mg → (∀ p ∈ cs, TabB base mg p.1 p.2) → Pn.FnG P w K mg base CX k fa fd [x] sp) (bind : ∀ (s : Shared) (u : Value), BindsTo s fd ⟨[u], []⟩ [(x, u)])
    (hsp : ∀ H : Hp, (∀ p ∈ cs, H p.2 = some (.tbl #[])) → SqL K H a (ns.map V.int) → sp [.ref a] H (fun v _ => v = .bl true) fun _ _ _ => False) (hCX : ∀ H e s', CX [] H s (fun _ _ _ => False) e s' → False) :
    codeAny (model P w) callerA (.call (.ref fa) ⟨[.ref a], []⟩) (fun r s' => r = .ok (.ret (.bool true)) ∧ OldK s.heap s'.heap ∧ s'.os = s.os ∧ AllBare s'.gens) s := by
  let T : List Addr := cs.map (·.2)
  have tabAt : ∀ b ∈ T, s.heap.get? b = some { cls := .none, data := .fields #[] } := fun b m => by
    obtain ⟨p, hp, rfl⟩ := List.mem_map.mp m
    exact hT p hp
  have inT : ∀ p ∈ cs, p.2 ∈ T := fun p hp => List.mem_map.mpr ⟨p, hp, rfl⟩
  have aT : a ∉ T := fun m => by
    have := tabAt a m
    rw [ha] at this
    cases this
  have rv := vals_ints hi
  have len : vs.length = ns.length := hi.length
  let scr : Option (Addr × Obj × List V) := match K.lookup a with
    | some _ => none
    | none => some (a, { cls := .type "list", data := .seq vs.toArray }, ns.map V.int)
  have hscr : ∀ b o xs, scr = some (b, o, xs) → b = a ∧ o = { cls := .type "list", data := .seq vs.toArray } ∧ xs = ns.map V.int ∧ K.lookup a = none := by
    intro b o xs e
    cases hk : K.lookup a with
    | some q => simp only [scr, hk] at e; cases e
    | none => simp only [scr, hk] at e; cases e; exact ⟨rfl, rfl, rfl, rfl⟩
  let H : Hp := start0 T scr
  have HT : ∀ p ∈ cs, H p.2 = some (.tbl #[]) := fun p hp => by
    show start0 T scr p.2 = _
    unfold start0
    rw [if_pos (inT p hp)]
  have HS : SqL K H a (ns.map V.int) := by
    cases hk : K.lookup a with
    | some o =>
      have e := KX a o hk
      rw [ha] at e
      cases e
      exact .inr ⟨_, vs.toArray, _, hk, rfl, rfl, rfl, by rw [List.size_toArray, len]; exact hl, by simpa using rv⟩
    | none =>
      refine .inl (.inr ⟨{ cls := .type "list", data := .seq vs.toArray }, ?_⟩)
      show start0 T scr a = _
      unfold start0
      rw [if_neg aT]
      simp only [scr, hk, if_true]
  have Hob : ∀ b o, s.heap.get? b = some o → (∀ vs n, o.data ≠ .seq vs n) → o.data ≠ .fields #[] → H b = none := fun b o e h1 h2 => by
    cases q : H b with
    | none => rfl
    | some u =>
      rcases start0_cases q with ⟨m, _⟩ | ⟨o2, xs, e2, _⟩
      · rw [tabAt b m] at e
        cases e
        exact (h2 rfl).elim
      · obtain ⟨rfl, _⟩ := hscr _ _ _ e2
        rw [ha] at e
        cases e
        exact (h1 _ _ rfl).elim
  have Hdict : ∀ {b : Addr} {o : Obj} {es : Array DictEntry} {ep : Nat}, s.heap.get? b = some o → o.data = .dict es ep → H b = none := fun e d => Hob _ _ e (fun _ _ z => by rw [d] at z; cases z) fun z => by rw [d] at z; cases z
  have HK : ∀ b o, K.lookup b = some o → H b = none := fun b o e => by
    cases q : H b with
    | none => rfl
    | some u =>
      rcases start0_cases q with ⟨m, _⟩ | ⟨o2, xs, e2, _⟩
      · obtain ⟨p, hp, ep⟩ := List.mem_map.mp m
        rw [← ep, nT p hp] at e
        cases e
      · obtain ⟨rfl, _, _, n⟩ := hscr _ _ _ e2
        rw [n] at e
        cases e
  have HO_ : HOk P w H s.heap := fun b u q => by
    rcases start0_cases q with ⟨m, rfl⟩ | ⟨o2, xs, e2, rfl⟩
    · exact tabAt b m
    · obtain ⟨rfl, rfl, rfl, _⟩ := hscr _ _ _ e2
      (exact ⟨ha, by rw [List.length_map]; exact hl, vs, _, rv, ha⟩)
  let base := hidT s.heap H
  have up : ∀ {b : Addr} {o : Obj}, s.heap.get? b = some o → H b = none → base.get? b = some o := fun e n => hidT_get e n
  have nsUp : ∀ {b : Addr} {m : Str → Option Value}, s.heap.Ns b m → base.Ns b m := fun ⟨o, es, ep, e, d, r⟩ => ⟨o, es, ep, up e (Hdict e d), d, r⟩
  have kin : K.In base := fun b o e => up (KX b o e) (HK b o e)
  have mod : L2.Mod K mg base := ⟨kin, nsUp hns, ⟨mb, nsUp hb, hbb⟩, hlim.elim fun mc h => ⟨mc, nsUp h.1, h.2⟩⟩
  have notG : ∀ {b : Addr} {o : Obj}, s.heap.get? b = some o → (∀ es ep, o.data ≠ .dict es ep) → b ≠ mainGlobals := fun e h z => by
    obtain ⟨o2, es, ep, e2, d, _⟩ := hns
    rw [z, e2] at e
    cases e
    exact h _ _ d
  have tb : ∀ p ∈ cs, TabB base mg p.1 p.2 := fun p hp => by
    refine ⟨?_, ?_, (notG (hT p hp) fun _ _ z => by cases z).symm⟩
    · obtain ⟨o, us, file, tf, flags, tg, inF, text, tt, e1, r1, r2, r3, r⟩ := hC p hp
      refine ⟨o, us, file, tf, flags, tg, inF, text, tt, up e1 (Hob _ _ e1 (fun _ _ z => by rw [r2] at z; cases z) fun z => ?_), r1, r2, r3, r⟩
      rw [r2] at z
      cases z
      simp at r3
    · (obtain ⟨bm, ob, b1, b2, b3, b4, b5, b6⟩ := hbm)
      refine ⟨bm, ob, b1, b2, notG b3 (fun _ _ z => by rw [b6] at z; cases z), fun z => ?_, up b3 (Hob _ _ b3 (fun _ _ z => by rw [b6] at z; cases z) fun z => by rw [b6] at z; cases z), b4, b5, b6⟩
      rw [z, hT p hp] at b3
      cases b3
      cases b6
  have e0 : Env0 P w K mg base callerA [] s H := ⟨rfl, mod, fun b o e => of_hidT e, Nat.le_of_eq (hidT_size _ _), trivial, fun b m => absurd (show b ∈ ([] : List Addr) from m) (by simp), HO_, .of_eq hg⟩
  refine codeAny_mono ((F base kin (nsUp hns) tb).run callerA [] s H ⟨[.ref a], []⟩ [.ref a] [.ref a] _ _ rfl hr e0 (bind s (.ref a)) (.cons rfl .nil) (hsp H HT HS)) ?_
  rintro (e | fl) s' h
  · exact (hCX H e s' h).elim
  · cases fl with
    | next => exact h.elim
    | brk => exact h.elim
    | cont => exact h.elim
    | ret u =>
      obtain ⟨v, H', os, bare, un, ok', r', q⟩ := h
      obtain rfl : v = .bl true := q
      (obtain rfl : u = Value.bool true := r')
      have kept : ∀ b o, b ∉ T → s.heap.get? b = some o → s'.heap.get? b = some o := fun b o nb e => by
        cases q : H b with
        | none => exact un.keep b o e q (fun m => absurd (show b ∈ ([] : List Addr) from m) (by simp)) (by simp)
        | some u =>
          rcases start0_cases q with ⟨m, _⟩ | ⟨o2, xs, e2, rfl⟩
          · exact (nb m).elim
          · obtain ⟨g1, _⟩ := HO_ b _ q
            obtain ⟨g2, _⟩ := ok' b _ (un.frzs b o2 _ q)
            rw [e] at g1
            cases g1
            exact g2
      have grown : ∀ p ∈ cs, ∃ more : Array Value, s'.heap.get? p.2 = some { cls := .none, data := .fields more } := fun p hp => (un.tbls p.2 #[] (HT p hp)).elim fun more z => ⟨_, ok' p.2 _ z⟩
      (refine ⟨rfl, ⟨fun b o e => ?_, fun b o e => ?_⟩, os, bare⟩)
      · by_cases m : b ∈ T
        · obtain ⟨p, hp, rfl⟩ := List.mem_map.mp m
          obtain ⟨more, g⟩ := grown p hp
          rw [hT p hp] at e
          cases e
          exact .inr (.inl ⟨((hC p hp).tab (hT p hp)).isCodeTable, rfl, #[], more, rfl, by rw [Array.empty_append]; exact g⟩)
        · exact .inl (kept b o m e)
      · by_cases m : b ∈ T
        · obtain ⟨p, hp, rfl⟩ := List.mem_map.mp m
          obtain ⟨more, g⟩ := grown p hp
          exact ⟨_, g⟩
        · exact ⟨o, kept b o m e⟩
end
/-- what is known of the law's def at the head's heap -/
def LawHere (l : PySem.W.OpenLaw) (w : World) (K : PySem.W.Frag) (CX : CXT) (k n : Nat) (x : Str) (mg : Str → Option Value) (fa : Addr) (h : Heap) : Prop :=
  ∃ (fd : FuncData)
  (cs : List (Addr × Addr)) (sp : Sp), (∀ p ∈ cs, h.get? p.2 = some { cls := .none, data := .fields #[] }) ∧ (∀ p ∈ cs, K.lookup p.2 = none) ∧ (∀ p ∈ cs, PySem.W.CodeHd h p.1 p.2) ∧ (∀ (s : Shared) (u : Value), BindsTo s fd ⟨[u], []⟩ [(x, u)]) ∧
    (∀ (H : Hp)
    (a : Addr) (ns : List Int), ns.length ≤ n → (∀ z ∈ ns, Builtin.Int.intBits z ≤ 1048576) → (∀ p ∈ cs, H p.2 = some (.tbl #[])) → SqL K H a (ns.map V.int) → sp [.ref a] H (fun v _ => v = .bl true) fun _ _ _ => False) ∧
    ∀ base : Heap, K.In base → base.Ns mainGlobals mg → (∀ p ∈ cs, TabB base mg p.1 p.2) → Pn.FnG l.prog w K mg base CX k fa fd [x] sp
theorem walk_ends {l : PySem.W.OpenLaw} {n k : Nat} {q : Program} {loose : List Str} {XP : (Str → Option Value) → Heap → Prop} {YP : World → Heap → Prop} {d : DefRec} {K : Params → PySem.W.Frag} {CX : World → CXT} {x : Str}
    (hn : l.most = some n)
    (hn2 : n ≤ sizeLine) (hdf : d.params.defaults = []) (hr : Room k callerA) (hY : ∀ (w : World) (h : Heap), YP w h → (K w.params).In h)
    (here : ∀ (w : World) (mg : Str → Option Value) (fa : Addr) (h : Heap), YP w h → (K w.params).In h → h.Ns mainGlobals mg → mg d.name = some (.ref fa) → LawHere l w (K w.params) (CX w) k n x mg fa h)
    (hCX : ∀ (w : World) (H : Hp) (s : Shared) (e : Value) (s' : Shared), CX w [] H s (fun _ _ _ => False) e s' → False) : PySem.W.WalkO q loose XP YP l.row.toRowW d [] (fun f vs => PySem.call f vs) := by
  refine Att.attach_callB hn hdf ?_
  intro w s₀ s₁ mg mb fa o pm cd doc a vs ns G Y ho hd hcd hmg hobj hints hlen hbits hg
  have kin := hY w _ Y
  obtain ⟨fd, cs, sp, tabs, notK, codes, bind, word, F⟩ := here w mg fa _ Y kin G.T.g hmg
  exact call_ends kin G.T.g G.T.b G.T.builtins G.T.nolimit hg tabs notK codes G.T.bmain hobj hints (Nat.le_trans hlen hn2) hr F bind (fun H z1 z2 => word H a ns hlen hbits z1 z2) fun H e s' => hCX w H s₁ e s'
end PnEnd

set_option maxHeartbeats 2000001
/-! a list of one's own is looked at: its kind; lent to a def that tells a bool -/
namespace Pn
open L2 PyProof.Rows PySem.Spec PySem
section
variable {F : Fr} {W : L2.WX} {σ : L2.St} {H : Hp} {X : Cx} {D : Ends}
def ownL (i : Nat) (c : Cfg) : Option (List Dat) := match c.r[i]? with
  | some (.own l) => some l
  | _ => none
theorem ownL_at {i : Nat} {c : Cfg} {l : List Dat} (h : ownL i c = some l) : c.r[i]? = some (.own l) := by
  unfold ownL at h
  split at h
  · cases h
    assumption
  · cases h
def isiV (i : Nat) (T : String) : M Dat := fun c => match ownL i c with
  | some l => .ok (.bool (isTy (.list l) T)) c
  | none => .bad
theorem isiV_ (i : Nat) {T : Str} (T' : String) {x : Str} {px p p2 pos : Pos} (hm : X.mg "isinstance" = none) (hmT : X.mg T = none) (hK : F.K = X.K := by rfl) (hg : Gl X "isinstance" := by rfl) (hgT : Gl X T := by rfl) (hvT : bootBuiltins T = some (.type T') := by decide +kernel) (hT : T' ∈ (["bool", "int", "str", "list", "tuple"] : List String) := by decide) (hnT : T ≠ "__name__" := by decide) (hdT : (T == ("__debug__" : Str)) = false := by decide)
    (hN : X.N[i]? = some x := by rfl) (hv : Vis X.env.scope x := by exact Or.inl rfl) (hd : (x == ("__debug__" : Str)) = false := by decide) (hcd : (x == ("__classdict__" : Str)) = false := by decide) (he : starEach [.Name x px, .Name T p2] X.env = (false, eval (.Name x px) X.env) :: starEach [.Name T p2] X.env := by rfl) (he2 : starEach [.Name T p2] X.env = (false, eval (.Name T p2) X.env) :: starEach [] X.env := by rfl)
    (hpl : (backTo pos (starEach [.Name T p2] X.env)).any (·.1) = false := by rfl) : PE X (.Call (.Name "isinstance" p) [.Name x px, .Name T p2] [] pos) (Pn.E F W (isiV i T')) :=
  (pe_callB call_isi hg hm (by decide +kernel) (pa_cons (pe_var (i := i) hN hv hd hcd) (pa_cons (pe_bltn hgT hmT hvT (v := .ty T') rfl hnT hdT) pa_nil he2) he) (by decide) (by decide) he hpl).mono fun σ H Q ⟨G, c, r, p⟩ => by
    unfold isiV at p
    cases e : ownL i c with
    | none => simp only [e] at p; exact p.elim
    | some l =>
      simp only [e] at p
      obtain ⟨a, xs, ea, ha, _⟩ := r.own_ne (ownL_at e)
      exact ⟨_, ea, _, .ty T', _, _, isTy (.list l) T', rfl, .ty T', hK ▸ .base (.lst ha), kit_ty (kit5 "list" (by decide) _ hT), po_ret r p (.bl _)⟩
def lendM (i n : Nat) (g : GF) (ms : M (List Dat)) : M Dat := fun c => match ownL i c with
  | none => .bad
  | some _ => M.bind ms (fun ds c1 => match ownL i c1 with
    | none => .bad
    | some l => if ds.length + 1 = n then (match g (.list l :: ds) [] ⟨[], [], 0⟩ with
      | .ok (.sh (.bool b)) _ _ => .ok (.bool b) c1
      | _ => .bad) else .bad) c
theorem lendP_ (i : Nat) {k n j : Nat} {g : GF} {x y : Str} {p px pos : Pos} {es : List Expr} {ms : M (List Dat)} (hgd : X.A.guards = some []) (Z : HasQ X.prog X.w X.K X.mg X.base F.C false (fun _ => True) x k n g) (hr : Room j X.A) (tk : Takes X W) (ha : PA X es (Pn.A F W ms)) (hkj : k ≤ j := by decide) (hK : F.K = X.K := by rfl) (hg : Gl X x := by rfl)
    (hN : X.N[i]? = some y := by rfl) (hv : Vis X.env.scope y := by exact Or.inl rfl) (hd : (y == ("__debug__" : Str)) = false := by decide) (hcd : (y == ("__classdict__" : Str)) = false := by decide)
    (hdb : (x == ("__debug__" : Str)) = false := by decide) (he : starEach (.Name y px :: es) X.env = (false, eval (.Name y px) X.env) :: starEach es X.env := by rfl) (hpl : (backTo pos (starEach es X.env)).any (·.1) = false := by rfl) : PE X (.Call (.Name x p) (.Name y px :: es) [] pos) (Pn.E F W (lendM i n g ms)) := by
  obtain ⟨f, fd, ps, h2, h3, h4, h5⟩ := Z.ex
  refine (pe_callFG h2 hgd (hr.mono hkj) hg h3 h4 h5 (fun σ => passAt tk σ) (pa_cons (pe_var (i := i) hN hv hd hcd) ha he) hdb he hpl).mono fun σ H Q ⟨G, c, r, p⟩ => ?_
  unfold lendM at p
  cases e : ownL i c with
  | none => simp only [e] at p; exact p.elim
  | some l0 =>
    simp only [e] at p
    obtain ⟨a, xs0, ea, _⟩ := r.own_ne (ownL_at e)
    refine ⟨_, ea, sx_mono (po_bind (R1 := RA F) r p) fun vs H1 ⟨ds, G1, c1, r1, s1, q, p1⟩ => ?_⟩
    cases e1 : ownL i c1 with
    | none => simp only [e1] at p1; exact p1.elim
    | some l =>
      simp only [e1] at p1
      obtain ⟨a', xs, ea', hx, gx, qx, _, _⟩ := r1.own_ne (ownL_at e1)
      rw [ea] at ea'
      cases ea'
      by_cases hl : ds.length + 1 = n
      · rw [if_pos hl] at p1
        have sG : Same G1 (upd G1 a (.lst xs)) := fun b u z => by
          rw [upd_ne (ne_of_none z gx)]
          exact z
        have sH : Same (upd G1 a (.lst xs)) H1 := fun b u z => by
          by_cases hb : b = a
          · rw [hb, upd_same] at z
            rw [hb, hx]
            exact z
          · rw [upd_ne hb] at z
            exact r1.sub b u z
        have args : RpA F.K (upd G1 a (.lst xs)) (.ref a :: vs) (.list l :: ds) := .cons (.lst upd_same (dpAll_mono sG qx)) (dpAll_mono sG q)
        refine ⟨upd G1 a (.lst xs), .ref a :: vs, .list l :: ds, [], ⟨[], [], 0⟩, 0, 0, 0, 0, [], trivial, (fun _ z => nomatch z), sH, hK ▸ args, by rw [List.length_cons]; exact hl, by simp [preV, posV], (fun z => nomatch z), (fun z => nomatch z), (fun z => nomatch z), ?_⟩
        cases eg : g (.list l :: ds) [] ⟨[], [], 0⟩ with
        | ok v l' s' =>
          simp only [eg] at p1
          cases v with
          | fr l2 => exact p1.elim
          | sh d =>
            cases d with
            | bool b =>
              intro y G' H' aft _ _ _ z2
              have aft := AfterT.nil (by simpa [onS, onI, onM] using aft)
              have a2 : After G1 H1 G1 H' := ⟨Same.refl _, (sG.trans aft.g).trans aft.sub, aft.h, fun b z => .inl z⟩
              have z2 : Rp X.K G' y (.bool b) := z2
              cases z2
              exact p1 _ G1 H' (r1.after a2) (Same.refl _) (.bl b)
            | _ => exact p1.elim
        | exc k d l' s' => simp only [eg] at p1; exact p1.elim
        | bad => simp only [eg] at p1; exact p1.elim
      · rw [if_neg hl] at p1
        exact p1.elim
/-! ### a frame of which nothing is known but the state and the tables -/
theorem rel_bare {K : PySem.W.Frag} {C : Cls} {us : Bool} {sa sc sl : Addr} {tb : Tbs} {s : DS} {rs : List Sl} (hl : rs.length = σ.length) (hs : ∀ (i : Nat) (x : Sl), rs[i]? = some x → x = .no ∨ (x = .st ∧ us = true ∧ σ[i]? = some (some (.ref sa)))) (hst : SsOk us sa sc sl (fun _ => none) H s) (ht : TsOk tb (fun _ => none) H) :
    Rel (frG K C us false sa sc sl 0 tb (fun _ => none) H) (fun _ => none) ⟨rs, s⟩ σ H where
  sub := fun b o e => by cases e
  g0 := Same.refl _
  fresh := fun b e => absurd rfl e
  keep := fun b o e _ _ => e
  len := hl
  sl := fun i x e => by
    rcases hs i x e with rfl | ⟨rfl, h1, h2⟩
    · trivial
    · exact ⟨h2, h1⟩
  inj := fun i j l l' e1 _ _ => by rcases hs i _ e1 with z | ⟨z, _⟩ <;> cases z
  ioj := fun i j l l' e1 _ _ => by rcases hs i _ e1 with z | ⟨z, _⟩ <;> cases z
  st := fun hu => hst hu
  mu0 := fun b m => by
    have m : b ∈ ([] : List Addr) ++ tb.map (·.1) := m
    rw [List.nil_append] at m
    obtain ⟨p, hp, rfl⟩ := List.mem_map.mp m
    obtain ⟨⟨ps, e, _⟩, _⟩ := ht p hp
    refine ⟨by show H p.1 ≠ none; rw [e]; simp, fun z => ?_⟩
    have z : p.1 ∈ onS us sa sc sl := z
    cases us with
    | false => cases z
    | true =>
      obtain ⟨y1, y2, y3, _⟩ := hst rfl
      simp only [onS, if_true, List.mem_cons, List.not_mem_nil, or_false] at z
      rcases z with z | z | z
      · rw [z, y1] at e; cases e
      · rw [z, y2] at e; cases e
      · rw [z, y3] at e; cases e
  st0 := fun b z => by
    have z : b ∈ onS us sa sc sl := z
    cases us with
    | false => cases z
    | true =>
      obtain ⟨y1, y2, y3, _⟩ := hst rfl
      show H b ≠ none
      simp only [onS, if_true, List.mem_cons, List.not_mem_nil, or_false] at z
      rcases z with z | z | z
      · rw [z, y1]; simp
      · rw [z, y2]; simp
      · rw [z, y3]; simp
  dom := fun b e => e
  pin := fun b z => nomatch z
  tabs := fun p hp => ⟨(ht p hp).1, rfl, List.mem_append_right _ (List.mem_map.mpr ⟨p, hp, rfl⟩)⟩
end
end Pn

set_option maxHeartbeats 2000001
/-! a list of one's own lent as the last argument; a try that returns; more of the same -/
namespace Pn
open L2 PyProof.Rows PySem.Spec PySem
section
variable {F : Fr} {W : L2.WX} {σ : L2.St} {H : Hp} {X : Cx} {D : Ends}
def lendE (i n : Nat) (g : List Dat → PR) (ms : M (List Dat)) : M Dat := M.bind ms fun ds c1 => match ownL i c1 with
  | none => .bad
  | some l => if ds.length + 1 = n then (match g (ds ++ [.list l]) with
    | .ok (.sh (.bool b)) => .ok (.bool b) c1
    | _ => .bad) else .bad
theorem lendE_ (i : Nat) {k n j : Nat} {g : List Dat → PR} {x : Str} {p pos : Pos} {e : Expr} {es : List Expr} {ms : M (List Dat)} (Z : Has X.prog X.w X.K X.mg X.base F.C x k n g) (hr : Room j X.A) (tk : Takes X W) (ha : PA X (e :: es) (Sx F W (RAI F i) ms)) (hkj : k ≤ j := by decide) (hK : F.K = X.K := by rfl) (hg : Gl X x := by rfl)
    (hdb : (x == ("__debug__" : Str)) = false := by decide) (he : starEach (e :: es) X.env = (false, eval e X.env) :: starEach es X.env := by rfl) (hpl : (backTo pos (starEach es X.env)).any (·.1) = false := by rfl) : PE X (.Call (.Name x p) (e :: es) [] pos) (Pn.E F W (lendE i n g ms)) := by
  obtain ⟨f, fd, ps, hn, h2, h3, h4, h5⟩ := Z.ex
  refine (pe_callS h2 (hr.mono hkj) hg h3 h4 h5 (fun σ => passAt tk σ) ha hdb he hpl).mono fun σ H Q ⟨G, c, r, p⟩ => ?_
  unfold lendE at p
  refine sx_mono (po_bind (R1 := RAI F i) r p) fun vs H1 ⟨ds, G1, c1, r1, s1, ⟨vs', b, ev, q, eb⟩, p1⟩ => ?_
  cases e1 : ownL i c1 with
  | none => simp only [e1] at p1; exact p1.elim
  | some l =>
    simp only [e1] at p1
    obtain ⟨a', xs, ea', hx, gx, qx, _, _⟩ := r1.own_ne (ownL_at e1)
    rw [eb] at ea'
    cases ea'
    by_cases hl : ds.length + 1 = n
    · rw [if_pos hl] at p1
      have sG : Same G1 (upd G1 b (.lst xs)) := fun y u z => by
        rw [upd_ne (ne_of_none z gx)]
        exact z
      have sH : Same (upd G1 b (.lst xs)) H1 := fun y u z => by
        by_cases hb : y = b
        · rw [hb, upd_same] at z
          rw [hb, hx]
          exact z
        · rw [upd_ne hb] at z
          exact r1.sub y u z
      have args : RpA F.K (upd G1 b (.lst xs)) (vs' ++ [.ref b]) (ds ++ [.list l]) := dpAll_app (dpAll_mono sG q) (.cons (.lst upd_same (dpAll_mono sG qx)) .nil)
      subst ev
      refine ⟨upd G1 b (.lst xs), ds ++ [.list l], sH, hK ▸ args, by rw [List.length_append]; exact hl, ?_⟩
      cases eg : g (ds ++ [.list l]) with
      | ok v =>
        simp only [eg] at p1
        cases v with
        | fr l2 => exact p1.elim
        | sh d =>
          cases d with
          | bool t =>
            intro y G' H' aft z2
            have a2 : After G1 H1 G1 H' := ⟨Same.refl _, (sG.trans aft.g).trans aft.sub, aft.h, fun b z => .inl z⟩
            have z2 : Rp X.K G' y (.bool t) := z2
            cases z2
            exact p1 _ G1 H' (r1.after a2) (Same.refl _) (.bl t)
          | _ => exact p1.elim
      | exc k d => simp only [eg] at p1; exact p1.elim
      | bad => simp only [eg] at p1; exact p1.elim
    · rw [if_neg hl] at p1
      exact p1.elim
theorem any_ {m : M Row} {a : Expr} {p pos : Pos} (hm : X.mg "any" = none) (ha : PE X a (R_ F W m)) (hK : F.K = X.K := by rfl) (hc : X.calm = true := by rfl) (hg : Gl X "any" := by rfl) (he : starEach [a] X.env = (false, eval a X.env) :: starEach [] X.env := by rfl) : PE X (.Call (.Name "any" p) [a] [] pos) (Pn.E F W (M.bind m anyR)) := e_any hK hc hg hm ha he
/-! ### try: return e, clauses that return a word and the error's field -/
theorem Rel.noSet {G : Hp} {c : Cfg} {i : Nat} {x : Option V} (r : Rel F G c σ H) (h : c.r[i]? = some .no) : Rel F G c (σ.set i x) H :=
  { r with
    len := by rw [List.length_set]; exact r.len
    sl := fun j s e => by
      by_cases hj : j = i
      · subst hj
        rw [h] at e
        cases e
        trivial
      · rw [List.getElem?_set_ne (Ne.symm hj)]
        exact r.sl j s e
    inj := fun j k l l' e1 e2 e3 => by
      have hj : j ≠ i := fun z => by rw [z, h] at e1; cases e1
      have hk : k ≠ i := fun z => by rw [z, h] at e2; cases e2
      rw [List.getElem?_set_ne (Ne.symm hj), List.getElem?_set_ne (Ne.symm hk)] at e3
      exact r.inj j k l l' e1 e2 e3 }
def rS (C : Addr) (f w : Str) (ie : Nat) (a : Addr) (cls : Value) (d : Option Addr) : TS := fun D σ H => σ[ie]? = some (some (.ref a)) ∧ cls = .ref C ∧ ∃ dd v, d = some dd ∧ H dd = some (.xd [(f, v)]) ∧ ∀ p, H p = none → D.rt (.ref p) (upd H p (.tup [.str w, v]))
theorem ret_suite {a C B : Addr} {ob : Obj} {pn : List (Addr × Obj)} {f : Str} {ie j kk : Nat} {e w : Str} {cls : Value} {d : Option Addr} {wp ep ap tpp pos : Pos} (Z : PnCt.ErrF X.K C B f) (hz : Zc cls d ob) (hf : ∃ vs, ob.data = .fields vs)
    (he : X.N[ie]? = some e) (hve : Vis X.env.scope e) (hde : (e == ("__debug__" : Str)) = false) (hce : (e == ("__classdict__" : Str)) = false)
    (ha : attributeBase (.Name e ep) f X.env (eval (.Name e ep) X.env) = eval (.Name e ep) X.env := by rfl)
    (k1 : starEach [.Constant (.str w) j wp, .Attribute (.Name e ep) f ap] X.env = (false, eval (.Constant (.str w) j wp) X.env) :: starEach [.Attribute (.Name e ep) f ap] X.env := by rfl)
    (k2 : starEach [.Attribute (.Name e ep) f ap] X.env = (false, eval (.Attribute (.Name e ep) f ap) X.env) :: starEach [] X.env := by rfl) :
    PSs (X.suite a ((a, ob) :: pn)) [.Return (some (.Tuple [.Constant (.str w) j wp, .Attribute (.Name e ep) f ap] kk tpp)) pos] (rS C f w ie a cls d) := by
  (refine ⟨fun pins s σ H D I h => ?_⟩)
  obtain ⟨hσ, rfl, dd, v, rfl, hdd, q⟩ := h
  have ex : PE (X.suite a ((a, ob) :: pn)) (.Name e ep) _ := pe_var (i := ie) he hve hde hce
  have fld := pe_xf (a := a) (pn := pn) (pos := ap) Z.xf Z.own hz hf ex ha
  have tup := pe_tup (x1 := kk) (pos := tpp) (pa_cons (pe_str (X := X.suite a ((a, ob) :: pn)) (x := w) (j := j) (pos := wp)) (pa_cons fld pa_nil k2) k1)
  have all := pss_one (ps_ret (X := X.suite a ((a, ob) :: pn)) (pos := pos) tup)
  refine all.run pins s σ H D I ?_
  refine ⟨.ref a, hσ, rfl, rfl, dd, [(f, v)], v, rfl, hdd, by simp, ?_⟩
  exact ⟨by show 2 ≤ sizeLine; rw [sizeLine_eq]; decide, fun p hp => q p hp⟩
def wayR (ie : Nat) (q : PnCt.Tell) : PnTry.Way := ⟨ie, .ref q.C, fun a cls d => rS q.C q.f q.w ie a cls d⟩
def tryRet (ie : Nat) (l : List Clause) (m : M RV) : M Ctl := fun c => match m c with
  | .ok v c' => .ok (.rt v) c'
  | .exc k d c' => (match findK k l, c'.r[ie]? with
    | some u, some .no => .ok (.rt (.sh (.tuple [.str u, d]))) c'
    | _, _ => .bad)
  | .bad => .bad
theorem ret_of {K : PySem.W.Frag} {C : Cls} {Wout : WX} {k ie : Nat} {u : Str} {ad : Addr} {v : V} (hl : ie < σ.length) (hd : H ad = some (.xd [(C.fld k, v)])) (hQ : ∀ p, H p = none → D.rt (.ref p) (upd H p (.tup [.str u, v]))) :
    ∀ {l : List Clause} {ts : List PnCt.Tell}, Tells K C l ts → findK k l = some u → PnTry.wWays K Wout D (ts.map (wayR ie)) (C.at_ k) (some ad) σ H
  | _, _, .nil, h => nomatch h
  | q :: l, t :: ts, .cons hw hC hf yes no r, h => by
    unfold findK at h
    by_cases e : q.k = k
    · rw [if_pos e] at h
      cases h
      subst e
      refine ⟨true, yes, fun _ a ha => ⟨by show (σ.set ie _)[ie]? = _; rw [List.getElem?_set_self hl], hC, ad, v, rfl, by rw [← hf]; exact hd, fun p hp => ?_⟩, fun z => ?_⟩
      · rw [hw]
        exact hQ p hp
      · cases z
    · rw [if_neg e] at h
      obtain ⟨c, m, z⟩ := findK_mem h
      have one : PySem.W.exmOne K (C.at_ k) (.ref t.C) = some false := by rw [← z]; exact (no c m).1
      refine ⟨false, one, fun y => ?_, fun _ => ret_of hl hd hQ r h⟩
      cases y
theorem tryR_ (ie : Nat) {h₀ : ExceptHandler} {hs : List ExceptHandler} {ts : List PnCt.Tell} {l : List Clause} {e : Expr} {rp pos : Pos} {m : M RV} (hN : X.N.Nodup) (tk : Takes X W) (hts : Tells F.K F.C l ts) (hw : PnTry.WaysOk X (h₀ :: hs) (ts.map (wayR ie)))
    (hb : ∀ (W : WX) (pn : List (Addr × Obj)) (xe : Value → Shared → Prop), Takes (X.tr pn xe) W → PE (X.tr pn xe) e (EX F W m)) (hK : F.K = X.K := by rfl) (hst : X.stack = X.env :: X.outer := by rfl) (hfr : X.env.frame = some X.env.locals := by rfl) :
    PS X (.Try [.Return (some e) rp] (h₀ :: hs) [] [] pos) (T F W (tryRet ie l m)) :=
  (PnTry.ps_ways (pos := pos) (tb := fun W => T F W (retS m)) hst hfr hN tk (fun W pn xe tk _ => ss_one (s_ret (hb W pn xe tk))) hw).mono fun D σ H ⟨G, c, r, p⟩ => by
    refine ⟨G, c, r, ?_⟩
    unfold tryRet at p
    unfold retS M.bind
    cases em : m c with
    | ok v c' =>
      rw [em] at p
      exact p
    | exc k d c' =>
      rw [em] at p
      intro ad v σ' G' H' r' h1 h2
      cases ef : findK k l with
      | none => simp only [ef] at p; exact p.elim
      | some u =>
        cases ei : c'.r[ie]? with
        | none => simp only [ef, ei] at p; exact p.elim
        | some s =>
          cases s with
          | no =>
            simp only [ef, ei] at p
            have hl : ie < σ'.length := by
              rw [← r'.len]
              exact (List.getElem?_eq_some_iff.mp ei).1
            rw [← hK]
            refine ret_of hl h1 (fun q hq => ?_) hts ef
            obtain ⟨r2, s2⟩ := r'.laid (o := .tup [.str u, v]) hq
            exact p _ _ _ _ r2 (.tup (Evl.st_of upd_same) (.cons (.str u) (.cons (dp_mono s2 h2) .nil)))
          | _ => simp only [ef, ei] at p; exact p.elim
    | bad =>
      rw [em] at p
      exact p
/-- a clause: except C as e: return (w, e.f) -/
theorem wayR_ {x e w f : Str} {C B : Addr} {ie j kk : Nat} {np wp ep ap tpp pos pos1 : Pos} (Z : PnCt.ErrF X.K C B f) (hm : X.mg x = some (.ref C))
    (he : X.N[ie]? = some e := by rfl) (hle : X.env.kindOf e = some .local := by rfl) (hve : Vis X.env.scope e := by exact Or.inl rfl) (hde : (e == ("__debug__" : Str)) = false := by decide) (hce : (e == ("__classdict__" : Str)) = false := by decide) (hg : Gl X x := by rfl) (hdx : (x == ("__debug__" : Str)) = false := by decide)
    (ha : attributeBase (.Name e ep) f X.env (eval (.Name e ep) X.env) = eval (.Name e ep) X.env := by rfl)
    (k1 : starEach [.Constant (.str w) j wp, .Attribute (.Name e ep) f ap] X.env = (false, eval (.Constant (.str w) j wp) X.env) :: starEach [.Attribute (.Name e ep) f ap] X.env := by rfl)
    (k2 : starEach [.Attribute (.Name e ep) f ap] X.env = (false, eval (.Attribute (.Name e ep) f ap) X.env) :: starEach [] X.env := by rfl) :
    PnTry.WayOk X (.ExceptHandler (some (.Name x np)) (some e) [.Return (some (.Tuple [.Constant (.str w) j wp, .Attribute (.Name e ep) f ap] kk tpp)) pos] pos1) (wayR ie ⟨C, f, w⟩) :=
  ⟨x, e, _, [], np, pos1, rfl, he, hle, ⟨hg, hdx, .inl hm⟩, fun a ob cls d pn hz hf => by
    by_cases hc : cls = .ref C
    · subst hc
      exact ret_suite Z hz hf he hve hde hce ha k1 k2
    · exact ⟨fun pins s σ H D I h => (hc h.2.1).elim⟩⟩
/-! ### a tuple many times -/
def rRepB (K : PySem.W.Frag) : R2 := fun x y H Q => ∃ l k xs, x = .ref l ∧ y = .int k ∧ SqT K H l xs ∧ xs ≠ [] ∧ 1 ≤ k ∧ k ≤ 2000 ∧ xs.length ≤ 1000 ∧ (k = 1 → Q x H) ∧ ∀ p, H p = none → Q (.ref p) (upd H p (.tup (List.replicate k.toNat xs).flatten))
theorem op_repB : OpR X (binaryOp .Mult) (rRepB X.K) := by
  (intro pins s σ H x y v u Q I rx ry h)
  obtain ⟨l, k, xs, ex, ey, hT, hne, h1, h2, hz, q1, q⟩ := h
  by_cases e : k ≤ 1000
  · exact op_rep1 pins s σ H x y v u Q I rx ry ⟨l, k, xs, ex, ey, hT, hne, h1, e, hz, q1, q⟩
  · subst ex
    subst ey
    cases rx
    obtain ⟨t, rfl⟩ := ry
    (obtain ⟨its, r, ⟨⟨cls, dd, data, sl⟩, ho, hc, n, hd⟩, hs⟩ := I.tuple hT)
    simp only at hc hd
    subst hc hd
    have lenE : its.length = xs.length := r.length.symm
    have pos : 0 < its.length := by
      rw [lenE]
      (exact List.length_pos_iff.mpr hne)
    have nE : (its.toArray).isEmpty = false := by
      cases its with
      | nil => exact absurd pos (Nat.lt_irrefl _)
      | cons _ _ => rfl
    have sz : (its.toArray).size = xs.length := by rw [List.size_toArray, lenE]
    have prod : ((its.toArray.size : Nat) : Int) * k ≤ 2000000 := by
      rw [sz]
      have z : ((xs.length : Nat) : Int) * k ≤ 1000 * k := Int.mul_le_mul_of_nonneg_right (by omega) (by omega)
      omega
    have nat : k.toNat * xs.length ≤ 2000 * 1000 := Nat.mul_le_mul (by omega) hz
    have d0 : (decide (k < -(2 ^ 63)) || decide (k ≥ 2 ^ 63)) = false := by
      (rw [decide_eq_false (by omega), decide_eq_false (by omega)] <;> rfl)
    have d1 : (its.toArray.isEmpty || k == 1) = false := by
      rw [nE, Bool.false_or]
      (exact beq_eq_false_iff_ne.mpr (by omega))
    have d2 : (decide (k ≤ 0) || its.toArray.isEmpty) = false := by
      rw [nE, Bool.or_false]
      (exact decide_eq_false (by omega))
    have d4 : Builtin.Tuple.tupleTooMany (((its.toArray.size : Nat) : Int) * k) = false := by
      (unfold Builtin.Tuple.tupleTooMany)
      rw [sizeLine_eq]
      (exact decide_eq_false (by omega))
    have fl : (List.replicate k.toNat its).flatten.length ≤ sizeLine := by
      rw [PyProof.Rows.lm_len_rep_flat, lenE, sizeLine_eq]
      omega
    refine wpAny_binaryOp_repeat_ref (T := "tuple") (U := "int") (by decide) ⟨_, ho, rfl⟩ (fun s' => typeIs_int s' k t) noFill_tuple_mul F.fills_int_mul F.slot_int_rmul repeat_tuple F.slot_int_index.lookup (call_meets F.slot_int_rmul (typeIs_int s k t) F.entry_int_rmul (F.args_int_rmul_2 _ _) (int_rmul_tuple k t l its.toArray n dd sl) ⟨ho, rfl, ⟨_, ho, rfl⟩, call_meets F.slot_tuple_mul ⟨_, ho, rfl⟩ F.entry_tuple_mul (F.args_tuple_mul_2 _ _) (tuple_mulW l its.toArray n dd sl k t d0 d1 d2 (by omega) d4 (by rw [size_rep, List.size_toArray]; exact fl)) ⟨ho, ?_⟩⟩)
    rw [size_rep]
    refine ⟨.ref s.heap.objs.size, _, I.laid (t' := s.toks) (o := .tup (List.replicate k.toNat xs).flatten) (fun b ob z => Heap.get?_push_of_some _ z) (Nat.le_refl _) ⟨?_, _, r.rep k.toNat, IsTup.new _ _⟩, rfl, q _ (I.hok.fresh (Nat.le_refl _))⟩
    rw [PyProof.Rows.lm_len_rep_flat, sizeLine_eq]
    omega
theorem ixv_ (i : Nat) {x : Str} {b : Expr} {mb : M Dat} {p pos : Pos} (hb : PE X b (Pn.E F W mb)) (hK : F.K = X.K := by rfl) (hN : X.N[i]? = some x := by rfl) (hv : Vis X.env.scope x := by first | exact Or.inl rfl | exact Or.inr (Or.inl rfl) | exact Or.inr (Or.inr rfl)) (hd : (x == ("__debug__" : Str)) = false := by decide) (hcd : (x == ("__classdict__" : Str)) = false := by decide) (hs : PlainIx b := by intro _ _; rfl) :
    PE X (.Subscript (.Name x p) b pos) (Pn.E F W (ixV i mb)) := e_ixV hK hN hv hd hcd hb hs
theorem callQS_ {okT : Tbs → Prop} {k n j : Nat} {g : GF} {x : Str} {p pos : Pos} {e : Expr} {es : List Expr} {ms : M (List Dat)} (hgd : X.A.guards = some []) (Z : HasQ X.prog X.w X.K X.mg X.base F.C true okT x k n g) (hok : okT F.tb) (hr : Room j X.A) (tk : Takes X W) (ha : PA X (e :: es) (Sx F W (RAS F) ms)) (hkj : k ≤ j := by decide) (hK : F.K = X.K := by rfl) (hg : Gl X x := by rfl)
    (hdb : (x == ("__debug__" : Str)) = false := by decide) (he : starEach (e :: es) X.env = (false, eval e X.env) :: starEach es X.env := by rfl) (hpl : (backTo pos (starEach es X.env)).any (·.1) = false := by rfl) : PE X (.Call (.Name x p) (e :: es) [] pos) (EX F W (callSM n g ms)) := e_callQ hK hgd Z hok hr hkj hg tk ha hdb he hpl
def repW : Dat → Dat → M RV
  | .tuple a, .int k => if a ≠ [] ∧ 1 ≤ k ∧ k ≤ 2000 ∧ a.length ≤ 1000 then ret (.sh (.tuple (List.replicate k.toNat a).flatten)) else bad
  | _, _ => bad
theorem repW_ {a b : Expr} {ma mb : M Dat} {pos : Pos} (ha : PE X a (Pn.E F W ma)) (hb : PE X b (Pn.E F W mb)) (hK : F.K = X.K := by rfl) : PE X (.BinOp a .Mult b pos) (EX F W (M.bind ma fun x => M.bind mb fun y => repW x y)) := by
  refine (pe_op op_repB ha hb).mono fun σ H Q h => sx_mono (sx_bind2 h) fun x H1 hh => sx_mono hh fun y H2 ⟨d, e, G2, c2, r2, q1, q2, p⟩ => ?_
  cases q1 with
  | @tup a1 xs l1 t1 k1 =>
    cases q2 with
    | int k =>
      by_cases o : l1 ≠ [] ∧ 1 ≤ k ∧ k ≤ 2000 ∧ l1.length ≤ 1000
      · have eo : repW (.tuple l1) (.int k) = ret (.sh (.tuple (List.replicate k.toNat l1).flatten)) := if_pos o
        rw [eo] at p
        obtain ⟨o1, o2, o3, o4⟩ := o
        refine ⟨a1, k, xs, rfl, rfl, hK ▸ sqT_mono r2.sub t1, fun z => ?_, o2, o3, by rw [dpAll_len k1]; exact o4, fun e1 => ?_, fun z hz => ?_⟩
        · subst z
          cases k1
          exact o1 rfl
        · subst e1
          have e2 : (List.replicate (1 : Int).toNat l1).flatten = l1 := by simp
          rw [e2] at p
          exact po_ret r2 p (.tup t1 k1)
        · obtain ⟨r3, s3⟩ := r2.laid (o := .tup (List.replicate k.toNat xs).flatten) hz
          exact p _ _ _ r3 s3 (.tup (Evl.st_of upd_same) (dpAll_mono s3 (rep_dp k1 _)))
      · have eo : repW (.tuple l1) (.int k) = bad := if_neg o
        rw [eo] at p
        exact p.elim
    | _ => exact p.elim
  | _ => cases q2 <;> exact p.elim
end
end Pn

set_option maxHeartbeats 4000001
namespace Pn
open L2 PyProof.Rows PySem.Spec PySem
def top (i : Nat) : Stmt := PySem.Challenge.pw_passednames_k60_sentences_and_their_dept.main.body.getD i (.Pass ⟨0, 0, 0, 0⟩)
def d_MOST_NAMES_IN_ROW : Dat := (.int 24)
def d_MOST_ROWS : Dat := (.int 1500)
def d_AS_IS : Dat := (.tuple [(.int 0), (.int 1), (.int 2), (.int 3), (.int 4), (.int 5), (.int 6), (.int 7), (.int 8), (.int 9)])
structure Glo (K : PySem.W.Frag) (mg : Str → Option Value) : Prop where
  b_all : mg "all" = none
  b_any : mg "any" = none
  b_bool : mg "bool" = none
  b_enumerate : mg "enumerate" = none
  b_int : mg "int" = none
  b_isinstance : mg "isinstance" = none
  b_len : mg "len" = none
  b_list : mg "list" = none
  b_max : mg "max" = none
  b_range : mg "range" = none
  b_str : mg "str" = none
  b_tuple : mg "tuple" = none
  MOST_NAMES_IN_ROW : GloD K mg "MOST_NAMES_IN_ROW" d_MOST_NAMES_IN_ROW
  MOST_ROWS : GloD K mg "MOST_ROWS" d_MOST_ROWS
  AS_IS : GloD K mg "AS_IS" d_AS_IS
section
variable {P : Program} {w : World} {K : PySem.W.Frag} {mg : Str → Option Value} {base : Heap} {C : Cls}
def m_is_integer : M Ctl := retS (asx (andV (M.bind (rd 0) (isiR "int")) (notV (M.bind (rd 0) (isiR "bool")))))
def g_is_integer : List Dat → PR := runP 1 m_is_integer
theorem sc_is_integer : FnScope ["value"] ["value"] (defScope (top 5)) := ⟨rfl, rfl, rfl, by decide +kernel, rfl, by decide +kernel, by decide +kernel⟩
theorem ok_is_integer {f : Addr} {fd : FuncData} (Fn : Fun K "is_integer" "is_integer" (top 5) f fd) (Z : Glo K mg)  : FnOk P w K mg base (L2.CX P w) 1 f fd ["value"] (spP K C 1 g_is_integer) :=
  fn_pure Fn sc_is_integer (by decide) fun G0 H0 cdv A outer s E hr => ss_one (s_ret (e_asx (e_and (isi_ "int" Z.b_isinstance Z.b_int (v_ 0)) (e_one (e_not (isi_ "bool" Z.b_isinstance Z.b_bool (v_ 0)))))))

def m_is_from_zero : M Ctl := retS (asx (andV (frz (callN 1 g_is_integer (aCons (rd 0) (aNil)))) (m2 geI (rd 0) (ret (.int 0)))))
def g_is_from_zero : List Dat → PR := runP 1 m_is_from_zero
theorem sc_is_from_zero : FnScope ["value"] ["value"] (defScope (top 6)) := ⟨rfl, rfl, rfl, by decide +kernel, rfl, by decide +kernel, by decide +kernel⟩
theorem ok_is_from_zero {f : Addr} {fd : FuncData} (Fn : Fun K "is_from_zero" "is_from_zero" (top 6) f fd) (Z : Glo K mg) (h_is_integer : Has P w K mg base C "is_integer" 1 1 g_is_integer) : FnOk P w K mg base (L2.CX P w) 2 f fd ["value"] (spP K C 1 g_is_from_zero) :=
  fn_pure Fn sc_is_from_zero (by decide) fun G0 H0 cdv A outer s E hr => ss_one (s_ret (e_asx (e_and (e_frz (call_ h_is_integer hr tkC (a_cons (v_ 0) (a_nil)))) (e_one (e_ge (v_ 0) (e_int))))))

def m_is_below : M Ctl := retS (asx (andV (frz (callN 1 g_is_from_zero (aCons (rd 0) (aNil)))) (m2 ltI (rd 0) (rd 1))))
def g_is_below : List Dat → PR := runP 2 m_is_below
theorem sc_is_below : FnScope ["value", "end"] ["value", "end"] (defScope (top 7)) := ⟨rfl, rfl, rfl, by decide +kernel, rfl, by decide +kernel, by decide +kernel⟩
theorem ok_is_below {f : Addr} {fd : FuncData} (Fn : Fun K "is_below" "is_below" (top 7) f fd) (Z : Glo K mg) (h_is_from_zero : Has P w K mg base C "is_from_zero" 2 1 g_is_from_zero) : FnOk P w K mg base (L2.CX P w) 3 f fd ["value", "end"] (spP K C 2 g_is_below) :=
  fn_pure Fn sc_is_below (by decide) fun G0 H0 cdv A outer s E hr => ss_one (s_ret (e_asx (e_and (e_frz (call_ h_is_from_zero hr tkC (a_cons (v_ 0) (a_nil)))) (e_one (e_lt (v_ 0) (v_ 1))))))

def m_is_row_of : M Ctl := retS (asx (andV (M.bind (rd 0) (isiR "tuple")) (m2 eqD (M.bind (rowVar 0) lenR) (rd 1))))
def g_is_row_of : List Dat → PR := runP 2 m_is_row_of
theorem sc_is_row_of : FnScope ["value", "many"] ["value", "many"] (defScope (top 8)) := ⟨rfl, rfl, rfl, by decide +kernel, rfl, by decide +kernel, by decide +kernel⟩
theorem ok_is_row_of {f : Addr} {fd : FuncData} (Fn : Fun K "is_row_of" "is_row_of" (top 8) f fd) (Z : Glo K mg)  : FnOk P w K mg base (L2.CX P w) 1 f fd ["value", "many"] (spP K C 2 g_is_row_of) :=
  fn_pure Fn sc_is_row_of (by decide) fun G0 H0 cdv A outer s E hr => ss_one (s_ret (e_asx (e_and (isi_ "tuple" Z.b_isinstance Z.b_tuple (v_ 0)) (e_one (eq_ hr.units (len_ Z.b_len (rv_ 0)) (v_ 1))))))

def m_are_below : M Ctl := retS (asx (M.bind (rowX (M.bind (M.bind (rd 0) itT) (lcM [2] (put 2) (ret true) (frz (callN 2 g_is_below (aCons (rd 2) (aCons (rd 1) (aNil)))))))) allR))
def g_are_below : List Dat → PR := runP 3 m_are_below
theorem sc_are_below : FnScope ["values", "end", "value"] ["values", "end"] (defScope (top 13)) := ⟨rfl, rfl, rfl, by decide +kernel, rfl, by decide +kernel, by decide +kernel⟩
theorem ok_are_below {f : Addr} {fd : FuncData} (Fn : Fun K "are_below" "are_below" (top 13) f fd) (Z : Glo K mg) (h_is_below : Has P w K mg base C "is_below" 3 2 g_is_below) : FnOk P w K mg base (L2.CX P w) 4 f fd ["values", "end"] (spP K C 2 g_are_below) :=
  fn_pure Fn sc_are_below (by decide) fun G0 H0 cdv A outer s E hr => ss_one (s_ret (e_asx (all_ Z.b_all (r_new (lc1_ ["values", "end", "value"] (defScope (top 13)) sc_are_below.nd 2 (i_tup rfl (v_ 0)) (fun _ _ _ _ _ _ => e_frz (call_ h_is_below hr L2.takes0 (a_cons (v_ 2) (a_cons (v_ 1) (a_nil))))))))))

def m_is_use : M Ctl := seq (ifS (orB (notB (toB (frz (callN 2 g_is_row_of (aCons (rd 0) (aCons (ret (.int 3)) (aNil))))))) (orB (notB (toB (M.bind (ixD (rd 0) (ret (.int 0))) (isiR "bool")))) (notB (toB (frz (callN 2 g_is_below (aCons (ixD (rd 0) (ret (.int 1))) (aCons (M.bind (rowVar 2) lenR) (aNil))))))))) (retS (asx (ret (.bool false)))) (ret .nx)) (seq (M.bind (asx (ixD (rd 0) (ret (.int 2)))) (asg 3)) (retS (asx (andV (frz (callN 2 g_is_row_of (aCons (rd 3) (aCons (ixD (rd 2) (ixD (rd 0) (ret (.int 1)))) (aNil))))) (frz (callN 2 g_are_below (aCons (rd 3) (aCons (rd 1) (aNil)))))))))
def g_is_use : List Dat → PR := runP 4 m_is_use
theorem sc_is_use : FnScope ["value", "end", "manys", "names"] ["value", "end", "manys"] (defScope (top 17)) := ⟨rfl, rfl, rfl, by decide +kernel, rfl, by decide +kernel, by decide +kernel⟩
theorem ok_is_use {f : Addr} {fd : FuncData} (Fn : Fun K "is_use" "is_use" (top 17) f fd) (Z : Glo K mg) (h_is_row_of : Has P w K mg base C "is_row_of" 1 2 g_is_row_of) (h_is_below : Has P w K mg base C "is_below" 3 2 g_is_below) (h_are_below : Has P w K mg base C "are_below" 4 2 g_are_below) : FnOk P w K mg base (L2.CX P w) 5 f fd ["value", "end", "manys"] (spP K C 3 g_is_use) :=
  fn_pure Fn sc_is_use (by decide) fun G0 H0 cdv A outer s E hr => ss_cons (s_if (L2.PW.pt (w_or (t_not (t_val (e_frz (call_ h_is_row_of hr tkC (a_cons (v_ 0) (a_cons (e_int) (a_nil))))))) (w_or (t_not (t_val (isi_ "bool" Z.b_isinstance Z.b_bool (ix_ (v_ 0) (e_int))))) (w_or1 (t_not (t_val (e_frz (call_ h_is_below hr tkC (a_cons (ix_ (v_ 0) (e_int)) (a_cons (len_ Z.b_len (rv_ 2)) (a_nil))))))))))) (ss_one (s_ret (e_asx (e_bl)))) (ss_nil)) (ss_cons (as_ 3 sc_is_use.nd (e_asx (ix_ (v_ 0) (e_int)))) (ss_one (s_ret (e_asx (e_and (e_frz (call_ h_is_row_of hr tkC (a_cons (v_ 3) (a_cons (ix_ (v_ 2) (ix_ (v_ 0) (e_int))) (a_nil))))) (e_one (e_frz (call_ h_are_below hr tkC (a_cons (v_ 3) (a_cons (v_ 1) (a_nil)))))))))))

def m_are_uses : M Ctl := retS (asx (andV (M.bind (rd 0) (isiR "tuple")) (M.bind (rowX (M.bind (M.bind (rd 0) itT) (lcM [3] (put 3) (ret true) (frz (callN 3 g_is_use (aCons (rd 3) (aCons (rd 1) (aCons (rd 2) (aNil))))))))) allR)))
def g_are_uses : List Dat → PR := runP 4 m_are_uses
theorem sc_are_uses : FnScope ["value", "end", "manys", "use"] ["value", "end", "manys"] (defScope (top 14)) := ⟨rfl, rfl, rfl, by decide +kernel, rfl, by decide +kernel, by decide +kernel⟩
theorem ok_are_uses {f : Addr} {fd : FuncData} (Fn : Fun K "are_uses" "are_uses" (top 14) f fd) (Z : Glo K mg) (h_is_use : Has P w K mg base C "is_use" 5 3 g_is_use) : FnOk P w K mg base (L2.CX P w) 6 f fd ["value", "end", "manys"] (spP K C 3 g_are_uses) :=
  fn_pure Fn sc_are_uses (by decide) fun G0 H0 cdv A outer s E hr => ss_one (s_ret (e_asx (e_and (isi_ "tuple" Z.b_isinstance Z.b_tuple (v_ 0)) (e_one (all_ Z.b_all (r_new (lc1_ ["value", "end", "manys", "use"] (defScope (top 14)) sc_are_uses.nd 3 (i_tup rfl (v_ 0)) (fun _ _ _ _ _ _ => e_frz (call_ h_is_use hr L2.takes0 (a_cons (v_ 3) (a_cons (v_ 1) (a_cons (v_ 2) (a_nil)))))))))))))

def m_is_case : M Ctl := seq (ifS (notB (toB (frz (callN 2 g_is_row_of (aCons (rd 0) (aCons (ret (.int 2)) (aNil))))))) (retS (asx (ret (.bool false)))) (ret .nx)) (seq (M.bind (rd 0) (tgtM (putTup 2 (putCons (put 3) (putCons (put 4) (putNil)))))) (seq (ifS (toB (m2 isR (rd 3) (ret .none))) (retS (callN 3 g_is_use (aCons (rd 4) (aCons (m2 addI (rd 1) (ret (.int 1))) (aCons (rd 2) (aNil)))))) (ret .nx)) (retS (asx (andV (frz (callN 2 g_is_below (aCons (rd 3) (aCons (rd 1) (aNil))))) (frz (callN 3 g_is_use (aCons (rd 4) (aCons (rd 1) (aCons (rd 2) (aNil)))))))))))
def g_is_case : List Dat → PR := runP 5 m_is_case
theorem sc_is_case : FnScope ["value", "many", "manys", "case", "use"] ["value", "many", "manys"] (defScope (top 16)) := ⟨rfl, rfl, rfl, by decide +kernel, rfl, by decide +kernel, by decide +kernel⟩
theorem ok_is_case {f : Addr} {fd : FuncData} (Fn : Fun K "is_case" "is_case" (top 16) f fd) (Z : Glo K mg) (h_is_row_of : Has P w K mg base C "is_row_of" 1 2 g_is_row_of) (h_is_use : Has P w K mg base C "is_use" 5 3 g_is_use) (h_is_below : Has P w K mg base C "is_below" 3 2 g_is_below) : FnOk P w K mg base (L2.CX P w) 6 f fd ["value", "many", "manys"] (spP K C 3 g_is_case) :=
  fn_pure Fn sc_is_case (by decide) fun G0 H0 cdv A outer s E hr => ss_cons (s_if (t_not (t_val (e_frz (call_ h_is_row_of hr tkC (a_cons (v_ 0) (a_cons (e_int) (a_nil))))))) (ss_one (s_ret (e_asx (e_bl)))) (ss_nil)) (ss_cons (s_asgT (v_ 0) (tg_tup rfl rfl (tgs_cons (tn_ 3 sc_is_case.nd) (tgs_cons (tn_ 4 sc_is_case.nd) (tgs_nil))))) (ss_cons (s_if (tis_ (v_ 3) (e_non)) (ss_one (s_ret (call_ h_is_use hr tkC (a_cons (v_ 4) (a_cons (e_add (v_ 1) (e_int)) (a_cons (v_ 2) (a_nil))))))) (ss_nil)) (ss_one (s_ret (e_asx (e_and (e_frz (call_ h_is_below hr tkC (a_cons (v_ 3) (a_cons (v_ 1) (a_nil))))) (e_one (e_frz (call_ h_is_use hr tkC (a_cons (v_ 4) (a_cons (v_ 1) (a_cons (v_ 2) (a_nil)))))))))))))

def m_are_cases : M Ctl := retS (asx (andV (M.bind (rd 0) (isiR "tuple")) (M.bind (rowX (M.bind (M.bind (rd 0) itT) (lcM [3] (put 3) (ret true) (frz (callN 3 g_is_case (aCons (rd 3) (aCons (rd 1) (aCons (rd 2) (aNil))))))))) allR)))
def g_are_cases : List Dat → PR := runP 4 m_are_cases
theorem sc_are_cases : FnScope ["value", "many", "manys", "pair"] ["value", "many", "manys"] (defScope (top 15)) := ⟨rfl, rfl, rfl, by decide +kernel, rfl, by decide +kernel, by decide +kernel⟩
theorem ok_are_cases {f : Addr} {fd : FuncData} (Fn : Fun K "are_cases" "are_cases" (top 15) f fd) (Z : Glo K mg) (h_is_case : Has P w K mg base C "is_case" 6 3 g_is_case) : FnOk P w K mg base (L2.CX P w) 7 f fd ["value", "many", "manys"] (spP K C 3 g_are_cases) :=
  fn_pure Fn sc_are_cases (by decide) fun G0 H0 cdv A outer s E hr => ss_one (s_ret (e_asx (e_and (isi_ "tuple" Z.b_isinstance Z.b_tuple (v_ 0)) (e_one (all_ Z.b_all (r_new (lc1_ ["value", "many", "manys", "pair"] (defScope (top 15)) sc_are_cases.nd 3 (i_tup rfl (v_ 0)) (fun _ _ _ _ _ _ => e_frz (call_ h_is_case hr L2.takes0 (a_cons (v_ 3) (a_cons (v_ 1) (a_cons (v_ 2) (a_nil)))))))))))))

def m_is_sentence_row : M Ctl := seq (ifS (orB (notB (toB (frz (callN 2 g_is_row_of (aCons (rd 0) (aCons (ret (.int 2)) (aNil))))))) (notB (toB (frz (callN 2 g_is_below (aCons (ixD (rd 0) (ret (.int 0))) (aCons (m2 addI (ret d_MOST_NAMES_IN_ROW) (ret (.int 1))) (aNil)))))))) (retS (asx (ret (.bool false)))) (ret .nx)) (seq (M.bind (rd 0) (tgtM (putTup 2 (putCons (put 3) (putCons (put 4) (putNil)))))) (seq (ifS (orB (notB (toB (M.bind (rd 4) (isiR "tuple")))) (orB (notB (M.bind (rowVar 4) truR)) (notB (toB (M.bind (ixD (rd 4) (ret (.int 0))) (isiR "str")))))) (retS (asx (ret (.bool false)))) (ret .nx)) (seq (M.bind (asx (ixD (rd 4) (ret (.int 0)))) (asg 2)) (seq (ifS (toB (m2 eqD (rd 2) (ret (.str "wait")))) (retS (asx (andV (frz (callN 2 g_is_row_of (aCons (rd 4) (aCons (ret (.int 2)) (aNil))))) (frz (callN 3 g_are_uses (aCons (ixD (rd 4) (ret (.int 1))) (aCons (rd 3) (aCons (rd 1) (aNil))))))))) (ret .nx)) (seq (ifS (toB (m2 eqD (rd 2) (ret (.str "send")))) (retS (asx (andV (frz (callN 2 g_is_row_of (aCons (rd 4) (aCons (ret (.int 4)) (aNil))))) (andV (frz (callN 2 g_are_below (aCons (frz (slM (rd 4) (partO (ret (.int 1))) (partO (ret (.int 3))))) (aCons (rd 3) (aNil))))) (frz (callN 3 g_are_uses (aCons (ixD (rd 4) (ret (.int 3))) (aCons (rd 3) (aCons (rd 1) (aNil)))))))))) (ret .nx)) (seq (ifS (toB (m2 eqD (rd 2) (ret (.str "open")))) (retS (asx (andV (frz (callN 2 g_is_row_of (aCons (rd 4) (aCons (ret (.int 3)) (aNil))))) (andV (frz (callN 2 g_is_below (aCons (ixD (rd 4) (ret (.int 1))) (aCons (rd 3) (aNil))))) (frz (callN 3 g_are_uses (aCons (ixD (rd 4) (ret (.int 2))) (aCons (m2 addI (rd 3) (ret (.int 1))) (aCons (rd 1) (aNil)))))))))) (ret .nx)) (seq (ifS (toB (m2 eqD (rd 2) (ret (.str "take")))) (retS (asx (andV (frz (callN 2 g_is_row_of (aCons (rd 4) (aCons (ret (.int 3)) (aNil))))) (andV (frz (callN 2 g_is_below (aCons (ixD (rd 4) (ret (.int 1))) (aCons (rd 3) (aNil))))) (frz (callN 3 g_are_cases (aCons (ixD (rd 4) (ret (.int 2))) (aCons (rd 3) (aCons (rd 1) (aNil)))))))))) (ret .nx)) (retS (asx (ret (.bool false)))))))))))
def g_is_sentence_row : List Dat → PR := runP 5 m_is_sentence_row
theorem sc_is_sentence_row : FnScope ["value", "manys", "word", "many", "action"] ["value", "manys"] (defScope (top 12)) := ⟨rfl, rfl, rfl, by decide +kernel, rfl, by decide +kernel, by decide +kernel⟩
theorem ok_is_sentence_row {f : Addr} {fd : FuncData} (Fn : Fun K "is_sentence_row" "is_sentence_row" (top 12) f fd) (Z : Glo K mg) (h_is_row_of : Has P w K mg base C "is_row_of" 1 2 g_is_row_of) (h_is_below : Has P w K mg base C "is_below" 3 2 g_is_below) (h_are_uses : Has P w K mg base C "are_uses" 6 3 g_are_uses) (h_are_below : Has P w K mg base C "are_below" 4 2 g_are_below) (h_are_cases : Has P w K mg base C "are_cases" 7 3 g_are_cases) : FnOk P w K mg base (L2.CX P w) 8 f fd ["value", "manys"] (spP K C 2 g_is_sentence_row) :=
  fn_pure Fn sc_is_sentence_row (by decide) fun G0 H0 cdv A outer s E hr => ss_cons (s_if (L2.PW.pt (w_or (t_not (t_val (e_frz (call_ h_is_row_of hr tkC (a_cons (v_ 0) (a_cons (e_int) (a_nil))))))) (w_or1 (t_not (t_val (e_frz (call_ h_is_below hr tkC (a_cons (ix_ (v_ 0) (e_int)) (a_cons (e_add (g_ Z.MOST_NAMES_IN_ROW) (e_int)) (a_nil)))))))))) (ss_one (s_ret (e_asx (e_bl)))) (ss_nil)) (ss_cons (s_asgT (v_ 0) (tg_tup rfl rfl (tgs_cons (tn_ 3 sc_is_sentence_row.nd) (tgs_cons (tn_ 4 sc_is_sentence_row.nd) (tgs_nil))))) (ss_cons (s_if (L2.PW.pt (w_or (t_not (t_val (isi_ "tuple" Z.b_isinstance Z.b_tuple (v_ 4)))) (w_or (t_not (trow_ (rv_ 4))) (w_or1 (t_not (t_val (isi_ "str" Z.b_isinstance Z.b_str (ix_ (v_ 4) (e_int))))))))) (ss_one (s_ret (e_asx (e_bl)))) (ss_nil)) (ss_cons (as_ 2 sc_is_sentence_row.nd (e_asx (ix_ (v_ 4) (e_int)))) (ss_cons (s_if (teq_ hr.units (v_ 2) (e_str)) (ss_one (s_ret (e_asx (e_and (e_frz (call_ h_is_row_of hr tkC (a_cons (v_ 4) (a_cons (e_int) (a_nil))))) (e_one (e_frz (call_ h_are_uses hr tkC (a_cons (ix_ (v_ 4) (e_int)) (a_cons (v_ 3) (a_cons (v_ 1) (a_nil))))))))))) (ss_nil)) (ss_cons (s_if (teq_ hr.units (v_ 2) (e_str)) (ss_one (s_ret (e_asx (e_and (e_frz (call_ h_is_row_of hr tkC (a_cons (v_ 4) (a_cons (e_int) (a_nil))))) (e_and (e_frz (call_ h_are_below hr tkC (a_cons (e_frz (sl_ (v_ 4) (o_some (e_int)) (o_some (e_int)))) (a_cons (v_ 3) (a_nil))))) (e_one (e_frz (call_ h_are_uses hr tkC (a_cons (ix_ (v_ 4) (e_int)) (a_cons (v_ 3) (a_cons (v_ 1) (a_nil)))))))))))) (ss_nil)) (ss_cons (s_if (teq_ hr.units (v_ 2) (e_str)) (ss_one (s_ret (e_asx (e_and (e_frz (call_ h_is_row_of hr tkC (a_cons (v_ 4) (a_cons (e_int) (a_nil))))) (e_and (e_frz (call_ h_is_below hr tkC (a_cons (ix_ (v_ 4) (e_int)) (a_cons (v_ 3) (a_nil))))) (e_one (e_frz (call_ h_are_uses hr tkC (a_cons (ix_ (v_ 4) (e_int)) (a_cons (e_add (v_ 3) (e_int)) (a_cons (v_ 1) (a_nil)))))))))))) (ss_nil)) (ss_cons (s_if (teq_ hr.units (v_ 2) (e_str)) (ss_one (s_ret (e_asx (e_and (e_frz (call_ h_is_row_of hr tkC (a_cons (v_ 4) (a_cons (e_int) (a_nil))))) (e_and (e_frz (call_ h_is_below hr tkC (a_cons (ix_ (v_ 4) (e_int)) (a_cons (v_ 3) (a_nil))))) (e_one (e_frz (call_ h_are_cases hr tkC (a_cons (ix_ (v_ 4) (e_int)) (a_cons (v_ 3) (a_cons (v_ 1) (a_nil)))))))))))) (ss_nil)) (ss_one (s_ret (e_asx (e_bl)))))))))))

def m_cases_in : M Ctl := seq (ifS (toB (m2 eqD (ixD (rd 0) (ret (.int 0))) (ret (.str "take")))) (retS (M.bind (rowD (ixD (rd 0) (ret (.int 2)))) lstR)) (ret .nx)) (retS (M.bind (M.bind (ixD (rd 0) (negV (ret (.int 1)))) itT) (lcM [1] (put 1) (ret true) (M.bind (aCons (ret .none) (aCons (rd 1) (aNil))) tupD))))
def g_cases_in : List Dat → PR := runP 2 m_cases_in
theorem sc_cases_in : FnScope ["action", "use"] ["action"] (defScope (top 18)) := ⟨rfl, rfl, rfl, by decide +kernel, rfl, by decide +kernel, by decide +kernel⟩
theorem ok_cases_in {f : Addr} {fd : FuncData} (Fn : Fun K "cases_in" "cases_in" (top 18) f fd) (Z : Glo K mg)  : FnOk P w K mg base (L2.CX P w) 1 f fd ["action"] (spP K C 1 g_cases_in) :=
  fn_pure Fn sc_cases_in (by decide) fun G0 H0 cdv A outer s E hr => ss_cons (s_if (teq_ hr.units (ix_ (v_ 0) (e_int)) (e_str)) (ss_one (s_ret (list_ Z.b_list (r_data (ix_ (v_ 0) (e_int)))))) (ss_nil)) (ss_one (s_ret (lc1_ ["action", "use"] (defScope (top 18)) sc_cases_in.nd 1 (i_tup rfl (ix_ (v_ 0) (neg_ (e_int)))) (fun _ _ _ _ _ _ => e_tup (a_cons (e_non) (a_cons (v_ 1) (a_nil)))))))

def m_need_sentence : M Ctl := seq (ifS (notB (toB (frz (callN 2 g_is_row_of (aCons (rd 0) (aCons (ret (.int 2)) (aNil))))))) (M.bind (M.bind (aNil) tupD) fun d => excM 1 d) (ret .nx)) (seq (M.bind (rd 0) (tgtM (putTup 2 (putCons (put 2) (putCons (put 3) (putNil)))))) (seq (ifS (notB (toB (M.bind (rd 2) (isiR "tuple")))) (M.bind (M.bind (aCons (ret (.int 0)) (aNil)) tupD) fun d => excM 1 d) (ret .nx)) (seq (ifS (toB (m2 gtI (M.bind (rowVar 2) lenR) (ret d_MOST_ROWS))) (M.bind (ret d_MOST_ROWS) fun d => excM 2 d) (ret .nx)) (seq (M.bind (M.bind (aNil) lstD) (asg 1)) (seq (M.bind (M.bind (rd 2) enT) fun items => forL (putTup 2 (putCons (put 4) (putCons (put 5) (putNil)))) (seq (ifS (notB (toB (lendE 1 2 g_is_sentence_row (aCons (rd 5) (ioArg 1))))) (M.bind (M.bind (aCons (ret (.int 0)) (aCons (rd 4) (aNil))) tupD) fun d => excM 1 d) (ret .nx)) (dropS (appV 1 (ixD (rd 5) (ret (.int 0)))))) items) (seq (ifS (notB (toB (lendE 1 3 g_is_use (aCons (rd 3) (aCons (M.bind (rowD (ret d_AS_IS)) lenR) (ioArg 1)))))) (M.bind (M.bind (aCons (ret (.int 1)) (aNil)) tupD) fun d => excM 1 d) (ret .nx)) (retS (asx (rd 0)))))))))
def g_need_sentence : List Dat → PR := runP 6 m_need_sentence
theorem sc_need_sentence : FnScope ["value", "manys", "rows", "use", "number", "row"] ["value"] (defScope (top 21)) := ⟨rfl, rfl, rfl, by decide +kernel, rfl, by decide +kernel, by decide +kernel⟩
theorem ok_need_sentence {f : Addr} {fd : FuncData} (Fn : Fun K "need_sentence" "need_sentence" (top 21) f fd) (Z : Glo K mg) (h_is_row_of : Has P w K mg base C "is_row_of" 1 2 g_is_row_of) (h_is_sentence_row : Has P w K mg base C "is_sentence_row" 8 2 g_is_sentence_row) (h_is_use : Has P w K mg base C "is_use" 5 3 g_is_use) (x_BadSentence : ErrX P w K mg base C 1 "BadSentence") (x_TooGreat : ErrX P w K mg base C 2 "TooGreat") : FnOk P w K mg base (L2.CX P w) 9 f fd ["value"] (spP K C 1 g_need_sentence) :=
  fn_pure Fn sc_need_sentence (by decide) fun G0 H0 cdv A outer s E hr => ss_cons (s_if (t_not (t_val (e_frz (call_ h_is_row_of hr tkC (a_cons (v_ 0) (a_cons (e_int) (a_nil))))))) (ss_one (raise_ x_BadSentence hr tkC (e_tup (a_nil)))) (ss_nil)) (ss_cons (s_asgT (v_ 0) (tg_tup rfl rfl (tgs_cons (tn_ 2 sc_need_sentence.nd) (tgs_cons (tn_ 3 sc_need_sentence.nd) (tgs_nil))))) (ss_cons (s_if (t_not (t_val (isi_ "tuple" Z.b_isinstance Z.b_tuple (v_ 2)))) (ss_one (raise_ x_BadSentence hr tkC (e_tup (a_cons (e_int) (a_nil))))) (ss_nil)) (ss_cons (s_if (t_gt (len_ Z.b_len (rv_ 2)) (g_ Z.MOST_ROWS)) (ss_one (raise_ x_TooGreat hr tkC (g_ Z.MOST_ROWS))) (ss_nil)) (ss_cons (as_ 1 sc_need_sentence.nd (e_lst (a_nil))) (ss_cons (s_for poC rfl (i_enumT rfl rfl Z.b_enumerate (v_ 2)) (tg_tup rfl rfl (tgs_cons (tn_ 4 sc_need_sentence.nd) (tgs_cons (tn_ 5 sc_need_sentence.nd) (tgs_nil)))) (ss_cons (s_if (t_not (t_val (lendE_ 1 h_is_sentence_row hr tkC (a_consI (v_ 5) (io_ 1))))) (ss_one (raise_ x_BadSentence hr tkC (e_tup (a_cons (e_int) (a_cons (v_ 4) (a_nil)))))) (ss_nil)) (ss_one (s_expr (app_ 1 (ix_ (v_ 5) (e_int))))))) (ss_cons (s_if (t_not (t_val (lendE_ 1 h_is_use hr tkC (a_consI (v_ 3) (a_consI (len_ Z.b_len (r_data (g_ Z.AS_IS))) (io_ 1)))))) (ss_one (raise_ x_BadSentence hr tkC (e_tup (a_cons (e_int) (a_nil))))) (ss_nil)) (ss_one (s_ret (e_asx (v_ 0))))))))))

def m_depth_of : M Ctl := seq (M.bind (frz (callN 1 g_need_sentence (aCons (rd 0) (aNil)))) (tgtM (putTup 2 (putCons (put 2) (putCons (put 3) (putNil)))))) (seq (M.bind (M.bind (aNil) lstD) (asg 1)) (seq (M.bind (M.bind (rd 2) itT) fun items => forL (putTup 2 (putCons (put 4) (putCons (put 5) (putNil)))) (dropS (appV 1 (m2 addI (ret (.int 1)) (M.bind (rowX (M.bind (M.bind (frz (callN 1 g_cases_in (aCons (rd 5) (aNil)))) itL) (lcM [4, 6] (putTup 2 (putCons (put 4) (putCons (put 6) (putNil)))) (ret true) (ixV 1 (ixD (rd 6) (ret (.int 1))))))) (maxDfR 0))))) items) (retS (asx (ixV 1 (ixD (rd 3) (ret (.int 1))))))))
def g_depth_of : List Dat → PR := runP 7 m_depth_of
theorem sc_depth_of : FnScope ["sentence", "depths", "rows", "use", "_", "action", "inner"] ["sentence"] (defScope (top 22)) := ⟨rfl, rfl, rfl, by decide +kernel, rfl, by decide +kernel, by decide +kernel⟩
theorem ok_depth_of {f : Addr} {fd : FuncData} (Fn : Fun K "depth_of" "depth_of" (top 22) f fd) (Z : Glo K mg) (h_need_sentence : Has P w K mg base C "need_sentence" 9 1 g_need_sentence) (h_cases_in : Has P w K mg base C "cases_in" 1 1 g_cases_in) : FnOk P w K mg base (L2.CX P w) 10 f fd ["sentence"] (spP K C 1 g_depth_of) :=
  fn_pure Fn sc_depth_of (by decide) fun G0 H0 cdv A outer s E hr => ss_cons (s_asgT (e_frz (call_ h_need_sentence hr tkC (a_cons (v_ 0) (a_nil)))) (tg_tup rfl rfl (tgs_cons (tn_ 2 sc_depth_of.nd) (tgs_cons (tn_ 3 sc_depth_of.nd) (tgs_nil))))) (ss_cons (as_ 1 sc_depth_of.nd (e_lst (a_nil))) (ss_cons (s_for poC rfl (i_tup rfl (v_ 2)) (tg_tup rfl rfl (tgs_cons (tn_ 4 sc_depth_of.nd) (tgs_cons (tn_ 5 sc_depth_of.nd) (tgs_nil)))) (ss_one (s_expr (app_ 1 (e_add (e_int) (e_maxDf rfl rfl (room2 hr) rfl Z.b_max (r_new (lcT_ ["sentence", "depths", "rows", "use", "_", "action", "inner"] (defScope (top 22)) [("_", 4), ("inner", 6)] sc_depth_of.nd (i_list rfl (e_frz (call_ h_cases_in hr tkC (a_cons (v_ 5) (a_nil))))) (fun _ _ _ _ _ => pg_tup rfl (pgs_cons (pgn_ 4 sc_depth_of.nd) (pgs_cons (pgn_ 6 sc_depth_of.nd) (pgs_nil)))) (fun _ => gok_tup rfl (gsok_cons (gok_name) (gsok_cons (gok_name) (gsok_nil)))) (fun _ _ _ _ _ => pts_nil) (fun ps σ H Q h => noif ps σ H Q h) (fun _ _ _ _ _ _ => ixv_ 1 (ix_ (v_ 6) (e_int))))))))))) (ss_one (s_ret (e_asx (ixv_ 1 (ix_ (v_ 3) (e_int))))))))

def m_is_early : M Ctl := seq (M.bind (frz (callN 1 g_need_sentence (aCons (rd 0) (aNil)))) (tgtM (putTup 2 (putCons (put 1) (putCons (put 2) (putNil)))))) (seq (M.bind (M.bind (rd 1) itT) fun items => forL (putTup 2 (putCons (put 2) (putCons (put 3) (putNil)))) (seq (M.bind (asx (frz (M.bind (M.bind (frz (callN 1 g_cases_in (aCons (rd 3) (aNil)))) itL) (lcM [5, 2] (putTup 2 (putCons (put 5) (putCons (put 2) (putNil)))) (ret true) (rd 5))))) (asg 4)) (ifS (toB (M.bind (rowX (M.bind (M.bind (rd 4) itL) (lcM [5] (put 5) (ret true) (m2 neD (rd 5) (ixD (rd 4) (ret (.int 0))))))) anyR)) (retS (asx (ret (.bool false)))) (ret .nx))) items) (retS (asx (ret (.bool true)))))
def g_is_early : List Dat → PR := runP 6 m_is_early
theorem sc_is_early : FnScope ["sentence", "rows", "_", "action", "cases", "case"] ["sentence"] (defScope (top 23)) := ⟨rfl, rfl, rfl, by decide +kernel, rfl, by decide +kernel, by decide +kernel⟩
theorem ok_is_early {f : Addr} {fd : FuncData} (Fn : Fun K "is_early" "is_early" (top 23) f fd) (Z : Glo K mg) (h_need_sentence : Has P w K mg base C "need_sentence" 9 1 g_need_sentence) (h_cases_in : Has P w K mg base C "cases_in" 1 1 g_cases_in) : FnOk P w K mg base (L2.CX P w) 10 f fd ["sentence"] (spP K C 1 g_is_early) :=
  fn_pure Fn sc_is_early (by decide) fun G0 H0 cdv A outer s E hr => ss_cons (s_asgT (e_frz (call_ h_need_sentence hr tkC (a_cons (v_ 0) (a_nil)))) (tg_tup rfl rfl (tgs_cons (tn_ 1 sc_is_early.nd) (tgs_cons (tn_ 2 sc_is_early.nd) (tgs_nil))))) (ss_cons (s_for poC rfl (i_tup rfl (v_ 1)) (tg_tup rfl rfl (tgs_cons (tn_ 2 sc_is_early.nd) (tgs_cons (tn_ 3 sc_is_early.nd) (tgs_nil)))) (ss_cons (as_ 4 sc_is_early.nd (e_asx (e_frz (lcT_ ["sentence", "rows", "_", "action", "cases", "case"] (defScope (top 23)) [("case", 5), ("_", 2)] sc_is_early.nd (i_list rfl (e_frz (call_ h_cases_in hr tkC (a_cons (v_ 3) (a_nil))))) (fun _ _ _ _ _ => pg_tup rfl (pgs_cons (pgn_ 5 sc_is_early.nd) (pgs_cons (pgn_ 2 sc_is_early.nd) (pgs_nil)))) (fun _ => gok_tup rfl (gsok_cons (gok_name) (gsok_cons (gok_name) (gsok_nil)))) (fun _ _ _ _ _ => pts_nil) (fun ps σ H Q h => noif ps σ H Q h) (fun _ _ _ _ _ _ => v_ 5))))) (ss_one (s_if (t_val (any_ Z.b_any (r_new (lc1_ ["sentence", "rows", "_", "action", "cases", "case"] (defScope (top 23)) sc_is_early.nd 5 (i_list rfl (v_ 4)) (fun _ _ _ _ _ _ => ne_ hr.units (v_ 5) (ix_ (v_ 4) (e_int))))))) (ss_one (s_ret (e_asx (e_bl)))) (ss_nil))))) (ss_one (s_ret (e_asx (e_bl)))))

def m_turned_sentence : M Ctl := seq (M.bind (frz (callN 1 g_need_sentence (aCons (rd 0) (aNil)))) (tgtM (putTup 2 (putCons (put 1) (putCons (putTup 3 (putCons (put 2) (putCons (put 3) (putCons (put 4) (putNil))))) (putNil)))))) (retS (asx (M.bind (aCons (rd 1) (aCons (M.bind (aCons (notV (rd 2)) (aCons (rd 3) (aCons (rd 4) (aNil)))) tupD) (aNil))) tupD)))
def g_turned_sentence : List Dat → PR := runP 5 m_turned_sentence
theorem sc_turned_sentence : FnScope ["sentence", "rows", "truth", "row", "names"] ["sentence"] (defScope (top 24)) := ⟨rfl, rfl, rfl, by decide +kernel, rfl, by decide +kernel, by decide +kernel⟩
theorem ok_turned_sentence {f : Addr} {fd : FuncData} (Fn : Fun K "turned_sentence" "turned_sentence" (top 24) f fd) (Z : Glo K mg) (h_need_sentence : Has P w K mg base C "need_sentence" 9 1 g_need_sentence) : FnOk P w K mg base (L2.CX P w) 10 f fd ["sentence"] (spP K C 1 g_turned_sentence) :=
  fn_pure Fn sc_turned_sentence (by decide) fun G0 H0 cdv A outer s E hr => ss_cons (s_asgT (e_frz (call_ h_need_sentence hr tkC (a_cons (v_ 0) (a_nil)))) (tg_tup rfl rfl (tgs_cons (tn_ 1 sc_turned_sentence.nd) (tgs_cons (tg_tup rfl rfl (tgs_cons (tn_ 2 sc_turned_sentence.nd) (tgs_cons (tn_ 3 sc_turned_sentence.nd) (tgs_cons (tn_ 4 sc_turned_sentence.nd) (tgs_nil))))) (tgs_nil))))) (ss_one (s_ret (e_asx (e_tup (a_cons (v_ 1) (a_cons (e_tup (a_cons (e_not (v_ 2)) (a_cons (v_ 3) (a_cons (v_ 4) (a_nil))))) (a_nil)))))))

def m__law_mixed : M Ctl := seq (M.bind (asx (m2 modI (M.bind (rd 0) intR) (ret (.int 2147483647)))) (asg 0)) (retS (asx (m2 modI (m2 mulI (m2 modI (m2 addI (m2 addI (m2 mulI (rd 0) (m2 addI (ret (.int 48271)) (m2 mulI (m2 mulI (ret (.int 2)) (rd 1)) (rd 1)))) (m2 mulI (ret (.int 69621)) (rd 1))) (ret (.int 11))) (ret (.int 2147483647))) (ret (.int 69621))) (ret (.int 2147483629)))))
def g__law_mixed : List Dat → PR := runP 2 m__law_mixed
theorem sc__law_mixed : FnScope ["cell", "k"] ["cell", "k"] (defScope (top 26)) := ⟨rfl, rfl, rfl, by decide +kernel, rfl, by decide +kernel, by decide +kernel⟩
theorem ok__law_mixed {f : Addr} {fd : FuncData} (Fn : Fun K "_law_mixed" "_law_mixed" (top 26) f fd) (Z : Glo K mg)  : FnOk P w K mg base (L2.CX P w) 1 f fd ["cell", "k"] (spP K C 2 g__law_mixed) :=
  fn_pure Fn sc__law_mixed (by decide) fun G0 H0 cdv A outer s E hr => ss_cons (as_ 0 sc__law_mixed.nd (e_asx (e_mod (int_ Z.b_int (v_ 0)) (e_int)))) (ss_one (s_ret (e_asx (e_mod (e_mul (e_mod (e_add (e_add (e_mul (v_ 0) (e_add (e_int) (e_mul (e_mul (e_int) (v_ 1)) (v_ 1)))) (e_mul (e_int) (v_ 1))) (e_int)) (e_int)) (e_int)) (e_int)))))

def m__law_draw : M Ctl := seq (M.bind (asx (stAt 0)) (asg 2)) (seq (putAt 0 (m2 addI (rd 2) (ret (.int 1)))) (seq (M.bind (asx (m2 modI (M.bind (rd 2) intR) (M.bind (stRow true 0) lenR))) (asg 3)) (seq (M.bind (asx (stIx false 0 (rd 3))) (asg 4)) (seq (ifS (toB (m2 gtI (rd 4) (ret (.int 0)))) (seq (putLeft 0 (m2 fdivI (rd 4) (rd 1)) (rd 3)) (retS (asx (m2 modI (M.bind (rd 4) intR) (rd 1))))) (ret .nx)) (seq (M.bind (asx (frz (callN 2 g__law_mixed (aCons (frz (callN 2 g__law_mixed (aCons (stIx true 0 (rd 3)) (aCons (rd 2) (aNil))))) (aCons (m2 addI (ret (.int 40)) (rd 2)) (aNil)))))) (asg 5)) (retS (asx (m2 modI (m2 fdivI (M.bind (m2 addI (m2 mulI (rd 5) (ret (.int 2147483647))) (frz (callN 2 g__law_mixed (aCons (rd 5) (aCons (m2 addI (ret (.int 7)) (rd 2)) (aNil)))))) intR) (ret (.int 64))) (rd 1)))))))))
def g__law_draw : List Dat → List Dat → DS → GR := runG true false 6 m__law_draw
theorem sc__law_draw : FnScope ["state", "limit", "at", "place", "left", "number"] ["state", "limit"] (defScope (top 28)) := ⟨rfl, rfl, rfl, by decide +kernel, rfl, by decide +kernel, by decide +kernel⟩
theorem ok__law_draw {f : Addr} {fd : FuncData} (Fn : Fun K "_law_draw" "_law_draw" (top 28) f fd) (Z : Glo K mg) (h__law_mixed : Has P w K mg base C "_law_mixed" 1 2 g__law_mixed) : FnOk P w K mg base (L2.CX P w) 2 f fd ["state", "limit"] (spG K C true false (fun _ => True) 1 g__law_draw) :=
  fn_gen Fn sc__law_draw (by decide) (by decide) fun sa sc sl ia tb G0 H0 cdv A outer s E _ hr => ss_cons (as_ 2 sc__law_draw.nd (e_asx (stAt_ 0 hr))) (ss_cons (sAt_ 0 hr (e_add (v_ 2) (e_int))) (ss_cons (as_ 3 sc__law_draw.nd (e_asx (e_mod (int_ Z.b_int (v_ 2)) (len_ Z.b_len (rst_ true 0 hr))))) (ss_cons (as_ 4 sc__law_draw.nd (e_asx (stIx_ false 0 hr (v_ 3)))) (ss_cons (s_if (t_gt (v_ 4) (e_int)) (ss_cons (sLeft_ 0 hr (e_fdiv (v_ 4) (v_ 1)) (v_ 3)) (ss_one (s_ret (e_asx (e_mod (int_ Z.b_int (v_ 4)) (v_ 1)))))) (ss_nil)) (ss_cons (as_ 5 sc__law_draw.nd (e_asx (e_frz (call_ h__law_mixed hr tkC (a_cons (e_frz (call_ h__law_mixed hr tkC (a_cons (stIx_ true 0 hr (v_ 3)) (a_cons (v_ 2) (a_nil))))) (a_cons (e_add (e_int) (v_ 2)) (a_nil))))))) (ss_one (s_ret (e_asx (e_mod (e_fdiv (int_ Z.b_int (e_add (e_mul (v_ 5) (e_int)) (e_frz (call_ h__law_mixed hr tkC (a_cons (v_ 5) (a_cons (e_add (e_int) (v_ 2)) (a_nil))))))) (e_int)) (v_ 1))))))))))

def m__law_of : M Ctl := retS (asx (ixD (rd 1) (frz (callSM 1 g__law_draw (stArg 0 (aCons (M.bind (rowVar 1) lenR) (aNil)))))))
def g__law_of : List Dat → List Dat → DS → GR := runG true false 2 m__law_of
theorem sc__law_of : FnScope ["state", "some"] ["state", "some"] (defScope (top 29)) := ⟨rfl, rfl, rfl, by decide +kernel, rfl, by decide +kernel, by decide +kernel⟩
theorem ok__law_of {f : Addr} {fd : FuncData} (Fn : Fun K "_law_of" "_law_of" (top 29) f fd) (Z : Glo K mg)  (h__law_draw : HasG P w K mg base C true false "_law_draw" 2 1 g__law_draw) : FnOk P w K mg base (L2.CX P w) 3 f fd ["state", "some"] (spG K C true false (fun _ => True) 1 g__law_of) :=
  fn_gen Fn sc__law_of (by decide) (by decide) fun sa sc sl ia tb G0 H0 cdv A outer s E _ hr => ss_one (s_ret (e_asx (ix_ (v_ 1) (e_frz (callS_ h__law_draw hr tkC (ast_ 0 (a_cons (len_ Z.b_len (rv_ 1)) (a_nil))))))))

def m__law_use : M Ctl := seq (M.bind (asx (frz (callSM 1 g__law_draw (stArg 0 (aCons (M.bind (rowVar 1) lenR) (aNil)))))) (asg 3)) (seq (M.bind (asx (M.bind (rowX (M.bind (M.bind (aCons (ixD (ixD (rd 1) (rd 3)) (ret (.int 0))) aNil) itR) (lcM [5] (put 5) (ret true) (frz (callSM 1 g__law_of (stArg 0 (aCons (rd 2) (aNil)))))))) tupR)) (asg 4)) (retS (asx (M.bind (aCons (m2 eqD (frz (callSM 1 g__law_draw (stArg 0 (aCons (ret (.int 2)) (aNil))))) (ret (.int 0))) (aCons (rd 3) (aCons (rd 4) (aNil)))) tupD))))
def g__law_use : List Dat → List Dat → DS → GR := runG true false 6 m__law_use
theorem sc__law_use : FnScope ["state", "rows", "names", "number", "names_so", "place"] ["state", "rows", "names"] (defScope (top 30)) := ⟨rfl, rfl, rfl, by decide +kernel, rfl, by decide +kernel, by decide +kernel⟩
theorem ok__law_use {f : Addr} {fd : FuncData} (Fn : Fun K "_law_use" "_law_use" (top 30) f fd) (Z : Glo K mg)  (h__law_draw : HasG P w K mg base C true false "_law_draw" 2 1 g__law_draw) (h__law_of : HasG P w K mg base C true false "_law_of" 3 1 g__law_of) : FnOk P w K mg base (L2.CX P w) 4 f fd ["state", "rows", "names"] (spG K C true false (fun _ => True) 2 g__law_use) :=
  fn_gen Fn sc__law_use (by decide) (by decide) fun sa sc sl ia tb G0 H0 cdv A outer s E _ hr => ss_cons (as_ 3 sc__law_use.nd (e_asx (e_frz (callS_ h__law_draw hr tkC (ast_ 0 (a_cons (len_ Z.b_len (rv_ 1)) (a_nil))))))) (ss_cons (as_ 4 sc__law_use.nd (e_asx (tuple_ Z.b_tuple (r_new (lc1_ ["state", "rows", "names", "number", "names_so", "place"] (defScope (top 30)) sc__law_use.nd 5 (i_range rfl Z.b_range (ix_ (ix_ (v_ 1) (v_ 3)) (e_int))) (fun _ _ _ _ _ _ => e_frz (callS_ h__law_of hr L2.takes0 (ast_ 0 (a_cons (v_ 2) (a_nil)))))))))) (ss_one (s_ret (e_asx (e_tup (a_cons (eq_ hr.units (e_frz (callS_ h__law_draw hr tkC (ast_ 0 (a_cons (e_int) (a_nil))))) (e_int)) (a_cons (v_ 3) (a_cons (v_ 4) (a_nil)))))))))

def m__law_row : M Ctl := seq (M.bind (asx (m2 addI (ret (.int 1)) (frz (callSM 1 g__law_draw (stArg 0 (aCons (ret (.int 3)) (aNil))))))) (asg 4)) (seq (parM 8 9 (aCons (frz (M.bind (rd 4) lsRgR)) (aCons (ixD (frz (M.bind (aCons (ret (.str "wait")) (aCons (ret (.str "send")) (aCons (ret (.str "open")) (aCons (ret (.str "take")) (aNil))))) lstD)) (frz (callSM 1 g__law_draw (stArg 0 (aCons (ret (.int 4)) (aNil)))))) (aNil)))) (seq (parM 10 11 (aCons (frz (callSM 1 g__law_of (stArg 0 (aCons (rd 8) (aNil))))) (aCons (frz (callSM 1 g__law_of (stArg 0 (aCons (rd 8) (aNil))))) (aNil)))) (seq (M.bind (asx (ifE (orB (toB (m2 eqD (rd 1) (frz (M.bind (aNil) lstD)))) (toB (m2 ltI (rd 2) (ret (.int 2))))) (ret (.int 0)) (m2 addI (ret (.int 1)) (frz (callSM 1 g__law_draw (stArg 0 (aCons (ret (.int 2)) (aNil)))))))) (asg 5)) (seq (ifS (toB (m2 eqD (rd 9) (ret (.str "take")))) (seq (M.bind (M.bind (aCons (M.bind (aNil) tupD) (aCons (ret .none) (aNil))) tupD) (tgtM (putTup 2 (putCons (put 13) (putCons (put 14) (putNil)))))) (seq (M.bind (M.bind (aCons (rd 5) aNil) itR) fun items => forL (put 12) (seq (M.bind (asx (ifE (toB (m2 eqD (frz (callSM 1 g__law_draw (stArg 0 (aCons (ret (.int 3)) (aNil))))) (ret (.int 0)))) (ret .none) (frz (callSM 1 g__law_of (stArg 0 (aCons (rd 8) (aNil))))))) (asg 15)) (seq (M.bind (asx (ifE (andB (toB (rd 3)) (toB (m2 gtI (rd 12) (ret (.int 0))))) (rd 14) (rd 15))) (asg 14)) (seq (M.bind (asx (ifE (toB (m2 isR (rd 14) (ret .none))) (frz (M.bind (rd 8) fun x => M.bind (frz (M.bind (aCons (rd 4) (aNil)) lstD)) fun y => catD x y)) (rd 8))) (asg 6)) (M.bind (asx (frz (M.bind (rd 13) fun x => M.bind (M.bind (aCons (M.bind (aCons (rd 14) (aCons (frz (callSM 2 g__law_use (stArg 0 (aCons (rd 1) (aCons (rd 6) (aNil)))))) (aNil))) tupD) (aNil)) tupD) fun y => catD x y))) (asg 13))))) items) (retS (asx (M.bind (aCons (rd 4) (aCons (M.bind (aCons (rd 9) (aCons (rd 10) (aCons (rd 13) (aNil)))) tupD) (aNil))) tupD))))) (ret .nx)) (seq (M.bind (asx (ifE (toB (m2 eqD (rd 9) (ret (.str "open")))) (frz (M.bind (rd 8) fun x => M.bind (frz (M.bind (aCons (rd 4) (aNil)) lstD)) fun y => catD x y)) (rd 8))) (asg 6)) (seq (M.bind (asx (M.bind (rowX (M.bind (M.bind (aCons (rd 5) aNil) itR) (lcM [12] (put 12) (ret true) (frz (callSM 2 g__law_use (stArg 0 (aCons (rd 1) (aCons (rd 6) (aNil))))))))) tupR)) (asg 7)) (seq (ifS (toB (m2 eqD (rd 9) (ret (.str "wait")))) (retS (asx (M.bind (aCons (rd 4) (aCons (M.bind (aCons (rd 9) (aCons (rd 7) (aNil))) tupD) (aNil))) tupD))) (ret .nx)) (retS (asx (M.bind (aCons (rd 4) (aCons (ifE (toB (m2 eqD (rd 9) (ret (.str "send")))) (M.bind (aCons (rd 9) (aCons (rd 10) (aCons (rd 11) (aCons (rd 7) (aNil))))) tupD) (M.bind (aCons (rd 9) (aCons (rd 10) (aCons (rd 7) (aNil)))) tupD)) (aNil))) tupD))))))))))
def g__law_row : List Dat → List Dat → DS → GR := runG true false 16 m__law_row
theorem sc__law_row : FnScope ["state", "rows", "deep", "early", "many_so", "count_so", "more", "uses_so", "names", "word", "one", "other", "turn", "pairs_so", "case", "pick"] ["state", "rows", "deep", "early"] (defScope (top 31)) := ⟨rfl, rfl, rfl, by decide +kernel, rfl, by decide +kernel, by decide +kernel⟩
theorem ok__law_row {f : Addr} {fd : FuncData} (Fn : Fun K "_law_row" "_law_row" (top 31) f fd) (Z : Glo K mg)  (h__law_draw : HasG P w K mg base C true false "_law_draw" 2 1 g__law_draw) (h__law_of : HasG P w K mg base C true false "_law_of" 3 1 g__law_of) (h__law_use : HasG P w K mg base C true false "_law_use" 4 2 g__law_use) : FnOk P w K mg base (L2.CX P w) 5 f fd ["state", "rows", "deep", "early"] (spG K C true false (fun _ => True) 3 g__law_row) :=
  fn_gen Fn sc__law_row (by decide) (by decide) fun sa sc sl ia tb G0 H0 cdv A outer s E _ hr => ss_cons (as_ 4 sc__law_row.nd (e_asx (e_add (e_int) (e_frz (callS_ h__law_draw hr tkC (ast_ 0 (a_cons (e_int) (a_nil)))))))) (ss_cons (par_ 8 9 sc__law_row.nd (a_cons (e_frz (listRg_ Z.b_list Z.b_range (v_ 4))) (a_cons (ix_ (e_frz (e_lst (a_cons (e_str) (a_cons (e_str) (a_cons (e_str) (a_cons (e_str) (a_nil))))))) (e_frz (callS_ h__law_draw hr tkC (ast_ 0 (a_cons (e_int) (a_nil)))))) (a_nil)))) (ss_cons (par_ 10 11 sc__law_row.nd (a_cons (e_frz (callS_ h__law_of hr tkC (ast_ 0 (a_cons (v_ 8) (a_nil))))) (a_cons (e_frz (callS_ h__law_of hr tkC (ast_ 0 (a_cons (v_ 8) (a_nil))))) (a_nil)))) (ss_cons (as_ 5 sc__law_row.nd (e_asx (e_if (L2.PW.pt (w_or (teq_ hr.units (v_ 1) (e_frz (e_lst (a_nil)))) (w_or1 (t_lt (v_ 2) (e_int))))) (e_int) (e_add (e_int) (e_frz (callS_ h__law_draw hr tkC (ast_ 0 (a_cons (e_int) (a_nil))))))))) (ss_cons (s_if (teq_ hr.units (v_ 9) (e_str)) (ss_cons (s_asgT (e_tup (a_cons (e_tup (a_nil)) (a_cons (e_non) (a_nil)))) (tg_tup rfl rfl (tgs_cons (tn_ 13 sc__law_row.nd) (tgs_cons (tn_ 14 sc__law_row.nd) (tgs_nil))))) (ss_cons (s_for poC rfl (i_range rfl Z.b_range (v_ 5)) (tn_ 12 sc__law_row.nd) (ss_cons (as_ 15 sc__law_row.nd (e_asx (e_if (teq_ hr.units (e_frz (callS_ h__law_draw hr tkC (ast_ 0 (a_cons (e_int) (a_nil))))) (e_int)) (e_non) (e_frz (callS_ h__law_of hr tkC (ast_ 0 (a_cons (v_ 8) (a_nil)))))))) (ss_cons (as_ 14 sc__law_row.nd (e_asx (e_if (L2.PW.pt (w_and (t_val (v_ 3)) (w_and1 (t_gt (v_ 12) (e_int))))) (v_ 14) (v_ 15)))) (ss_cons (as_ 6 sc__law_row.nd (e_asx (e_if (tis_ (v_ 14) (e_non)) (e_frz (cat_ (v_ 8) (e_frz (e_lst (a_cons (v_ 4) (a_nil)))))) (v_ 8)))) (ss_one (as_ 13 sc__law_row.nd (e_asx (e_frz (cat_ (v_ 13) (e_tup (a_cons (e_tup (a_cons (v_ 14) (a_cons (e_frz (callS_ h__law_use hr tkC (ast_ 0 (a_cons (v_ 1) (a_cons (v_ 6) (a_nil)))))) (a_nil)))) (a_nil)))))))))))) (ss_one (s_ret (e_asx (e_tup (a_cons (v_ 4) (a_cons (e_tup (a_cons (v_ 9) (a_cons (v_ 10) (a_cons (v_ 13) (a_nil))))) (a_nil))))))))) (ss_nil)) (ss_cons (as_ 6 sc__law_row.nd (e_asx (e_if (teq_ hr.units (v_ 9) (e_str)) (e_frz (cat_ (v_ 8) (e_frz (e_lst (a_cons (v_ 4) (a_nil)))))) (v_ 8)))) (ss_cons (as_ 7 sc__law_row.nd (e_asx (tuple_ Z.b_tuple (r_new (lc1_ ["state", "rows", "deep", "early", "many_so", "count_so", "more", "uses_so", "names", "word", "one", "other", "turn", "pairs_so", "case", "pick"] (defScope (top 31)) sc__law_row.nd 12 (i_range rfl Z.b_range (v_ 5)) (fun _ _ _ _ _ _ => e_frz (callS_ h__law_use hr L2.takes0 (ast_ 0 (a_cons (v_ 1) (a_cons (v_ 6) (a_nil))))))))))) (ss_cons (s_if (teq_ hr.units (v_ 9) (e_str)) (ss_one (s_ret (e_asx (e_tup (a_cons (v_ 4) (a_cons (e_tup (a_cons (v_ 9) (a_cons (v_ 7) (a_nil)))) (a_nil))))))) (ss_nil)) (ss_one (s_ret (e_asx (e_tup (a_cons (v_ 4) (a_cons (e_if (teq_ hr.units (v_ 9) (e_str)) (e_tup (a_cons (v_ 9) (a_cons (v_ 10) (a_cons (v_ 11) (a_cons (v_ 7) (a_nil)))))) (e_tup (a_cons (v_ 9) (a_cons (v_ 10) (a_cons (v_ 7) (a_nil)))))) (a_nil))))))))))))))

def m__law_lifted : M Ctl := seq (M.bind (rd 0) (tgtM (putTup 2 (putCons (put 3) (putCons (put 4) (putNil)))))) (seq (ifS (toB (m2 eqD (ixD (rd 4) (ret (.int 0))) (ret (.str "take")))) (seq (M.bind (asx (M.bind (rowX (M.bind (M.bind (ixD (rd 4) (ret (.int 2))) itT) (lcM [7, 6] (putTup 2 (putCons (put 7) (putCons (put 6) (putNil)))) (ret true) (M.bind (aCons (rd 7) (aCons (M.bind (aCons (ixD (rd 6) (ret (.int 0))) (aCons (m2 addI (ixD (rd 6) (ret (.int 1))) (rd 1)) (aCons (ixD (rd 6) (ret (.int 2))) (aNil)))) tupD) (aNil))) tupD)))) tupR)) (asg 5)) (retS (asx (M.bind (aCons (rd 3) (aCons (frz (M.bind (frz (slM (rd 4) (ret none) (partO (ret (.int 2))))) fun x => M.bind (M.bind (aCons (rd 5) (aNil)) tupD) fun y => catD x y)) (aNil))) tupD)))) (ret .nx)) (seq (M.bind (asx (M.bind (rowX (M.bind (M.bind (ixD (rd 4) (negV (ret (.int 1)))) itT) (lcM [6] (put 6) (ret true) (M.bind (aCons (ixD (rd 6) (ret (.int 0))) (aCons (m2 addI (ixD (rd 6) (ret (.int 1))) (rd 1)) (aCons (ixD (rd 6) (ret (.int 2))) (aNil)))) tupD)))) tupR)) (asg 2)) (retS (asx (M.bind (aCons (rd 3) (aCons (frz (M.bind (frz (slM (rd 4) (ret none) (partO (negV (ret (.int 1)))))) fun x => M.bind (M.bind (aCons (rd 2) (aNil)) tupD) fun y => catD x y)) (aNil))) tupD)))))
def g__law_lifted : List Dat → PR := runP 8 m__law_lifted
theorem sc__law_lifted : FnScope ["row", "top", "uses_so", "many_so", "action", "pairs_so", "use", "case"] ["row", "top"] (defScope (top 32)) := ⟨rfl, rfl, rfl, by decide +kernel, rfl, by decide +kernel, by decide +kernel⟩
theorem ok__law_lifted {f : Addr} {fd : FuncData} (Fn : Fun K "_law_lifted" "_law_lifted" (top 32) f fd) (Z : Glo K mg)  : FnOk P w K mg base (L2.CX P w) 1 f fd ["row", "top"] (spP K C 2 g__law_lifted) :=
  fn_pure Fn sc__law_lifted (by decide) fun G0 H0 cdv A outer s E hr => ss_cons (s_asgT (v_ 0) (tg_tup rfl rfl (tgs_cons (tn_ 3 sc__law_lifted.nd) (tgs_cons (tn_ 4 sc__law_lifted.nd) (tgs_nil))))) (ss_cons (s_if (teq_ hr.units (ix_ (v_ 4) (e_int)) (e_str)) (ss_cons (as_ 5 sc__law_lifted.nd (e_asx (tuple_ Z.b_tuple (r_new (lcT_ ["row", "top", "uses_so", "many_so", "action", "pairs_so", "use", "case"] (defScope (top 32)) [("case", 7), ("use", 6)] sc__law_lifted.nd (i_tup rfl (ix_ (v_ 4) (e_int))) (fun _ _ _ _ _ => pg_tup rfl (pgs_cons (pgn_ 7 sc__law_lifted.nd) (pgs_cons (pgn_ 6 sc__law_lifted.nd) (pgs_nil)))) (fun _ => gok_tup rfl (gsok_cons (gok_name) (gsok_cons (gok_name) (gsok_nil)))) (fun _ _ _ _ _ => pts_nil) (fun ps σ H Q h => noif ps σ H Q h) (fun _ _ _ _ _ _ => e_tup (a_cons (v_ 7) (a_cons (e_tup (a_cons (ix_ (v_ 6) (e_int)) (a_cons (e_add (ix_ (v_ 6) (e_int)) (v_ 1)) (a_cons (ix_ (v_ 6) (e_int)) (a_nil))))) (a_nil))))))))) (ss_one (s_ret (e_asx (e_tup (a_cons (v_ 3) (a_cons (e_frz (cat_ (e_frz (sl_ (v_ 4) (o_none) (o_some (e_int)))) (e_tup (a_cons (v_ 5) (a_nil))))) (a_nil)))))))) (ss_nil)) (ss_cons (as_ 2 sc__law_lifted.nd (e_asx (tuple_ Z.b_tuple (r_new (lc1_ ["row", "top", "uses_so", "many_so", "action", "pairs_so", "use", "case"] (defScope (top 32)) sc__law_lifted.nd 6 (i_tup rfl (ix_ (v_ 4) (neg_ (e_int)))) (fun _ _ _ _ _ _ => e_tup (a_cons (ix_ (v_ 6) (e_int)) (a_cons (e_add (ix_ (v_ 6) (e_int)) (v_ 1)) (a_cons (ix_ (v_ 6) (e_int)) (a_nil)))))))))) (ss_one (s_ret (e_asx (e_tup (a_cons (v_ 3) (a_cons (e_frz (cat_ (e_frz (sl_ (v_ 4) (o_none) (o_some (neg_ (e_int))))) (e_tup (a_cons (v_ 2) (a_nil))))) (a_nil)))))))))

def m__law_sentence : M Ctl := seq (M.bind (asx (frz (M.bind (M.bind (aCons (ret (.int 2)) aNil) itR) (lcM [6] (put 6) (ret true) (frz (callSM 3 g__law_row (stArg 0 (aCons (frz (M.bind (aNil) lstD)) (aCons (ret (.int 1)) (aCons (rd 2) (aNil))))))))))) (asg 4)) (seq (M.bind (asx (ret (.int 0))) (asg 5)) (seq (M.bind (M.bind (aCons (m2 subI (rd 1) (ret (.int 1))) aNil) itR) fun items => forL (put 6) (seq (M.bind (asx (frz (M.bind (M.bind (aCons (ret (.int 2)) aNil) itR) (lcM [9] (put 9) (ret true) (frz (callSM 3 g__law_row (stArg 0 (aCons (frz (slM (rd 4) (partO (rd 5)) (ret none))) (aCons (ret (.int 2)) (aCons (rd 2) (aNil))))))))))) (asg 8)) (seq (M.bind (asx (frz (M.bind (M.bind (rd 8) itL) (lcM [10] (put 10) (ret true) (frz (callN 2 g__law_lifted (aCons (rd 10) (aCons (rd 5) (aNil))))))))) (asg 8)) (seq (M.bind (asx (M.bind (rowVar 4) lenR)) (asg 5)) (M.bind (asx (frz (M.bind (rd 4) fun x => M.bind (rd 8) fun y => catD x y))) (asg 4))))) items) (seq (M.bind (asx (frz (callSM 2 g__law_use (stArg 0 (aCons (frz (slM (rd 4) (partO (rd 5)) (ret none))) (aCons (frz (M.bind (rd 3) lsRgR)) (aNil))))))) (asg 7)) (retS (asx (M.bind (aCons (M.bind (rowVar 4) tupR) (aCons (M.bind (aCons (ixD (rd 7) (ret (.int 0))) (aCons (m2 addI (ixD (rd 7) (ret (.int 1))) (rd 5)) (aCons (ixD (rd 7) (ret (.int 2))) (aNil)))) tupD) (aNil))) tupD))))))
def g__law_sentence : List Dat → List Dat → DS → GR := runG true false 11 m__law_sentence
theorem sc__law_sentence : FnScope ["state", "deep", "early", "limit", "rows", "top", "turn", "use", "fresh", "step", "row"] ["state", "deep", "early", "limit"] (defScope (top 33)) := ⟨rfl, rfl, rfl, by decide +kernel, rfl, by decide +kernel, by decide +kernel⟩
theorem ok__law_sentence {f : Addr} {fd : FuncData} (Fn : Fun K "_law_sentence" "_law_sentence" (top 33) f fd) (Z : Glo K mg) (h__law_lifted : Has P w K mg base C "_law_lifted" 1 2 g__law_lifted) (h__law_row : HasG P w K mg base C true false "_law_row" 5 3 g__law_row) (h__law_use : HasG P w K mg base C true false "_law_use" 4 2 g__law_use) : FnOk P w K mg base (L2.CX P w) 6 f fd ["state", "deep", "early", "limit"] (spG K C true false (fun _ => True) 3 g__law_sentence) :=
  fn_gen Fn sc__law_sentence (by decide) (by decide) fun sa sc sl ia tb G0 H0 cdv A outer s E _ hr => ss_cons (as_ 4 sc__law_sentence.nd (e_asx (e_frz (lc1_ ["state", "deep", "early", "limit", "rows", "top", "turn", "use", "fresh", "step", "row"] (defScope (top 33)) sc__law_sentence.nd 6 (i_range rfl Z.b_range (e_int)) (fun _ _ _ _ _ _ => e_frz (callS_ h__law_row hr L2.takes0 (ast_ 0 (a_cons (e_frz (e_lst (a_nil))) (a_cons (e_int) (a_cons (v_ 2) (a_nil))))))))))) (ss_cons (as_ 5 sc__law_sentence.nd (e_asx (e_int))) (ss_cons (s_for poC rfl (i_range rfl Z.b_range (e_sub (v_ 1) (e_int))) (tn_ 6 sc__law_sentence.nd) (ss_cons (asLcf_ ["state", "deep", "early", "limit", "rows", "top", "turn", "use", "fresh", "step", "row"] (defScope (top 33)) [("step", 9)] sc__law_sentence.nd 8 (i_range rfl Z.b_range (e_int)) (fun _ _ _ _ _ => pgn_ 9 sc__law_sentence.nd) (fun _ => gok_name) (fun _ _ _ _ _ _ => e_frz (callS_ h__law_row hr L2.takes0 (ast_ 0 (a_cons (e_frz (sl_ (v_ 4) (o_some (v_ 5)) (o_none))) (a_cons (e_int) (a_cons (v_ 2) (a_nil)))))))) (ss_cons (asLcf_ ["state", "deep", "early", "limit", "rows", "top", "turn", "use", "fresh", "step", "row"] (defScope (top 33)) [("row", 10)] sc__law_sentence.nd 8 (i_list rfl (v_ 8)) (fun _ _ _ _ _ => pgn_ 10 sc__law_sentence.nd) (fun _ => gok_name) (fun _ _ _ _ _ _ => e_frz (call_ h__law_lifted hr L2.takes0 (a_cons (v_ 10) (a_cons (v_ 5) (a_nil)))))) (ss_cons (as_ 5 sc__law_sentence.nd (e_asx (len_ Z.b_len (rv_ 4)))) (ss_one (as_ 4 sc__law_sentence.nd (e_asx (e_frz (cat_ (v_ 4) (v_ 8)))))))))) (ss_cons (as_ 7 sc__law_sentence.nd (e_asx (e_frz (callS_ h__law_use hr tkC (ast_ 0 (a_cons (e_frz (sl_ (v_ 4) (o_some (v_ 5)) (o_none))) (a_cons (e_frz (listRg_ Z.b_list Z.b_range (v_ 3))) (a_nil)))))))) (ss_one (s_ret (e_asx (e_tup (a_cons (tuple_ Z.b_tuple (rv_ 4)) (a_cons (e_tup (a_cons (ix_ (v_ 7) (e_int)) (a_cons (e_add (ix_ (v_ 7) (e_int)) (v_ 5)) (a_cons (ix_ (v_ 7) (e_int)) (a_nil))))) (a_nil))))))))))

def m__law_deep (rec : List Dat → PR) : M Ctl := seq (M.bind (asx (ixD (ixD (rd 0) (rd 1)) (ret (.int 1)))) (asg 2)) (seq (M.bind (asx (ifE (toB (m2 eqD (ixD (rd 2) (ret (.int 0))) (ret (.str "take")))) (frz (M.bind (M.bind (ixD (rd 2) (ret (.int 2))) itT) (lcM [4, 5] (putTup 2 (putCons (put 4) (putCons (put 5) (putNil)))) (ret true) (rd 5)))) (frz (M.bind (rowD (ixD (rd 2) (negV (ret (.int 1))))) lstR)))) (asg 3)) (retS (asx (m2 addI (ret (.int 1)) (M.bind (rowX (M.bind (frz (M.bind (aCons (ret (.int 0)) (aNil)) lstD)) fun x => M.bind (frz (M.bind (M.bind (rd 3) itL) (lcM [5] (put 5) (ret true) (frz (callN 2 rec (aCons (rd 0) (aCons (ixD (rd 5) (ret (.int 1))) (aNil)))))))) fun y => catD x y)) maxR)))))
def g__law_deep : Nat → List Dat → PR
  | 0 => fun _ => .bad
  | k + 1 => runP 6 (m__law_deep (g__law_deep k))
theorem sc__law_deep : FnScope ["rows", "number", "action", "uses_so", "case", "use"] ["rows", "number"] (defScope (top 34)) := ⟨rfl, rfl, rfl, by decide +kernel, rfl, by decide +kernel, by decide +kernel⟩
theorem ok__law_deep {f : Addr} {fd : FuncData} (Fn : Fun K "_law_deep" "_law_deep" (top 34) f fd) (a : At K mg "_law_deep" f fd ["rows", "number"]) (Z : Glo K mg)  : ∀ k : Nat, FnOk P w K mg base (L2.CX P w) (1 + k) f fd ["rows", "number"] (spP K C 2 (g__law_deep k))
  | 0 => fn_none
  | k + 1 => by
    have h__law_deep : Has P w K mg base C "_law_deep" (1 + k) 2 (g__law_deep k) := a.has rfl (ok__law_deep Fn a Z  k)
    exact fn_pure (k := 1 + k) Fn sc__law_deep (by decide) fun G0 H0 cdv A outer s E hr => ss_cons (as_ 2 sc__law_deep.nd (e_asx (ix_ (ix_ (v_ 0) (v_ 1)) (e_int)))) (ss_cons (as_ 3 sc__law_deep.nd (e_asx (e_if (teq_ hr.units (ix_ (v_ 2) (e_int)) (e_str)) (e_frz (lcT_ ["rows", "number", "action", "uses_so", "case", "use"] (defScope (top 34)) [("case", 4), ("use", 5)] sc__law_deep.nd (i_tup rfl (ix_ (v_ 2) (e_int))) (fun _ _ _ _ _ => pg_tup rfl (pgs_cons (pgn_ 4 sc__law_deep.nd) (pgs_cons (pgn_ 5 sc__law_deep.nd) (pgs_nil)))) (fun _ => gok_tup rfl (gsok_cons (gok_name) (gsok_cons (gok_name) (gsok_nil)))) (fun _ _ _ _ _ => pts_nil) (fun ps σ H Q h => noif ps σ H Q h) (fun _ _ _ _ _ _ => v_ 5))) (e_frz (list_ Z.b_list (r_data (ix_ (v_ 2) (neg_ (e_int))))))))) (ss_one (s_ret (e_asx (e_add (e_int) (e_max rfl rfl rfl Z.b_max (r_new (cat_ (e_frz (e_lst (a_cons (e_int) (a_nil)))) (e_frz (lc1_ ["rows", "number", "action", "uses_so", "case", "use"] (defScope (top 34)) sc__law_deep.nd 5 (i_list rfl (v_ 3)) (fun _ _ _ _ _ _ => e_frz (call_ h__law_deep hr L2.takes0 (a_cons (v_ 0) (a_cons (ix_ (v_ 5) (e_int)) (a_nil))) (by omega)))))))))))))

def m__law_same_cases : M Ctl := seq (M.bind (M.bind (rd 0) itT) fun items => forL (putTup 2 (putCons (put 1) (putCons (put 2) (putNil)))) (ifS (andB (toB (m2 eqD (ixD (rd 2) (ret (.int 0))) (ret (.str "take")))) (toB (m2 neD (ixD (rd 2) (ret (.int 2))) (M.bind (aNil) tupD)))) (ifS (toB (m2 neD (frz (M.bind (M.bind (ixD (rd 2) (ret (.int 2))) itT) (lcM [3, 4] (putTup 2 (putCons (put 3) (putCons (put 4) (putNil)))) (toB (m2 neD (rd 3) (ixD (ixD (ixD (rd 2) (ret (.int 2))) (ret (.int 0))) (ret (.int 0))))) (ret (.int 1))))) (frz (M.bind (aNil) lstD)))) (retS (asx (ret (.bool false)))) (ret .nx)) (ret .nx)) items) (retS (asx (ret (.bool true))))
def g__law_same_cases : List Dat → PR := runP 5 m__law_same_cases
theorem sc__law_same_cases : FnScope ["rows", "many_so", "action", "case", "use"] ["rows"] (defScope (top 37)) := ⟨rfl, rfl, rfl, by decide +kernel, rfl, by decide +kernel, by decide +kernel⟩
theorem ok__law_same_cases {f : Addr} {fd : FuncData} (Fn : Fun K "_law_same_cases" "_law_same_cases" (top 37) f fd) (Z : Glo K mg)  : FnOk P w K mg base (L2.CX P w) 1 f fd ["rows"] (spP K C 1 g__law_same_cases) :=
  fn_pure Fn sc__law_same_cases (by decide) fun G0 H0 cdv A outer s E hr => ss_cons (s_for poC rfl (i_tup rfl (v_ 0)) (tg_tup rfl rfl (tgs_cons (tn_ 1 sc__law_same_cases.nd) (tgs_cons (tn_ 2 sc__law_same_cases.nd) (tgs_nil)))) (ss_one (s_if (L2.PW.pt (w_and (teq_ hr.units (ix_ (v_ 2) (e_int)) (e_str)) (w_and1 (tne_ hr.units (ix_ (v_ 2) (e_int)) (e_tup (a_nil)))))) (ss_one (s_if (tne_ hr.units (e_frz (lcI_ ["rows", "many_so", "action", "case", "use"] (defScope (top 37)) [("case", 3), ("use", 4)] sc__law_same_cases.nd (i_tup rfl (ix_ (v_ 2) (e_int))) (fun _ _ _ _ _ => pg_tup rfl (pgs_cons (pgn_ 3 sc__law_same_cases.nd) (pgs_cons (pgn_ 4 sc__law_same_cases.nd) (pgs_nil)))) (fun _ => gok_tup rfl (gsok_cons (gok_name) (gsok_cons (gok_name) (gsok_nil)))) (fun _ _ _ _ _ _ => tne_ hr.units (v_ 3) (ix_ (ix_ (ix_ (v_ 2) (e_int)) (e_int)) (e_int))) (fun _ _ _ _ _ _ => e_int))) (e_frz (e_lst (a_nil)))) (ss_one (s_ret (e_asx (e_bl)))) (ss_nil))) (ss_nil)))) (ss_one (s_ret (e_asx (e_bl))))

def m__law_odd_use : M Ctl := seq (M.bind (rd 2) (tgtM (putTup 3 (putCons (put 5) (putCons (put 6) (putCons (put 7) (putNil))))))) (seq (M.bind (asx (frz (M.bind (aCons (M.bind (aCons (ret (.int 1)) (aCons (rd 6) (aCons (rd 7) (aNil)))) tupD) (aCons (M.bind (aCons (rd 5) (aCons (rd 1) (aCons (rd 7) (aNil)))) tupD) (aCons (M.bind (aCons (rd 5) (aCons (ret (.bool true)) (aCons (rd 7) (aNil)))) tupD) (aCons (M.bind (aCons (rd 5) (aCons (rd 6) (aNil))) tupD) (aNil))))) lstD))) (asg 4)) (seq (M.bind (asx (frz (M.bind (rd 4) fun x => M.bind (frz (M.bind (aCons (M.bind (aCons (rd 5) (aCons (rd 6) (aCons (frz (M.bind (rd 7) fun x => M.bind (M.bind (aCons (ret (.int 0)) (aNil)) tupD) fun y => catD x y)) (aNil)))) tupD) (aCons (M.bind (aCons (rd 5) (aCons (rd 6) (aCons (frz (M.bind (frz (M.bind (M.bind (aCons (rd 3) (aNil)) tupD) fun x => M.bind (M.bind (rowVar 7) lenR) fun y => repW x y)) fun x => M.bind (M.bind (aCons (M.bind (aNil) tupD) (aNil)) tupD) fun y => catD x y)) (aNil)))) tupD) (aNil))) lstD)) fun y => catD x y))) (asg 4)) (seq (M.bind (asx (frz (M.bind (rd 4) fun x => M.bind (frz (M.bind (aCons (M.bind (aCons (rd 5) (aCons (negV (ret (.int 1))) (aCons (rd 7) (aNil)))) tupD) (aCons (M.bind (aCons (rd 5) (aCons (rd 6) (aCons (frz (M.bind (rowVar 7) lstR)) (aNil)))) tupD) (aCons (ret .none) (aNil)))) lstD)) fun y => catD x y))) (asg 4)) (retS (asx (ixD (rd 4) (frz (callSM 1 g__law_draw (stArg 0 (aCons (ret (.int 9)) (aNil)))))))))))
def g__law_odd_use : List Dat → List Dat → DS → GR := runG true false 8 m__law_odd_use
theorem sc__law_odd_use : FnScope ["state", "number", "use", "names", "odd", "truth", "row", "names_so"] ["state", "number", "use", "names"] (defScope (top 38)) := ⟨rfl, rfl, rfl, by decide +kernel, rfl, by decide +kernel, by decide +kernel⟩
theorem ok__law_odd_use {f : Addr} {fd : FuncData} (Fn : Fun K "_law_odd_use" "_law_odd_use" (top 38) f fd) (Z : Glo K mg)  (h__law_draw : HasG P w K mg base C true false "_law_draw" 2 1 g__law_draw) : FnOk P w K mg base (L2.CX P w) 3 f fd ["state", "number", "use", "names"] (spG K C true false (fun _ => True) 3 g__law_odd_use) :=
  fn_gen Fn sc__law_odd_use (by decide) (by decide) fun sa sc sl ia tb G0 H0 cdv A outer s E _ hr => ss_cons (s_asgT (v_ 2) (tg_tup rfl rfl (tgs_cons (tn_ 5 sc__law_odd_use.nd) (tgs_cons (tn_ 6 sc__law_odd_use.nd) (tgs_cons (tn_ 7 sc__law_odd_use.nd) (tgs_nil)))))) (ss_cons (as_ 4 sc__law_odd_use.nd (e_asx (e_frz (e_lst (a_cons (e_tup (a_cons (e_int) (a_cons (v_ 6) (a_cons (v_ 7) (a_nil))))) (a_cons (e_tup (a_cons (v_ 5) (a_cons (v_ 1) (a_cons (v_ 7) (a_nil))))) (a_cons (e_tup (a_cons (v_ 5) (a_cons (e_bl) (a_cons (v_ 7) (a_nil))))) (a_cons (e_tup (a_cons (v_ 5) (a_cons (v_ 6) (a_nil)))) (a_nil))))))))) (ss_cons (as_ 4 sc__law_odd_use.nd (e_asx (e_frz (cat_ (v_ 4) (e_frz (e_lst (a_cons (e_tup (a_cons (v_ 5) (a_cons (v_ 6) (a_cons (e_frz (cat_ (v_ 7) (e_tup (a_cons (e_int) (a_nil))))) (a_nil))))) (a_cons (e_tup (a_cons (v_ 5) (a_cons (v_ 6) (a_cons (e_frz (cat_ (e_frz (repW_ (e_tup (a_cons (v_ 3) (a_nil))) (len_ Z.b_len (rv_ 7)))) (e_tup (a_cons (e_tup (a_nil)) (a_nil))))) (a_nil))))) (a_nil))))))))) (ss_cons (as_ 4 sc__law_odd_use.nd (e_asx (e_frz (cat_ (v_ 4) (e_frz (e_lst (a_cons (e_tup (a_cons (v_ 5) (a_cons (neg_ (e_int)) (a_cons (v_ 7) (a_nil))))) (a_cons (e_tup (a_cons (v_ 5) (a_cons (v_ 6) (a_cons (e_frz (list_ Z.b_list (rv_ 7))) (a_nil))))) (a_cons (e_non) (a_nil)))))))))) (ss_one (s_ret (e_asx (ix_ (v_ 4) (e_frz (callS_ h__law_draw hr tkC (ast_ 0 (a_cons (e_int) (a_nil))))))))))))

def m__law_odd_row : M Ctl := seq (M.bind (rd 2) (tgtM (putTup 2 (putCons (put 7) (putCons (put 8) (putNil)))))) (seq (M.bind (asx (frz (callSM 1 g__law_draw (stArg 0 (aCons (ret (.int 8)) (aNil)))))) (asg 3)) (seq (ifS (toB (m2 ltI (rd 3) (ret (.int 4)))) (retS (asx (ixD (frz (M.bind (aCons (M.bind (aCons (ret (.int 25)) (aCons (rd 8) (aNil))) tupD) (aCons (M.bind (aCons (ret (.bool true)) (aCons (rd 8) (aNil))) tupD) (aCons (M.bind (aCons (rd 7) (aCons (rd 8) (aCons (M.bind (aNil) tupD) (aNil)))) tupD) (aCons (M.bind (aCons (rd 7) (aCons (frz (M.bind (rowVar 8) lstR)) (aNil))) tupD) (aNil))))) lstD)) (rd 3)))) (ret .nx)) (seq (ifS (andB (toB (m2 eqD (rd 3) (ret (.int 4)))) (toB (m2 neD (ixD (rd 8) (ret (.int 0))) (ret (.str "wait"))))) (seq (M.bind (asx (ixD (frz (M.bind (aCons (rd 7) (aCons (ret (.bool true)) (aCons (negV (ret (.int 1))) (aCons (ret .none) (aNil))))) lstD)) (frz (callSM 1 g__law_draw (stArg 0 (aCons (ret (.int 4)) (aNil))))))) (asg 9)) (retS (asx (M.bind (aCons (rd 7) (aCons (frz (M.bind (frz (M.bind (frz (slM (rd 8) (ret none) (partO (ret (.int 1))))) fun x => M.bind (M.bind (aCons (rd 9) (aNil)) tupD) fun y => catD x y)) fun x => M.bind (frz (slM (rd 8) (partO (ret (.int 2))) (ret none))) fun y => catD x y)) (aNil))) tupD)))) (ret .nx)) (seq (ifS (toB (m2 eqD (rd 3) (ret (.int 5)))) (retS (asx (M.bind (aCons (rd 7) (aCons (frz (M.bind (M.bind (aCons (ret (.str "waits")) (aNil)) tupD) fun x => M.bind (frz (slM (rd 8) (partO (ret (.int 1))) (ret none))) fun y => catD x y)) (aNil))) tupD))) (ret .nx)) (seq (ifS (orB (toB (m2 eqD (ixD (rd 8) (negV (ret (.int 1)))) (M.bind (aNil) tupD))) (toB (m2 eqD (rd 3) (ret (.int 6))))) (retS (asx (M.bind (aCons (rd 7) (aCons (frz (M.bind (frz (slM (rd 8) (ret none) (partO (negV (ret (.int 1)))))) fun x => M.bind (M.bind (aCons (ret .none) (aNil)) tupD) fun y => catD x y)) (aNil))) tupD))) (ret .nx)) (seq (M.bind (asx (frz (slM (ixD (rd 8) (negV (ret (.int 1)))) (partO (ret (.int 1))) (ret none)))) (asg 4)) (seq (ifS (toB (m2 neD (ixD (rd 8) (ret (.int 0))) (ret (.str "take")))) (seq (M.bind (asx (m2 addI (rd 7) (ifE (toB (m2 eqD (ixD (rd 8) (ret (.int 0))) (ret (.str "open")))) (ret (.int 1)) (ret (.int 0))))) (asg 5)) (retS (asx (M.bind (aCons (rd 7) (aCons (frz (M.bind (frz (slM (rd 8) (ret none) (partO (negV (ret (.int 1)))))) fun x => M.bind (M.bind (aCons (frz (M.bind (M.bind (aCons (frz (callSM 3 g__law_odd_use (stArg 0 (aCons (rd 1) (aCons (ixD (ixD (rd 8) (negV (ret (.int 1)))) (ret (.int 0))) (aCons (rd 5) (aNil))))))) (aNil)) tupD) fun x => M.bind (rd 4) fun y => catD x y)) (aNil)) tupD) fun y => catD x y)) (aNil))) tupD)))) (ret .nx)) (seq (M.bind (ixD (ixD (rd 8) (ret (.int 2))) (ret (.int 0))) (tgtM (putTup 2 (putCons (put 10) (putCons (put 11) (putNil)))))) (seq (M.bind (asx (m2 addI (rd 7) (ifE (toB (m2 isR (rd 10) (ret .none))) (ret (.int 1)) (ret (.int 0))))) (asg 5)) (seq (M.bind (asx (M.bind (aCons (rd 10) (aCons (frz (callSM 3 g__law_odd_use (stArg 0 (aCons (rd 1) (aCons (rd 11) (aCons (rd 5) (aNil))))))) (aNil))) tupD)) (asg 6)) (seq (ifS (toB (m2 eqD (frz (callSM 1 g__law_draw (stArg 0 (aCons (ret (.int 3)) (aNil))))) (ret (.int 0)))) (M.bind (asx (M.bind (aCons (ixD (frz (M.bind (aCons (rd 7) (aCons (ret (.bool true)) (aCons (ret (.str "None")) (aNil)))) lstD)) (frz (callSM 1 g__law_draw (stArg 0 (aCons (ret (.int 3)) (aNil)))))) (aCons (rd 11) (aNil))) tupD)) (asg 6)) (ret .nx)) (retS (asx (M.bind (aCons (rd 7) (aCons (frz (M.bind (frz (slM (rd 8) (ret none) (partO (ret (.int 2))))) fun x => M.bind (M.bind (aCons (frz (M.bind (M.bind (aCons (rd 6) (aNil)) tupD) fun x => M.bind (rd 4) fun y => catD x y)) (aNil)) tupD) fun y => catD x y)) (aNil))) tupD))))))))))))))
def g__law_odd_row : List Dat → List Dat → DS → GR := runG true false 12 m__law_odd_row
theorem sc__law_odd_row : FnScope ["state", "number", "row", "pick", "rest", "wide", "first", "many_so", "action", "odd", "case", "use"] ["state", "number", "row"] (defScope (top 39)) := ⟨rfl, rfl, rfl, by decide +kernel, rfl, by decide +kernel, by decide +kernel⟩
theorem ok__law_odd_row {f : Addr} {fd : FuncData} (Fn : Fun K "_law_odd_row" "_law_odd_row" (top 39) f fd) (Z : Glo K mg)  (h__law_draw : HasG P w K mg base C true false "_law_draw" 2 1 g__law_draw) (h__law_odd_use : HasG P w K mg base C true false "_law_odd_use" 3 3 g__law_odd_use) : FnOk P w K mg base (L2.CX P w) 4 f fd ["state", "number", "row"] (spG K C true false (fun _ => True) 2 g__law_odd_row) :=
  fn_gen Fn sc__law_odd_row (by decide) (by decide) fun sa sc sl ia tb G0 H0 cdv A outer s E _ hr => ss_cons (s_asgT (v_ 2) (tg_tup rfl rfl (tgs_cons (tn_ 7 sc__law_odd_row.nd) (tgs_cons (tn_ 8 sc__law_odd_row.nd) (tgs_nil))))) (ss_cons (as_ 3 sc__law_odd_row.nd (e_asx (e_frz (callS_ h__law_draw hr tkC (ast_ 0 (a_cons (e_int) (a_nil))))))) (ss_cons (s_if (t_lt (v_ 3) (e_int)) (ss_one (s_ret (e_asx (ix_ (e_frz (e_lst (a_cons (e_tup (a_cons (e_int) (a_cons (v_ 8) (a_nil)))) (a_cons (e_tup (a_cons (e_bl) (a_cons (v_ 8) (a_nil)))) (a_cons (e_tup (a_cons (v_ 7) (a_cons (v_ 8) (a_cons (e_tup (a_nil)) (a_nil))))) (a_cons (e_tup (a_cons (v_ 7) (a_cons (e_frz (list_ Z.b_list (rv_ 8))) (a_nil)))) (a_nil))))))) (v_ 3))))) (ss_nil)) (ss_cons (s_if (L2.PW.pt (w_and (teq_ hr.units (v_ 3) (e_int)) (w_and1 (tne_ hr.units (ix_ (v_ 8) (e_int)) (e_str))))) (ss_cons (as_ 9 sc__law_odd_row.nd (e_asx (ix_ (e_frz (e_lst (a_cons (v_ 7) (a_cons (e_bl) (a_cons (neg_ (e_int)) (a_cons (e_non) (a_nil))))))) (e_frz (callS_ h__law_draw hr tkC (ast_ 0 (a_cons (e_int) (a_nil)))))))) (ss_one (s_ret (e_asx (e_tup (a_cons (v_ 7) (a_cons (e_frz (cat_ (e_frz (cat_ (e_frz (sl_ (v_ 8) (o_none) (o_some (e_int)))) (e_tup (a_cons (v_ 9) (a_nil))))) (e_frz (sl_ (v_ 8) (o_some (e_int)) (o_none))))) (a_nil)))))))) (ss_nil)) (ss_cons (s_if (teq_ hr.units (v_ 3) (e_int)) (ss_one (s_ret (e_asx (e_tup (a_cons (v_ 7) (a_cons (e_frz (cat_ (e_tup (a_cons (e_str) (a_nil))) (e_frz (sl_ (v_ 8) (o_some (e_int)) (o_none))))) (a_nil))))))) (ss_nil)) (ss_cons (s_if (L2.PW.pt (w_or (teq_ hr.units (ix_ (v_ 8) (neg_ (e_int))) (e_tup (a_nil))) (w_or1 (teq_ hr.units (v_ 3) (e_int))))) (ss_one (s_ret (e_asx (e_tup (a_cons (v_ 7) (a_cons (e_frz (cat_ (e_frz (sl_ (v_ 8) (o_none) (o_some (neg_ (e_int))))) (e_tup (a_cons (e_non) (a_nil))))) (a_nil))))))) (ss_nil)) (ss_cons (as_ 4 sc__law_odd_row.nd (e_asx (e_frz (sl_ (ix_ (v_ 8) (neg_ (e_int))) (o_some (e_int)) (o_none))))) (ss_cons (s_if (tne_ hr.units (ix_ (v_ 8) (e_int)) (e_str)) (ss_cons (as_ 5 sc__law_odd_row.nd (e_asx (e_add (v_ 7) (e_if (teq_ hr.units (ix_ (v_ 8) (e_int)) (e_str)) (e_int) (e_int))))) (ss_one (s_ret (e_asx (e_tup (a_cons (v_ 7) (a_cons (e_frz (cat_ (e_frz (sl_ (v_ 8) (o_none) (o_some (neg_ (e_int))))) (e_tup (a_cons (e_frz (cat_ (e_tup (a_cons (e_frz (callS_ h__law_odd_use hr tkC (ast_ 0 (a_cons (v_ 1) (a_cons (ix_ (ix_ (v_ 8) (neg_ (e_int))) (e_int)) (a_cons (v_ 5) (a_nil))))))) (a_nil))) (v_ 4))) (a_nil))))) (a_nil)))))))) (ss_nil)) (ss_cons (s_asgT (ix_ (ix_ (v_ 8) (e_int)) (e_int)) (tg_tup rfl rfl (tgs_cons (tn_ 10 sc__law_odd_row.nd) (tgs_cons (tn_ 11 sc__law_odd_row.nd) (tgs_nil))))) (ss_cons (as_ 5 sc__law_odd_row.nd (e_asx (e_add (v_ 7) (e_if (tis_ (v_ 10) (e_non)) (e_int) (e_int))))) (ss_cons (as_ 6 sc__law_odd_row.nd (e_asx (e_tup (a_cons (v_ 10) (a_cons (e_frz (callS_ h__law_odd_use hr tkC (ast_ 0 (a_cons (v_ 1) (a_cons (v_ 11) (a_cons (v_ 5) (a_nil))))))) (a_nil)))))) (ss_cons (s_if (teq_ hr.units (e_frz (callS_ h__law_draw hr tkC (ast_ 0 (a_cons (e_int) (a_nil))))) (e_int)) (ss_one (as_ 6 sc__law_odd_row.nd (e_asx (e_tup (a_cons (ix_ (e_frz (e_lst (a_cons (v_ 7) (a_cons (e_bl) (a_cons (e_str) (a_nil)))))) (e_frz (callS_ h__law_draw hr tkC (ast_ 0 (a_cons (e_int) (a_nil)))))) (a_cons (v_ 11) (a_nil))))))) (ss_nil)) (ss_one (s_ret (e_asx (e_tup (a_cons (v_ 7) (a_cons (e_frz (cat_ (e_frz (sl_ (v_ 8) (o_none) (o_some (e_int)))) (e_tup (a_cons (e_frz (cat_ (e_tup (a_cons (v_ 6) (a_nil))) (v_ 4))) (a_nil))))) (a_nil))))))))))))))))))

def m__law_spoilt : M Ctl := seq (M.bind (rd 1) (tgtM (putTup 2 (putCons (put 5) (putCons (put 6) (putNil)))))) (seq (M.bind (asx (frz (callSM 1 g__law_draw (stArg 0 (aCons (ret (.int 6)) (aNil)))))) (asg 2)) (seq (ifS (toB (m2 eqD (rd 2) (ret (.int 0)))) (retS (asx (M.bind (aCons (frz (callSM 1 g__law_of (stArg 0 (aCons (frz (M.bind (aCons (frz (M.bind (rowVar 1) lstR)) (aCons (M.bind (aCons (rd 5) (aNil)) tupD) (aCons (ret .none) (aCons (frz (M.bind (rd 5) fun x => M.bind (rd 5) fun y => catD x y)) (aNil))))) lstD)) (aNil))))) (aCons (M.bind (aNil) tupD) (aNil))) tupD))) (ret .nx)) (seq (ifS (toB (m2 eqD (rd 2) (ret (.int 1)))) (retS (asx (M.bind (aCons (M.bind (aCons (frz (M.bind (rowVar 5) lstR)) (aCons (rd 6) (aNil))) tupD) (aCons (M.bind (aCons (ret (.int 0)) (aNil)) tupD) (aNil))) tupD))) (ret .nx)) (seq (ifS (toB (m2 eqD (rd 2) (ret (.int 2)))) (seq (M.bind (M.bind (aCons (frz (M.bind (M.bind (aCons (ret (.int 1)) (aNil)) tupD) fun x => M.bind (frz (slM (rd 6) (partO (ret (.int 1))) (ret none))) fun y => catD x y)) (aCons (M.bind (aCons (ixD (rd 6) (ret (.int 0))) (aCons (M.bind (rowVar 5) lenR) (aCons (ixD (rd 6) (ret (.int 2))) (aNil)))) tupD) (aCons (frz (slM (rd 6) (ret none) (partO (ret (.int 2))))) (aCons (M.bind (aCons (ixD (rd 6) (ret (.int 0))) (aCons (ixD (rd 6) (ret (.int 1))) (aCons (frz (M.bind (ixD (rd 6) (ret (.int 2))) fun x => M.bind (M.bind (aCons (ret (.int 0)) (aNil)) tupD) fun y => catD x y)) (aNil)))) tupD) (aNil))))) lstD) (asg 7)) (seq (dropS (appV 7 (M.bind (aCons (ixD (rd 6) (ret (.int 0))) (aCons (ixD (rd 6) (ret (.int 1))) (aCons (frz (M.bind (M.bind (aCons (ret (.int 10)) (aNil)) tupD) fun x => M.bind (m2 addI (M.bind (rowD (ixD (rd 6) (ret (.int 2)))) lenR) (ifE (toB (m2 neD (ixD (rd 6) (ret (.int 2))) (M.bind (aNil) tupD))) (ret (.int 0)) (ret (.int 1)))) fun y => repW x y)) (aNil)))) tupD))) (retS (asx (M.bind (aCons (M.bind (aCons (rd 5) (aCons (frz (callSM 1 g__law_of (stArg 0 (aCons (frz (outV 7)) (aNil))))) (aNil))) tupD) (aCons (M.bind (aCons (ret (.int 1)) (aNil)) tupD) (aNil))) tupD))))) (ret .nx)) (seq (M.bind (asx (frz (callSM 1 g__law_draw (stArg 0 (aCons (M.bind (rowVar 5) lenR) (aNil)))))) (asg 3)) (seq (M.bind (asx (frz (callSM 2 g__law_odd_row (stArg 0 (aCons (rd 3) (aCons (ixD (rd 5) (rd 3)) (aNil))))))) (asg 4)) (retS (asx (M.bind (aCons (M.bind (aCons (frz (M.bind (frz (M.bind (frz (slM (rd 5) (ret none) (partO (rd 3)))) fun x => M.bind (M.bind (aCons (rd 4) (aNil)) tupD) fun y => catD x y)) fun x => M.bind (frz (slM (rd 5) (partO (m2 addI (rd 3) (ret (.int 1)))) (ret none))) fun y => catD x y)) (aCons (ret .none) (aNil))) tupD) (aCons (M.bind (aCons (ret (.int 0)) (aCons (rd 3) (aNil))) tupD) (aNil))) tupD)))))))))
def g__law_spoilt : List Dat → List Dat → DS → GR := runG true false 8 m__law_spoilt
theorem sc__law_spoilt : FnScope ["state", "sentence", "pick", "at", "bad", "rows", "use", "odd"] ["state", "sentence"] (defScope (top 40)) := ⟨rfl, rfl, rfl, by decide +kernel, rfl, by decide +kernel, by decide +kernel⟩
theorem ok__law_spoilt {f : Addr} {fd : FuncData} (Fn : Fun K "_law_spoilt" "_law_spoilt" (top 40) f fd) (Z : Glo K mg)  (h__law_draw : HasG P w K mg base C true false "_law_draw" 2 1 g__law_draw) (h__law_of : HasG P w K mg base C true false "_law_of" 3 1 g__law_of) (h__law_odd_row : HasG P w K mg base C true false "_law_odd_row" 4 2 g__law_odd_row) : FnOk P w K mg base (L2.CX P w) 5 f fd ["state", "sentence"] (spG K C true false (fun _ => True) 1 g__law_spoilt) :=
  fn_gen Fn sc__law_spoilt (by decide) (by decide) fun sa sc sl ia tb G0 H0 cdv A outer s E _ hr => ss_cons (s_asgT (v_ 1) (tg_tup rfl rfl (tgs_cons (tn_ 5 sc__law_spoilt.nd) (tgs_cons (tn_ 6 sc__law_spoilt.nd) (tgs_nil))))) (ss_cons (as_ 2 sc__law_spoilt.nd (e_asx (e_frz (callS_ h__law_draw hr tkC (ast_ 0 (a_cons (e_int) (a_nil))))))) (ss_cons (s_if (teq_ hr.units (v_ 2) (e_int)) (ss_one (s_ret (e_asx (e_tup (a_cons (e_frz (callS_ h__law_of hr tkC (ast_ 0 (a_cons (e_frz (e_lst (a_cons (e_frz (list_ Z.b_list (rv_ 1))) (a_cons (e_tup (a_cons (v_ 5) (a_nil))) (a_cons (e_non) (a_cons (e_frz (cat_ (v_ 5) (v_ 5))) (a_nil))))))) (a_nil))))) (a_cons (e_tup (a_nil)) (a_nil))))))) (ss_nil)) (ss_cons (s_if (teq_ hr.units (v_ 2) (e_int)) (ss_one (s_ret (e_asx (e_tup (a_cons (e_tup (a_cons (e_frz (list_ Z.b_list (rv_ 5))) (a_cons (v_ 6) (a_nil)))) (a_cons (e_tup (a_cons (e_int) (a_nil))) (a_nil))))))) (ss_nil)) (ss_cons (s_if (teq_ hr.units (v_ 2) (e_int)) (ss_cons (as_ 7 sc__law_spoilt.nd (e_lst (a_cons (e_frz (cat_ (e_tup (a_cons (e_int) (a_nil))) (e_frz (sl_ (v_ 6) (o_some (e_int)) (o_none))))) (a_cons (e_tup (a_cons (ix_ (v_ 6) (e_int)) (a_cons (len_ Z.b_len (rv_ 5)) (a_cons (ix_ (v_ 6) (e_int)) (a_nil))))) (a_cons (e_frz (sl_ (v_ 6) (o_none) (o_some (e_int)))) (a_cons (e_tup (a_cons (ix_ (v_ 6) (e_int)) (a_cons (ix_ (v_ 6) (e_int)) (a_cons (e_frz (cat_ (ix_ (v_ 6) (e_int)) (e_tup (a_cons (e_int) (a_nil))))) (a_nil))))) (a_nil))))))) (ss_cons (s_expr (app_ 7 (e_tup (a_cons (ix_ (v_ 6) (e_int)) (a_cons (ix_ (v_ 6) (e_int)) (a_cons (e_frz (repW_ (e_tup (a_cons (e_int) (a_nil))) (e_add (len_ Z.b_len (r_data (ix_ (v_ 6) (e_int)))) (e_if (tne_ hr.units (ix_ (v_ 6) (e_int)) (e_tup (a_nil))) (e_int) (e_int))))) (a_nil))))))) (ss_one (s_ret (e_asx (e_tup (a_cons (e_tup (a_cons (v_ 5) (a_cons (e_frz (callS_ h__law_of hr tkC (ast_ 0 (a_cons (e_frz (out_ 7)) (a_nil))))) (a_nil)))) (a_cons (e_tup (a_cons (e_int) (a_nil))) (a_nil))))))))) (ss_nil)) (ss_cons (as_ 3 sc__law_spoilt.nd (e_asx (e_frz (callS_ h__law_draw hr tkC (ast_ 0 (a_cons (len_ Z.b_len (rv_ 5)) (a_nil))))))) (ss_cons (as_ 4 sc__law_spoilt.nd (e_asx (e_frz (callS_ h__law_odd_row hr tkC (ast_ 0 (a_cons (v_ 3) (a_cons (ix_ (v_ 5) (v_ 3)) (a_nil)))))))) (ss_one (s_ret (e_asx (e_tup (a_cons (e_tup (a_cons (e_frz (cat_ (e_frz (cat_ (e_frz (sl_ (v_ 5) (o_none) (o_some (v_ 3)))) (e_tup (a_cons (v_ 4) (a_nil))))) (e_frz (sl_ (v_ 5) (o_some (e_add (v_ 3) (e_int))) (o_none))))) (a_cons (e_non) (a_nil)))) (a_cons (e_tup (a_cons (e_int) (a_cons (v_ 3) (a_nil)))) (a_nil)))))))))))))

end
end Pn

set_option maxHeartbeats 4000001
namespace Pn
open L2 PyProof.Rows PySem.Spec PySem
section
variable {P : Program} {w : World} {K : PySem.W.Frag} {mg : Str → Option Value} {base : Heap} {C : Cls}
def m__law_like : M Ctl := retS (asx (m2 eqS (M.bind (rd 0) reprR) (M.bind (rd 1) reprR)))
def g__law_like : GF := runG false false 2 m__law_like
theorem sc__law_like : FnScope ["got", "due"] ["got", "due"] (defScope (top 35)) := ⟨rfl, rfl, rfl, by decide +kernel, rfl, by decide +kernel, by decide +kernel⟩
theorem ok__law_like {f : Addr} {fd : FuncData} (Fn : Fun K "_law_like" "_law_like" (top 35) f fd) (hm : mg "repr" = none) : FnG P w K mg base (L2.CX P w) 1 f fd ["got", "due"] (spG K C false false (fun _ => True) 2 g__law_like) :=
  fn_genG Fn sc__law_like (by decide) (by decide) fun sa sc sl ia tb G0 H0 cdv A outer s E hgd _ hr => ss_one (s_ret (e_asx (e_eqS (repr_ hgd hr hm (v_ 0)) (repr_ hgd hr hm (v_ 1)))))
/-- the errors' classes, as the clauses tell them -/
structure Errs (K : PySem.W.Frag) (mg : Str → Option Value) (C : Cls) (B : Addr) (c : Nat → Addr) : Prop where
  m0 : mg "BadSentence" = some (.ref (c 0))
  m1 : mg "TooGreat" = some (.ref (c 1))
  z0 : PnCt.ErrF K (c 0) B "path"
  z1 : PnCt.ErrF K (c 1) B "most"
def tellL (c : Nat → Addr) : List PnCt.Tell := [⟨c 0, "path", "bad"⟩, ⟨c 1, "most", "great"⟩]
/-- the kinds of errors: PassError is 0 in the list of the classes -/
def clauL : List Clause := [⟨1, "bad"⟩, ⟨2, "great"⟩]
def m__law_heard : M Ctl := tryRet 1 clauL (M.bind (aCons (frz (callN 1 g_need_sentence (aCons (rd 0) (aNil)))) (aNil)) lstD)
def g__law_heard : List Dat → PR := runP 2 m__law_heard
theorem sc__law_heard : FnScope ["value", "error"] ["value"] (defScope (top 36)) := ⟨rfl, rfl, rfl, by decide +kernel, rfl, by decide +kernel, by decide +kernel⟩
theorem ok__law_heard {f B : Addr} {cE : Nat → Addr} {fd : FuncData} (Fn : Fun K "_law_heard" "_law_heard" (top 36) f fd) (Ze : Errs K mg C B cE) (hts : Tells K C clauL (tellL cE)) (h_need_sentence : Has P w K mg base C "need_sentence" 9 1 g_need_sentence) : FnOk P w K mg base (L2.CX P w) 10 f fd ["value"] (spP K C 1 g__law_heard) :=
  fn_pure Fn sc__law_heard (by decide) fun G0 H0 cdv A outer s E hr =>
    ss_one (tryR_ 1 sc__law_heard.nd tkC hts (.cons (wayR_ Ze.z0 Ze.m0) (.cons (wayR_ Ze.z1 Ze.m1) .nil)) (fun W pn xe tk => e_lst (a_cons (e_frz (call_ h_need_sentence hr tk (a_cons (v_ 0) (a_nil)))) (a_nil))))
def m__law_bounds_right : M Ctl := seq (M.bind (asx (M.bind (aCons (ret (.int 24)) (aCons (M.bind (aCons (ret (.str "send")) (aCons (ret (.int 23)) (aCons (ret (.int 0)) (aCons (M.bind (aNil) tupD) (aNil))))) tupD) (aNil))) tupD)) (asg 1)) (seq (M.bind (asx (M.bind (aCons (frz (M.bind (M.bind (aCons (rd 1) (aNil)) tupD) fun x => M.bind (ret (.int 1500)) fun y => repW x y)) (aCons (M.bind (aCons (ret (.bool true)) (aCons (ret (.int 1499)) (aCons (frz (M.bind (M.bind (aCons (ret (.int 9)) (aNil)) tupD) fun x => M.bind (ret (.int 24)) fun y => repW x y)) (aNil)))) tupD) (aNil))) tupD)) (asg 2)) (seq (M.bind (M.bind (aCons (M.bind (rowX (callN 1 g__law_heard (aCons (rd 2) (aNil)))) lenR) (aCons (frz (callN 1 g__law_heard (aCons (M.bind (aCons (frz (M.bind (M.bind (aCons (rd 1) (aNil)) tupD) fun x => M.bind (ret (.int 1501)) fun y => repW x y)) (aCons (ret .none) (aNil))) tupD) (aNil)))) (aCons (frz (callN 1 g_depth_of (aCons (rd 2) (aNil)))) (aNil)))) lstD) (asg 3)) (seq (dropS (appV 3 (frz (callN 1 g__law_heard (aCons (M.bind (aCons (frz (M.bind (M.bind (aCons (M.bind (aCons (ret (.int 25)) (aCons (ixD (rd 1) (ret (.int 1))) (aNil))) tupD) (aNil)) tupD) fun x => M.bind (frz (M.bind (M.bind (aCons (rd 1) (aNil)) tupD) fun x => M.bind (ret (.int 1499)) fun y => repW x y)) fun y => catD x y)) (aCons (ret .none) (aNil))) tupD) (aNil)))))) (seq (dropS (appV 3 (frz (callN 1 g__law_heard (aCons (M.bind (aCons (M.bind (aCons (M.bind (aCons (ret (.int 0)) (aCons (M.bind (aCons (ret (.str "wait")) (aCons (M.bind (aNil) tupD) (aNil))) tupD) (aNil))) tupD) (aNil)) tupD) (aCons (M.bind (aCons (ret (.bool false)) (aCons (ret (.int 0)) (aCons (M.bind (aNil) tupD) (aNil)))) tupD) (aNil))) tupD) (aNil)))))) (seq (M.bind (asx (frz (M.bind (aCons (ret (.int 1)) (aCons (M.bind (aCons (ret (.str "great")) (aCons (ret (.int 1500)) (aNil))) tupD) (aCons (ret (.int 1)) (aCons (M.bind (aCons (ret (.str "bad")) (aCons (M.bind (aCons (ret (.int 0)) (aCons (ret (.int 0)) (aNil))) tupD) (aNil))) tupD) (aCons (frz (M.bind (aCons (M.bind (aCons (M.bind (aCons (M.bind (aCons (ret (.int 0)) (aCons (M.bind (aCons (ret (.str "wait")) (aCons (M.bind (aNil) tupD) (aNil))) tupD) (aNil))) tupD) (aNil)) tupD) (aCons (M.bind (aCons (ret (.bool false)) (aCons (ret (.int 0)) (aCons (M.bind (aNil) tupD) (aNil)))) tupD) (aNil))) tupD) (aNil)) lstD)) (aNil)))))) lstD))) (asg 4)) (retS (callQM false 2 g__law_like (aCons (frz (outV 3)) (aCons (rd 4) (aNil))))))))))
def g__law_bounds_right : GF := runG true false 5 m__law_bounds_right
theorem sc__law_bounds_right : FnScope ["state", "row", "full", "told", "due"] ["state"] (defScope (top 41)) := ⟨rfl, rfl, rfl, by decide +kernel, rfl, by decide +kernel, by decide +kernel⟩
theorem ok__law_bounds_right {f : Addr} {fd : FuncData} (Fn : Fun K "_law_bounds_right" "_law_bounds_right" (top 41) f fd) (Z : Glo K mg) (h__law_like : HasQ P w K mg base C false (fun _ => True) "_law_like" 1 2 g__law_like) (h__law_heard : Has P w K mg base C "_law_heard" 120 1 g__law_heard) (h_depth_of : Has P w K mg base C "depth_of" 120 1 g_depth_of) : FnG P w K mg base (L2.CX P w) 131 f fd ["state"] (spG K C true false (fun _ => True) 0 g__law_bounds_right) :=
  fn_genG Fn sc__law_bounds_right (by decide) (by decide) fun sa sc sl ia tb G0 H0 cdv A outer s E hgd _ hr => ss_cons (as_ 1 sc__law_bounds_right.nd (e_asx (e_tup (a_cons (e_int) (a_cons (e_tup (a_cons (e_str) (a_cons (e_int) (a_cons (e_int) (a_cons (e_tup (a_nil)) (a_nil)))))) (a_nil)))))) (ss_cons (as_ 2 sc__law_bounds_right.nd (e_asx (e_tup (a_cons (e_frz (repW_ (e_tup (a_cons (v_ 1) (a_nil))) (e_int))) (a_cons (e_tup (a_cons (e_bl) (a_cons (e_int) (a_cons (e_frz (repW_ (e_tup (a_cons (e_int) (a_nil))) (e_int))) (a_nil))))) (a_nil)))))) (ss_cons (as_ 3 sc__law_bounds_right.nd (e_lst (a_cons (len_ Z.b_len (r_new (call_ h__law_heard hr tkC (a_cons (v_ 2) (a_nil))))) (a_cons (e_frz (call_ h__law_heard hr tkC (a_cons (e_tup (a_cons (e_frz (repW_ (e_tup (a_cons (v_ 1) (a_nil))) (e_int))) (a_cons (e_non) (a_nil)))) (a_nil)))) (a_cons (e_frz (call_ h_depth_of hr tkC (a_cons (v_ 2) (a_nil)))) (a_nil)))))) (ss_cons (s_expr (app_ 3 (e_frz (call_ h__law_heard hr tkC (a_cons (e_tup (a_cons (e_frz (cat_ (e_tup (a_cons (e_tup (a_cons (e_int) (a_cons (ix_ (v_ 1) (e_int)) (a_nil)))) (a_nil))) (e_frz (repW_ (e_tup (a_cons (v_ 1) (a_nil))) (e_int))))) (a_cons (e_non) (a_nil)))) (a_nil)))))) (ss_cons (s_expr (app_ 3 (e_frz (call_ h__law_heard hr tkC (a_cons (e_tup (a_cons (e_tup (a_cons (e_tup (a_cons (e_int) (a_cons (e_tup (a_cons (e_str) (a_cons (e_tup (a_nil)) (a_nil)))) (a_nil)))) (a_nil))) (a_cons (e_tup (a_cons (e_bl) (a_cons (e_int) (a_cons (e_tup (a_nil)) (a_nil))))) (a_nil)))) (a_nil)))))) (ss_cons (as_ 4 sc__law_bounds_right.nd (e_asx (e_frz (e_lst (a_cons (e_int) (a_cons (e_tup (a_cons (e_str) (a_cons (e_int) (a_nil)))) (a_cons (e_int) (a_cons (e_tup (a_cons (e_str) (a_cons (e_tup (a_cons (e_int) (a_cons (e_int) (a_nil)))) (a_nil)))) (a_cons (e_frz (e_lst (a_cons (e_tup (a_cons (e_tup (a_cons (e_tup (a_cons (e_int) (a_cons (e_tup (a_cons (e_str) (a_cons (e_tup (a_nil)) (a_nil)))) (a_nil)))) (a_nil))) (a_cons (e_tup (a_cons (e_bl) (a_cons (e_int) (a_cons (e_tup (a_nil)) (a_nil))))) (a_nil)))) (a_nil)))) (a_nil)))))))))) (ss_one (s_ret (callP_ hgd h__law_like hr tkC (a_cons (e_frz (out_ 3)) (a_cons (v_ 4) (a_nil)))))))))))

end
end Pn

set_option maxHeartbeats 4000001
/-! the law's state is made -/
namespace Pn
open L2 PyProof.Rows PySem.Spec PySem
def cellsOf (ns : List Int) : List Int := if ns = [] then [0] else ns
def leftOf (c : Int) : Int := if 1000000000000000000 ≤ c then c else 0
def leftsOf (ns : List Int) : List Int := (cellsOf ns).map leftOf
def spBegin (K : PySem.W.Frag) : Sp := fun vs H Q _ => ∃ a ns, vs = [.ref a] ∧ SqL K H a (ns.map V.int) ∧ ns.length ≤ 1000 ∧ SeqAt.shaped (.list (ns.map PyData.int)) = true ∧
  ∀ (sa sc sl : Addr) (H' : Hp), Same H H' → H sa = none → H sc = none → H sl = none → sc ≠ sl → H' sa = some (.dK (stKv sc sl 0)) → H' sc = some (.lst ((cellsOf ns).map V.int)) → H' sl = some (.lst ((leftsOf ns).map V.int)) → Q (.ref sa) H'
def m_left : M RV := M.bind (M.bind (rd 1) itL) (lcM [3] (put 3) (ret true) (ifE (toB (m2 geI (rd 3) (m2 powI (ret (.int 10)) (ret (.int 18))))) (rd 3) (ret (.int 0))))
def m_leftS : M Ctl := M.bind m_left (asg 2)
/-- a comprehension whose parts keep what is around -/
theorem lcL_map {b : Dat → Cfg → Option Cfg} {me : M Dat} {vs : List Nat} {f : Dat → Dat} {c : Cfg} : ∀ {items acc : List Dat}, (∀ d ∈ items, ∃ c1 c3, b d c = some c1 ∧ me c1 = .ok (f d) c3 ∧ { c3 with r := clr vs c3.r } = c) → acc.length + items.length ≤ 100000 →
    lcL b (ret true) me vs items acc c = .ok (acc ++ items.map f) c
  | [], acc, _, _ => by
    rw [List.map_nil, List.append_nil]
    rfl
  | d :: ds, acc, h, hl => by
    obtain ⟨c1, c3, e1, e2, e3⟩ := h d List.mem_cons_self
    rw [List.length_cons] at hl
    have ih := lcL_map (f := f) (items := ds) (acc := acc ++ [f d]) (fun x hx => h x (List.mem_cons_of_mem _ hx)) (by rw [List.length_append, List.length_singleton]; omega)
    unfold lcL
    simp only [e1, ret, e2]
    rw [if_pos (by omega), e3, ih, List.map_cons, List.append_assoc]
    rfl
theorem lcM_map {b : Dat → Cfg → Option Cfg} {me : M Dat} {vs : List Nat} {f : Dat → Dat} {c : Cfg} {items : List Dat} (q : vs.all (fun v => quiet c.r[v]?) = true) (h : ∀ d ∈ items, ∃ c1 c3, b d { c with r := clr vs c.r } = some c1 ∧ me c1 = .ok (f d) c3 ∧ { c3 with r := clr vs c3.r } = { c with r := clr vs c.r }) (hl : items.length ≤ 100000)
    (hb : back vs c.r (clr vs c.r) = c.r) : lcM vs b (ret true) me items c = .ok (.fr (items.map f)) c := by
  have z := lcL_map (acc := []) h (by rw [List.length_nil]; omega)
  unfold lcM
  rw [if_pos q, z, List.nil_append]
  show Res.ok (RV.fr (items.map f)) { r := back vs c.r (clr vs c.r), s := c.s } = _
  rw [hb]
theorem left_run (ns : List Int) (s : DS) (hl : ns.length ≤ 100000) : m_left ⟨[.no, .sh (.list (ns.map PyData.int)), .no, .no], s⟩ = .ok (.fr ((ns.map leftOf).map PyData.int)) ⟨[.no, .sh (.list (ns.map PyData.int)), .no, .no], s⟩ := by
  have z := lcM_map (b := put 3) (me := ifE (toB (m2 geI (rd 3) (m2 powI (ret (.int 10)) (ret (.int 18))))) (rd 3) (ret (.int 0))) (vs := [3]) (f := fun d => match d with | .int i => .int (leftOf i) | d => d) (c := ⟨[.no, .sh (.list (ns.map PyData.int)), .no, .no], s⟩) (items := ns.map PyData.int) rfl (fun d hd => by
    obtain ⟨i, _, rfl⟩ := List.mem_map.mp hd
    refine ⟨⟨[.no, .sh (.list (ns.map PyData.int)), .no, .sh (.int i)], s⟩, ⟨[.no, .sh (.list (ns.map PyData.int)), .no, .sh (.int i)], s⟩, rfl, ?_, rfl⟩
    have e : toB (m2 geI (rd 3) (m2 powI (ret (.int 10)) (ret (.int 18)))) ⟨[.no, .sh (.list (ns.map PyData.int)), .no, .sh (.int i)], s⟩ = .ok (decide (1000000000000000000 ≤ i)) ⟨[.no, .sh (.list (ns.map PyData.int)), .no, .sh (.int i)], s⟩ := rfl
    unfold ifE M.bind
    rw [e]
    unfold leftOf
    by_cases h : 1000000000000000000 ≤ i
    · simp only [h, decide_true, if_true]
      rfl
    · simp only [h, decide_false, if_false]
      rfl) (by rw [List.length_map]; exact hl) rfl
  refine Eq.trans (b := lcM [3] (put 3) (ret true) (ifE (toB (m2 geI (rd 3) (m2 powI (ret (.int 10)) (ret (.int 18))))) (rd 3) (ret (.int 0))) (ns.map PyData.int) ⟨[.no, .sh (.list (ns.map PyData.int)), .no, .no], s⟩) rfl (z.trans ?_)
  (rw [List.map_map, List.map_map])
  rfl
theorem leftS_run (ns : List Int) (s : DS) (hl : ns.length ≤ 100000) : m_leftS ⟨[.no, .sh (.list (ns.map PyData.int)), .no, .no], s⟩ = .ok .nx ⟨[.no, .sh (.list (ns.map PyData.int)), .own ((ns.map leftOf).map PyData.int), .no], s⟩ := by
  unfold m_leftS M.bind
  rw [left_run ns s hl]
  rfl
theorem sc__law_begin : FnScope ["script", "cells_so", "lefts", "cell"] ["script"] (defScope (top 27)) := ⟨rfl, rfl, rfl, by decide +kernel, rfl, by decide +kernel, by decide +kernel⟩
section
variable {P : Program} {w : World} {K : PySem.W.Frag} {mg : Str → Option Value} {base : Heap} {C : Cls}
theorem ok__law_begin {f : Addr} {fd : FuncData} (Fn : Fun K "_law_begin" "_law_begin" (top 27) f fd) (Z : Glo K mg) : FnOk P w K mg base (L2.CX P w) 2 f fd ["script"] (spBegin K) := by
  refine Fn.okX sc__law_begin (fun vs H Q E ⟨a, ns, h, _⟩ => by rw [h]; rfl) (fun cdv A outer s H0 vs Q E hr h => ?_)
  let F : Fr := frG K ⟨fun _ => .none, fun _ => ""⟩ false false 0 0 0 0 [] (fun _ => none) H0
  refine ⟨_, pss_cons (ps_set (i := 1) sc__law_begin.nd rfl (.inl rfl) (pe_ifExp (pt_cmpR (op_neD hr.units) (pe_var (i := 0) rfl (.inl rfl)) (pe_lst pa_nil) (nomark _)) (pe_callTy call_list_of rfl Z.b_list boot_list (pa_cons (pe_var (i := 0) rfl (.inl rfl)) pa_nil)) (pe_lst (pa_cons pe_int pa_nil))))
    (pss_cons (t := T F (fun cls d _ H => E cls d H) m_leftS) (asLco_ ["script", "cells_so", "lefts", "cell"] (defScope (top 27)) [("cell", 3)] sc__law_begin.nd 2 (i_list rfl (v_ 1)) (fun _ _ _ _ _ => pgn_ 3 sc__law_begin.nd) (fun _ => gok_name) (fun _ _ _ _ _ _ => e_if (t_ge (v_ 3) (e_pow (e_int) (e_int))) (v_ 3) (e_int)))
    (pss_one (ps_ret (pe_disp (pps_cons pe_str (pe_var (i := 1) rfl (.inl rfl)) (pps_cons pe_str (pe_var (i := 2) rfl (.inl rfl)) (pps_cons pe_str pe_int pps_nil))) (by decide) (by decide) (by decide) (by decide))))), ?_⟩
  obtain ⟨a, ns, rfl, hq, hlen, hsh, fin⟩ := h
  have lc : (cellsOf ns).length ≤ 1001 := by
    unfold cellsOf
    by_cases e : ns = []
    · rw [if_pos e]; simp
    · rw [if_neg e]; omega
  have rest : ∀ (H2 : Hp) (sc : Addr), Same H0 H2 → H0 sc = none → H2 sc = some (.lst ((cellsOf ns).map V.int)) →
      T F (fun cls d _ H => E cls d H) m_leftS { nx := fun σ H => tRet (tDisp [(tC (.str "cells"), tVar 1), (tC (.str "lefts"), tVar 2), (tC (.str "at"), tC (.int 0))]) { nx := fun _ H' => Q .non H', rt := Q } σ H, rt := Q } [some (.ref a), some (.ref sc), none, none] H2 := by
    intro H2 sc s02 hsc hc
    have r0 : Rel F (fun _ => none) ⟨[.no, .no, .no, .no], ⟨[], [], 0⟩⟩ [some (.ref a), some (.ref sc), none, none] H0 := rel_bare rfl (fun i x e => by
      refine .inl ?_
      match i, e with
      | 0, e => cases e; rfl
      | 1, e => cases e; rfl
      | 2, e => cases e; rfl
      | 3, e => cases e; rfl) (fun z => nomatch z) (fun _ z => nomatch z)
    have r1 : Rel F (fun _ => none) ⟨[.no, .no, .no, .no], ⟨[], [], 0⟩⟩ [some (.ref a), some (.ref sc), none, none] H2 := r0.after ⟨Same.refl _, (fun b o e => by cases e), s02, fun b e => absurd rfl e⟩
    have z : Lone F [some (.ref a), some (.ref sc), none, none] (fun _ => none) H2 ⟨[.no, .no, .no, .no], ⟨[], [], 0⟩⟩ sc ((cellsOf ns).map PyData.int) := ⟨_, hc, intR_dp _, rfl, hsc, (fun i l' e => by
      exfalso
      match i, e with
      | 0, e => cases e
      | 1, e => cases e
      | 2, e => cases e
      | 3, e => cases e), fun b hb => nomatch hb⟩
    obtain ⟨G1, r2, _, d2⟩ := r1.freeze z
    have r3 := r2.put (i := 1) (x := .ref sc) (v := .sh (.list ((cellsOf ns).map PyData.int))) d2
    refine ⟨G1, _, r3, ?_⟩
    have run := leftS_run (cellsOf ns) ⟨[], [], 0⟩ (by omega)
    show Ps _ _ _ _ (m_leftS ⟨[.no, .sh (.list ((cellsOf ns).map PyData.int)), .no, .no], ⟨[], [], 0⟩⟩)
    rw [run]
    intro σ' G' H' r5 s5
    obtain ⟨v1, e1, q1⟩ := r5.sl 1 _ rfl
    obtain ⟨sl, ys, e2, hy, gsl, qy, nsl, _⟩ := r5.sl 2 _ rfl
    have ey : ys = (leftsOf ns).map V.int := intL_dp qy (intL_map _)
    subst ey
    cases q1 with
    | @lst a1 xs ds hG q2 =>
    have e3 : xs = (cellsOf ns).map V.int := intL_dp q2 (intL_map _)
    subst e3
    have h1 : H' a1 = some (.lst ((cellsOf ns).map V.int)) := r5.sub _ _ hG
    have n1 : H0 a1 = none := by
      rcases r5.fresh a1 (by rw [hG]; simp) with z | z
      · exact absurd rfl z
      · exact z
    have nscl : a1 ≠ sl := fun z => by
      rw [z, gsl] at hG
      cases hG
    intro p hp
    refine ⟨.ref a1, e1, .ref sl, e2, ?_⟩
    have np1 : a1 ≠ p := fun z => by rw [z, hp] at h1; cases h1
    have np2 : sl ≠ p := fun z => by rw [z, hp] at hy; cases hy
    have np0 : H0 p = none := by
      cases z2 : H0 p with
      | none => rfl
      | some o =>
        have := r5.keep p o z2 (fun z => nomatch z) (fun z => nomatch z)
        rw [hp] at this
        cases this
    refine ⟨upd_same, [(Sum.inr "cells", .ref a1), (Sum.inr "lefts", .ref sl), (Sum.inr "at", .int 0)], rfl, (by show 3 ≤ 15; decide), ?_⟩
    refine fin p a1 sl _ (fun b o e => ?_) np0 n1 nsl nscl upd_same (by rw [upd_ne np1, upd_ne np1]; exact h1) (by rw [upd_ne np2, upd_ne np2]; exact hy)
    have := r5.keep b o e (fun z => nomatch z) (fun z => nomatch z)
    have nb : b ≠ p := fun z => by rw [z, np0] at e; cases e
    rw [upd_ne nb, upd_ne nb]
    exact this
  refine ⟨.ref a, rfl, by decide, fun p0 hp0 => ?_⟩
  have s0 : Same H0 (upd H0 p0 (.lst [])) := fun b o e => by
    rw [upd_ne (ne_of_none e hp0)]
    exact e
  refine ⟨.list (ns.map PyData.int), .list [], .lst (sqL_mono s0 hq) (RpA.dp (intR_dp ns)), .lst (Evl.sq_of upd_same) .nil, hsh, by decide, _, rfl, ?_⟩
  by_cases e : ns = []
  · subst e
    rw [if_neg (by decide)]
    refine ⟨by show 1 ≤ sizeLine; decide, fun p1 hp1 => ?_⟩
    refine rest _ p1 (fun b o z => ?_) ?_ upd_same
    · have z2 := s0 b o z
      rw [upd_ne (ne_of_none z2 hp1)]
      exact z2
    · cases z : H0 p1 with
      | none => rfl
      | some o =>
        have z2 := s0 _ _ z
        rw [hp1] at z2
        cases z2
  · have ek : (!PyData.eqv (.list (ns.map PyData.int)) (.list [])) = true := by
      cases ns with
      | nil => exact absurd rfl e
      | cons x xs => rfl
    refine (if_pos ek).mpr ?_
    refine ⟨.ref a, rfl, a, ns.map V.int, rfl, .inl (sqL_mono s0 hq), fun p1 hp1 => ?_⟩
    refine rest _ p1 (fun b o z => ?_) ?_ (by rw [upd_same]; unfold cellsOf; rw [if_neg e])
    · have z2 := s0 b o z
      rw [upd_ne (ne_of_none z2 hp1)]
      exact z2
    · cases z : H0 p1 with
      | none => rfl
      | some o =>
        have z2 := s0 _ _ z
        rw [hp1] at z2
        cases z2
end
end Pn

set_option maxHeartbeats 4000001
namespace Pn
open L2 PyProof.Rows PySem.Spec PySem
section
variable {P : Program} {w : World} {K : PySem.W.Frag} {mg : Str → Option Value} {base : Heap} {C : Cls}
def m_law : M Ctl := seq (M.bind (M.bind (aCons (ret (.int 4)) aNil) itR) fun items => forL (put 2) (seq (M.bind (asx (frz (callSM 3 g__law_sentence (stArg 1 (aCons (m2 addI (ret (.int 1)) (frz (callSM 1 g__law_draw (stArg 1 (aCons (ret (.int 3)) (aNil)))))) (aCons (m2 eqD (frz (callSM 1 g__law_draw (stArg 1 (aCons (ret (.int 2)) (aNil))))) (ret (.int 0))) (aCons (ret (.int 10)) (aNil)))))))) (asg 3)) (seq (ifS (notB (toB (frz (callQM false 2 g__law_like (aCons (frz (callN 1 g__law_heard (aCons (rd 3) (aNil)))) (aCons (frz (M.bind (aCons (rd 3) (aNil)) lstD)) (aNil))))))) (retS (asx (ret (.bool false)))) (ret .nx)) (seq (M.bind (rd 3) (tgtM (putTup 2 (putCons (put 6) (putCons (put 7) (putNil)))))) (seq (ifS (notB (toB (frz (callQM false 2 g__law_like (aCons (frz (callN 1 g_depth_of (aCons (rd 3) (aNil)))) (aCons (frz (callN 2 (g__law_deep 10) (aCons (rd 6) (aCons (ixD (rd 7) (ret (.int 1))) (aNil))))) (aNil))))))) (retS (asx (ret (.bool false)))) (ret .nx)) (seq (ifS (notB (toB (frz (callQM false 2 g__law_like (aCons (frz (callN 1 g_is_early (aCons (rd 3) (aNil)))) (aCons (frz (callN 1 g__law_same_cases (aCons (rd 6) (aNil)))) (aNil))))))) (retS (asx (ret (.bool false)))) (ret .nx)) (seq (M.bind (asx (frz (callN 1 g_turned_sentence (aCons (rd 3) (aNil))))) (asg 4)) (seq (ifS (notB (toB (frz (callQM false 2 g__law_like (aCons (rd 4) (aCons (M.bind (aCons (rd 6) (aCons (M.bind (aCons (notV (ixD (rd 7) (ret (.int 0)))) (aCons (ixD (rd 7) (ret (.int 1))) (aCons (ixD (rd 7) (ret (.int 2))) (aNil)))) tupD) (aNil))) tupD) (aNil))))))) (retS (asx (ret (.bool false)))) (ret .nx)) (seq (ifS (notB (toB (frz (callQM false 2 g__law_like (aCons (frz (callN 1 g_turned_sentence (aCons (rd 4) (aNil)))) (aCons (rd 3) (aNil))))))) (retS (asx (ret (.bool false)))) (ret .nx)) (M.bind (M.bind (aCons (ret (.int 3)) aNil) itR) fun items => forL (put 5) (seq (M.bind (frz (callSM 1 g__law_spoilt (stArg 1 (aCons (rd 3) (aNil))))) (tgtM (putTup 2 (putCons (put 8) (putCons (put 9) (putNil)))))) (ifS (notB (toB (frz (callQM false 2 g__law_like (aCons (frz (callN 1 g__law_heard (aCons (rd 8) (aNil)))) (aCons (M.bind (aCons (ret (.str "bad")) (aCons (rd 9) (aNil))) tupD) (aNil))))))) (retS (asx (ret (.bool false)))) (ret .nx))) items))))))))) items) (retS (callSM 0 g__law_bounds_right (stArg 1 (aNil))))
theorem sc_law : FnScope ["script", "state", "lap", "sentence", "turned", "turn", "rows", "use", "value", "place"] ["script"] (defScope (top 42)) := ⟨rfl, rfl, rfl, by decide +kernel, rfl, by decide +kernel, by decide +kernel⟩
def rest {α : Type} : List α → List α
  | [] => []
  | _ :: l => l
theorem ps_law {f c sa sc sl : Addr} {tb : Tbs} {G0 H0 : Hp} {A : Around} {outer : List Env} {s : Shared} {H1 : Hp} {E : XK} (hgd : (A.deeper (envOfC "law" (defScope (top 42)) s.heap.objs.size f (.ref c))).guards = some []) (hr : Room 132 (A.deeper (envOfC "law" (defScope (top 42)) s.heap.objs.size f (.ref c))))
    (Z : Glo K mg) (h__law_sentence : HasG P w K mg base C true false "_law_sentence" 120 3 g__law_sentence) (h__law_draw : HasG P w K mg base C true false "_law_draw" 120 1 g__law_draw) (h__law_heard : Has P w K mg base C "_law_heard" 120 1 g__law_heard) (h_depth_of : Has P w K mg base C "depth_of" 120 1 g_depth_of) (h__law_deep : Has P w K mg base C "_law_deep" 120 2 (g__law_deep 10)) (h_is_early : Has P w K mg base C "is_early" 120 1 g_is_early) (h__law_same_cases : Has P w K mg base C "_law_same_cases" 120 1 g__law_same_cases) (h_turned_sentence : Has P w K mg base C "turned_sentence" 120 1 g_turned_sentence) (h__law_spoilt : HasG P w K mg base C true false "_law_spoilt" 120 1 g__law_spoilt) (h__law_like : HasQ P w K mg base C false (fun _ => True) "_law_like" 1 2 g__law_like) (h__law_bounds_right : HasQ P w K mg base C true (fun _ => True) "_law_bounds_right" 131 0 g__law_bounds_right) :
    PSs (cxOf (L2.CX P w) P w K mg base ["script", "state", "lap", "sentence", "turned", "turn", "rows", "use", "value", "place"] "law" (defScope (top 42)) f (.ref c) A outer s H1 E) (rest (defBody (top 42))) (T (frG K C true false sa sc sl 0 tb G0 H0) (fun cls d _ H => E cls d H) m_law) :=
  ss_cons (s_for poC rfl (i_range rfl Z.b_range (e_int)) (tn_ 2 sc_law.nd) (ss_cons (as_ 3 sc_law.nd (e_asx (e_frz (callS_ h__law_sentence hr tkC (ast_ 1 (a_cons (e_add (e_int) (e_frz (callS_ h__law_draw hr tkC (ast_ 1 (a_cons (e_int) (a_nil)))))) (a_cons (eq_ hr.units (e_frz (callS_ h__law_draw hr tkC (ast_ 1 (a_cons (e_int) (a_nil))))) (e_int)) (a_cons (e_int) (a_nil))))))))) (ss_cons (s_if (t_not (t_val (e_frz (callP_ hgd h__law_like hr tkC (a_cons (e_frz (call_ h__law_heard hr tkC (a_cons (v_ 3) (a_nil)))) (a_cons (e_frz (e_lst (a_cons (v_ 3) (a_nil)))) (a_nil))))))) (ss_one (s_ret (e_asx (e_bl)))) (ss_nil)) (ss_cons (s_asgT (v_ 3) (tg_tup rfl rfl (tgs_cons (tn_ 6 sc_law.nd) (tgs_cons (tn_ 7 sc_law.nd) (tgs_nil))))) (ss_cons (s_if (t_not (t_val (e_frz (callP_ hgd h__law_like hr tkC (a_cons (e_frz (call_ h_depth_of hr tkC (a_cons (v_ 3) (a_nil)))) (a_cons (e_frz (call_ h__law_deep hr tkC (a_cons (v_ 6) (a_cons (ix_ (v_ 7) (e_int)) (a_nil))))) (a_nil))))))) (ss_one (s_ret (e_asx (e_bl)))) (ss_nil)) (ss_cons (s_if (t_not (t_val (e_frz (callP_ hgd h__law_like hr tkC (a_cons (e_frz (call_ h_is_early hr tkC (a_cons (v_ 3) (a_nil)))) (a_cons (e_frz (call_ h__law_same_cases hr tkC (a_cons (v_ 6) (a_nil)))) (a_nil))))))) (ss_one (s_ret (e_asx (e_bl)))) (ss_nil)) (ss_cons (as_ 4 sc_law.nd (e_asx (e_frz (call_ h_turned_sentence hr tkC (a_cons (v_ 3) (a_nil)))))) (ss_cons (s_if (t_not (t_val (e_frz (callP_ hgd h__law_like hr tkC (a_cons (v_ 4) (a_cons (e_tup (a_cons (v_ 6) (a_cons (e_tup (a_cons (e_not (ix_ (v_ 7) (e_int))) (a_cons (ix_ (v_ 7) (e_int)) (a_cons (ix_ (v_ 7) (e_int)) (a_nil))))) (a_nil)))) (a_nil))))))) (ss_one (s_ret (e_asx (e_bl)))) (ss_nil)) (ss_cons (s_if (t_not (t_val (e_frz (callP_ hgd h__law_like hr tkC (a_cons (e_frz (call_ h_turned_sentence hr tkC (a_cons (v_ 4) (a_nil)))) (a_cons (v_ 3) (a_nil))))))) (ss_one (s_ret (e_asx (e_bl)))) (ss_nil)) (ss_one (s_for poC rfl (i_range rfl Z.b_range (e_int)) (tn_ 5 sc_law.nd) (ss_cons (s_asgT (e_frz (callS_ h__law_spoilt hr tkC (ast_ 1 (a_cons (v_ 3) (a_nil))))) (tg_tup rfl rfl (tgs_cons (tn_ 8 sc_law.nd) (tgs_cons (tn_ 9 sc_law.nd) (tgs_nil))))) (ss_one (s_if (t_not (t_val (e_frz (callP_ hgd h__law_like hr tkC (a_cons (e_frz (call_ h__law_heard hr tkC (a_cons (v_ 8) (a_nil)))) (a_cons (e_tup (a_cons (e_str) (a_cons (v_ 9) (a_nil)))) (a_nil))))))) (ss_one (s_ret (e_asx (e_bl)))) (ss_nil))))))))))))))) (ss_one (s_ret (callQS_ hgd h__law_bounds_right trivial hr tkC (ast_ 1 (a_nil)))))
end
end Pn

set_option maxHeartbeats 4000001
namespace Pn
open L2 PyProof.Rows PySem.Spec PySem
def lawR : List Sl := [.no, .st, .no, .no, .no, .no, .no, .no, .no, .no]
/-- the run of the law's rest at a script -/
def LawGood (ns : List Int) : Prop := ∃ c, m_law ⟨lawR, ⟨cellsOf ns, leftsOf ns, 0⟩⟩ = .ok (.rt (.sh (.bool true))) c
def spLaw (K : PySem.W.Frag) : Sp := fun vs H Q _ => ∃ a ns, vs = [.ref a] ∧ SqL K H a (ns.map V.int) ∧ ns.length ≤ 1000 ∧ SeqAt.shaped (.list (ns.map PyData.int)) = true ∧ LawGood ns ∧ ∀ H', Q (.bl true) H'
section
variable {P : Program} {w : World} {K : PySem.W.Frag} {mg : Str → Option Value} {base : Heap} {C : Cls}
theorem ok_law {f c fb : Addr} {fdb : FuncData} {oc : Value} {od an : Option Addr} {osl : Array (Option Value)} {kV doc pm ct : Value} (lk : K.lookup f = some ⟨oc, od, .func (PySem.W.fnOf "law" "law" (defArgs (top 42)) (defBody (top 42)) (defScope (top 42)) .none kV doc pm an (.ref c) ct), osl⟩) (hcd : PySem.W.codeIn K (.ref c) "law" = true)
    (Fb : Fun K "_law_begin" "_law_begin" (top 27) fb fdb) (ab : At K mg "_law_begin" fb fdb ["script"]) (Z : Glo K mg)
    (h__law_sentence : HasG P w K mg base C true false "_law_sentence" 120 3 g__law_sentence) (h__law_draw : HasG P w K mg base C true false "_law_draw" 120 1 g__law_draw) (h__law_heard : Has P w K mg base C "_law_heard" 120 1 g__law_heard) (h_depth_of : Has P w K mg base C "depth_of" 120 1 g_depth_of) (h__law_deep : Has P w K mg base C "_law_deep" 120 2 (g__law_deep 10)) (h_is_early : Has P w K mg base C "is_early" 120 1 g_is_early) (h__law_same_cases : Has P w K mg base C "_law_same_cases" 120 1 g__law_same_cases) (h_turned_sentence : Has P w K mg base C "turned_sentence" 120 1 g_turned_sentence) (h__law_spoilt : HasG P w K mg base C true false "_law_spoilt" 120 1 g__law_spoilt) (h__law_like : HasQ P w K mg base C false (fun _ => True) "_law_like" 1 2 g__law_like) (h__law_bounds_right : HasQ P w K mg base C true (fun _ => True) "_law_bounds_right" 131 0 g__law_bounds_right) :
    FnG P w K mg base (L2.CX P w) 133 f (PySem.W.fnOf "law" "law" (defArgs (top 42)) (defBody (top 42)) (defScope (top 42)) .none kV doc pm an (.ref c) ct) ["script"] (spLaw K) := by
  refine fnG_core lk hcd sc_law (fun vs H Q E ⟨a, ns, h, _⟩ => by rw [h]; rfl) (fun A outer s H0 vs Q E hgd hr h => ?_)
  have Fbeg : FnOk P w K mg base (L2.CX P w) 2 fb fdb ["script"] (spBegin K) := ok__law_begin Fb Z
  refine ⟨_, pss_cons (ps_set (i := 1) sc_law.nd rfl (.inl rfl) (pe_callS Fbeg (hr.mono (by decide)) rfl ab.m ab.k ab.b (fun σ => passAt (tkC) σ) (pa_cons (pe_var (i := 0) rfl (.inl rfl)) pa_nil)))
    (t := _) (u := fun D σ H => ∃ sa sc sl G0 H0, T (frG K C true false sa sc sl 0 [] G0 H0) (fun cls d _ H => E cls d H) m_law D σ H)
    ⟨fun pins s1 σ H D I ⟨sa, sc, sl, G0, H0, z⟩ => (ps_law hgd hr Z h__law_sentence h__law_draw h__law_heard h_depth_of h__law_deep h_is_early h__law_same_cases h_turned_sentence h__law_spoilt h__law_like h__law_bounds_right).run pins s1 σ H D I z⟩, ?_⟩
  obtain ⟨a, ns, rfl, hq, hlen, hsh, ⟨cf, run⟩, fin⟩ := h
  refine ⟨.ref a, rfl, ?_⟩
  refine ⟨a, ns, rfl, hq, hlen, hsh, fun sa sc sl H2 s02 fa fc fl nn e1 e2 e3 => ?_⟩
  refine ⟨sa, sc, sl, fun _ => none, H2, fun _ => none, ⟨lawR, ⟨cellsOf ns, leftsOf ns, 0⟩⟩, rel_bare rfl (fun i x e => ?_) (fun _ => ⟨e1, e2, e3, rfl, rfl, rfl, nn⟩) (fun q hq => nomatch hq), ?_⟩
  · match i, e with
    | 1, e => cases e; exact .inr ⟨rfl, rfl, rfl⟩
    | 0, e => cases e; exact .inl rfl
    | 2, e => cases e; exact .inl rfl
    | 3, e => cases e; exact .inl rfl
    | 4, e => cases e; exact .inl rfl
    | 5, e => cases e; exact .inl rfl
    | 6, e => cases e; exact .inl rfl
    | 7, e => cases e; exact .inl rfl
    | 8, e => cases e; exact .inl rfl
    | 9, e => cases e; exact .inl rfl
  · rw [run]
    intro x σ' G' H' r' q
    have q : Rp K G' x (.bool true) := q
    cases q
    exact fin H'
end
end Pn

/-! the runs of the defs: what simp does with them -/
namespace Pn
open L2 PyProof.Rows PySem.Spec PySem
section
variable {α β : Type} {c : Cfg}
@[simp] theorem x_ret (a : α) : ret a c = .ok a c := rfl
@[simp] theorem x_bad : (bad : M α) c = .bad := rfl
@[simp] theorem x_bind (m : M α) (f : α → M β) : M.bind m f c = (match m c with
  | .ok a c' => f a c'
  | .exc k d c' => .exc k d c'
  | .bad => .bad) := rfl
@[simp] theorem x_rd (i : Nat) : rd i c = (match c.r[i]? with
  | some (.sh d) => .ok d c
  | _ => .bad) := rfl
@[simp] theorem x_m2 (f : Dat → Dat → M Dat) (a b : M Dat) : m2 f a b c = M.bind a (fun x => M.bind b fun y => f x y) c := rfl
@[simp] theorem x_toB (m : M Dat) : toB m c = M.bind m asB c := rfl
@[simp] theorem x_asB (b : Bool) : asB (.bool b) = ret b := rfl
@[simp] theorem x_notB (m : M Bool) : notB m c = M.bind m (fun b => ret (!b)) c := rfl
@[simp] theorem x_andB (a b : M Bool) : andB a b c = M.bind a (fun x => if x = true then b else ret false) c := rfl
@[simp] theorem x_orB (a b : M Bool) : orB a b c = M.bind a (fun x => if x = true then ret true else b) c := rfl
@[simp] theorem x_andV (a b : M Dat) : andV a b c = M.bind a (fun x => M.bind (asB x) fun k => if k = true then b else ret (.bool false)) c := rfl
@[simp] theorem x_orV (a b : M Dat) : orV a b c = M.bind a (fun x => M.bind (asB x) fun k => if k = true then ret (.bool true) else b) c := rfl
@[simp] theorem x_notV (a : M Dat) : notV a c = M.bind a (fun x => M.bind (asB x) fun k => ret (.bool (!k))) c := rfl
@[simp] theorem x_ifE (t : M Bool) (a b : M α) : ifE t a b c = M.bind t (fun k => if k = true then a else b) c := rfl
@[simp] theorem x_ifS (t : M Bool) (a b : M Ctl) : ifS t a b c = M.bind t (fun k => if k = true then a else b) c := rfl
@[simp] theorem x_seq (a b : M Ctl) : seq a b c = (match a c with
  | .ok .nx c' => b c'
  | r => r) := rfl
@[simp] theorem x_frz (m : M RV) : frz m c = M.bind m (fun v => ret v.dat) c := rfl
@[simp] theorem x_asx (m : M Dat) : asx m c = M.bind m (fun d => ret (.sh d)) c := rfl
@[simp] theorem x_dat1 (d : Dat) : (RV.sh d).dat = d := rfl
@[simp] theorem x_dat2 (l : List Dat) : (RV.fr l).dat = .list l := rfl
@[simp] theorem x_aNil : aNil c = .ok [] c := rfl
@[simp] theorem x_aCons (a : M Dat) (r : M (List Dat)) : aCons a r c = M.bind a (fun x => M.bind r fun xs => ret (x :: xs)) c := rfl
@[simp] theorem x_callN (n : Nat) (g : List Dat → PR) (ms : M (List Dat)) : callN n g ms c = M.bind ms (fun ds => if ds.length = n then callP g ds else bad) c := rfl
@[simp] theorem x_callP (g : List Dat → PR) (ds : List Dat) : callP g ds c = (match g ds with
  | .ok v => .ok v c
  | .exc k d => .exc k d c
  | .bad => .bad) := rfl
@[simp] theorem x_retS (m : M RV) : retS m c = M.bind m (fun v => ret (.rt v)) c := rfl
@[simp] theorem x_slOf1 (d : Dat) : slOf (.sh d) = .sh d := rfl
@[simp] theorem x_slOf2 (l : List Dat) : slOf (.fr l) = .own l := rfl
@[simp] theorem x_asg (i : Nat) (v : RV) : asg i v c = (match c.r[i]? with
  | some (.io _) => .bad
  | some .st => .bad
  | some (.fn _) => .bad
  | none => .bad
  | some _ => .ok .nx { c with r := c.r.set i (slOf v) }) := rfl
@[simp] theorem x_tupD (l : List Dat) : tupD l c = if many l = true then .ok (.tuple l) c else .bad := by
  unfold tupD
  by_cases h : many l = true <;> simp only [h, if_true, if_false] <;> rfl
@[simp] theorem x_lstD (l : List Dat) : lstD l c = if many l = true then .ok (.fr l) c else .bad := by
  unfold lstD
  by_cases h : many l = true <;> simp only [h, if_true, if_false] <;> rfl
@[simp] theorem x_many (l : List Dat) : many l = decide (l.length ≤ 100000) := rfl
@[simp] theorem x_ixD (a b : M Dat) : ixD a b c = M.bind a (fun x => M.bind b fun y => M.bind (rowOf x) fun k => ixR k y) c := rfl
@[simp] theorem x_inM (neg : Bool) (a : M Dat) (b : M Row) : inM neg a b c = M.bind a (fun x => M.bind b fun k => inR neg x k) c := rfl
@[simp] theorem x_rowOfT (l : List Dat) : rowOf (.tuple l) = ret (true, l) := rfl
@[simp] theorem x_rowOfL (l : List Dat) : rowOf (.list l) = ret (false, l) := rfl
@[simp] theorem x_rowD (m : M Dat) : rowD m c = M.bind m rowOf c := rfl
@[simp] theorem x_rowX (m : M RV) : rowX m c = M.bind m (fun v => match v with
  | .sh d => rowOf d
  | .fr l => ret (false, l)) c := rfl
@[simp] theorem x_rowVar (i : Nat) : rowVar i c = (match c.r[i]? with
  | some (.sh d) => rowOf d c
  | some (.own l) => .ok (false, l) c
  | some (.io l) => .ok (false, l) c
  | _ => .bad) := rfl
theorem atI_nat {γ : Type} (l : List γ) (n : Nat) (h : n < l.length) : atI l (n : Int) = l[n]? := by
  unfold atI ixN
  (rw [if_pos (by omega), if_pos (by omega)])
  rfl
theorem ixR_at {r : Row} {i : Int} {d : Dat} (h : atI r.2 i = some d) : ixR r (.int i) = ret d := by
  unfold ixR
  simp only [h]
@[simp] theorem x_ix0 (b : Bool) (x : Dat) (l : List Dat) : ixR (b, x :: l) (.int 0) = ret x := ixR_at ((atI_nat _ 0 (by simp)).trans rfl)
@[simp] theorem x_ix1 (b : Bool) (x y : Dat) (l : List Dat) : ixR (b, x :: y :: l) (.int 1) = ret y := ixR_at ((atI_nat _ 1 (by simp)).trans rfl)
@[simp] theorem x_ix2 (b : Bool) (x y z : Dat) (l : List Dat) : ixR (b, x :: y :: z :: l) (.int 2) = ret z := ixR_at ((atI_nat _ 2 (by simp)).trans rfl)
@[simp] theorem x_ix3 (b : Bool) (x y z u : Dat) (l : List Dat) : ixR (b, x :: y :: z :: u :: l) (.int 3) = ret u := ixR_at ((atI_nat _ 3 (by simp)).trans rfl)
@[simp] theorem x_lenR (r : Row) : lenR r = ret (.int (r.2.length : Nat)) := rfl
@[simp] theorem x_tupR (r : Row) : tupR r = ret (.tuple r.2) := rfl
@[simp] theorem x_lstR (r : Row) : lstR r = ret (.fr r.2) := rfl
@[simp] theorem x_truR (r : Row) : truR r = ret (!r.2.isEmpty) := rfl
@[simp] theorem x_itL (l : List Dat) : itL (.list l) = ret l := rfl
@[simp] theorem x_itT (l : List Dat) : itT (.tuple l) = ret l := rfl
@[simp] theorem x_enT (l : List Dat) : enT (.tuple l) = ret (pairsF 0 l) := rfl
@[simp] theorem x_enL (l : List Dat) : enL (.list l) = ret (pairsF 0 l) := rfl
@[simp] theorem x_pairs0 (i : Nat) : pairsF i [] = [] := rfl
@[simp] theorem x_pairs1 (i : Nat) (d : Dat) (l : List Dat) : pairsF i (d :: l) = .tuple [.int (i : Int), d] :: pairsF (i + 1) l := rfl
@[simp] theorem x_itBackL (l : List Dat) : itBack (.list l) = ret l.reverse := rfl
@[simp] theorem x_itBackT (l : List Dat) : itBack (.tuple l) = ret l.reverse := rfl
@[simp] theorem x_forN (b : Dat → Cfg → Option Cfg) (m : M Ctl) : forL b m [] c = .ok .nx c := rfl
@[simp] theorem x_forC (b : Dat → Cfg → Option Cfg) (m : M Ctl) (d : Dat) (ds : List Dat) : forL b m (d :: ds) c = (match b d c with
  | none => .bad
  | some c1 => match m c1 with
    | .ok .nx c2 => forL b m ds c2
    | .ok .ct c2 => forL b m ds c2
    | .ok .bk c2 => .ok .nx c2
    | r => r) := rfl
@[simp] theorem x_put (i : Nat) (d : Dat) : put i d c = (match c.r[i]? with
  | some (.io _) => none
  | some .st => none
  | some (.fn _) => none
  | none => none
  | some _ => some { c with r := c.r.set i (.sh d) }) := rfl
@[simp] theorem x_putNil : putNil [] c = some c := rfl
@[simp] theorem x_putCons (b : Dat → Cfg → Option Cfg) (r : List Dat → Cfg → Option Cfg) (d : Dat) (ds : List Dat) : putCons b r (d :: ds) c = (b d c).bind fun c1 => r ds c1 := rfl
@[simp] theorem x_putTup (n : Nat) (r : List Dat → Cfg → Option Cfg) (l : List Dat) : putTup n r (.tuple l) c = if l.length = n then r l c else none := rfl
@[simp] theorem x_tgtM (b : Dat → Cfg → Option Cfg) (d : Dat) : tgtM b d c = (match b d c with
  | some c' => .ok .nx c'
  | none => .bad) := rfl
@[simp] theorem x_dropS (m : M α) : dropS m c = M.bind m (fun _ => ret .nx) c := rfl
@[simp] theorem x_excM (k : Nat) (d : Dat) : (excM k d : M α) c = .exc k d c := rfl
@[simp] theorem x_heldM (i : Nat) : heldM i c = (match held i c with
  | some l => .ok l c
  | none => .bad) := rfl
@[simp] theorem x_wrM (i : Nat) (l : List Dat) : wrM i l c = .ok .none (wr i l c) := rfl
@[simp] theorem x_appV (i : Nat) (m : M Dat) : appV i m c = M.bind (heldM i) (fun _ => M.bind m fun d => M.bind (heldM i) fun l => if l.length < 100000 then wrM i (l ++ [d]) else bad) c := rfl
@[simp] theorem x_extV (i : Nat) (m : M Row) : extV i m c = M.bind (heldM i) (fun _ => M.bind m fun k => M.bind (heldM i) fun l => if k.1 = false ∧ l.length < 100000 ∧ k.2.length < 100000 then wrM i (l ++ k.2) else bad) c := rfl
@[simp] theorem x_addI (i j : Int) : addI (.int i) (.int j) = ret (.int (i + j)) := rfl
@[simp] theorem x_subI (i j : Int) : subI (.int i) (.int j) = ret (.int (i - j)) := rfl
@[simp] theorem x_ltI (i j : Int) : ltI (.int i) (.int j) = ret (.bool (decide (i < j))) := rfl
@[simp] theorem x_leI (i j : Int) : leI (.int i) (.int j) = ret (.bool (decide (i ≤ j))) := rfl
@[simp] theorem x_gtI (i j : Int) : gtI (.int i) (.int j) = ret (.bool (decide (j < i))) := rfl
@[simp] theorem x_geI (i j : Int) : geI (.int i) (.int j) = ret (.bool (decide (j ≤ i))) := rfl
@[simp] theorem x_isi (T : String) (d : Dat) : isiR T d = ret (.bool (isTy d T)) := rfl
theorem x_catT (a b : List Dat) (ha : a.length ≤ 100000) (hb : b.length ≤ 100000) : catD (.tuple a) (.tuple b) = ret (.sh (.tuple (a ++ b))) := by
  unfold catD
  simp [many, ha, hb]
theorem x_catL (a b : List Dat) (ha : a.length ≤ 100000) (hb : b.length ≤ 100000) : catD (.list a) (.list b) = ret (.fr (a ++ b)) := by
  unfold catD
  simp [many, ha, hb]
theorem sh_int (i : Int) : SeqAt.shaped (.int i) = true := rfl
@[simp] theorem x_eqI (i j : Int) : eqD (.int i) (.int j) = ret (.bool (i == j)) := rfl
@[simp] theorem x_neI (i j : Int) : neD (.int i) (.int j) = ret (.bool (!(i == j))) := rfl
@[simp] theorem x_runP (n : Nat) (m : M Ctl) (ds : List Dat) : runP n m ds = (match m ⟨initR n ds, ⟨[], [], 0⟩⟩ with
  | .ok .nx _ => .ok (.sh .none)
  | .ok (.rt v) _ => .ok v
  | .ok _ _ => .bad
  | .exc k d _ => .exc k d
  | .bad => .bad) := rfl
@[simp] theorem x_initR (n : Nat) (ds : List Dat) : initR n ds = ds.map Sl.sh ++ List.replicate (n - ds.length) Sl.no := rfl
end
/-- a comprehension whose parts keep what is around, with a test -/
theorem lcL_sift {b : Dat → Cfg → Option Cfg} {mt : M Bool} {me : M Dat} {vs : List Nat} {t : Dat → Bool} {f : Dat → Dat} {c : Cfg} : ∀ {items acc : List Dat}, (∀ d ∈ items, ∃ c1 c2 c3, b d c = some c1 ∧ mt c1 = .ok (t d) c2 ∧ (t d = true → me c2 = .ok (f d) c3 ∧ { c3 with r := clr vs c3.r } = c) ∧ (t d = false → { c2 with r := clr vs c2.r } = c)) → acc.length + items.length ≤ 100000 →
    lcL b mt me vs items acc c = .ok (acc ++ (items.filter t).map f) c
  | [], acc, _, _ => by
    simp [lcL]
  | d :: ds, acc, h, hl => by
    obtain ⟨c1, c2, c3, e1, e2, e3, e4⟩ := h d List.mem_cons_self
    rw [List.length_cons] at hl
    have h' := fun x hx => h x (List.mem_cons_of_mem d hx)
    unfold lcL
    simp only [e1, e2]
    cases ht : t d with
    | true =>
      obtain ⟨e5, e6⟩ := e3 ht
      simp only [e5]
      rw [if_pos (by omega), e6, lcL_sift h' (by rw [List.length_append, List.length_singleton]; omega), List.filter_cons, ht, if_pos rfl, List.map_cons, List.append_assoc]
      rfl
    | false =>
      simp only [e4 ht]
      rw [lcL_sift h' (by omega), List.filter_cons, ht]
      rfl
theorem lcM_sift {b : Dat → Cfg → Option Cfg} {mt : M Bool} {me : M Dat} {vs : List Nat} {t : Dat → Bool} {f : Dat → Dat} {c : Cfg} {items : List Dat} (q : vs.all (fun v => quiet c.r[v]?) = true)
    (h : ∀ d ∈ items, ∃ c1 c2 c3, b d { c with r := clr vs c.r } = some c1 ∧ mt c1 = .ok (t d) c2 ∧ (t d = true → me c2 = .ok (f d) c3 ∧ { c3 with r := clr vs c3.r } = { c with r := clr vs c.r }) ∧ (t d = false → { c2 with r := clr vs c2.r } = { c with r := clr vs c.r })) (hl : items.length ≤ 100000)
    (hb : back vs c.r (clr vs c.r) = c.r) : lcM vs b mt me items c = .ok (.fr ((items.filter t).map f)) c := by
  have z := lcL_sift (acc := []) h (by rw [List.length_nil]; omega)
  unfold lcM
  rw [if_pos q, z, List.nil_append]
  show Res.ok (RV.fr ((items.filter t).map f)) { r := back vs c.r (clr vs c.r), s := c.s } = _
  rw [hb]
theorem lcL_rel {R : Dat → Dat → Prop} {b : Dat → Cfg → Option Cfg} {me : M Dat} {vs : List Nat} {c : Cfg} (h : ∀ d y, R d y → ∃ c1 c3, b d c = some c1 ∧ me c1 = .ok y c3 ∧ { c3 with r := clr vs c3.r } = c) : ∀ {items ys acc : List Dat}, Paired R items ys → acc.length + items.length ≤ 100000 →
    lcL b (ret true) me vs items acc c = .ok (acc ++ ys) c
  | _, _, acc, .nil, _ => by
    rw [List.append_nil]
    rfl
  | _ :: ds, _ :: ys, acc, .cons (a := d) (b := y) r t, hl => by
    obtain ⟨c1, c3, e1, e2, e3⟩ := h d y r
    rw [List.length_cons] at hl
    have ih := lcL_rel h (items := ds) (ys := ys) (acc := acc ++ [y]) t (by rw [List.length_append, List.length_singleton]; omega)
    unfold lcL
    simp only [e1, ret, e2]
    rw [if_pos (by omega), e3, ih, List.append_assoc]
    rfl
theorem lcM_rel {R : Dat → Dat → Prop} {b : Dat → Cfg → Option Cfg} {me : M Dat} {vs : List Nat} {c : Cfg} {items ys : List Dat} (z : Paired R items ys) (h : ∀ d y, R d y → ∃ c1 c3, b d { c with r := clr vs c.r } = some c1 ∧ me c1 = .ok y c3 ∧ { c3 with r := clr vs c3.r } = { c with r := clr vs c.r })
    (q : vs.all (fun v => quiet c.r[v]?) = true) (hl : items.length ≤ 100000) (hb : back vs c.r (clr vs c.r) = c.r) : lcM vs b (ret true) me items c = .ok (.fr ys) c := by
  have z := lcL_rel (acc := []) h z (by rw [List.length_nil]; omega)
  unfold lcM
  rw [if_pos q, z, List.nil_append]
  show Res.ok (RV.fr ys) { r := back vs c.r (clr vs c.r), s := c.s } = _
  rw [hb]
end Pn

set_option maxHeartbeats 2000003
namespace Pn
open L2 PyProof.Rows PySem.Spec PySem
abbrev dn (n : Nat) : Dat := .int (n : Int)
abbrev dp (l : List Nat) : Dat := .tuple (l.map dn)
abbrev s0 : DS := ⟨[], [], 0⟩
/-! ### draws -/
theorem mul_l {i j : Int} (a : -18446744073709551616 < i) (b : i < 18446744073709551616) : mulI (.int i) (.int j) = ret (.int (i * j)) := by
  unfold mulI int2c
  have e : (decide (-(2 ^ 64 : Int) < i ∧ i < 2 ^ 64) || decide (-(2 ^ 64 : Int) < j ∧ j < 2 ^ 64)) = true := by
    rw [Bool.or_eq_true]
    exact .inl (decide_eq_true ⟨a, b⟩)
  simp only [e, if_true]
theorem mul_r {i j : Int} (a : -18446744073709551616 < j) (b : j < 18446744073709551616) : mulI (.int i) (.int j) = ret (.int (i * j)) := by
  unfold mulI int2c
  have e : (decide (-(2 ^ 64 : Int) < i ∧ i < 2 ^ 64) || decide (-(2 ^ 64 : Int) < j ∧ j < 2 ^ 64)) = true := by
    rw [Bool.or_eq_true]
    exact .inr (decide_eq_true ⟨a, b⟩)
  simp only [e, if_true]
theorem mod_n {i j : Int} (a : j ≠ 0) : modI (.int i) (.int j) = ret (.int (i.fmod j)) := by
  unfold modI int2c
  simp [a]
theorem fdiv_n {i j : Int} (a : j ≠ 0) (b : j.natAbs < 1073741824) : fdivI (.int i) (.int j) = ret (.int (i.fdiv j)) := by
  unfold fdivI int2c
  simp [a, b]
@[simp] theorem x_intR (i : Int) : intR (.int i) = ret (.int i) := rfl
theorem fmod_in (i : Int) {j : Int} (h : 0 < j) : 0 ≤ i.fmod j ∧ i.fmod j < j := ⟨Int.fmod_nonneg_of_pos i h, Int.fmod_lt_of_pos i h⟩
theorem run_mixed (cell k : Int) (h1 : 0 ≤ k) (h2 : k ≤ 1000000000) : ∃ m, g__law_mixed [.int cell, .int k] = .ok (.sh (.int m)) ∧ 0 ≤ m ∧ m < 2147483629 := by
  have c1 := fmod_in cell (j := 2147483647) (by decide)
  have e1 : mulI (.int 2) (.int k) = ret (.int (2 * k)) := mul_l (by decide) (by decide)
  have e2 : mulI (.int (2 * k)) (.int k) = ret (.int (2 * k * k)) := mul_r (by omega) (by omega)
  have e3 : mulI (.int (cell.fmod 2147483647)) (.int (48271 + 2 * k * k)) = ret (.int (cell.fmod 2147483647 * (48271 + 2 * k * k))) := mul_l (by omega) (by omega)
  have e4 : mulI (.int 69621) (.int k) = ret (.int (69621 * k)) := mul_l (by decide) (by decide)
  have e5 : ∀ i, mulI (.int i) (.int 69621) = ret (.int (i * 69621)) := fun i => mul_r (by decide) (by decide)
  have e6 : ∀ i, modI (.int i) (.int 2147483647) = ret (.int (i.fmod 2147483647)) := fun i => mod_n (by decide)
  have e7 : ∀ i, modI (.int i) (.int 2147483629) = ret (.int (i.fmod 2147483629)) := fun i => mod_n (by decide)
  refine ⟨((cell.fmod 2147483647 * (48271 + 2 * k * k) + 69621 * k + 11).fmod 2147483647 * 69621).fmod 2147483629, ?_, fmod_in _ (by decide)⟩
  simp only [g__law_mixed, m__law_mixed]
  simp [e1, e2, e3, e4, e5, e6, e7]
/-- cells to draw from, how often at most they were drawn from -/
structure St (s : DS) (a : Nat) : Prop where
  len : s.lefts.length = s.cells.length
  pos : 0 < s.cells.length
  left : ∀ x ∈ s.lefts, 0 ≤ x
  lo : 0 ≤ s.at_
  hi : s.at_ ≤ (a : Int)
theorem St.mono {s : DS} {a b : Nat} (h : St s a) (e : a ≤ b) : St s b := ⟨h.len, h.pos, h.left, h.lo, by have := h.hi; omega⟩
@[simp] theorem x_callSM (n : Nat) (g : List Dat → List Dat → DS → GR) (ms : M (List Dat)) (c : Cfg) : callSM n g ms c = M.bind ms (fun ds => if ds.length = n then callS g ds else bad) c := rfl
@[simp] theorem x_callS (g : List Dat → List Dat → DS → GR) (ds : List Dat) (c : Cfg) : callS g ds c = (match g ds [] c.s with
  | .ok v _ s => .ok v { c with s := s }
  | .exc k d _ s => .exc k d { c with s := s }
  | .bad => .bad) := rfl
@[simp] theorem x_stArg (i : Nat) (ms : M (List Dat)) (c : Cfg) : stArg i ms c = (match c.r[i]? with
  | some .st => ms c
  | _ => .bad) := rfl
@[simp] theorem x_stAt (i : Nat) (c : Cfg) : stAt i c = (match c.r[i]? with
  | some .st => .ok (.int c.s.at_) c
  | _ => .bad) := rfl
@[simp] theorem x_stRow (b : Bool) (i : Nat) (c : Cfg) : stRow b i c = (match c.r[i]? with
  | some .st => .ok (false, (rowSel b c.s).map PyData.int) c
  | _ => .bad) := rfl
@[simp] theorem x_stIx (b : Bool) (i : Nat) (m : M Dat) (c : Cfg) : stIx b i m c = (match c.r[i]? with
  | some .st => (match m c with
    | .ok d c' => (match c'.r[i]? with
      | some .st => (match d with
        | .int k => (match atI (rowSel b c'.s) k with
          | some n => .ok (.int n) c'
          | none => .bad)
        | _ => .bad)
      | _ => .bad)
    | .exc k d c' => .exc k d c'
    | .bad => .bad)
  | _ => .bad) := by kernel_rfl
@[simp] theorem x_putAt (i : Nat) (m : M Dat) (c : Cfg) : putAt i m c = (match m c with
  | .ok d c' => (match c'.r[i]? with
    | some .st => (match d with
      | .int n => .ok .nx { c' with s := { c'.s with at_ := n } }
      | _ => .bad)
    | _ => .bad)
  | .exc k d c' => .exc k d c'
  | .bad => .bad) := by kernel_rfl
@[simp] theorem x_putLeft (i : Nat) (m mk : M Dat) (c : Cfg) : putLeft i m mk c = (match m c with
  | .ok d c1 => (match d with
    | .int n => (match c1.r[i]? with
      | some .st => (match mk c1 with
        | .ok k c2 => (match c2.r[i]? with
          | some .st => (match k with
            | .int k => (match ixN c2.s.lefts.length k with
              | some j => .ok .nx { c2 with s := { c2.s with lefts := c2.s.lefts.set j n } }
              | none => .bad)
            | _ => .bad)
          | _ => .bad)
        | .exc k d c' => .exc k d c'
        | .bad => .bad)
      | _ => .bad)
    | _ => .bad)
  | .exc k d c' => .exc k d c'
  | .bad => .bad) := by
  show M.bind m _ c = _
  rw [x_bind]
  cases m c with
  | ok d c1 => cases d <;> kernel_rfl
  | _ => rfl
@[simp] theorem x_sel1 (s : DS) : rowSel true s = s.cells := rfl
@[simp] theorem x_sel2 (s : DS) : rowSel false s = s.lefts := rfl
theorem atI_in {l : List Int} {k : Int} (h : 0 ≤ k) (h2 : k < l.length) : ∃ n, atI l k = some n ∧ n ∈ l ∧ ixN l.length k = some k.toNat := by
  obtain ⟨m, rfl⟩ := Int.eq_ofNat_of_zero_le h
  have e : ixN l.length (m : Int) = some m := by
    unfold ixN
    (rw [if_pos (by omega), if_pos (by omega)])
    rfl
  have lt : m < l.length := by omega
  refine ⟨l[m], ?_, List.getElem_mem lt, e⟩
  unfold atI
  rw [e]
  exact List.getElem?_eq_getElem lt
theorem run_draw {s : DS} {a : Nat} (h : St s a) (ha : a ≤ 100000) (L : Nat) (hL : 0 < L) (hL2 : L ≤ 1000) : ∃ r s', g__law_draw [dn L] [] s = .ok (.sh (dn r)) [] s' ∧ r < L ∧ St s' (a + 1) := by
  obtain ⟨cells, lefts, at_⟩ := s
  obtain ⟨hlen, hpos, hleft, hlo, hhi⟩ := h
  simp only at hlen hpos hleft hlo hhi
  have fm := fmod_in at_ (j := (cells.length : Int)) (by omega)
  have e1 : modI (.int at_) (.int (cells.length : Int)) = ret (.int (at_.fmod (cells.length : Int))) := mod_n (by omega)
  obtain ⟨left, a1, a2, a3⟩ := atI_in (l := lefts) fm.1 (by omega)
  obtain ⟨cell, b1, b2, b3⟩ := atI_in (l := cells) fm.1 (by omega)
  have l0 := hleft left a2
  have e2 : fdivI (.int left) (.int (L : Int)) = ret (.int (left.fdiv L)) := fdiv_n (by omega) (by omega)
  have e3 : ∀ i, modI (.int i) (.int (L : Int)) = ret (.int (i.fmod L)) := fun i => mod_n (by omega)
  have fl : ∀ i : Int, ∃ r : Nat, i.fmod L = (r : Int) ∧ r < L := fun i => by
    have z := fmod_in i (j := (L : Int)) (by omega)
    obtain ⟨r, hr⟩ := Int.eq_ofNat_of_zero_le z.1
    exact ⟨r, hr, by omega⟩
  by_cases hp : 0 < left
  · obtain ⟨r, hr, hr2⟩ := fl left
    have hd : 0 ≤ left.fdiv L := Int.fdiv_nonneg l0 (by omega)
    refine ⟨r, ⟨cells, lefts.set (at_.fmod (cells.length : Int)).toNat (left.fdiv L), at_ + 1⟩, ?_, hr2, ⟨by simp [hlen], hpos, fun x hx => ?_, by show 0 ≤ at_ + 1; omega, by show at_ + 1 ≤ ((a + 1 : Nat) : Int); omega⟩⟩
    · simp only [g__law_draw, m__law_draw]
      simp [runG, initG, e1, e2, e3, a1, a3, hp, endG, hr]
    · rcases List.mem_or_eq_of_mem_set hx with z | z
      · exact hleft x z
      · rw [z]
        exact hd
  · obtain ⟨m1, q1, q2, q3⟩ := run_mixed cell at_ hlo (by omega)
    obtain ⟨m2, p1, p2, p3⟩ := run_mixed m1 (40 + at_) (by omega) (by omega)
    obtain ⟨m3, o1, o2, o3⟩ := run_mixed m2 (7 + at_) (by omega) (by omega)
    have e4 : mulI (.int m2) (.int 2147483647) = ret (.int (m2 * 2147483647)) := mul_r (by decide) (by decide)
    have e5 : fdivI (.int (m2 * 2147483647 + m3)) (.int 64) = ret (.int ((m2 * 2147483647 + m3).fdiv 64)) := fdiv_n (by decide) (by decide)
    obtain ⟨r, hr, hr2⟩ := fl ((m2 * 2147483647 + m3).fdiv 64)
    refine ⟨r, ⟨cells, lefts, at_ + 1⟩, ?_, hr2, ⟨hlen, hpos, hleft, by show 0 ≤ at_ + 1; omega, by show at_ + 1 ≤ ((a + 1 : Nat) : Int); omega⟩⟩
    simp only [g__law_draw, m__law_draw]
    simp [runG, initG, e1, e3, e4, e5, a1, b1, hp, q1, p1, o1, endG, hr]
/-! ### what can be shown -/
structure Gd (n w : Nat) (d : Dat) : Prop where
  lay : d.canLay0 = true
  dp : d.depth ≤ n
  can : d.showable = true
  len : d.shown.length ≤ w
def lens : List Str → Nat
  | [] => 0
  | s :: l => s.length + 2 + lens l
structure GdL (n w : Nat) (l : List Dat) : Prop where
  lay : PyData.canLayAll0 l = true
  dp : PyData.depthAll l ≤ n
  can : PyData.showableAll l = true
  len : lens (PyData.shownAll l) ≤ w
theorem Gd.mono {n w n' w' : Nat} {d : Dat} (h : Gd n w d) (a : n ≤ n') (b : w ≤ w') : Gd n' w' d := ⟨h.lay, Nat.le_trans h.dp a, h.can, Nat.le_trans h.len b⟩
theorem GdL.mono {n w n' w' : Nat} {d : List Dat} (h : GdL n w d) (a : n ≤ n') (b : w ≤ w') : GdL n' w' d := ⟨h.lay, Nat.le_trans h.dp a, h.can, Nat.le_trans h.len b⟩
theorem gd_nil {n w : Nat} : GdL n w [] := ⟨rfl, Nat.zero_le _, rfl, Nat.zero_le _⟩
theorem gd_cons {n a b w : Nat} {d : Dat} {l : List Dat} (h : Gd n a d) (t : GdL n b l) (e : a + 2 + b ≤ w) : GdL n w (d :: l) where
  lay := by rw [PyData.canLayAll0, h.lay, t.lay]; rfl
  dp := by rw [PyData.depthAll]; have := h.dp; have := t.dp; omega
  can := by rw [PyData.showableAll, h.can, t.can]; rfl
  len := by rw [PyData.shownAll, lens]; have := h.len; have := t.len; omega
theorem join_len : ∀ l : List Str, (Str.join ", " l).length ≤ lens l
  | [] => Nat.zero_le _
  | [x] => by
    show x.length ≤ x.length + 2 + 0
    omega
  | x :: y :: l => by
    have ih := join_len (y :: l)
    have c : ((", " : String) : Str).length = 2 := by decide +kernel
    show (x ++ ((", " : String) : Str) ++ Str.join ", " (y :: l)).length ≤ x.length + 2 + lens (y :: l)
    rw [Str.length_append, Str.length_append, c]
    omega
theorem from_len : ∀ (l : List Str) (k : Nat) (acc : Str), (textFrom k acc l).length ≤ acc.length + lens l
  | [], _, acc => Nat.le_refl _
  | t :: l, k, acc => by
    have c : ((if k > 0 then ", " else "" : String) : Str).length ≤ 2 := by
      split <;> decide +kernel
    have ih := from_len l (k + 1) (acc ++ ((if k > 0 then ", " else "" : String) : Str) ++ t)
    rw [Str.length_append, Str.length_append] at ih
    rw [textFrom, lens]
    omega
theorem gd_tup {n w m v : Nat} {l : List Dat} (h : GdL n w l) (a : n + 1 ≤ m) (b : w + 3 ≤ v) : Gd m v (.tuple l) where
  lay := h.lay
  dp := by rw [PyData.depth]; have := h.dp; omega
  can := h.can
  len := by
    rw [PyData.shown, tupleText, Str.length_append, Str.length_append]
    have c1 : (("(" : String) : Str).length = 1 := by decide +kernel
    have c2 : ((if (PyData.shownAll l).length == 1 then ",)" else ")" : String) : Str).length ≤ 2 := by split <;> decide +kernel
    have j := join_len (PyData.shownAll l)
    have := h.len
    omega
theorem gd_lst {n w m v : Nat} {l : List Dat} (h : GdL n w l) (a : n + 1 ≤ m) (b : w + 3 ≤ v) : Gd m v (.list l) where
  lay := h.lay
  dp := by rw [PyData.depth]; have := h.dp; omega
  can := h.can
  len := by
    rw [PyData.shown, listText, Str.length_append]
    have c1 : (("[" : String) : Str).length = 1 := by decide +kernel
    have c2 : (("]" : String) : Str).length = 1 := by decide +kernel
    have j := from_len (PyData.shownAll l) 0 "["
    have := h.len
    omega
theorem gd_bool (b : Bool) (n : Nat) : Gd n 5 (.bool b) := ⟨rfl, Nat.zero_le _, rfl, by cases b <;> decide +kernel⟩
theorem gd_none (n : Nat) : Gd n 4 .none := ⟨rfl, Nat.zero_le _, rfl, by decide +kernel⟩
theorem int_len : ∀ a : Nat, a < 100 → (PyData.shown (.int (a : Int))).length ≤ 4 := by decide +kernel
theorem int_can : ∀ a : Nat, a < 100 → PyData.showable (.int (a : Int)) = true := by decide +kernel
theorem gd_dn (a n : Nat) (h : a < 100) : Gd n 4 (dn a) := ⟨rfl, Nat.zero_le _, int_can a h, int_len a h⟩
theorem gd_neg1 (n : Nat) : Gd n 4 (.int (-1)) := ⟨rfl, Nat.zero_le _, by decide +kernel, by decide +kernel⟩
def wordOk (x : Str) : Bool := (PyData.str x).canLay0 && decide ((PyData.str x).shown.length ≤ 10)
theorem gd_str (x : Str) (n : Nat) (h : wordOk x = true) : Gd n 10 (.str x) := by
  have z := Bool.and_eq_true_iff.mp h
  exact ⟨z.1, Nat.zero_le _, rfl, of_decide_eq_true z.2⟩
theorem gd_dns (n : Nat) : ∀ (l : List Nat), (∀ a ∈ l, a < 100) → GdL n (6 * l.length) (l.map dn)
  | [], _ => gd_nil
  | a :: l, h => gd_cons (gd_dn a n (h a List.mem_cons_self)) (gd_dns n l fun b hb => h b (List.mem_cons_of_mem _ hb)) (by rw [List.length_cons]; omega)
theorem gd_dp (n : Nat) (l : List Nat) (h : ∀ a ∈ l, a < 100) : Gd (n + 1) (6 * l.length + 3) (dp l) := gd_tup (gd_dns n l h) (Nat.le_refl _) (Nat.le_refl _)
/-! ### like -/
def shk : Dat → Bool
  | .bool _ => true
  | .int _ => true
  | .list _ => true
  | .tuple _ => true
  | _ => false
theorem Gd.shaped {n w : Nat} {d : Dat} (h : Gd n w d) (hn : n ≤ 64) : SeqAt.shaped d = true := by
  unfold SeqAt.shaped
  rw [h.lay]
  exact decide_eq_true (Nat.le_trans h.dp hn)
theorem repr_gd {n w : Nat} {d : Dat} (h : Gd n w d) (hn : n ≤ 64) (hw : w ≤ 16777216) (k : shk d = true) : reprR d = ret (.str d.shown) := by
  have ok : reprOk d = true := by
    unfold reprOk
    rw [h.can, h.shaped hn]
    exact decide_eq_true (Nat.le_trans h.len hw)
  unfold reprR
  rw [if_pos ok]
  cases d <;> first | rfl | cases k
theorem run_like {n w : Nat} {d : Dat} (h : Gd n w d) (hn : n ≤ 64) (hw : w ≤ 16777216) (k : shk d = true) : g__law_like [d, d] [] s0 = .ok (.sh (.bool true)) [] s0 := by
  have e := repr_gd h hn hw k
  simp only [g__law_like, m__law_like]
  simp [runG, initG, endG, e, eqS]
@[simp] theorem x_callQM (n : Nat) (g : List Dat → List Dat → DS → GR) (ms : M (List Dat)) (c : Cfg) : callQM false n g ms c = (match ms c with
  | .ok ds c' => if ds.length = n then callQ g ds c' else .bad
  | .exc k d c' => .exc k d c'
  | .bad => .bad) := by
  show M.bind ms _ c = _
  rw [x_bind]
  cases ms c with
  | ok ds c' =>
    show (if ds.length = n then (if false = true then callS g ds else callQ g ds) else bad) c' = _
    by_cases e : ds.length = n
    · simp only [e, if_true]
      rfl
    · simp only [e, if_false]
      rfl
  | _ => rfl
@[simp] theorem x_callQ (g : List Dat → List Dat → DS → GR) (ds : List Dat) (c : Cfg) : callQ g ds c = (match g ds [] ⟨[], [], 0⟩ with
  | .ok v _ _ => .ok v c
  | .exc k d _ _ => .exc k d c
  | .bad => .bad) := rfl
@[simp] theorem x_tryRet (ie : Nat) (l : List Clause) (m : M RV) (c : Cfg) : tryRet ie l m c = (match m c with
  | .ok v c' => .ok (.rt v) c'
  | .exc k d c' => (match findK k l, c'.r[ie]? with
    | some u, some .no => .ok (.rt (.sh (.tuple [.str u, d]))) c'
    | _, _ => .bad)
  | .bad => .bad) := rfl
theorem fk1 : findK 1 clauL = some "bad" := rfl
theorem fk2 : findK 2 clauL = some "great" := rfl
theorem ixR_nat {b : Bool} {xs : List Dat} {n : Nat} {x : Dat} (h : xs[n]? = some x) : ixR (b, xs) (dn n) = ret x := ixR_at (by rw [atI_nat _ _ (List.getElem?_eq_some_iff.mp h).1, h])
/-! ### how a draw goes on -/
theorem run_of {s : DS} {a : Nat} (h : St s a) (ha : a ≤ 100000) {l : List Dat} (h0 : l ≠ []) (hl : l.length ≤ 1000) : ∃ x s', g__law_of [.list l] [] s = .ok (.sh x) [] s' ∧ x ∈ l ∧ St s' (a + 1) := by
  have lp : 0 < l.length := List.length_pos_iff.mpr h0
  obtain ⟨r, s', e, hr, hs⟩ := run_draw h ha l.length lp hl
  have ix : ixR (false, l) (dn r) = ret l[r] := ixR_nat (List.getElem?_eq_getElem hr)
  refine ⟨l[r], s', ?_, List.getElem_mem hr, hs⟩
  simp only [g__law_of, m__law_of]
  simp [runG, initG, endG, e, ix]
@[simp] theorem x_parM (i j : Nat) (ms : M (List Dat)) (c : Cfg) : parM i j ms c = (match ms c with
  | .ok ds c => (match ds with
    | [d, e] => (match put i d c with
      | none => .bad
      | some c1 => match put j e c1 with
        | none => .bad
        | some c2 => .ok .nx c2)
    | _ => .bad)
  | .exc k d c' => .exc k d c'
  | .bad => .bad) := by kernel_rfl
end Pn

set_option maxHeartbeats 2000003
namespace Pn
open L2 PyProof.Rows PySem.Spec PySem
abbrev okB (b : Bool) : PR := .ok (.sh (.bool b))
/-! ### small tests -/
theorem row_tup (l : List Dat) (k : Int) : g_is_row_of [.tuple l, .int k] = okB ((l.length : Int) == k) := by
  simp only [g_is_row_of, m_is_row_of]
  simp [isTy, tyN]
theorem row_lst (l : List Dat) (k : Dat) : g_is_row_of [.list l, k] = okB false := by
  simp only [g_is_row_of, m_is_row_of]
  simp [isTy, tyN]
theorem row_non (k : Dat) : g_is_row_of [.none, k] = okB false := by
  simp only [g_is_row_of, m_is_row_of]
  simp [isTy, tyN]
theorem int_i (i : Int) : g_is_integer [.int i] = okB true := by
  simp only [g_is_integer, m_is_integer]
  simp [isTy, tyN]
theorem int_b (b : Bool) : g_is_integer [.bool b] = okB false := by
  simp only [g_is_integer, m_is_integer]
  simp [isTy, tyN]
theorem int_n : g_is_integer [.none] = okB false := by
  simp only [g_is_integer, m_is_integer]
  simp [isTy, tyN]
theorem int_s (x : Str) : g_is_integer [.str x] = okB false := by
  simp only [g_is_integer, m_is_integer]
  simp [isTy, tyN]
theorem int_t (l : List Dat) : g_is_integer [.tuple l] = okB false := by
  simp only [g_is_integer, m_is_integer]
  simp [isTy, tyN]
theorem bel_i (i e : Int) : g_is_below [.int i, .int e] = okB (decide (0 ≤ i) && decide (i < e)) := by
  have z : g_is_from_zero [.int i] = okB (decide (0 ≤ i)) := by
    simp only [g_is_from_zero, m_is_from_zero]
    simp [int_i]
  simp only [g_is_below, m_is_below]
  by_cases h : 0 ≤ i <;> simp [z, h]
theorem bel_dn {n e : Nat} (h : n < e) : g_is_below [dn n, dn e] = okB true := by
  rw [bel_i]
  have h1 : (0 : Int) ≤ (n : Int) := by omega
  have h2 : (n : Int) < (e : Int) := by omega
  simp [h1, h2]
theorem bel_not {n e : Nat} (h : ¬ n < e) : g_is_below [dn n, dn e] = okB false := by
  rw [bel_i]
  have h2 : ¬ (n : Int) < (e : Int) := by omega
  simp [h2]
theorem bel_neg (e : Dat) : g_is_below [.int (-1), e] = okB false := by
  have z : g_is_from_zero [.int (-1)] = okB false := by
    simp only [g_is_from_zero, m_is_from_zero]
    simp [int_i]
  simp only [g_is_below, m_is_below]
  simp [z]
theorem bel_of {d : Dat} (h : g_is_integer [d] = okB false) (e : Dat) : g_is_below [d, e] = okB false := by
  have z : g_is_from_zero [d] = okB false := by
    simp only [g_is_from_zero, m_is_from_zero]
    simp [h]
  simp only [g_is_below, m_is_below]
  simp [z]
/-! ### all of a row -/
def tb (g : List Dat → PR) (a : List Dat) (d : Dat) : Bool := match g (d :: a) with
  | .ok (.sh (.bool b)) => b
  | _ => false
def Tl (g : List Dat → PR) (a : List Dat) (d : Dat) : Prop := g (d :: a) = okB (tb g a d)
theorem Tl.of {g : List Dat → PR} {a : List Dat} {d : Dat} {b : Bool} (h : g (d :: a) = okB b) : Tl g a d ∧ tb g a d = b := by
  have e : tb g a d = b := by unfold tb; rw [h]
  exact ⟨by unfold Tl; rw [h, e], e⟩
theorem bools_map (f : Dat → Bool) : ∀ l : List Dat, bools (l.map fun d => .bool (f d)) = some (l.map f)
  | [] => rfl
  | d :: l => by
    rw [List.map_cons, List.map_cons, bools, bools_map f l]
    rfl
theorem all_map (f : Dat → Bool) (l : List Dat) (c : Cfg) : allR (false, l.map fun d => .bool (f d)) c = .ok (.bool (l.all f)) c := by
  unfold allR
  simp only [bools_map]
  show Res.ok (PyData.bool ((l.map f).all id)) c = _
  rw [List.all_map]
  rfl
theorem run_uses {E M : Dat} {xs : List Dat} (h : ∀ d ∈ xs, Tl g_is_use [E, M] d) (hl : xs.length ≤ 1000) : g_are_uses [.tuple xs, E, M] = okB (xs.all (tb g_is_use [E, M])) := by
  have z := lcM_map (b := put 3) (me := frz (callN 3 g_is_use (aCons (rd 3) (aCons (rd 1) (aCons (rd 2) (aNil)))))) (vs := [3]) (f := fun d => .bool (tb g_is_use [E, M] d)) (c := ⟨[.sh (.tuple xs), .sh E, .sh M, .no], s0⟩) (items := xs) rfl (fun d hd => by
    refine ⟨⟨[.sh (.tuple xs), .sh E, .sh M, .sh d], s0⟩, ⟨[.sh (.tuple xs), .sh E, .sh M, .sh d], s0⟩, rfl, ?_, rfl⟩
    have e : g_is_use [d, E, M] = okB (tb g_is_use [E, M] d) := h d hd
    simp [e]) (by omega) rfl
  simp only [g_are_uses, m_are_uses]
  simp [isTy, tyN, z, all_map]
theorem run_cases {E M : Dat} {xs : List Dat} (h : ∀ d ∈ xs, Tl g_is_case [E, M] d) (hl : xs.length ≤ 1000) : g_are_cases [.tuple xs, E, M] = okB (xs.all (tb g_is_case [E, M])) := by
  have z := lcM_map (b := put 3) (me := frz (callN 3 g_is_case (aCons (rd 3) (aCons (rd 1) (aCons (rd 2) (aNil)))))) (vs := [3]) (f := fun d => .bool (tb g_is_case [E, M] d)) (c := ⟨[.sh (.tuple xs), .sh E, .sh M, .no], s0⟩) (items := xs) rfl (fun d hd => by
    refine ⟨⟨[.sh (.tuple xs), .sh E, .sh M, .sh d], s0⟩, ⟨[.sh (.tuple xs), .sh E, .sh M, .sh d], s0⟩, rfl, ?_, rfl⟩
    have e : g_is_case [d, E, M] = okB (tb g_is_case [E, M] d) := h d hd
    simp [e]) (by omega) rfl
  simp only [g_are_cases, m_are_cases]
  simp [isTy, tyN, z, all_map]
theorem uses_none (E M : Dat) : g_are_uses [.none, E, M] = okB false := by
  simp only [g_are_uses, m_are_uses]
  simp [isTy, tyN]
theorem cases_none (E M : Dat) : g_are_cases [.none, E, M] = okB false := by
  simp only [g_are_cases, m_are_cases]
  simp [isTy, tyN]
theorem run_bel {e : Nat} {xs : List Dat} (h : ∀ d ∈ xs, Tl g_is_below [dn e] d) (hl : xs.length ≤ 1000) : g_are_below [.tuple xs, dn e] = okB (xs.all (tb g_is_below [dn e])) := by
  have z := lcM_map (b := put 2) (me := frz (callN 2 g_is_below (aCons (rd 2) (aCons (rd 1) (aNil))))) (vs := [2]) (f := fun d => .bool (tb g_is_below [dn e] d)) (c := ⟨[.sh (.tuple xs), .sh (dn e), .no], s0⟩) (items := xs) rfl (fun d hd => by
    refine ⟨⟨[.sh (.tuple xs), .sh (dn e), .sh d], s0⟩, ⟨[.sh (.tuple xs), .sh (dn e), .sh d], s0⟩, rfl, ?_, rfl⟩
    have e : g_is_below [d, dn e] = okB (tb g_is_below [dn e] d) := h d hd
    simp [e]) (by omega) rfl
  simp only [g_are_below, m_are_below]
  simp [z, all_map]
theorem bel_dns {e : Nat} {l : List Nat} (h : ∀ n ∈ l, n < e) (hl : l.length ≤ 1000) : g_are_below [dp l, dn e] = okB true := by
  have t : ∀ d ∈ l.map dn, Tl g_is_below [dn e] d ∧ tb g_is_below [dn e] d = true := fun d hd => by
    obtain ⟨n, hn, rfl⟩ := List.mem_map.mp hd
    exact Tl.of (bel_dn (h n hn))
  rw [run_bel (fun d hd => (t d hd).1) (by rw [List.length_map]; exact hl)]
  have : (l.map dn).all (tb g_is_below [dn e]) = true := List.all_eq_true.mpr fun d hd => (t d hd).2
  rw [this]
/-! ### uses -/
structure Us where
  t : Bool
  row : Nat
  names : List Nat
def encU (u : Us) : Dat := .tuple [.bool u.t, dn u.row, dp u.names]
def GoodU (ms : List Nat) (e : Nat) (u : Us) : Prop := ms[u.row]? = some u.names.length ∧ ∀ n ∈ u.names, n < e
theorem GoodU.lt {ms : List Nat} {e : Nat} {u : Us} (h : GoodU ms e u) : u.row < ms.length := (List.getElem?_eq_some_iff.mp h.1).1
abbrev ld (ms : List Nat) : Dat := .list (ms.map dn)
theorem ix_ms {ms : List Nat} {k n : Nat} (h : ms[k]? = some n) : ixR (false, ms.map dn) (dn k) = ret (dn n) := ixR_nat (by rw [List.getElem?_map, h]; rfl)
theorem use_run {ms : List Nat} {e : Nat} {t : Bool} {k n : Nat} {N : Dat} {b : Bool} (h : ms[k]? = some n) (hb : ∃ x y, g_is_row_of [N, dn n] = okB x ∧ (x = true → g_are_below [N, dn e] = okB y) ∧ b = (x && y)) : g_is_use [.tuple [.bool t, dn k, N], dn e, ld ms] = okB b := by
  obtain ⟨x, y, h1, h2, rfl⟩ := hb
  have lt := (List.getElem?_eq_some_iff.mp h).1
  have b1 : g_is_below [dn k, dn ms.length] = okB true := bel_dn lt
  simp only [g_is_use, m_is_use]
  cases x with
  | false => simp [row_tup, isTy, tyN, b1, ix_ms h, h1]
  | true => simp [row_tup, isTy, tyN, b1, ix_ms h, h1, h2 rfl]
theorem use_good {ms : List Nat} {e : Nat} {u : Us} (h : GoodU ms e u) (hl : u.names.length ≤ 1000) : g_is_use [encU u, dn e, ld ms] = okB true :=
  use_run h.1 ⟨true, true, by rw [row_tup]; simp, fun _ => bel_dns h.2 hl, rfl⟩
end Pn

set_option maxHeartbeats 2000003
namespace Pn
open L2 PyProof.Rows PySem.Spec PySem
/-! ### slices, words -/
theorem cut_to (xs : List Dat) (n : Nat) (h : n ≤ xs.length) : cutL xs none (some (n : Int)) = xs.take n := by
  unfold cutL
  rw [HT.sIx_nat]
  show List.take (min n xs.length - 0) (List.drop 0 xs) = _
  rw [Nat.min_eq_left h]
  rfl
theorem cut_from (xs : List Dat) (n : Nat) (h : n ≤ xs.length) : cutL xs (some (n : Int)) none = xs.drop n := by
  unfold cutL
  rw [HT.sIx_nat]
  show List.take (xs.length - min n xs.length) (List.drop (min n xs.length) xs) = _
  rw [Nat.min_eq_left h, List.take_of_length_le]
  rw [List.length_drop]
  omega
@[simp] theorem x_slM (m : M Dat) (l h : M (Option Int)) (c : Cfg) : slM m l h c = M.bind m (fun d => M.bind l fun lo => M.bind h fun hi => slD d lo hi) c := rfl
@[simp] theorem x_slT (l : List Dat) (lo hi : Option Int) : slD (.tuple l) lo hi = ret (.sh (.tuple (cutL l lo hi))) := rfl
@[simp] theorem x_slL (l : List Dat) (lo hi : Option Int) : slD (.list l) lo hi = ret (.fr (cutL l lo hi)) := rfl
@[simp] theorem x_partO (m : M Dat) (c : Cfg) : partO m c = M.bind m (fun d => match d with
  | .int i => ret (some i)
  | _ => bad) c := rfl
theorem cut_13 (a b c d : Dat) : cutL [a, b, c, d] (some 1) (some 3) = [b, c] := by kernel_rfl
@[simp] theorem w_wait_wait : eqD (.str "wait") (.str "wait") = ret (.bool true) := by kernel_rfl
@[simp] theorem w_send_wait : eqD (.str "send") (.str "wait") = ret (.bool false) := by kernel_rfl
@[simp] theorem w_send_send : eqD (.str "send") (.str "send") = ret (.bool true) := by kernel_rfl
@[simp] theorem w_open_wait : eqD (.str "open") (.str "wait") = ret (.bool false) := by kernel_rfl
@[simp] theorem w_open_send : eqD (.str "open") (.str "send") = ret (.bool false) := by kernel_rfl
@[simp] theorem w_open_open : eqD (.str "open") (.str "open") = ret (.bool true) := by kernel_rfl
@[simp] theorem w_take_wait : eqD (.str "take") (.str "wait") = ret (.bool false) := by kernel_rfl
@[simp] theorem w_take_send : eqD (.str "take") (.str "send") = ret (.bool false) := by kernel_rfl
@[simp] theorem w_take_open : eqD (.str "take") (.str "open") = ret (.bool false) := by kernel_rfl
@[simp] theorem w_take_take : eqD (.str "take") (.str "take") = ret (.bool true) := by kernel_rfl
@[simp] theorem w_waits_wait : eqD (.str "waits") (.str "wait") = ret (.bool false) := by kernel_rfl
@[simp] theorem w_waits_send : eqD (.str "waits") (.str "send") = ret (.bool false) := by kernel_rfl
@[simp] theorem w_waits_open : eqD (.str "waits") (.str "open") = ret (.bool false) := by kernel_rfl
@[simp] theorem w_waits_take : eqD (.str "waits") (.str "take") = ret (.bool false) := by kernel_rfl
@[simp] theorem w_wait_take : eqD (.str "wait") (.str "take") = ret (.bool false) := by kernel_rfl
@[simp] theorem w_wait_open : eqD (.str "wait") (.str "open") = ret (.bool false) := by kernel_rfl
@[simp] theorem w_send_take : eqD (.str "send") (.str "take") = ret (.bool false) := by kernel_rfl
@[simp] theorem w_send_open : eqD (.str "send") (.str "open") = ret (.bool false) := by kernel_rfl
@[simp] theorem w_wait_send : eqD (.str "wait") (.str "send") = ret (.bool false) := by kernel_rfl
@[simp] theorem w_open_take : eqD (.str "open") (.str "take") = ret (.bool false) := by kernel_rfl
/-! ### uses that are none -/
section
variable {ms : List Nat} {e n : Nat} {t : Bool} {N : Dat} {k : Nat}
theorem bad_int (E M : Dat) : g_is_use [.tuple [.int 1, dn k, N], E, M] = okB false := by
  simp only [g_is_use, m_is_use]
  simp [row_tup, isTy, tyN]
theorem bad_below {r : Dat} (h : g_is_below [r, dn ms.length] = okB false) : g_is_use [.tuple [.bool t, r, N], dn e, ld ms] = okB false := by
  simp only [g_is_use, m_is_use]
  simp [row_tup, isTy, tyN, h]
theorem bad_two {a b : Dat} (E M : Dat) : g_is_use [.tuple [a, b], E, M] = okB false := by
  simp only [g_is_use, m_is_use]
  simp [row_tup, isTy, tyN]
theorem bad_none (E M : Dat) : g_is_use [.none, E, M] = okB false := by
  simp only [g_is_use, m_is_use]
  simp [row_non, isTy, tyN]
theorem bad_long {N : List Dat} (h : ms[k]? = some n) (hl : N.length ≠ n) : g_is_use [.tuple [.bool t, dn k, .tuple N], dn e, ld ms] = okB false :=
  use_run h ⟨false, true, by rw [row_tup]; congr 2; simp; omega, (fun z => by cases z), rfl⟩
theorem bad_list {N : List Dat} (h : ms[k]? = some n) : g_is_use [.tuple [.bool t, dn k, .list N], dn e, ld ms] = okB false :=
  use_run h ⟨false, true, row_lst _ _, (fun z => by cases z), rfl⟩
theorem bad_names {N : List Dat} (h : ms[k]? = some n) (hl : N.length = n) (hb : g_are_below [.tuple N, dn e] = okB false) : g_is_use [.tuple [.bool t, dn k, .tuple N], dn e, ld ms] = okB false :=
  use_run h ⟨true, false, by rw [row_tup]; congr 2; simp [hl], fun _ => hb, rfl⟩
end
/-! ### cases -/
def encC : Option Nat → Dat
  | none => .none
  | some n => dn n
def encP (p : Option Nat × Us) : Dat := .tuple [encC p.1, encU p.2]
def GoodP (ms : List Nat) (m : Nat) (p : Option Nat × Us) : Prop := match p.1 with
  | none => GoodU ms (m + 1) p.2
  | some n => n < m ∧ GoodU ms m p.2
def wideP (m : Nat) : Option Nat → Nat
  | none => m + 1
  | some _ => m
@[simp] theorem x_isR1 : isR .none .none = ret (.bool true) := rfl
@[simp] theorem x_isR2 (i : Int) : isR (.int i) .none = ret (.bool false) := rfl
@[simp] theorem x_isR3 (b : Bool) : isR (.bool b) .none = ret (.bool false) := rfl
@[simp] theorem x_isR4 (x : Str) : isR (.str x) .none = ret (.bool false) := rfl
theorem case_none {m : Nat} {U M : Dat} {b : Bool} (h : g_is_use [U, dn (m + 1), M] = okB b) : g_is_case [.tuple [.none, U], dn m, M] = okB b := by
  have h : g_is_use [U, .int ((m : Int) + 1), M] = okB b := h
  simp only [g_is_case, m_is_case]
  simp [row_tup, h]
theorem case_some {m n : Nat} {U M : Dat} {b : Bool} (hn : n < m) (h : g_is_use [U, dn m, M] = okB b) : g_is_case [.tuple [dn n, U], dn m, M] = okB b := by
  have z := bel_dn hn
  simp only [g_is_case, m_is_case]
  simp [row_tup, h, z]
theorem case_bad {E C U M : Dat} (hc : isR C .none = ret (.bool false)) (h : g_is_below [C, E] = okB false) : g_is_case [.tuple [C, U], E, M] = okB false := by
  simp only [g_is_case, m_is_case]
  simp [row_tup, h, hc]
theorem case_good {ms : List Nat} {m : Nat} {p : Option Nat × Us} (h : GoodP ms m p) (hl : p.2.names.length ≤ 1000) : g_is_case [encP p, dn m, ld ms] = okB true := by
  obtain ⟨c, u⟩ := p
  cases c with
  | none => exact case_none (use_good h hl)
  | some n => exact case_some h.1 (use_good h.2 hl)
/-! ### rows -/
section
variable {ms : List Nat} {m : Nat} {x y : Bool} {A C U : Dat}
theorem row_wait (hm : m ≤ 24) (h : g_are_uses [U, dn m, ld ms] = okB y) : g_is_sentence_row [.tuple [dn m, .tuple [.str "wait", U]], ld ms] = okB y := by
  have z : g_is_below [dn m, .int 25] = okB true := bel_dn (e := 25) (by omega)
  simp only [g_is_sentence_row, m_is_sentence_row]
  simp [row_tup, isTy, tyN, d_MOST_NAMES_IN_ROW, z, h]
theorem row_send (hm : m ≤ 24) (h1 : g_are_below [.tuple [A, C], dn m] = okB x) (h : x = true → g_are_uses [U, dn m, ld ms] = okB y) : g_is_sentence_row [.tuple [dn m, .tuple [.str "send", A, C, U]], ld ms] = okB (x && y) := by
  have z : g_is_below [dn m, .int 25] = okB true := bel_dn (e := 25) (by omega)
  simp only [g_is_sentence_row, m_is_sentence_row]
  cases x with
  | false => simp [row_tup, isTy, tyN, d_MOST_NAMES_IN_ROW, z, h1, cut_13]
  | true => simp [row_tup, isTy, tyN, d_MOST_NAMES_IN_ROW, z, h1, cut_13, h rfl]
theorem row_open (hm : m ≤ 24) (h1 : g_is_below [A, dn m] = okB x) (h : x = true → g_are_uses [U, dn (m + 1), ld ms] = okB y) : g_is_sentence_row [.tuple [dn m, .tuple [.str "open", A, U]], ld ms] = okB (x && y) := by
  have z : g_is_below [dn m, .int 25] = okB true := bel_dn (e := 25) (by omega)
  simp only [g_is_sentence_row, m_is_sentence_row]
  cases x with
  | false => simp [row_tup, isTy, tyN, d_MOST_NAMES_IN_ROW, z, h1]
  | true =>
    have h : g_are_uses [U, .int ((m : Int) + 1), ld ms] = okB y := h rfl
    simp [row_tup, isTy, tyN, d_MOST_NAMES_IN_ROW, z, h1, h]
theorem row_take (hm : m ≤ 24) (h1 : g_is_below [A, dn m] = okB x) (h : x = true → g_are_cases [U, dn m, ld ms] = okB y) : g_is_sentence_row [.tuple [dn m, .tuple [.str "take", A, U]], ld ms] = okB (x && y) := by
  have z : g_is_below [dn m, .int 25] = okB true := bel_dn (e := 25) (by omega)
  simp only [g_is_sentence_row, m_is_sentence_row]
  cases x with
  | false => simp [row_tup, isTy, tyN, d_MOST_NAMES_IN_ROW, z, h1]
  | true => simp [row_tup, isTy, tyN, d_MOST_NAMES_IN_ROW, z, h1, h rfl]
theorem row_many {a b M : Dat} (h : g_is_below [a, .int 25] = okB false) : g_is_sentence_row [.tuple [a, b], M] = okB false := by
  simp only [g_is_sentence_row, m_is_sentence_row]
  simp [row_tup, isTy, tyN, d_MOST_NAMES_IN_ROW, h]
theorem row_three {a b c M : Dat} : g_is_sentence_row [.tuple [a, b, c], M] = okB false := by
  simp only [g_is_sentence_row, m_is_sentence_row]
  simp [row_tup, isTy, tyN, d_MOST_NAMES_IN_ROW]
theorem row_listed {l : List Dat} {M : Dat} (hm : m ≤ 24) : g_is_sentence_row [.tuple [dn m, .list l], M] = okB false := by
  have z : g_is_below [dn m, .int 25] = okB true := bel_dn (e := 25) (by omega)
  simp only [g_is_sentence_row, m_is_sentence_row]
  simp [row_tup, isTy, tyN, d_MOST_NAMES_IN_ROW, z]
theorem row_waits {l : List Dat} {M : Dat} (hm : m ≤ 24) : g_is_sentence_row [.tuple [dn m, .tuple (.str "waits" :: l)], M] = okB false := by
  have z : g_is_below [dn m, .int 25] = okB true := bel_dn (e := 25) (by omega)
  simp only [g_is_sentence_row, m_is_sentence_row]
  simp [row_tup, isTy, tyN, d_MOST_NAMES_IN_ROW, z]
end
end Pn

set_option maxHeartbeats 2000003
namespace Pn
open L2 PyProof.Rows PySem.Spec PySem
/-! ### need_sentence -/
@[simp] theorem x_lendE (i n : Nat) (g : List Dat → PR) (ms : M (List Dat)) (c : Cfg) : lendE i n g ms c = (match ms c with
  | .ok ds c1 => (match ownL i c1 with
    | none => .bad
    | some l => if ds.length + 1 = n then (match g (ds ++ [.list l]) with
      | .ok (.sh (.bool b)) => .ok (.bool b) c1
      | _ => .bad) else .bad)
  | .exc k d c' => .exc k d c'
  | .bad => .bad) := by
  unfold lendE M.bind
  cases ms c with
  | ok ds c1 =>
    cases e : ownL i c1 with
    | none => simp only [e]
    | some l =>
      simp only [e]
      all_goals
        by_cases h : ds.length + 1 = n
        · rw [if_pos h, if_pos h]
          cases g (ds ++ [.list l]) with
          | ok v =>
            cases v with
            | sh d => cases d <;> kernel_rfl
            | fr _ => rfl
          | _ => rfl
        · rw [if_neg h, if_neg h]
  | _ => rfl
@[simp] theorem x_ioArg (i : Nat) (c : Cfg) : ioArg i c = M.bind (heldM i) (fun _ => ret []) c := rfl
def rowE (q : Nat × Dat) : Dat := .tuple [dn q.1, q.2]
inductive RowsOk : List Nat → List (Nat × Dat) → Prop
  | nil {ms : List Nat} : RowsOk ms []
  | cons {ms : List Nat} {m : Nat} {x : Dat} {r : List (Nat × Dat)} : g_is_sentence_row [.tuple [dn m, x], ld ms] = okB true → RowsOk (ms ++ [m]) r → RowsOk ms ((m, x) :: r)
def needB : M Ctl := seq (ifS (notB (toB (lendE 1 2 g_is_sentence_row (aCons (rd 5) (ioArg 1))))) (M.bind (M.bind (aCons (ret (.int 0)) (aCons (rd 4) (aNil))) tupD) fun d => excM 1 d) (ret .nx)) (dropS (appV 1 (ixD (rd 5) (ret (.int 0)))))
def needT : Dat → Cfg → Option Cfg := putTup 2 (putCons (put 4) (putCons (put 5) (putNil)))
abbrev needC (V R U : Dat) (ms : List Nat) (a b : Sl) : Cfg := ⟨[.sh V, .own (ms.map dn), .sh R, .sh U, a, b], s0⟩
/-- nothing, or a datum -/
def Shn (a : Sl) : Prop := a = .no ∨ ∃ d, a = .sh d
theorem need_put {V R U : Dat} {ms : List Nat} {a b : Sl} (ha : Shn a) (hb : Shn b) (i : Nat) (d : Dat) : needT (.tuple [.int (i : Int), d]) (needC V R U ms a b) = some (needC V R U ms (.sh (dn i)) (.sh d)) := by
  rcases ha with rfl | ⟨x, rfl⟩ <;> rcases hb with rfl | ⟨y, rfl⟩ <;> simp [needT]
theorem need_one {V R U : Dat} {ms : List Nat} {m i : Nat} {x : Dat} (h : g_is_sentence_row [.tuple [dn m, x], ld ms] = okB true) (hl : ms.length < 90000) : needB (needC V R U ms (.sh (dn i)) (.sh (.tuple [dn m, x]))) = .ok .nx (needC V R U (ms ++ [m]) (.sh (dn i)) (.sh (.tuple [dn m, x]))) := by
  have hl2 : ms.length < 100000 := by omega
  simp [needB, ownL, held, wr, h, hl2]
theorem need_bad {V R U : Dat} {ms : List Nat} {i : Nat} {x : Dat} (h : g_is_sentence_row [x, ld ms] = okB false) : needB (needC V R U ms (.sh (dn i)) (.sh x)) = .exc 1 (.tuple [.int 0, dn i]) (needC V R U ms (.sh (dn i)) (.sh x)) := by
  simp [needB, ownL, held, wr, h]
theorem need_for {V R U : Dat} (rest : List Dat) : ∀ (ds : List (Nat × Dat)) (ms : List Nat) (i : Nat) (a b : Sl), Shn a → Shn b → RowsOk ms ds → ms.length + ds.length ≤ 90000 →
    ∃ a' b', Shn a' ∧ Shn b' ∧ forL needT needB (pairsF i (ds.map rowE ++ rest)) (needC V R U ms a b) = forL needT needB (pairsF (i + ds.length) rest) (needC V R U (ms ++ ds.map (·.1)) a' b')
  | [], ms, i, a, b, ha, hb, _, _ => ⟨a, b, ha, hb, by simp⟩
  | (m, x) :: ds, ms, i, a, b, ha, hb, .cons h t, hl => by
    rw [List.length_cons] at hl
    obtain ⟨a', b', h1, h2, e⟩ := need_for rest ds (ms ++ [m]) (i + 1) (.sh (dn i)) (.sh (.tuple [dn m, x])) (.inr ⟨_, rfl⟩) (.inr ⟨_, rfl⟩) t (by rw [List.length_append, List.length_singleton]; omega)
    refine ⟨a', b', h1, h2, ?_⟩
    rw [List.map_cons, List.cons_append, x_pairs1, x_forC, need_put ha hb]
    show (match needB (needC V R U ms (.sh (dn i)) (.sh (.tuple [dn m, x]))) with
      | .ok .nx c2 => _
      | .ok .ct c2 => _
      | .ok .bk c2 => _
      | r => r) = _
    rw [need_one h (by omega)]
    show forL needT needB (pairsF (i + 1) (ds.map rowE ++ rest)) _ = _
    rw [e, List.map_cons, List.length_cons]
    have e1 : i + 1 + ds.length = i + (ds.length + 1) := by omega
    rw [e1, List.append_assoc]
    rfl
theorem need_ok {ds : List (Nat × Dat)} {U : Dat} (h : RowsOk [] ds) (hu : g_is_use [U, dn 10, ld (ds.map (·.1))] = okB true) (hl : ds.length ≤ 1500) : g_need_sentence [.tuple [.tuple (ds.map rowE), U]] = .ok (.sh (.tuple [.tuple (ds.map rowE), U])) := by
  obtain ⟨a', b', h1, h2, e⟩ := need_for (V := .tuple [.tuple (ds.map rowE), U]) (R := .tuple (ds.map rowE)) (U := U) [] ds [] 0 .no .no (.inl rfl) (.inl rfl) h (by rw [List.length_nil]; omega)
  rw [List.append_nil] at e
  have e : forL needT needB (pairsF 0 (ds.map rowE)) ⟨[.sh (.tuple [.tuple (ds.map rowE), U]), .own [], .sh (.tuple (ds.map rowE)), .sh U, .no, .no], s0⟩ = .ok .nx (needC (.tuple [.tuple (ds.map rowE), U]) (.tuple (ds.map rowE)) U (ds.map (·.1)) a' b') := e
  have hu : g_is_use [U, .int 10, .list ((ds.map (·.1)).map dn)] = okB true := hu
  have hl2 : ¬ (1500 : Int) < (ds.length : Int) := by omega
  unfold needT needB at e
  simp only [g_need_sentence, m_need_sentence]
  simp [row_tup, isTy, tyN, d_MOST_ROWS, hl2]
  simp only [List.map_map] at hu
  simp [e, ownL, held, wr, hu, d_AS_IS]
end Pn

set_option maxHeartbeats 2000003
namespace Pn
open L2 PyProof.Rows PySem.Spec PySem
/-! ### what need_sentence refuses -/
theorem no_pair {V : Dat} (h : g_is_row_of [V, .int 2] = okB false) : g_need_sentence [V] = .exc 1 (.tuple []) := by
  simp only [g_need_sentence, m_need_sentence]
  simp [h]
theorem no_rows {l : List Dat} {U : Dat} : g_need_sentence [.tuple [.list l, U]] = .exc 1 (.tuple [.int 0]) := by
  simp only [g_need_sentence, m_need_sentence]
  simp [row_tup, isTy, tyN]
theorem too_many {l : List Dat} {U : Dat} (h : 1500 < l.length) : g_need_sentence [.tuple [.tuple l, U]] = .exc 2 (.int 1500) := by
  have h : (1500 : Int) < (l.length : Int) := by omega
  simp only [g_need_sentence, m_need_sentence]
  simp [row_tup, isTy, tyN, d_MOST_ROWS, h]
theorem no_row {ds : List (Nat × Dat)} {x U : Dat} {rest : List Dat} (h : RowsOk [] ds) (hx : g_is_sentence_row [x, ld (ds.map (·.1))] = okB false) (hl : ds.length + rest.length + 1 ≤ 1500) : g_need_sentence [.tuple [.tuple (ds.map rowE ++ x :: rest), U]] = .exc 1 (.tuple [.int 0, dn ds.length]) := by
  obtain ⟨a', b', h1, h2, e⟩ := need_for (V := .tuple [.tuple (ds.map rowE ++ x :: rest), U]) (R := .tuple (ds.map rowE ++ x :: rest)) (U := U) (x :: rest) ds [] 0 .no .no (.inl rfl) (.inl rfl) h (by rw [List.length_nil]; omega)
  have e1 : forL needT needB (pairsF (0 + ds.length) (x :: rest)) (needC (.tuple [.tuple (ds.map rowE ++ x :: rest), U]) (.tuple (ds.map rowE ++ x :: rest)) U ([] ++ ds.map (·.1)) a' b') = .exc 1 (.tuple [.int 0, dn ds.length]) (needC (.tuple [.tuple (ds.map rowE ++ x :: rest), U]) (.tuple (ds.map rowE ++ x :: rest)) U (ds.map (·.1)) (.sh (dn ds.length)) (.sh x)) := by
    rw [x_pairs1, x_forC, need_put h1 h2]
    have z := need_bad (V := .tuple [.tuple (ds.map rowE ++ x :: rest), U]) (R := .tuple (ds.map rowE ++ x :: rest)) (U := U) (i := ds.length) hx
    rw [Nat.zero_add, List.nil_append]
    show (match needB (needC _ _ _ (ds.map (·.1)) (.sh (dn ds.length)) (.sh x)) with
      | .ok .nx c2 => _
      | .ok .ct c2 => _
      | .ok .bk c2 => _
      | r => r) = _
    rw [z]
  rw [e1] at e
  have e : forL needT needB (pairsF 0 (ds.map rowE ++ x :: rest)) ⟨[.sh (.tuple [.tuple (ds.map rowE ++ x :: rest), U]), .own [], .sh (.tuple (ds.map rowE ++ x :: rest)), .sh U, .no, .no], s0⟩ = _ := e
  have hl2 : ¬ (1500 : Int) < (ds.length : Int) + ((rest.length : Int) + 1) := by omega
  unfold needT needB at e
  simp only [g_need_sentence, m_need_sentence]
  simp [row_tup, isTy, tyN, d_MOST_ROWS, hl2, e]
theorem no_use {ds : List (Nat × Dat)} {U : Dat} (h : RowsOk [] ds) (hu : g_is_use [U, dn 10, ld (ds.map (·.1))] = okB false) (hl : ds.length ≤ 1500) : g_need_sentence [.tuple [.tuple (ds.map rowE), U]] = .exc 1 (.tuple [.int 1]) := by
  obtain ⟨a', b', h1, h2, e⟩ := need_for (V := .tuple [.tuple (ds.map rowE), U]) (R := .tuple (ds.map rowE)) (U := U) [] ds [] 0 .no .no (.inl rfl) (.inl rfl) h (by rw [List.length_nil]; omega)
  rw [List.append_nil] at e
  have e : forL needT needB (pairsF 0 (ds.map rowE)) ⟨[.sh (.tuple [.tuple (ds.map rowE), U]), .own [], .sh (.tuple (ds.map rowE)), .sh U, .no, .no], s0⟩ = .ok .nx (needC (.tuple [.tuple (ds.map rowE), U]) (.tuple (ds.map rowE)) U (ds.map (·.1)) a' b') := e
  have hu : g_is_use [U, .int 10, .list ((ds.map (·.1)).map dn)] = okB false := hu
  have hl2 : ¬ (1500 : Int) < (ds.length : Int) := by omega
  unfold needT needB at e
  simp only [g_need_sentence, m_need_sentence]
  simp [row_tup, isTy, tyN, d_MOST_ROWS, hl2]
  simp only [List.map_map] at hu
  simp [e, ownL, held, wr, hu, d_AS_IS]
theorem heard_ok {V : Dat} (h : g_need_sentence [V] = .ok (.sh V)) : g__law_heard [V] = .ok (.fr [V]) := by
  simp only [g__law_heard, m__law_heard]
  simp [h]
theorem heard_bad {V p : Dat} (h : g_need_sentence [V] = .exc 1 p) : g__law_heard [V] = .ok (.sh (.tuple [.str "bad", p])) := by
  simp only [g__law_heard, m__law_heard]
  simp [h, fk1]
theorem heard_great {V p : Dat} (h : g_need_sentence [V] = .exc 2 p) : g__law_heard [V] = .ok (.sh (.tuple [.str "great", p])) := by
  simp only [g__law_heard, m__law_heard]
  simp [h, fk2]
/-! ### rows as a type of their own -/
inductive Ac where
  | wait (us : List Us) | send (a b : Nat) (us : List Us) | opn (a : Nat) (us : List Us) | take (a : Nat) (ps : List (Option Nat × Us))
def encA : Ac → Dat
  | .wait us => .tuple [.str "wait", .tuple (us.map encU)]
  | .send a b us => .tuple [.str "send", dn a, dn b, .tuple (us.map encU)]
  | .opn a us => .tuple [.str "open", dn a, .tuple (us.map encU)]
  | .take a ps => .tuple [.str "take", dn a, .tuple (ps.map encP)]
/-- the cases of an action -/
def casesA : Ac → List (Option Nat × Us)
  | .wait us => us.map fun u => (none, u)
  | .send _ _ us => us.map fun u => (none, u)
  | .opn _ us => us.map fun u => (none, u)
  | .take _ ps => ps
def usesA (a : Ac) : List Us := (casesA a).map (·.2)
def GoodA (ms : List Nat) (m : Nat) : Ac → Prop
  | .wait us => ∀ u ∈ us, GoodU ms m u
  | .send a b us => a < m ∧ b < m ∧ ∀ u ∈ us, GoodU ms m u
  | .opn a us => a < m ∧ ∀ u ∈ us, GoodU ms (m + 1) u
  | .take a ps => a < m ∧ ∀ p ∈ ps, GoodP ms m p
/-- few, and with few names -/
def Few (a : Ac) : Prop := (casesA a).length ≤ 1000 ∧ ∀ u ∈ usesA a, u.names.length ≤ 1000
theorem uses_good {ms : List Nat} {e : Nat} {us : List Us} (h : ∀ u ∈ us, GoodU ms e u) (hl : us.length ≤ 1000) (hn : ∀ u ∈ us, u.names.length ≤ 1000) : g_are_uses [.tuple (us.map encU), dn e, ld ms] = okB true := by
  have t : ∀ d ∈ us.map encU, Tl g_is_use [dn e, ld ms] d ∧ tb g_is_use [dn e, ld ms] d = true := fun d hd => by
    obtain ⟨u, hu, rfl⟩ := List.mem_map.mp hd
    exact Tl.of (use_good (h u hu) (hn u hu))
  rw [run_uses (fun d hd => (t d hd).1) (by rw [List.length_map]; exact hl), List.all_eq_true.mpr fun d hd => (t d hd).2]
theorem cases_good {ms : List Nat} {m : Nat} {ps : List (Option Nat × Us)} (h : ∀ p ∈ ps, GoodP ms m p) (hl : ps.length ≤ 1000) (hn : ∀ p ∈ ps, p.2.names.length ≤ 1000) : g_are_cases [.tuple (ps.map encP), dn m, ld ms] = okB true := by
  have t : ∀ d ∈ ps.map encP, Tl g_is_case [dn m, ld ms] d ∧ tb g_is_case [dn m, ld ms] d = true := fun d hd => by
    obtain ⟨p, hp, rfl⟩ := List.mem_map.mp hd
    exact Tl.of (case_good (h p hp) (hn p hp))
  rw [run_cases (fun d hd => (t d hd).1) (by rw [List.length_map]; exact hl), List.all_eq_true.mpr fun d hd => (t d hd).2]
theorem mem_uses {us : List Us} {u : Us} (h : u ∈ us) : u ∈ (us.map fun u => ((none : Option Nat), u)).map (·.2) := by
  rw [List.map_map]
  exact List.mem_map.mpr ⟨u, h, rfl⟩
theorem row_good {ms : List Nat} {m : Nat} {a : Ac} (hm : m ≤ 24) (h : GoodA ms m a) (f : Few a) : g_is_sentence_row [.tuple [dn m, encA a], ld ms] = okB true := by
  obtain ⟨f1, f2⟩ := f
  cases a with
  | wait us =>
    have f1 : (us.map fun u => ((none : Option Nat), u)).length ≤ 1000 := f1
    rw [List.length_map] at f1
    exact row_wait hm (uses_good h f1 fun u hu => f2 u (mem_uses hu))
  | send x y us =>
    have f1 : (us.map fun u => ((none : Option Nat), u)).length ≤ 1000 := f1
    rw [List.length_map] at f1
    obtain ⟨h1, h2, h3⟩ := h
    have z : g_are_below [dp [x, y], dn m] = okB true := bel_dns (fun n hn => by
      rcases List.mem_cons.mp hn with rfl | hn
      · exact h1
      · rw [List.mem_singleton.mp hn]; exact h2) (by simp)
    exact row_send hm z fun _ => uses_good h3 f1 fun u hu => f2 u (mem_uses hu)
  | opn x us =>
    have f1 : (us.map fun u => ((none : Option Nat), u)).length ≤ 1000 := f1
    rw [List.length_map] at f1
    exact row_open hm (bel_dn h.1) fun _ => uses_good h.2 f1 fun u hu => f2 u (mem_uses hu)
  | take x ps => exact row_take hm (bel_dn h.1) fun _ => cases_good h.2 f1 fun p hp => f2 p.2 (List.mem_map.mpr ⟨p, hp, rfl⟩)
/-- rows one behind the other -/
inductive Rows : List Nat → List (Nat × Ac) → Prop
  | nil {ms : List Nat} : Rows ms []
  | cons {ms : List Nat} {m : Nat} {a : Ac} {r : List (Nat × Ac)} : m ≤ 24 → GoodA ms m a → Few a → Rows (ms ++ [m]) r → Rows ms ((m, a) :: r)
def encR (q : Nat × Ac) : Dat := .tuple [dn q.1, encA q.2]
def datR (q : Nat × Ac) : Nat × Dat := (q.1, encA q.2)
theorem Rows.ok : ∀ {ms : List Nat} {r : List (Nat × Ac)}, Rows ms r → RowsOk ms (r.map datR)
  | _, _, .nil => .nil
  | _, _, .cons hm h f t => .cons (row_good hm h f) t.ok
theorem rowE_datR (r : List (Nat × Ac)) : (r.map datR).map rowE = r.map encR := by
  rw [List.map_map]
  rfl
theorem fst_datR (r : List (Nat × Ac)) : (r.map datR).map (·.1) = r.map (·.1) := by
  rw [List.map_map]
  rfl
end Pn

set_option maxHeartbeats 2000003
namespace Pn
open L2 PyProof.Rows PySem.Spec PySem
/-! ### depths -/
theorem intL_dn (l : List Nat) : intL (l.map dn) = some (l.map fun n : Nat => (n : Int)) := by
  have := intL_map (l.map fun n : Nat => (n : Int))
  rw [List.map_map] at this
  exact this
theorem topI_dn : ∀ (l : List Nat) (a : Nat), (l.map fun n : Nat => (n : Int)).foldl max (a : Int) = ((l.foldl max a : Nat) : Int)
  | [], a => rfl
  | b :: l, a => by
    rw [List.map_cons, List.foldl_cons, List.foldl_cons]
    have e : max (a : Int) (b : Int) = ((max a b : Nat) : Int) := by omega
    rw [e]
    exact topI_dn l (max a b)
theorem maxDf_dn (l : List Nat) (c : Cfg) : maxDfR 0 (false, l.map dn) c = .ok (dn (l.foldl max 0)) c := by
  unfold maxDfR
  simp only [intL_dn]
  cases l with
  | nil => rfl
  | cons a l =>
    show Res.ok (PyData.int (topI ((a : Int) :: l.map fun n : Nat => (n : Int)))) c = _
    rw [topI, topI_dn, List.foldl_cons, Nat.zero_max]
@[simp] theorem x_negV (m : M Dat) (c : Cfg) : negV m c = M.bind m (fun d => match d with
  | .int i => ret (.int (-i))
  | _ => bad) c := rfl
theorem last2 (b : Bool) (x y : Dat) : ixR (b, [x, y]) (.int (-1)) = ret y := by kernel_rfl
theorem last3 (b : Bool) (x y z : Dat) : ixR (b, [x, y, z]) (.int (-1)) = ret z := by kernel_rfl
theorem last4 (b : Bool) (x y z u : Dat) : ixR (b, [x, y, z, u]) (.int (-1)) = ret u := by kernel_rfl
theorem in_lc {us : List Us} (A : Dat) (hl : us.length ≤ 1000) : lcM [1] (put 1) (ret true) (M.bind (aCons (ret .none) (aCons (rd 1) (aNil))) tupD) (us.map encU) ⟨[.sh A, .no], s0⟩ = .ok (.fr ((us.map fun u => ((none : Option Nat), u)).map encP)) ⟨[.sh A, .no], s0⟩ := by
  have z := lcM_map (b := put 1) (me := M.bind (aCons (ret .none) (aCons (rd 1) (aNil))) tupD) (vs := [1]) (f := fun d => .tuple [.none, d]) (c := ⟨[.sh A, .no], s0⟩) (items := us.map encU) rfl (fun d hd => ⟨⟨[.sh A, .sh d], s0⟩, ⟨[.sh A, .sh d], s0⟩, rfl, by simp, rfl⟩) (by rw [List.length_map]; omega) rfl
  rw [z, List.map_map, List.map_map]
  rfl
theorem run_in {a : Ac} (h : (casesA a).length ≤ 1000) : g_cases_in [encA a] = .ok (.fr ((casesA a).map encP)) := by
  cases a with
  | wait us =>
    have z := in_lc (encA (.wait us)) (us := us) (by simpa [casesA] using h)
    simp only [encA] at z
    simp only [g_cases_in, m_cases_in, encA, casesA]
    simp [last2, z]
  | send x y us =>
    have z := in_lc (encA (.send x y us)) (us := us) (by simpa [casesA] using h)
    simp only [encA] at z
    simp only [g_cases_in, m_cases_in, encA, casesA]
    simp [last4, z]
  | opn x us =>
    have z := in_lc (encA (.opn x us)) (us := us) (by simpa [casesA] using h)
    simp only [encA] at z
    simp only [g_cases_in, m_cases_in, encA, casesA]
    simp [last3, z]
  | take x ps =>
    simp only [g_cases_in, m_cases_in, encA, casesA]
    simp
def dOf (ds : List Nat) (a : Ac) : Nat := 1 + ((casesA a).map fun p => ds.getD p.2.row 0).foldl max 0
def dAll (ds : List Nat) : List (Nat × Ac) → List Nat
  | [] => ds
  | q :: r => dAll (ds ++ [dOf ds q.2]) r
abbrev depC (V R U : Dat) (ds : List Nat) (a b : Sl) : Cfg := ⟨[.sh V, .own (ds.map dn), .sh R, .sh U, a, b, .no], s0⟩
theorem dep_lc {V R U x y : Dat} {ds : List Nat} {ps : List (Option Nat × Us)} (h : ∀ p ∈ ps, p.2.row < ds.length) (hl : ps.length ≤ 1000) :
    lcM [4, 6] (putTup 2 (putCons (put 4) (putCons (put 6) (putNil)))) (ret true) (ixV 1 (ixD (rd 6) (ret (.int 1)))) (ps.map encP) (depC V R U ds (.sh x) (.sh y)) = .ok (.fr ((ps.map fun p => ds.getD p.2.row 0).map dn)) (depC V R U ds (.sh x) (.sh y)) := by
  have pr : ∀ ps : List (Option Nat × Us), (∀ p ∈ ps, p.2.row < ds.length) → Paired (fun d e => ∃ p : Option Nat × Us, d = encP p ∧ p.2.row < ds.length ∧ e = dn (ds.getD p.2.row 0)) (ps.map encP) ((ps.map fun p => ds.getD p.2.row 0).map dn) := by
    intro ps
    induction ps with
    | nil => exact fun _ => .nil
    | cons p ps ih => exact fun h => .cons ⟨p, rfl, h p List.mem_cons_self, rfl⟩ (ih fun q hq => h q (List.mem_cons_of_mem _ hq))
  refine lcM_rel (pr ps h) (fun d e ⟨p, h1, h2, h3⟩ => ?_) rfl (by rw [List.length_map]; omega) rfl
  subst h1 h3
  refine ⟨⟨[.sh V, .own (ds.map dn), .sh R, .sh U, .sh (encC p.1), .sh y, .sh (encU p.2)], s0⟩, ⟨[.sh V, .own (ds.map dn), .sh R, .sh U, .sh (encC p.1), .sh y, .sh (encU p.2)], s0⟩, rfl, ?_, rfl⟩
  have ix : ixR (false, ds.map dn) (dn p.2.row) = ret (dn (ds.getD p.2.row 0)) := ix_ms (by rw [List.getD_eq_getElem?_getD, List.getElem?_eq_getElem h2]; rfl)
  have e1 : ∀ (i : Nat) (b : M Dat) (c : Cfg), ixV i b c = M.bind (rowVar i) (fun _ => M.bind b fun y => M.bind (rowVar i) fun k => ixR k y) c := fun _ _ _ => rfl
  simp [e1, encU, ix]
end Pn

set_option maxHeartbeats 2000003
namespace Pn
open L2 PyProof.Rows PySem.Spec PySem
/-! ### depth_of -/
def depM : M Dat := M.bind (rowX (M.bind (M.bind (frz (callN 1 g_cases_in (aCons (rd 5) (aNil)))) itL) (lcM [4, 6] (putTup 2 (putCons (put 4) (putCons (put 6) (putNil)))) (ret true) (ixV 1 (ixD (rd 6) (ret (.int 1))))))) (maxDfR 0)
def depB : M Ctl := dropS (appV 1 (m2 addI (ret (.int 1)) depM))
def depT : Dat → Cfg → Option Cfg := putTup 2 (putCons (put 4) (putCons (put 5) (putNil)))
theorem dep_put {V R U x y : Dat} {ds : List Nat} {a b : Sl} (ha : Shn a) (hb : Shn b) : depT (.tuple [x, y]) (depC V R U ds a b) = some (depC V R U ds (.sh x) (.sh y)) := by
  rcases ha with rfl | ⟨u, rfl⟩ <;> rcases hb with rfl | ⟨v, rfl⟩ <;> simp [depT]
theorem rows_lt {ms : List Nat} {m : Nat} {a : Ac} (h : GoodA ms m a) : ∀ p ∈ casesA a, p.2.row < ms.length := by
  cases a with
  | wait us =>
    intro p hp
    obtain ⟨u, hu, rfl⟩ := List.mem_map.mp hp
    exact (h u hu).lt
  | send x y us =>
    intro p hp
    obtain ⟨u, hu, rfl⟩ := List.mem_map.mp hp
    exact (h.2.2 u hu).lt
  | opn x us =>
    intro p hp
    obtain ⟨u, hu, rfl⟩ := List.mem_map.mp hp
    exact (h.2 u hu).lt
  | take x ps =>
    intro p hp
    have z := h.2 p hp
    obtain ⟨c, u⟩ := p
    cases c with
    | none => exact GoodU.lt z
    | some n => exact GoodU.lt z.2
theorem dep_one {V R U x : Dat} {ds : List Nat} {a : Ac} (h : ∀ p ∈ casesA a, p.2.row < ds.length) (hl : (casesA a).length ≤ 1000) (hd : ds.length < 90000) : depB (depC V R U ds (.sh x) (.sh (encA a))) = .ok .nx (depC V R U (ds ++ [dOf ds a]) (.sh x) (.sh (encA a))) := by
  have z := dep_lc (V := V) (R := R) (U := U) (x := x) (y := encA a) h hl
  have r := run_in hl
  have hd2 : ds.length < 100000 := by omega
  have mx := fun c => maxDf_dn ((casesA a).map fun p => ds.getD p.2.row 0) c
  have e : depM (depC V R U ds (.sh x) (.sh (encA a))) = .ok (dn (((casesA a).map fun p => ds.getD p.2.row 0).foldl max 0)) (depC V R U ds (.sh x) (.sh (encA a))) := by
    have e1 : M.bind (frz (callN 1 g_cases_in (aCons (rd 5) (aNil)))) itL (depC V R U ds (.sh x) (.sh (encA a))) = .ok ((casesA a).map encP) (depC V R U ds (.sh x) (.sh (encA a))) := by
      simp [r]
    unfold depM
    rw [x_bind, x_rowX, x_bind, x_bind, e1]
    simp only [z]
    exact mx _
  have e2 : (1 : Int) + ((((casesA a).map fun p => ds.getD p.2.row 0).foldl max 0 : Nat) : Int) = ((dOf ds a : Nat) : Int) := by
    unfold dOf
    omega
  simp [depB, held, wr, e, hd2]
  exact e2
theorem dep_for {V R U : Dat} : ∀ (r : List (Nat × Ac)) (ms ds : List Nat) (a b : Sl), Shn a → Shn b → Rows ms r → ms.length = ds.length → ds.length + r.length ≤ 90000 →
    ∃ a' b', forL depT depB (r.map encR) (depC V R U ds a b) = .ok .nx (depC V R U (dAll ds r) a' b')
  | [], ms, ds, a, b, ha, hb, _, _, _ => ⟨a, b, by simp [dAll]⟩
  | (m, x) :: r, ms, ds, a, b, ha, hb, .cons hm h f t, hl, hn => by
    rw [List.length_cons] at hn
    obtain ⟨a', b', e⟩ := dep_for r (ms ++ [m]) (ds ++ [dOf ds x]) (.sh (dn m)) (.sh (encA x)) (.inr ⟨_, rfl⟩) (.inr ⟨_, rfl⟩) t (by simp [hl]) (by rw [List.length_append, List.length_singleton]; omega)
    refine ⟨a', b', ?_⟩
    rw [List.map_cons, x_forC]
    show (match depT (.tuple [dn m, encA x]) _ with
      | none => _
      | some c1 => _) = _
    rw [dep_put ha hb]
    have o := dep_one (V := V) (R := R) (U := U) (x := dn m) (ds := ds) (a := x) (fun p hp => by rw [← hl]; exact rows_lt h p hp) f.1 (by omega)
    simp only [o]
    exact e
end Pn

set_option maxHeartbeats 2000003
namespace Pn
open L2 PyProof.Rows PySem.Spec PySem
/-! ### sentences -/
structure Se where
  rows : List (Nat × Ac)
  use : Us
def encS (s : Se) : Dat := .tuple [.tuple (s.rows.map encR), encU s.use]
structure GoodS (s : Se) : Prop where
  rows : Rows [] s.rows
  use : GoodU (s.rows.map (·.1)) 10 s.use
  few : s.use.names.length ≤ 1000
  len : s.rows.length ≤ 1500
theorem need_good {s : Se} (h : GoodS s) : g_need_sentence [encS s] = .ok (.sh (encS s)) := by
  have z := need_ok h.rows.ok (U := encU s.use) (by rw [fst_datR]; exact use_good h.use h.few) (by rw [List.length_map]; exact h.len)
  rw [rowE_datR] at z
  exact z
theorem dAll_len : ∀ (r : List (Nat × Ac)) (ds : List Nat), (dAll ds r).length = ds.length + r.length
  | [], ds => rfl
  | q :: r, ds => by
    rw [dAll, dAll_len r]
    simp only [List.length_append, List.length_cons, List.length_nil]
    omega
theorem depth_good {s : Se} (h : GoodS s) : g_depth_of [encS s] = .ok (.sh (dn ((dAll [] s.rows).getD s.use.row 0))) := by
  obtain ⟨a', b', e⟩ := dep_for (V := encS s) (R := .tuple (s.rows.map encR)) (U := encU s.use) s.rows [] [] .no .no (.inl rfl) (.inl rfl) h.rows rfl (by have := h.len; rw [List.length_nil]; omega)
  have e : forL depT depB (s.rows.map encR) ⟨[.sh (encS s), .own [], .sh (.tuple (s.rows.map encR)), .sh (encU s.use), .no, .no, .no], s0⟩ = _ := e
  have n := need_good h
  have lt : s.use.row < (dAll [] s.rows).length := by
    rw [dAll_len, List.length_nil, Nat.zero_add]
    have := h.use.lt
    rw [List.length_map] at this
    exact this
  have ix : ixR (false, (dAll [] s.rows).map dn) (dn s.use.row) = ret (dn ((dAll [] s.rows).getD s.use.row 0)) := ix_ms (by rw [List.getD_eq_getElem?_getD, List.getElem?_eq_getElem lt]; rfl)
  have e1 : ∀ (i : Nat) (b : M Dat) (c : Cfg), ixV i b c = M.bind (rowVar i) (fun _ => M.bind b fun y => M.bind (rowVar i) fun k => ixR k y) c := fun _ _ _ => rfl
  unfold depT depB depM at e
  simp only [encS] at n e
  simp only [g_depth_of, m_depth_of, encS]
  simp [n]
  simp only [e]
  simp [e1, encU, ix]
theorem turned_good {s : Se} (h : GoodS s) : g_turned_sentence [encS s] = .ok (.sh (encS ⟨s.rows, ⟨!s.use.t, s.use.row, s.use.names⟩⟩)) := by
  have n := need_good h
  simp only [encS, encU] at n
  simp only [g_turned_sentence, m_turned_sentence, encS, encU]
  simp [n]
theorem GoodS.turn {s : Se} (h : GoodS s) : GoodS ⟨s.rows, ⟨!s.use.t, s.use.row, s.use.names⟩⟩ := ⟨h.rows, h.use, h.few, h.len⟩
end Pn

set_option maxHeartbeats 2000003
namespace Pn
open L2 PyProof.Rows PySem.Spec PySem
/-! ### _law_deep -/
theorem max0_dn (l : List Nat) (c : Cfg) : maxR (false, .int 0 :: l.map dn) c = .ok (dn (l.foldl max 0)) c := by
  have e : intL (.int 0 :: l.map dn) = some (0 :: l.map fun n : Nat => (n : Int)) := by
    rw [intL, intL_dn]
    rfl
  unfold maxR
  simp only [e]
  show Res.ok (PyData.int ((l.map fun n : Nat => (n : Int)).foldl max ((0 : Nat) : Int))) c = _
  rw [topI_dn]
theorem take_lc {R N A : Dat} {ps : List (Option Nat × Us)} (hl : ps.length ≤ 1000) : lcM [4, 5] (putTup 2 (putCons (put 4) (putCons (put 5) (putNil)))) (ret true) (rd 5) (ps.map encP) ⟨[.sh R, .sh N, .sh A, .no, .no, .no], s0⟩ = .ok (.fr ((ps.map (·.2)).map encU)) ⟨[.sh R, .sh N, .sh A, .no, .no, .no], s0⟩ := by
  have pr : ∀ ps : List (Option Nat × Us), Paired (fun d e => ∃ p : Option Nat × Us, d = encP p ∧ e = encU p.2) (ps.map encP) ((ps.map (·.2)).map encU) := by
    intro ps
    induction ps with
    | nil => exact .nil
    | cons p ps ih => exact .cons ⟨p, rfl, rfl⟩ ih
  refine lcM_rel (pr ps) (fun d e ⟨p, h1, h2⟩ => ?_) rfl (by rw [List.length_map]; omega) rfl
  subst h1 h2
  exact ⟨⟨[.sh R, .sh N, .sh A, .no, .sh (encC p.1), .sh (encU p.2)], s0⟩, ⟨[.sh R, .sh N, .sh A, .no, .sh (encC p.1), .sh (encU p.2)], s0⟩, rfl, rfl, rfl⟩
def deepM : M Dat := ifE (toB (m2 eqD (ixD (rd 2) (ret (.int 0))) (ret (.str "take")))) (frz (M.bind (M.bind (ixD (rd 2) (ret (.int 2))) itT) (lcM [4, 5] (putTup 2 (putCons (put 4) (putCons (put 5) (putNil)))) (ret true) (rd 5)))) (frz (M.bind (rowD (ixD (rd 2) (negV (ret (.int 1))))) lstR))
theorem deep_uses {R N : Dat} {a : Ac} (h : (casesA a).length ≤ 1000) : deepM ⟨[.sh R, .sh N, .sh (encA a), .no, .no, .no], s0⟩ = .ok (.list ((usesA a).map encU)) ⟨[.sh R, .sh N, .sh (encA a), .no, .no, .no], s0⟩ := by
  have m : ∀ us : List Us, (us.map fun u => ((none : Option Nat), u)).map (·.2) = us := fun us => by
    rw [List.map_map]
    exact List.map_id us
  cases a with
  | wait us => simp [deepM, encA, usesA, casesA, last2, m]
  | send x y us => simp [deepM, encA, usesA, casesA, last4, m]
  | opn x us => simp [deepM, encA, usesA, casesA, last3, m]
  | take x ps =>
    have z := take_lc (R := R) (N := N) (A := encA (.take x ps)) h
    simp only [casesA, encA] at z
    simp [deepM, encA, usesA, casesA, z]
def deepA : M RV := asx (ixD (ixD (rd 0) (rd 1)) (ret (.int 1)))
def deepX (rec : List Dat → PR) : M Dat := M.bind (rowX (M.bind (frz (M.bind (aCons (ret (.int 0)) (aNil)) lstD)) fun x => M.bind (frz (M.bind (M.bind (rd 3) itL) (lcM [5] (put 5) (ret true) (frz (callN 2 rec (aCons (rd 0) (aCons (ixD (rd 5) (ret (.int 1))) (aNil)))))))) fun y => catD x y)) maxR
theorem deep_eq (rec : List Dat → PR) : m__law_deep rec = seq (M.bind deepA (asg 2)) (seq (M.bind (asx deepM) (asg 3)) (retS (asx (m2 addI (ret (.int 1)) (deepX rec))))) := rfl
/-- what the depths tell -/
def DepOf (rows : List (Nat × Ac)) (D : List Nat) : Prop := ∀ k q, rows[k]? = some q → D.getD k 0 = 1 + ((casesA q.2).map fun p => D.getD p.2.row 0).foldl max 0 ∧ (casesA q.2).length ≤ 1000 ∧ ∀ p ∈ casesA q.2, p.2.row < rows.length
theorem le_top (l : List Nat) : ∀ (a x : Nat), (x ∈ l ∨ x ≤ a) → x ≤ l.foldl max a := by
  induction l with
  | nil => intro a x h; exact h.elim (fun z => nomatch z) id
  | cons b l ih =>
    intro a x h
    refine ih (max a b) x ?_
    rcases h with h | h
    · (rcases List.mem_cons.mp h with rfl | h)
      · exact .inr (Nat.le_max_right _ _)
      · exact .inl h
    · exact .inr (Nat.le_trans h (Nat.le_max_left _ _))
theorem deep_run {rows : List (Nat × Ac)} {D : List Nat} (hD : DepOf rows D) : ∀ (f k : Nat), k < rows.length → D.getD k 0 ≤ f → g__law_deep f [.tuple (rows.map encR), dn k] = .ok (.sh (dn (D.getD k 0)))
  | 0, k, hk, h => by
    have := (hD k rows[k] (List.getElem?_eq_getElem hk)).1
    omega
  | f + 1, k, hk, h => by
    obtain ⟨h1, h2, h3⟩ := hD k rows[k] (List.getElem?_eq_getElem hk)
    have ih : ∀ p ∈ casesA rows[k].2, g__law_deep f [.tuple (rows.map encR), dn p.2.row] = .ok (.sh (dn (D.getD p.2.row 0))) := fun p hp => by
      refine deep_run hD f _ (h3 p hp) ?_
      have := le_top ((casesA rows[k].2).map fun p => D.getD p.2.row 0) 0 (D.getD p.2.row 0) (.inl (List.mem_map.mpr ⟨p, hp, rfl⟩))
      omega
    have ix : ixR (true, rows.map encR) (dn k) = ret (encR rows[k]) := ixR_nat (by rw [List.getElem?_map, List.getElem?_eq_getElem hk]; rfl)
    have u := deep_uses (R := .tuple (rows.map encR)) (N := dn k) h2
    have pr : ∀ ps : List (Option Nat × Us), (∀ p ∈ ps, g__law_deep f [.tuple (rows.map encR), dn p.2.row] = .ok (.sh (dn (D.getD p.2.row 0)))) → Paired (fun d e => ∃ p : Option Nat × Us, d = encU p.2 ∧ e = dn (D.getD p.2.row 0) ∧ g__law_deep f [.tuple (rows.map encR), dn p.2.row] = .ok (.sh (dn (D.getD p.2.row 0)))) ((ps.map (·.2)).map encU) ((ps.map fun p => D.getD p.2.row 0).map dn) := by
      intro ps
      induction ps with
      | nil => exact fun _ => .nil
      | cons p ps ih => exact fun h => .cons ⟨p, rfl, rfl, h p List.mem_cons_self⟩ (ih fun q hq => h q (List.mem_cons_of_mem _ hq))
    have lc : lcM [5] (put 5) (ret true) (frz (callN 2 (g__law_deep f) (aCons (rd 0) (aCons (ixD (rd 5) (ret (.int 1))) (aNil))))) ((usesA rows[k].2).map encU) ⟨[.sh (.tuple (rows.map encR)), .sh (dn k), .sh (encA rows[k].2), .sh (.list ((usesA rows[k].2).map encU)), .no, .no], s0⟩ = .ok (.fr (((casesA rows[k].2).map fun p => D.getD p.2.row 0).map dn)) ⟨[.sh (.tuple (rows.map encR)), .sh (dn k), .sh (encA rows[k].2), .sh (.list ((usesA rows[k].2).map encU)), .no, .no], s0⟩ := by
      refine lcM_rel (pr _ ih) (fun d e ⟨p, q1, q2, q3⟩ => ?_) rfl (by rw [List.length_map]; unfold usesA; rw [List.length_map]; omega) rfl
      subst q1 q2
      refine ⟨⟨[.sh (.tuple (rows.map encR)), .sh (dn k), .sh (encA rows[k].2), .sh (.list ((usesA rows[k].2).map encU)), .no, .sh (encU p.2)], s0⟩, ⟨[.sh (.tuple (rows.map encR)), .sh (dn k), .sh (encA rows[k].2), .sh (.list ((usesA rows[k].2).map encU)), .no, .sh (encU p.2)], s0⟩, rfl, ?_, rfl⟩
      simp only [encU]
      simp [q3]
    have ct := x_catL [.int 0] (((casesA rows[k].2).map fun p => D.getD p.2.row 0).map dn) (by simp) (by rw [List.length_map, List.length_map]; omega)
    have mx := fun c => max0_dn ((casesA rows[k].2).map fun p => D.getD p.2.row 0) c
    have e2 : (1 : Int) + ((((casesA rows[k].2).map fun p => D.getD p.2.row 0).foldl max 0 : Nat) : Int) = ((D.getD k 0 : Nat) : Int) := by omega
    rw [List.singleton_append] at ct
    have a1 : deepA ⟨[Sl.sh (.tuple (rows.map encR)), Sl.sh (dn k), .no, .no, .no, .no], s0⟩ = .ok (.sh (encA rows[k].2)) ⟨[Sl.sh (.tuple (rows.map encR)), Sl.sh (dn k), .no, .no, .no, .no], s0⟩ := by
      simp only [encR] at ix
      simp [deepA, encR, ix]
    have x1 : deepX (g__law_deep f) ⟨[.sh (.tuple (rows.map encR)), .sh (dn k), .sh (encA rows[k].2), .sh (.list ((usesA rows[k].2).map encU)), .no, .no], s0⟩ = .ok (dn (((casesA rows[k].2).map fun p => D.getD p.2.row 0).foldl max 0)) ⟨[.sh (.tuple (rows.map encR)), .sh (dn k), .sh (encA rows[k].2), .sh (.list ((usesA rows[k].2).map encU)), .no, .no], s0⟩ := by
      have b1 : frz (M.bind (M.bind (rd 3) itL) (lcM [5] (put 5) (ret true) (frz (callN 2 (g__law_deep f) (aCons (rd 0) (aCons (ixD (rd 5) (ret (.int 1))) (aNil))))))) ⟨[.sh (.tuple (rows.map encR)), .sh (dn k), .sh (encA rows[k].2), .sh (.list ((usesA rows[k].2).map encU)), .no, .no], s0⟩ = .ok (.list (((casesA rows[k].2).map fun p => D.getD p.2.row 0).map dn)) ⟨[.sh (.tuple (rows.map encR)), .sh (dn k), .sh (encA rows[k].2), .sh (.list ((usesA rows[k].2).map encU)), .no, .no], s0⟩ := by
        have b0 : M.bind (rd 3) itL ⟨[.sh (.tuple (rows.map encR)), .sh (dn k), .sh (encA rows[k].2), .sh (.list ((usesA rows[k].2).map encU)), .no, .no], s0⟩ = .ok ((usesA rows[k].2).map encU) ⟨[.sh (.tuple (rows.map encR)), .sh (dn k), .sh (encA rows[k].2), .sh (.list ((usesA rows[k].2).map encU)), .no, .no], s0⟩ := by simp
        rw [x_frz, x_bind, x_bind, b0]
        simp only [lc]
        rfl
      have b2 : frz (M.bind (aCons (ret (.int 0)) (aNil)) lstD) ⟨[.sh (.tuple (rows.map encR)), .sh (dn k), .sh (encA rows[k].2), .sh (.list ((usesA rows[k].2).map encU)), .no, .no], s0⟩ = .ok (.list [.int 0]) ⟨[.sh (.tuple (rows.map encR)), .sh (dn k), .sh (encA rows[k].2), .sh (.list ((usesA rows[k].2).map encU)), .no, .no], s0⟩ := by simp
      unfold deepX
      rw [x_bind, x_rowX, x_bind, x_bind, b2]
      dsimp only
      rw [x_bind, b1]
      dsimp only
      rw [ct]
      exact mx _
    show runP 6 (m__law_deep (g__law_deep f)) _ = _
    rw [deep_eq]
    simp [a1, u, x1]
    exact e2
end Pn

set_option maxHeartbeats 2000003
namespace Pn
open L2 PyProof.Rows PySem.Spec PySem
theorem dAll_pre : ∀ (r : List (Nat × Ac)) (ds : List Nat) (i : Nat), i < ds.length → (dAll ds r).getD i 0 = ds.getD i 0
  | [], ds, i, h => rfl
  | q :: r, ds, i, h => by
    rw [dAll, dAll_pre r _ i (by rw [List.length_append]; omega), List.getD_eq_getElem?_getD, List.getD_eq_getElem?_getD, List.getElem?_append_left h]
theorem dAll_get : ∀ (r : List (Nat × Ac)) (ms ds : List Nat), Rows ms r → ms.length = ds.length → ∀ (j : Nat) (q : Nat × Ac), r[j]? = some q →
    (dAll ds r).getD (ds.length + j) 0 = 1 + ((casesA q.2).map fun p => (dAll ds r).getD p.2.row 0).foldl max 0 ∧ (casesA q.2).length ≤ 1000 ∧ ∀ p ∈ casesA q.2, p.2.row < ds.length + j
  | [], _, _, _, _, j, q, e => by simp at e
  | (m, a) :: r, ms, ds, .cons hm h f t, hl, 0, q, e => by
    have e : (m, a) = q := by simpa using e
    subst e
    have lt : ∀ p ∈ casesA a, p.2.row < ds.length := fun p hp => by rw [← hl]; exact rows_lt h p hp
    refine ⟨?_, f.1, fun p hp => by have := lt p hp; omega⟩
    rw [dAll, dAll_pre r _ _ (by rw [List.length_append, List.length_singleton]; omega), List.getD_eq_getElem?_getD, Nat.add_zero, List.getElem?_append_right (Nat.le_refl _), Nat.sub_self]
    have e : ((casesA a).map fun p => ds.getD p.2.row 0) = (casesA a).map fun p => (dAll (ds ++ [dOf ds a]) r).getD p.2.row 0 := by
      (refine List.map_congr_left fun p hp => ?_)
      have := lt p hp
      rw [dAll_pre r _ _ (by rw [List.length_append]; omega), List.getD_eq_getElem?_getD, List.getD_eq_getElem?_getD, List.getElem?_append_left this]
    show dOf ds a = 1 + ((casesA a).map fun p => (dAll (ds ++ [dOf ds a]) r).getD p.2.row 0).foldl max 0
    rw [← e]
    rfl
  | (m, a) :: r, ms, ds, .cons hm h f t, hl, j + 1, q, e => by
    have e : r[j]? = some q := by simpa using e
    obtain ⟨h1, h2, h3⟩ := dAll_get r (ms ++ [m]) (ds ++ [dOf ds a]) t (by simp [hl]) j q e
    have el : (ds ++ [dOf ds a]).length + j = ds.length + (j + 1) := by rw [List.length_append, List.length_singleton]; omega
    rw [el] at h1 h3
    exact ⟨h1, h2, h3⟩
theorem dep_of {r : List (Nat × Ac)} (h : Rows [] r) : DepOf r (dAll [] r) := fun k q e => by
  obtain ⟨h1, h2, h3⟩ := dAll_get r [] [] h rfl k q e
  have lk := (List.getElem?_eq_some_iff.mp e).1
  rw [List.length_nil, Nat.zero_add] at h1 h3
  exact ⟨h1, h2, fun p hp => by have := h3 p hp; omega⟩
/-! ### the same cases -/
def sameA (a : Ac) : Bool := match (casesA a).map (·.1) with
  | [] => true
  | c :: l => l.all fun x => x == c
theorem shaped_C (c : Option Nat) : SeqAt.shaped (encC c) = true := by
  cases c <;> rfl
theorem ne_C (c d : Option Nat) : neD (encC c) (encC d) = ret (.bool (!(c == d))) := by
  cases c with
  | none =>
    cases d with
    | none => rfl
    | some n => rfl
  | some m =>
    cases d with
    | none => rfl
    | some n =>
      have e : (((m : Int) == (n : Int)) : Bool) = (some m == some n) := by
        by_cases h : m = n
        · subst h; simp
        · have h2 : ¬ (m : Int) = (n : Int) := by omega
          rw [show (((m : Int) == (n : Int)) : Bool) = false from beq_eq_false_iff_ne.mpr h2, show (some m == some n) = false from beq_eq_false_iff_ne.mpr (by simpa using h)]
      show neD (.int (m : Int)) (.int (n : Int)) = _
      rw [x_neI, e]
end Pn

set_option maxHeartbeats 2000003
namespace Pn
open L2 PyProof.Rows PySem.Spec PySem
/-! ### is_early -/
def eaC : M Dat := frz (M.bind (M.bind (frz (callN 1 g_cases_in (aCons (rd 3) (aNil)))) itL) (lcM [5, 2] (putTup 2 (putCons (put 5) (putCons (put 2) (putNil)))) (ret true) (rd 5)))
def eaA : M Dat := M.bind (rowX (M.bind (M.bind (rd 4) itL) (lcM [5] (put 5) (ret true) (m2 neD (rd 5) (ixD (rd 4) (ret (.int 0))))))) anyR
def earlyB : M Ctl := seq (M.bind (asx eaC) (asg 4)) (ifS (toB eaA) (retS (asx (ret (.bool false)))) (ret .nx))
def earlyT : Dat → Cfg → Option Cfg := putTup 2 (putCons (put 2) (putCons (put 3) (putNil)))
abbrev eaX (V R : Dat) (x y z : Sl) : Cfg := ⟨[.sh V, .sh R, x, y, z, .no], s0⟩
theorem ea_cases {V R x : Dat} {z : Sl} {a : Ac} (h : (casesA a).length ≤ 1000) : eaC (eaX V R (.sh x) (.sh (encA a)) z) = .ok (.list ((casesA a).map fun p => encC p.1)) (eaX V R (.sh x) (.sh (encA a)) z) := by
  have r := run_in h
  have pr : ∀ ps : List (Option Nat × Us), Paired (fun d e => ∃ p : Option Nat × Us, d = encP p ∧ e = encC p.1) (ps.map encP) (ps.map fun p => encC p.1) := by
    intro ps
    induction ps with
    | nil => exact .nil
    | cons p ps ih => exact .cons ⟨p, rfl, rfl⟩ ih
  have lc : lcM [5, 2] (putTup 2 (putCons (put 5) (putCons (put 2) (putNil)))) (ret true) (rd 5) ((casesA a).map encP) (eaX V R (.sh x) (.sh (encA a)) z) = .ok (.fr ((casesA a).map fun p => encC p.1)) (eaX V R (.sh x) (.sh (encA a)) z) := by
    refine lcM_rel (pr _) (fun d e ⟨p, h1, h2⟩ => ?_) rfl (by rw [List.length_map]; omega) rfl
    subst h1 h2
    exact ⟨⟨[.sh V, .sh R, .sh (encU p.2), .sh (encA a), z, .sh (encC p.1)], s0⟩, ⟨[.sh V, .sh R, .sh (encU p.2), .sh (encA a), z, .sh (encC p.1)], s0⟩, rfl, rfl, rfl⟩
  have e1 : M.bind (frz (callN 1 g_cases_in (aCons (rd 3) (aNil)))) itL (eaX V R (.sh x) (.sh (encA a)) z) = .ok ((casesA a).map encP) (eaX V R (.sh x) (.sh (encA a)) z) := by
    simp [r]
  unfold eaC
  rw [x_frz, x_bind, x_bind, e1]
  simp only [lc]
  rfl
theorem any_map (f : Option Nat × Us → Bool) (l : List (Option Nat × Us)) (c : Cfg) : anyR (false, l.map fun p => PyData.bool (f p)) c = .ok (.bool (l.any f)) c := by
  have b : ∀ l : List (Option Nat × Us), bools (l.map fun p => PyData.bool (f p)) = some (l.map f) := by
    intro l
    induction l with
    | nil => rfl
    | cons d l ih =>
      rw [List.map_cons, List.map_cons, bools, ih]
      rfl
  unfold anyR
  simp only [b]
  show Res.ok (PyData.bool ((l.map f).any id)) c = _
  rw [List.any_map]
  rfl
/-- two cases are not the same -/
def twoA (a : Ac) : Bool := (casesA a).any fun p => !(p.1 == ((casesA a).head?.map (·.1)).getD none)
theorem ea_any {V R : Dat} {x y : Sl} {a : Ac} (h : (casesA a).length ≤ 1000) : eaA (eaX V R x y (.sh (.list ((casesA a).map fun p => encC p.1)))) = .ok (.bool (twoA a)) (eaX V R x y (.sh (.list ((casesA a).map fun p => encC p.1)))) := by
  have pr : ∀ ps : List (Option Nat × Us), (∀ p ∈ ps, p ∈ casesA a) → Paired (fun d e => ∃ p ∈ casesA a, d = encC p.1 ∧ e = PyData.bool (!(p.1 == ((casesA a).head?.map (·.1)).getD none))) (ps.map fun p => encC p.1) (ps.map fun p => PyData.bool (!(p.1 == ((casesA a).head?.map (·.1)).getD none))) := by
    intro ps
    induction ps with
    | nil => exact fun _ => .nil
    | cons p ps ih => exact fun h => .cons ⟨p, h p List.mem_cons_self, rfl, rfl⟩ (ih fun q hq => h q (List.mem_cons_of_mem _ hq))
  have lc : lcM [5] (put 5) (ret true) (m2 neD (rd 5) (ixD (rd 4) (ret (.int 0)))) ((casesA a).map fun p => encC p.1) (eaX V R x y (.sh (.list ((casesA a).map fun p => encC p.1)))) = .ok (.fr ((casesA a).map fun p => PyData.bool (!(p.1 == ((casesA a).head?.map (·.1)).getD none)))) (eaX V R x y (.sh (.list ((casesA a).map fun p => encC p.1)))) := by
    refine lcM_rel (pr _ fun p hp => hp) (fun d e ⟨p, hp, h1, h2⟩ => ?_) rfl (by rw [List.length_map]; omega) rfl
    subst h1 h2
    refine ⟨⟨[.sh V, .sh R, x, y, .sh (.list ((casesA a).map fun p => encC p.1)), .sh (encC p.1)], s0⟩, ⟨[.sh V, .sh R, x, y, .sh (.list ((casesA a).map fun p => encC p.1)), .sh (encC p.1)], s0⟩, rfl, ?_, rfl⟩
    cases hc : casesA a with
    | nil => rw [hc] at hp; cases hp
    | cons q l => simp [ne_C]
  unfold eaA
  rw [x_bind, x_rowX, x_bind, x_bind]
  have e1 : rd 4 (eaX V R x y (.sh (.list ((casesA a).map fun p => encC p.1)))) = .ok (.list ((casesA a).map fun p => encC p.1)) (eaX V R x y (.sh (.list ((casesA a).map fun p => encC p.1)))) := rfl
  rw [x_bind, e1]
  simp only [x_itL, x_ret, lc]
  exact any_map _ _ _
end Pn

set_option maxHeartbeats 2000003
namespace Pn
open L2 PyProof.Rows PySem.Spec PySem
theorem ea_put {V R x y : Dat} {a b z : Sl} (ha : Shn a) (hb : Shn b) : earlyT (.tuple [x, y]) (eaX V R a b z) = some (eaX V R (.sh x) (.sh y) z) := by
  rcases ha with rfl | ⟨u, rfl⟩ <;> rcases hb with rfl | ⟨v, rfl⟩ <;> simp [earlyT]
theorem ea_one {V R x : Dat} {z : Sl} {a : Ac} (hz : Shn z) (h : (casesA a).length ≤ 1000) : earlyB (eaX V R (.sh x) (.sh (encA a)) z) = .ok (if twoA a = true then .rt (.sh (.bool false)) else .nx) (eaX V R (.sh x) (.sh (encA a)) (.sh (.list ((casesA a).map fun p => encC p.1)))) := by
  have e1 := ea_cases (V := V) (R := R) (x := x) (z := z) h
  have e2 := ea_any (V := V) (R := R) (x := .sh x) (y := .sh (encA a)) h
  rcases hz with rfl | ⟨u, rfl⟩ <;> cases ht : twoA a <;> simp [earlyB, e1, e2, ht]
theorem early_for {V R : Dat} : ∀ (r : List (Nat × Ac)) (x y z : Sl), Shn x → Shn y → Shn z → (∀ q ∈ r, (casesA q.2).length ≤ 1000) →
    ∃ c, forL earlyT earlyB (r.map encR) (eaX V R x y z) = .ok (if r.any (fun q => twoA q.2) = true then .rt (.sh (.bool false)) else .nx) c
  | [], x, y, z, _, _, _, _ => ⟨_, rfl⟩
  | (m, a) :: r, x, y, z, hx, hy, hz, h => by
    obtain ⟨c, e⟩ := early_for (V := V) (R := R) r (.sh (dn m)) (.sh (encA a)) (.sh (.list ((casesA a).map fun p => encC p.1))) (.inr ⟨_, rfl⟩) (.inr ⟨_, rfl⟩) (.inr ⟨_, rfl⟩) fun q hq => h q (List.mem_cons_of_mem _ hq)
    have o := ea_one (V := V) (R := R) (x := dn m) (z := z) hz (h (m, a) List.mem_cons_self)
    have p : earlyT (encR (m, a)) (eaX V R x y z) = some (eaX V R (.sh (dn m)) (.sh (encA a)) z) := ea_put hx hy
    rw [List.map_cons, x_forC, p]
    simp only [o]
    cases ht : twoA a with
    | true => exact ⟨eaX V R (.sh (dn m)) (.sh (encA a)) (.sh (.list ((casesA a).map fun p => encC p.1))), by simp [ht]⟩
    | false =>
      have e3 : ((m, a) :: r).any (fun q => twoA q.2) = r.any (fun q => twoA q.2) := by
        rw [List.any_cons]
        show (twoA a || _) = _
        rw [ht]
        rfl
      refine ⟨c, ?_⟩
      rw [e3]
      simp [ht, e]
theorem early_good {s : Se} (h : GoodS s) (hc : ∀ q ∈ s.rows, (casesA q.2).length ≤ 1000) : g_is_early [encS s] = .ok (.sh (.bool (!s.rows.any fun q => twoA q.2))) := by
  obtain ⟨c, e⟩ := early_for (V := encS s) (R := .tuple (s.rows.map encR)) s.rows (.sh (encU s.use)) .no .no (.inr ⟨_, rfl⟩) (.inl rfl) (.inl rfl) hc
  have n := need_good h
  have q : m_is_early = seq (M.bind (frz (callN 1 g_need_sentence (aCons (rd 0) (aNil)))) (tgtM (putTup 2 (putCons (put 1) (putCons (put 2) (putNil)))))) (seq (M.bind (M.bind (rd 1) itT) fun items => forL earlyT earlyB items) (retS (asx (ret (.bool true))))) := rfl
  show runP 6 m_is_early _ = _
  rw [q]
  simp only [encS] at n e
  simp only [encS]
  simp [n]
  simp only [e]
  cases s.rows.any fun q => twoA q.2 <;> rfl
end Pn

set_option maxHeartbeats 2000003
namespace Pn
open L2 PyProof.Rows PySem.Spec PySem
theorem lay_dns : ∀ l : List Nat, PyData.canLayAll0 (l.map dn) = true
  | [] => rfl
  | _ :: l => by
    rw [List.map_cons, PyData.canLayAll0, lay_dns l]
    rfl
theorem dep_dns : ∀ l : List Nat, PyData.depthAll (l.map dn) = 0
  | [] => rfl
  | _ :: l => by
    rw [List.map_cons, PyData.depthAll, dep_dns l]
    rfl
theorem lay_U (u : Us) : (encU u).canLay0 = true := by
  show PyData.canLayAll0 [.bool u.t, dn u.row, dp u.names] = true
  have : (dp u.names).canLay0 = true := lay_dns u.names
  simp only [PyData.canLayAll0, this]
  rfl
theorem dep_U (u : Us) : (encU u).depth ≤ 2 := by
  have h : (dp u.names).depth = 1 := by
    show PyData.depth (.tuple (u.names.map dn)) = 1
    rw [PyData.depth, dep_dns]
  unfold encU
  simp only [PyData.depth, PyData.depthAll, dep_dns]
  omega
theorem lay_P (p : Option Nat × Us) : (encP p).canLay0 = true := by
  show PyData.canLayAll0 [encC p.1, encU p.2] = true
  have c : (encC p.1).canLay0 = true := by cases p.1 <;> rfl
  simp only [PyData.canLayAll0, lay_U, c]
  rfl
theorem dep_P (p : Option Nat × Us) : (encP p).depth ≤ 3 := by
  have u := dep_U p.2
  have c : (encC p.1).depth = 0 := by cases p.1 <;> rfl
  unfold encP
  simp only [PyData.depth, PyData.depthAll, c]
  omega
theorem lay_Ps : ∀ l : List (Option Nat × Us), PyData.canLayAll0 (l.map encP) = true
  | [] => rfl
  | p :: l => by
    rw [List.map_cons, PyData.canLayAll0, lay_Ps l, lay_P]
    rfl
theorem dep_Ps : ∀ l : List (Option Nat × Us), PyData.depthAll (l.map encP) ≤ 3
  | [] => Nat.zero_le _
  | p :: l => by
    have a := dep_Ps l
    have b := dep_P p
    (rw [List.map_cons, PyData.depthAll])
    omega
theorem shaped_Ps (l : List (Option Nat × Us)) : SeqAt.shaped (.tuple (l.map encP)) = true := by
  unfold SeqAt.shaped
  have a : (PyData.tuple (l.map encP)).canLay0 = true := lay_Ps l
  have b := dep_Ps l
  rw [a, PyData.depth]
  (exact decide_eq_true (by omega))
theorem ne_Ps (l : List (Option Nat × Us)) : neD (.tuple (l.map encP)) (.tuple []) = ret (.bool (!l.isEmpty)) := by
  unfold neD
  rw [shaped_Ps, show SeqAt.shaped (.tuple []) = true from rfl]
  cases l with
  | nil => rfl
  | cons p l => rfl
end Pn

set_option maxHeartbeats 2000003
namespace Pn
open L2 PyProof.Rows PySem.Spec PySem
/-! ### _law_same_cases -/
def decC : Dat → Option Nat
  | .int i => some i.toNat
  | _ => none
theorem decC_enc (c : Option Nat) : decC (encC c) = c := by
  cases c <;> rfl
def tC (c0 : Option Nat) : Dat → Bool
  | .tuple (c :: _) => !(decC c == c0)
  | _ => false
def scL : List Dat → M RV := lcM [3, 4] (putTup 2 (putCons (put 3) (putCons (put 4) (putNil)))) (toB (m2 neD (rd 3) (ixD (ixD (ixD (rd 2) (ret (.int 2))) (ret (.int 0))) (ret (.int 0))))) (ret (.int 1))
def scN : M Dat := m2 neD (frz (M.bind (M.bind (ixD (rd 2) (ret (.int 2))) itT) scL)) (frz (M.bind (aNil) lstD))
def scB : M Ctl := ifS (andB (toB (m2 eqD (ixD (rd 2) (ret (.int 0))) (ret (.str "take")))) (toB (m2 neD (ixD (rd 2) (ret (.int 2))) (M.bind (aNil) tupD)))) (ifS (toB scN) (retS (asx (ret (.bool false)))) (ret .nx)) (ret .nx)
def scT : Dat → Cfg → Option Cfg := putTup 2 (putCons (put 1) (putCons (put 2) (putNil)))
abbrev scC (R : Dat) (x y : Sl) : Cfg := ⟨[.sh R, x, y, .no, .no], s0⟩
theorem sc_lc {R : Dat} {x : Sl} {n : Nat} {p : Option Nat × Us} {ps : List (Option Nat × Us)} (hl : (p :: ps).length ≤ 1000) : scL ((p :: ps).map encP) (scC R x (.sh (encA (.take n (p :: ps))))) = .ok (.fr ((((p :: ps).map encP).filter (tC p.1)).map fun _ => PyData.int 1)) (scC R x (.sh (encA (.take n (p :: ps))))) := by
  unfold scL
  refine lcM_sift (f := fun _ => PyData.int 1) rfl (fun d hd => ?_) (by rw [List.length_map]; omega) rfl
  obtain ⟨q, _, rfl⟩ := List.mem_map.mp hd
  refine ⟨⟨[.sh R, x, .sh (encA (.take n (p :: ps))), .sh (encC q.1), .sh (encU q.2)], s0⟩, ⟨[.sh R, x, .sh (encA (.take n (p :: ps))), .sh (encC q.1), .sh (encU q.2)], s0⟩, ⟨[.sh R, x, .sh (encA (.take n (p :: ps))), .sh (encC q.1), .sh (encU q.2)], s0⟩, rfl, ?_, fun _ => ⟨rfl, rfl⟩, fun _ => rfl⟩
  have t : tC p.1 (encP q) = !(q.1 == p.1) := by
    show (!(decC (encC q.1) == p.1)) = _
    rw [decC_enc]
  rw [t]
  simp only [encA, List.map_cons]
  simp [encP, ne_C]
theorem ne_ones (l : List Dat) : neD (.list (l.map fun _ => PyData.int 1)) (.list []) = ret (.bool (!l.isEmpty)) := by
  have a : ∀ l : List Dat, PyData.canLayAll0 (l.map fun _ => PyData.int 1) = true := by
    intro l
    induction l with
    | nil => rfl
    | cons x l ih =>
      rw [List.map_cons, PyData.canLayAll0, ih]
      rfl
  have b : ∀ l : List Dat, PyData.depthAll (l.map fun _ => PyData.int 1) = 0 := by
    intro l
    induction l with
    | nil => rfl
    | cons x l ih =>
      rw [List.map_cons, PyData.depthAll, ih]
      rfl
  have s : SeqAt.shaped (.list (l.map fun _ => PyData.int 1)) = true := by
    unfold SeqAt.shaped
    rw [PyData.canLay0, PyData.depth, a, b]
    rfl
  unfold neD
  rw [s, show SeqAt.shaped (.list []) = true from rfl]
  cases l with
  | nil => rfl
  | cons p l => rfl
theorem filt_two (c0 : Option Nat) : ∀ l : List (Option Nat × Us), (!((l.map encP).filter (tC c0)).isEmpty) = l.any fun p => !(p.1 == c0)
  | [] => rfl
  | q :: l => by
    have t : tC c0 (encP q) = !(q.1 == c0) := by
      show (!(decC (encC q.1) == c0)) = _
      rw [decC_enc]
    have ih := filt_two c0 l
    rw [List.map_cons, List.filter_cons, List.any_cons, t]
    cases (q.1 == c0) with
    | true => simpa using ih
    | false => rfl
end Pn

set_option maxHeartbeats 2000003
namespace Pn
open L2 PyProof.Rows PySem.Spec PySem
theorem two_none (us : List Us) : ((us.map fun u => ((none : Option Nat), u)).any fun p => !(p.1 == (((us.map fun u => ((none : Option Nat), u)).head?.map (·.1)).getD none))) = false := by
  have h : (((us.map fun u => ((none : Option Nat), u)).head?.map (·.1)).getD none) = none := by
    cases us <;> rfl
  rw [h, List.any_map]
  induction us with
  | nil => rfl
  | cons u us ih =>
    rw [List.any_cons, ih (by cases us <;> rfl)]
    rfl
theorem sc_n {R : Dat} {x : Sl} {n : Nat} {p : Option Nat × Us} {ps : List (Option Nat × Us)} (hl : (p :: ps).length ≤ 1000) : scN (scC R x (.sh (encA (.take n (p :: ps))))) = .ok (.bool (twoA (.take n (p :: ps)))) (scC R x (.sh (encA (.take n (p :: ps))))) := by
  have z := sc_lc (R := R) (x := x) (n := n) hl
  have ix : M.bind (ixD (rd 2) (ret (.int 2))) itT (scC R x (.sh (encA (.take n (p :: ps))))) = .ok ((p :: ps).map encP) (scC R x (.sh (encA (.take n (p :: ps))))) := by
    simp [encA]
  have f := filt_two p.1 (p :: ps)
  have e : twoA (.take n (p :: ps)) = (p :: ps).any fun q => !(q.1 == p.1) := rfl
  have b1 : frz (M.bind (M.bind (ixD (rd 2) (ret (.int 2))) itT) scL) (scC R x (.sh (encA (.take n (p :: ps))))) = .ok (.list ((((p :: ps).map encP).filter (tC p.1)).map fun _ => PyData.int 1)) (scC R x (.sh (encA (.take n (p :: ps))))) := by
    rw [x_frz, x_bind, x_bind, ix]
    simp only [z]
    rfl
  have b2 : frz (M.bind (aNil) lstD) (scC R x (.sh (encA (.take n (p :: ps))))) = .ok (.list []) (scC R x (.sh (encA (.take n (p :: ps))))) := by simp
  unfold scN
  rw [x_m2, x_bind, b1]
  dsimp only
  rw [x_bind, b2]
  dsimp only
  rw [ne_ones, f, e]
  rfl
theorem sc_one {R : Dat} {x : Sl} {a : Ac} (hl : (casesA a).length ≤ 1000) : scB (scC R x (.sh (encA a))) = .ok (if twoA a = true then .rt (.sh (.bool false)) else .nx) (scC R x (.sh (encA a))) := by
  cases a with
  | wait us =>
    have t : twoA (.wait us) = false := two_none us
    simp [scB, encA, t]
  | send m n us =>
    have t : twoA (.send m n us) = false := two_none us
    simp [scB, encA, t]
  | opn m us =>
    have t : twoA (.opn m us) = false := two_none us
    simp [scB, encA, t]
  | take n ps =>
    cases ps with
    | nil =>
      have z := ne_Ps []
      simp only [List.map_nil] at z
      have t : twoA (.take n []) = false := rfl
      simp [scB, encA, z, t]
    | cons p ps =>
      have z := ne_Ps (p :: ps)
      have s := sc_n (R := R) (x := x) (n := n) (p := p) (ps := ps) hl
      simp only [encA, List.map_cons] at z s
      cases t : twoA (.take n (p :: ps)) <;> simp [scB, encA, z, s, t]
theorem sc_for {R : Dat} : ∀ (r : List (Nat × Ac)) (x y : Sl), Shn x → Shn y → (∀ q ∈ r, (casesA q.2).length ≤ 1000) →
    ∃ c, forL scT scB (r.map encR) (scC R x y) = .ok (if r.any (fun q => twoA q.2) = true then .rt (.sh (.bool false)) else .nx) c
  | [], x, y, _, _, _ => ⟨_, rfl⟩
  | (m, a) :: r, x, y, hx, hy, h => by
    obtain ⟨c, e⟩ := sc_for (R := R) r (.sh (dn m)) (.sh (encA a)) (.inr ⟨_, rfl⟩) (.inr ⟨_, rfl⟩) fun q hq => h q (List.mem_cons_of_mem _ hq)
    have o := sc_one (R := R) (x := .sh (dn m)) (h (m, a) List.mem_cons_self)
    have p : scT (encR (m, a)) (scC R x y) = some (scC R (.sh (dn m)) (.sh (encA a))) := by
      rcases hx with rfl | ⟨u, rfl⟩ <;> rcases hy with rfl | ⟨v, rfl⟩ <;> simp [scT, encR]
    rw [List.map_cons, x_forC, p]
    simp only [o]
    cases ht : twoA a with
    | true => exact ⟨scC R (.sh (dn m)) (.sh (encA a)), by simp [ht]⟩
    | false =>
      have e3 : ((m, a) :: r).any (fun q => twoA q.2) = r.any (fun q => twoA q.2) := by
        rw [List.any_cons]
        show (twoA a || _) = _
        rw [ht]
        rfl
      refine ⟨c, ?_⟩
      rw [e3]
      simp [ht, e]
theorem same_good {r : List (Nat × Ac)} (hc : ∀ q ∈ r, (casesA q.2).length ≤ 1000) : g__law_same_cases [.tuple (r.map encR)] = .ok (.sh (.bool (!r.any fun q => twoA q.2))) := by
  obtain ⟨c, e⟩ := sc_for (R := .tuple (r.map encR)) r .no .no (.inl rfl) (.inl rfl) hc
  have q : m__law_same_cases = seq (M.bind (M.bind (rd 0) itT) fun items => forL scT scB items) (retS (asx (ret (.bool true)))) := rfl
  show runP 5 m__law_same_cases _ = _
  rw [q]
  simp
  simp only [e]
  cases r.any fun q => twoA q.2 <;> rfl
end Pn

set_option maxHeartbeats 2000003
namespace Pn
open L2 PyProof.Rows PySem.Spec PySem
/-! ### odd uses -/
def oddUs (number e : Nat) (u : Us) : List Dat := [.tuple [.int 1, dn u.row, dp u.names], .tuple [.bool u.t, dn number, dp u.names], .tuple [.bool u.t, .bool true, dp u.names], .tuple [.bool u.t, dn u.row],
  .tuple [.bool u.t, dn u.row, .tuple (u.names.map dn ++ [.int 0])], .tuple [.bool u.t, dn u.row, .tuple (List.replicate u.names.length (dn e) ++ [.tuple []])], .tuple [.bool u.t, .int (-1), dp u.names], .tuple [.bool u.t, dn u.row, .list (u.names.map dn)], .none]
theorem odd_use_bad {ms : List Nat} {e : Nat} {u : Us} (h : ms[u.row]? = some u.names.length) : ∀ d ∈ oddUs ms.length e u, g_is_use [d, dn e, ld ms] = okB false := by
  intro d hd
  simp only [oddUs, List.mem_cons, List.mem_nil_iff, or_false] at hd
  rcases hd with rfl | rfl | rfl | rfl | rfl | rfl | rfl | rfl | rfl
  · exact bad_int _ _
  · exact bad_below (bel_not (Nat.lt_irrefl _))
  · exact bad_below (bel_of (int_b true) _)
  · exact bad_two _ _
  · exact bad_long h (by simp)
  · exact bad_long h (by simp)
  · exact bad_below (bel_neg _)
  · exact bad_list h
  · exact bad_none _ _
end Pn

set_option maxHeartbeats 2000003
namespace Pn
open L2 PyProof.Rows PySem.Spec PySem
theorem rep_one (n : Nat) (d : Dat) : (List.replicate n [d]).flatten = List.replicate n d := by
  induction n with
  | zero => rfl
  | succ n ih =>
    rw [List.replicate_succ, List.flatten_cons, ih, List.replicate_succ]
    rfl
theorem run_odd_use {s : DS} {a number e : Nat} {u : Us} (h : St s a) (ha : a ≤ 100000) (h1 : u.names ≠ []) (h2 : u.names.length ≤ 1000) : ∃ d s', g__law_odd_use [dn number, encU u, dn e] [] s = .ok (.sh d) [] s' ∧ d ∈ oddUs number e u ∧ St s' (a + 1) := by
  obtain ⟨r, s', d1, hr, hs⟩ := run_draw h ha 9 (by decide) (by decide)
  have d1 : g__law_draw [.int 9] [] s = .ok (.sh (dn r)) [] s' := d1
  have lp : 0 < u.names.length := List.length_pos_iff.mpr h1
  have hl : r < (oddUs number e u).length := hr
  have ix : ixR (false, oddUs number e u) (dn r) = ret (oddUs number e u)[r] := ixR_nat (List.getElem?_eq_getElem hl)
  have c1 := x_catT (u.names.map dn) [.int 0] (by rw [List.length_map]; omega) (by simp)
  have c2 := x_catT (List.replicate u.names.length (dn e)) [.tuple []] (by rw [List.length_replicate]; omega) (by simp)
  have rp : repW (.tuple [dn e]) (.int (u.names.length : Int)) = ret (.sh (.tuple (List.replicate u.names.length (dn e)))) := by
    show (if [dn e] ≠ [] ∧ (1 : Int) ≤ (u.names.length : Int) ∧ (u.names.length : Int) ≤ 2000 ∧ [dn e].length ≤ 1000 then ret (RV.sh (PyData.tuple (List.replicate (u.names.length : Int).toNat [dn e]).flatten)) else bad) = _
    rw [if_pos ⟨by simp, by omega, by omega, by simp⟩, Int.toNat_natCast, rep_one]
  have c3 : ∀ a b c d e f : Dat, catD (.list [a, b, c, d]) (.list [e, f]) = ret (.fr [a, b, c, d, e, f]) := fun _ _ _ _ _ _ => x_catL _ _ (by simp) (by simp)
  have c4 : ∀ a b c d e f g h i : Dat, catD (.list [a, b, c, d, e, f]) (.list [g, h, i]) = ret (.fr [a, b, c, d, e, f, g, h, i]) := fun _ _ _ _ _ _ _ _ _ => x_catL _ _ (by simp) (by simp)
  refine ⟨(oddUs number e u)[r], s', ?_, List.getElem_mem hl, hs⟩
  simp only [oddUs] at ix
  simp only [g__law_odd_use, m__law_odd_use, encU]
  simp [runG, initG, endG, c1, c2, rp, c3, c4, d1, ix, oddUs]
end Pn

set_option maxHeartbeats 2000003
namespace Pn
open L2 PyProof.Rows PySem.Spec PySem
/-! ### one step behind the other -/
theorem sq {a b : M Ctl} {c c' : Cfg} {r : Res Ctl} (h : a c = .ok .nx c') (k : b c' = r) : seq a b c = r := by
  rw [x_seq, h]
  exact k
theorem sqR {a b : M Ctl} {c c' : Cfg} {v : RV} (h : a c = .ok (.rt v) c') : seq a b c = .ok (.rt v) c' := by
  rw [x_seq, h]
theorem ifT {t : M Bool} {a b : M Ctl} {c c' : Cfg} {r : Res Ctl} (h : t c = .ok true c') (k : a c' = r) : ifS t a b c = r := by
  rw [x_ifS, x_bind, h]
  exact k
theorem ifF {t : M Bool} {a b : M Ctl} {c c' : Cfg} {r : Res Ctl} (h : t c = .ok false c') (k : b c' = r) : ifS t a b c = r := by
  rw [x_ifS, x_bind, h]
  exact k
/-! ### comprehensions and loops that draw -/
theorem lcL_dr {β : Type} {e : β → Dat} {Q : β → Prop} {b : Dat → Cfg → Option Cfg} {me : M Dat} {vs : List Nat} {R : List Sl} {k N : Nat}
    (h : ∀ d s a, St s a → a ≤ N → ∃ x s' c1 c3, b d ⟨R, s⟩ = some c1 ∧ me c1 = .ok (e x) c3 ∧ ({ c3 with r := clr vs c3.r } : Cfg) = ⟨R, s'⟩ ∧ Q x ∧ St s' (a + k)) :
    ∀ (items acc : List Dat) (s : DS) (a : Nat), St s a → a + k * items.length ≤ N → acc.length + items.length ≤ 1000 →
    ∃ (xs : List β) (s' : DS), lcL b (ret true) me vs items acc ⟨R, s⟩ = .ok (acc ++ xs.map e) ⟨R, s'⟩ ∧ xs.length = items.length ∧ (∀ x ∈ xs, Q x) ∧ St s' (a + k * items.length)
  | [], acc, s, a, h0, _, _ => ⟨[], s, by simp [lcL], rfl, fun x hx => (nomatch hx), h0⟩
  | d :: ds, acc, s, a, h0, ha, hl => by
    rw [List.length_cons, Nat.mul_succ] at ha
    rw [List.length_cons] at hl
    obtain ⟨x, s1, c1, c3, e1, e2, e3, q, h1⟩ := h d s a h0 (by omega)
    obtain ⟨xs, s2, e4, hn, hq, h2⟩ := lcL_dr h ds (acc ++ [e x]) s1 (a + k) h1 (by omega) (by rw [List.length_append, List.length_singleton]; omega)
    refine ⟨x :: xs, s2, ?_, by rw [List.length_cons, List.length_cons, hn], fun y hy => (List.mem_cons.mp hy).elim (fun z => by rw [z]; exact q) (hq y), by rw [List.length_cons, Nat.mul_succ]; exact h2.mono (by omega)⟩
    unfold lcL
    simp only [e1, x_ret, e2]
    rw [if_pos (by omega), e3, e4, List.map_cons, List.append_assoc]
    rfl
theorem lcM_dr {β : Type} {e : β → Dat} {Q : β → Prop} {b : Dat → Cfg → Option Cfg} {me : M Dat} {vs : List Nat} {R : List Sl} (k N : Nat) {items : List Dat} {s : DS} {a : Nat}
    (h : ∀ d s a, St s a → a ≤ N → ∃ x s' c1 c3, b d ⟨R, s⟩ = some c1 ∧ me c1 = .ok (e x) c3 ∧ ({ c3 with r := clr vs c3.r } : Cfg) = ⟨R, s'⟩ ∧ Q x ∧ St s' (a + k))
    (hs : St s a) (ha : a + k * items.length ≤ N) (hl : items.length ≤ 1000) (q : vs.all (fun v => quiet R[v]?) = true) (hc : clr vs R = R) (hb : back vs R R = R) :
    ∃ (xs : List β) (s' : DS), lcM vs b (ret true) me items ⟨R, s⟩ = .ok (.fr (xs.map e)) ⟨R, s'⟩ ∧ xs.length = items.length ∧ (∀ x ∈ xs, Q x) ∧ St s' (a + k * items.length) := by
  obtain ⟨xs, s', e1, hn, hq, h'⟩ := lcL_dr h items [] s a hs ha (by rw [List.length_nil]; omega)
  refine ⟨xs, s', ?_, hn, hq, h'⟩
  unfold lcM
  rw [if_pos q]
  dsimp only
  rw [hc, e1, List.nil_append]
  show Res.ok (RV.fr (xs.map e)) { r := back vs R R, s := s' } = _
  rw [hb]
theorem for_inv {I : Nat → Cfg → Prop} {b : Dat → Cfg → Option Cfg} {m : M Ctl} (N : Nat) : ∀ (items : List Dat) (j : Nat) (c : Cfg), (∀ d ∈ items, ∀ j c, j < N → I j c → ∃ c1 c2, b d c = some c1 ∧ m c1 = .ok .nx c2 ∧ I (j + 1) c2) → j + items.length ≤ N → I j c →
    ∃ c', forL b m items c = .ok .nx c' ∧ I (j + items.length) c'
  | [], j, c, _, _, i => ⟨c, rfl, i⟩
  | d :: ds, j, c, h, hl, i => by
    rw [List.length_cons] at hl
    obtain ⟨c1, c2, e1, e2, i2⟩ := h d List.mem_cons_self j c (by omega) i
    obtain ⟨c', e3, i3⟩ := for_inv N ds (j + 1) c2 (fun x hx => h x (List.mem_cons_of_mem _ hx)) (by omega) i2
    have e : j + (d :: ds).length = j + 1 + ds.length := by rw [List.length_cons]; omega
    refine ⟨c', ?_, by rw [e]; exact i3⟩
    rw [x_forC, e1]
    simp only [e2]
    exact e3
theorem numL_len (n : Nat) : (numL 0 n).length = n := by
  unfold numL
  (rw [List.length_map, List.length_range])
theorem numL_dn (n : Nat) : numL 0 n = (List.range n).map dn := by
  unfold numL
  (refine List.map_congr_left fun i _ => ?_)
  show PyData.int (0 + (i : Int)) = PyData.int (i : Int)
  rw [Int.zero_add]
theorem itR_n {n : Nat} (h : n ≤ 1000) : itR [.int (n : Int)] = ret (numL 0 n) := by
  unfold itR
  dsimp only
  rw [if_pos (by constructor <;> omega), Int.toNat_natCast]
theorem lsRg_n {n : Nat} (h : n ≤ 1000) : lsRgR (.int (n : Int)) = ret (.fr ((List.range n).map dn)) := by
  unfold lsRgR
  dsimp only
  rw [if_pos (by constructor <;> omega), Int.toNat_natCast, numL_dn]
/-! ### _law_use -/
structure Small (u : Us) : Prop where
  ne : u.names ≠ []
  len : u.names.length ≤ 3
  lt : ∀ n ∈ u.names, n < 50
  row : u.row < 50
theorem run_of_n {s : DS} {a : Nat} (h : St s a) (ha : a ≤ 90000) {l : List Nat} (h0 : l ≠ []) (hl : l.length ≤ 1000) : ∃ n s', g__law_of [.list (l.map dn)] [] s = .ok (.sh (dn n)) [] s' ∧ n ∈ l ∧ St s' (a + 1) := by
  obtain ⟨x, s', e, hx, hs⟩ := run_of h (by omega) (l := l.map dn) (by simpa using h0) (by rw [List.length_map]; exact hl)
  obtain ⟨n, hn, rfl⟩ := List.mem_map.mp hx
  exact ⟨n, s', e, hn, hs⟩
theorem run_use {s : DS} {a : Nat} (h : St s a) (ha : a ≤ 60000) {rows : List (Nat × Ac)} {nm : List Nat} (h1 : rows ≠ []) (h2 : rows.length ≤ 40) (h3 : ∀ q ∈ rows, 1 ≤ q.1 ∧ q.1 ≤ 3) (h4 : nm ≠ []) (h5 : nm.length ≤ 40) :
    ∃ u s', g__law_use [.list (rows.map encR), .list (nm.map dn)] [] s = .ok (.sh (encU u)) [] s' ∧ (∃ q, rows[u.row]? = some q ∧ u.names.length = q.1) ∧ (∀ n ∈ u.names, n ∈ nm) ∧ St s' (a + 6) := by
  have lp : 0 < rows.length := List.length_pos_iff.mpr h1
  obtain ⟨r, s1, d1, hr, hs1⟩ := run_draw h (by omega) rows.length lp (by omega)
  have d1 : g__law_draw [.int (rows.length : Int)] [] s = .ok (.sh (dn r)) [] s1 := d1
  obtain ⟨q, eq⟩ : ∃ q, rows[r]? = some q := ⟨_, List.getElem?_eq_getElem hr⟩
  have hq := h3 q (List.mem_of_getElem? eq)
  have ix : ixR (false, rows.map encR) (.int (r : Int)) = ret (encR q) := ixR_nat (by rw [List.getElem?_map, eq]; rfl)
  have rg : itR [.int (q.1 : Int)] = ret (numL 0 q.1) := itR_n (by omega)
  obtain ⟨ns, s2, lc, ln, hn, hs2⟩ := lcM_dr (e := dn) (Q := fun n => n ∈ nm) (b := put 5) (me := frz (callSM 1 g__law_of (stArg 0 (aCons (rd 2) (aNil))))) (vs := [5]) (R := [.st, .sh (.list (rows.map encR)), .sh (.list (nm.map dn)), .sh (.int (r : Int)), .no, .no]) 1 90000 (items := numL 0 q.1) (fun d s a hs ha => by
    obtain ⟨n, s', e, hn, h'⟩ := run_of_n hs (by omega) h4 (by omega)
    exact ⟨n, s', ⟨[.st, .sh (.list (rows.map encR)), .sh (.list (nm.map dn)), .sh (.int (r : Int)), .no, .sh d], s⟩, ⟨[.st, .sh (.list (rows.map encR)), .sh (.list (nm.map dn)), .sh (.int (r : Int)), .no, .sh d], s'⟩, rfl, by simp [e], rfl, hn, h'⟩) hs1 (by rw [numL_len]; omega) (by rw [numL_len]; omega) rfl rfl rfl
  rw [numL_len] at ln hs2
  obtain ⟨t, s3, d3, ht, hs3⟩ := run_draw hs2 (by omega) 2 (by omega) (by omega)
  have d3 : g__law_draw [.int 2] [] s2 = .ok (.sh (dn t)) [] s3 := d3
  refine ⟨⟨((t : Int) == 0), r, ns⟩, s3, ?_, ⟨q, eq, ln⟩, hn, hs3.mono (by omega)⟩
  simp only [g__law_use, m__law_use]
  simp only [encR] at ix
  simp [runG, initG, endG, d1, ix, rg, encU, encR]
  simp [lc, d3]
end Pn

set_option maxHeartbeats 2000003
namespace Pn
open L2 PyProof.Rows PySem.Spec PySem
/-! ### _law_row -/
def ro0 : M Ctl := M.bind (asx (m2 addI (ret (.int 1)) (frz (callSM 1 g__law_draw (stArg 0 (aCons (ret (.int 3)) (aNil))))))) (asg 4)
def ro1 : M Ctl := parM 8 9 (aCons (frz (M.bind (rd 4) lsRgR)) (aCons (ixD (frz (M.bind (aCons (ret (.str "wait")) (aCons (ret (.str "send")) (aCons (ret (.str "open")) (aCons (ret (.str "take")) (aNil))))) lstD)) (frz (callSM 1 g__law_draw (stArg 0 (aCons (ret (.int 4)) (aNil)))))) (aNil)))
def ro2 : M Ctl := parM 10 11 (aCons (frz (callSM 1 g__law_of (stArg 0 (aCons (rd 8) (aNil))))) (aCons (frz (callSM 1 g__law_of (stArg 0 (aCons (rd 8) (aNil))))) (aNil)))
def ro3 : M Ctl := M.bind (asx (ifE (orB (toB (m2 eqD (rd 1) (frz (M.bind (aNil) lstD)))) (toB (m2 ltI (rd 2) (ret (.int 2))))) (ret (.int 0)) (m2 addI (ret (.int 1)) (frz (callSM 1 g__law_draw (stArg 0 (aCons (ret (.int 2)) (aNil)))))))) (asg 5)
def tk0 : M Ctl := M.bind (M.bind (aCons (M.bind (aNil) tupD) (aCons (ret .none) (aNil))) tupD) (tgtM (putTup 2 (putCons (put 13) (putCons (put 14) (putNil)))))
def tk1 : M Ctl := M.bind (asx (ifE (toB (m2 eqD (frz (callSM 1 g__law_draw (stArg 0 (aCons (ret (.int 3)) (aNil))))) (ret (.int 0)))) (ret .none) (frz (callSM 1 g__law_of (stArg 0 (aCons (rd 8) (aNil))))))) (asg 15)
def tk2 : M Ctl := M.bind (asx (ifE (andB (toB (rd 3)) (toB (m2 gtI (rd 12) (ret (.int 0))))) (rd 14) (rd 15))) (asg 14)
def tk3 : M Ctl := M.bind (asx (ifE (toB (m2 isR (rd 14) (ret .none))) (frz (M.bind (rd 8) fun x => M.bind (frz (M.bind (aCons (rd 4) (aNil)) lstD)) fun y => catD x y)) (rd 8))) (asg 6)
def tk4 : M Ctl := M.bind (asx (frz (M.bind (rd 13) fun x => M.bind (M.bind (aCons (M.bind (aCons (rd 14) (aCons (frz (callSM 2 g__law_use (stArg 0 (aCons (rd 1) (aCons (rd 6) (aNil)))))) (aNil))) tupD) (aNil)) tupD) fun y => catD x y))) (asg 13)
def tkB : M Ctl := seq tk1 (seq tk2 (seq tk3 tk4))
def tkF : M Ctl := M.bind (M.bind (aCons (rd 5) aNil) itR) fun items => forL (put 12) tkB items
def tkR : M Ctl := retS (asx (M.bind (aCons (rd 4) (aCons (M.bind (aCons (rd 9) (aCons (rd 10) (aCons (rd 13) (aNil)))) tupD) (aNil))) tupD))
def ro5 : M Ctl := M.bind (asx (ifE (toB (m2 eqD (rd 9) (ret (.str "open")))) (frz (M.bind (rd 8) fun x => M.bind (frz (M.bind (aCons (rd 4) (aNil)) lstD)) fun y => catD x y)) (rd 8))) (asg 6)
def ro6 : M Ctl := M.bind (asx (M.bind (rowX (M.bind (M.bind (aCons (rd 5) aNil) itR) (lcM [12] (put 12) (ret true) (frz (callSM 2 g__law_use (stArg 0 (aCons (rd 1) (aCons (rd 6) (aNil))))))))) tupR)) (asg 7)
def ro7 : M Ctl := ifS (toB (m2 eqD (rd 9) (ret (.str "wait")))) (retS (asx (M.bind (aCons (rd 4) (aCons (M.bind (aCons (rd 9) (aCons (rd 7) (aNil))) tupD) (aNil))) tupD))) (ret .nx)
def ro8 : M Ctl := retS (asx (M.bind (aCons (rd 4) (aCons (ifE (toB (m2 eqD (rd 9) (ret (.str "send")))) (M.bind (aCons (rd 9) (aCons (rd 10) (aCons (rd 11) (aCons (rd 7) (aNil))))) tupD) (M.bind (aCons (rd 9) (aCons (rd 10) (aCons (rd 7) (aNil)))) tupD)) (aNil))) tupD))
theorem row_eq : m__law_row = seq ro0 (seq ro1 (seq ro2 (seq ro3 (seq (ifS (toB (m2 eqD (rd 9) (ret (.str "take")))) (seq tk0 (seq tkF tkR)) (ret .nx)) (seq ro5 (seq ro6 (seq ro7 ro8))))))) := rfl
abbrev rC (s : DS) (R D E : Dat) (m ct mo us nm wd on ot tn pr cs pk : Sl) : Cfg := ⟨[.st, .sh R, .sh D, .sh E, m, ct, mo, us, nm, wd, on, ot, tn, pr, cs, pk], s⟩
def wordsL : List Dat := [.str "wait", .str "send", .str "open", .str "take"]
abbrev rg (m : Nat) : Dat := .list ((List.range m).map dn)
theorem ro012_run {s : DS} {a : Nat} (h : St s a) (ha : a ≤ 40000) (R D E : Dat) (k : M Ctl) :
    ∃ (m x y : Nat) (w : Dat) (s' : DS), 1 ≤ m ∧ m ≤ 3 ∧ x < m ∧ y < m ∧ w ∈ wordsL ∧ St s' (a + 4) ∧
      seq ro0 (seq ro1 (seq ro2 k)) (rC s R D E .no .no .no .no .no .no .no .no .no .no .no .no) = k (rC s' R D E (.sh (dn m)) .no .no .no (.sh (rg m)) (.sh w) (.sh (dn x)) (.sh (dn y)) .no .no .no .no) := by
  obtain ⟨r, s1, d1, hr, h1⟩ := run_draw h (by omega) 3 (by omega) (by omega)
  have d1 : g__law_draw [.int 3] [] s = .ok (.sh (dn r)) [] s1 := d1
  obtain ⟨v, s2, d2, hv, h2⟩ := run_draw h1 (by omega) 4 (by omega) (by omega)
  have d2 : g__law_draw [.int 4] [] s1 = .ok (.sh (dn v)) [] s2 := d2
  have hv2 : v < wordsL.length := hv
  have iw : ixR (false, wordsL) (.int (v : Int)) = ret wordsL[v] := ixR_nat (List.getElem?_eq_getElem hv2)
  have ne : List.range (r + 1) ≠ [] := by
    intro z
    have := congrArg List.length z
    rw [List.length_range] at this
    simp at this
  obtain ⟨x, s3, e3, hx, h3⟩ := run_of_n h2 (by omega) (l := List.range (r + 1)) ne (by rw [List.length_range]; omega)
  obtain ⟨y, s4, e4, hy, h4⟩ := run_of_n h3 (by omega) (l := List.range (r + 1)) ne (by rw [List.length_range]; omega)
  have hx := List.mem_range.mp hx
  have hy := List.mem_range.mp hy
  have ls : lsRgR (.int ((r : Int) + 1)) = ret (.fr ((List.range (r + 1)).map dn)) := lsRg_n (n := r + 1) (by omega)
  refine ⟨r + 1, x, y, wordsL[v], s4, by omega, by omega, hx, hy, List.getElem_mem hv2, h4, ?_⟩
  have c0 : ro0 (rC s R D E .no .no .no .no .no .no .no .no .no .no .no .no) = .ok .nx (rC s1 R D E (.sh (.int ((r : Int) + 1))) .no .no .no .no .no .no .no .no .no .no .no) := by
    have e : (1 : Int) + (r : Int) = (r : Int) + 1 := by omega
    simp [ro0, d1, e]
  have c1 : ro1 (rC s1 R D E (.sh (.int ((r : Int) + 1))) .no .no .no .no .no .no .no .no .no .no .no) = .ok .nx (rC s2 R D E (.sh (.int ((r : Int) + 1))) .no .no .no (.sh (rg (r + 1))) (.sh wordsL[v]) .no .no .no .no .no .no) := by
    generalize wordsL[v] = W at iw
    simp only [wordsL] at iw
    simp only [rg]
    generalize (List.range (r + 1)).map dn = L at ls ⊢
    simp [ro1, ls, d2, iw]
  have c2 : ro2 (rC s2 R D E (.sh (.int ((r : Int) + 1))) .no .no .no (.sh (rg (r + 1))) (.sh wordsL[v]) .no .no .no .no .no .no) = .ok .nx (rC s4 R D E (.sh (.int ((r : Int) + 1))) .no .no .no (.sh (rg (r + 1))) (.sh wordsL[v]) (.sh (dn x)) (.sh (dn y)) .no .no .no .no) := by
    generalize wordsL[v] = W
    simp only [rg]
    generalize (List.range (r + 1)).map dn = L at e3 e4 ⊢
    simp [ro2, e3, e4]
  rw [x_seq, c0]
  dsimp only
  rw [x_seq, c1]
  dsimp only
  rw [x_seq, c2]
  rfl
/-- the words are those of the encoded actions -/
theorem ro3_none {s : DS} (E m nm w x y : Dat) : ro3 (rC s (.list []) (.int 1) E (.sh m) .no .no .no (.sh nm) (.sh w) (.sh x) (.sh y) .no .no .no .no) = .ok .nx (rC s (.list []) (.int 1) E (.sh m) (.sh (.int 0)) .no .no (.sh nm) (.sh w) (.sh x) (.sh y) .no .no .no .no) := by
  have e : eqD (.list []) (.list []) = ret (.bool true) := rfl
  simp [ro3, e]
theorem ro3_some {s : DS} {a : Nat} (h : St s a) (ha : a ≤ 40000) {R : List Dat} (hR : R ≠ []) (hs : SeqAt.shaped (.list R) = true) (E m nm w x y : Dat) :
    ∃ (k : Nat) (s' : DS), k ≤ 2 ∧ St s' (a + 1) ∧ ro3 (rC s (.list R) (.int 2) E (.sh m) .no .no .no (.sh nm) (.sh w) (.sh x) (.sh y) .no .no .no .no) = .ok .nx (rC s' (.list R) (.int 2) E (.sh m) (.sh (dn k)) .no .no (.sh nm) (.sh w) (.sh x) (.sh y) .no .no .no .no) := by
  obtain ⟨r, s1, d1, hr, h1⟩ := run_draw h (by omega) 2 (by omega) (by omega)
  have d1 : g__law_draw [.int 2] [] s = .ok (.sh (dn r)) [] s1 := d1
  have e : eqD (.list R) (.list []) = ret (.bool false) := by
    unfold eqD
    rw [hs, show SeqAt.shaped (.list []) = true from rfl]
    cases R with
    | nil => exact absurd rfl hR
    | cons x l => rfl
  have e2 : (1 : Int) + (r : Int) = (r : Int) + 1 := by omega
  exact ⟨r + 1, s1, by omega, h1, by simp [ro3, e, d1, e2]⟩
end Pn

set_option maxHeartbeats 2000003
namespace Pn
open L2 PyProof.Rows PySem.Spec PySem
/-! ### rows that are drawn; what can be shown of them -/
structure RowD (ms : List Nat) (q : Nat × Ac) : Prop where
  lo : 1 ≤ q.1
  hi : q.1 ≤ 3
  good : GoodA ms q.1 q.2
  few : (casesA q.2).length ≤ 2
  small : ∀ u ∈ usesA q.2, Small u
theorem gdL_map {β : Type} (e : β → Dat) {n w : Nat} : ∀ (l : List β), (∀ x ∈ l, Gd n w (e x)) → GdL n ((w + 2) * l.length) (l.map e)
  | [], _ => gd_nil
  | x :: l, h => gd_cons (h x List.mem_cons_self) (gdL_map e l fun y hy => h y (List.mem_cons_of_mem _ hy)) (by rw [List.length_cons, Nat.mul_succ]; omega)
theorem GdL.wide {n w w' : Nat} {l : List Dat} (h : GdL n w l) (b : w ≤ w') : GdL n w' l := ⟨h.lay, h.dp, h.can, Nat.le_trans h.len b⟩
theorem gd_z {n : Nat} : GdL n 0 [] := gd_nil
theorem gd_U {u : Us} (h : Small u) : Gd 2 60 (encU u) := by
  have a := gd_bool u.t 1
  have b := gd_dn u.row 1 (by have := h.row; omega)
  have c := gd_dp 0 u.names fun n hn => by have := h.lt n hn; omega
  have l := h.len
  exact gd_tup (gd_cons a (gd_cons b (gd_cons c gd_z (Nat.le_refl _)) (Nat.le_refl _)) (Nat.le_refl _)) (Nat.le_refl _) (by omega)
theorem gd_C {c : Option Nat} (n : Nat) (h : ∀ k, c = some k → k < 50) : Gd n 4 (encC c) := by
  cases c with
  | none => exact gd_none n
  | some k => exact gd_dn k n (by have := h k rfl; omega)
theorem gd_P {p : Option Nat × Us} (h : Small p.2) (hc : ∀ k, p.1 = some k → k < 50) : Gd 3 80 (encP p) :=
  gd_tup (gd_cons (gd_C 2 hc) (gd_cons (gd_U h) gd_z (Nat.le_refl _)) (Nat.le_refl _)) (Nat.le_refl _) (by omega)
theorem gd_Us {us : List Us} (hl : us.length ≤ 2) (h : ∀ u ∈ us, Small u) : Gd 4 170 (.tuple (us.map encU)) :=
  gd_tup ((gdL_map encU us fun u hu => gd_U (h u hu)).mono (Nat.le_succ 2) (Nat.le_refl _)) (Nat.le_refl _) (by
    have : (60 + 2) * us.length ≤ (60 + 2) * 2 := Nat.mul_le_mul_left _ hl
    omega)
theorem gd_Ps {ps : List (Option Nat × Us)} (hl : ps.length ≤ 2) (h : ∀ p ∈ ps, Small p.2 ∧ ∀ k, p.1 = some k → k < 50) : Gd 4 170 (.tuple (ps.map encP)) :=
  gd_tup (gdL_map encP ps fun p hp => gd_P (h p hp).1 (h p hp).2) (Nat.le_refl _) (by
    have : (80 + 2) * ps.length ≤ (80 + 2) * 2 := Nat.mul_le_mul_left _ hl
    omega)
theorem wo_wait : wordOk "wait" = true := by decide +kernel
theorem wo_send : wordOk "send" = true := by decide +kernel
theorem wo_open : wordOk "open" = true := by decide +kernel
theorem wo_take : wordOk "take" = true := by decide +kernel
theorem gd_A {ms : List Nat} {q : Nat × Ac} (h : RowD ms q) : Gd 5 250 (encA q.2) := by
  obtain ⟨m, x⟩ := q
  obtain ⟨lo, hi, good, few, small⟩ := h
  simp only at lo hi good few small
  have sm : ∀ us : List Us, (∀ u ∈ us, u ∈ ((us.map fun u => ((none : Option Nat), u)).map (·.2))) := fun us u hu => mem_uses hu
  cases x with
  | wait us =>
    have f : us.length ≤ 2 := by simpa [casesA] using few
    exact gd_tup (gd_cons (gd_str "wait" 4 wo_wait) (gd_cons (gd_Us f fun u hu => small u (sm us u hu)) gd_z (Nat.le_refl _)) (Nat.le_refl _)) (Nat.le_refl _) (by omega)
  | send a b us =>
    have f : us.length ≤ 2 := by simpa [casesA] using few
    exact gd_tup (gd_cons (gd_str "send" 4 wo_send) (gd_cons (gd_dn a 4 (by have := good.1; omega)) (gd_cons (gd_dn b 4 (by have := good.2.1; omega)) (gd_cons (gd_Us f fun u hu => small u (sm us u hu)) gd_z (Nat.le_refl _)) (Nat.le_refl _)) (Nat.le_refl _)) (Nat.le_refl _)) (Nat.le_refl _) (by omega)
  | opn a us =>
    have f : us.length ≤ 2 := by simpa [casesA] using few
    exact gd_tup (gd_cons (gd_str "open" 4 wo_open) (gd_cons (gd_dn a 4 (by have := good.1; omega)) (gd_cons (gd_Us f fun u hu => small u (sm us u hu)) gd_z (Nat.le_refl _)) (Nat.le_refl _)) (Nat.le_refl _)) (Nat.le_refl _) (by omega)
  | take a ps =>
    have f : ps.length ≤ 2 := few
    exact gd_tup (gd_cons (gd_str "take" 4 wo_take) (gd_cons (gd_dn a 4 (by have := good.1; omega)) (gd_cons (gd_Ps f fun p hp => ⟨small p.2 (List.mem_map.mpr ⟨p, hp, rfl⟩), fun k hk => by
      have z := good.2 p hp
      unfold GoodP at z
      rw [hk] at z
      have := z.1
      omega⟩) gd_z (Nat.le_refl _)) (Nat.le_refl _)) (Nat.le_refl _)) (Nat.le_refl _) (by omega)
theorem gd_R {ms : List Nat} {q : Nat × Ac} (h : RowD ms q) : Gd 6 300 (encR q) :=
  gd_tup (gd_cons (gd_dn q.1 5 (by have := h.hi; omega)) (gd_cons (gd_A h) gd_z (Nat.le_refl _)) (Nat.le_refl _)) (Nat.le_refl _) (by omega)
theorem gd_Rs {r : List (Nat × Ac)} (h : ∀ q ∈ r, ∃ ms, RowD ms q) (hl : r.length ≤ 10) : GdL 6 3020 (r.map encR) :=
  (gdL_map encR r fun q hq => (h q hq).elim fun ms z => gd_R z).wide (by
    have : (300 + 2) * r.length ≤ (300 + 2) * 10 := Nat.mul_le_mul_left _ hl
    omega)
theorem shaped_Rs {r : List (Nat × Ac)} (h : ∀ q ∈ r, ∃ ms, RowD ms q) (hl : r.length ≤ 10) : SeqAt.shaped (.list (r.map encR)) = true :=
  (gd_lst (gd_Rs h hl) (Nat.le_refl _) (Nat.le_refl _)).shaped (by omega)
theorem gd_S {s : Se} (h : ∀ q ∈ s.rows, ∃ ms, RowD ms q) (hl : s.rows.length ≤ 10) (hu : Small s.use) : Gd 8 3200 (encS s) :=
  gd_tup (gd_cons (gd_tup (gd_Rs h hl) (Nat.le_refl _) (Nat.le_refl _)) (gd_cons ((gd_U hu).mono (by omega) (Nat.le_refl _)) gd_z (Nat.le_refl _)) (Nat.le_refl _)) (Nat.le_refl _) (by omega)
end Pn

set_option maxHeartbeats 2000003
namespace Pn
open L2 PyProof.Rows PySem.Spec PySem
/-! ### the cases of a take -/
structure Can (rows : List (Nat × Ac)) : Prop where
  ne : rows ≠ []
  len : rows.length ≤ 10
  lo : ∀ q ∈ rows, 1 ≤ q.1 ∧ q.1 ≤ 3
def moreN (m : Nat) (b : Bool) : List Nat := if b = true then List.range m ++ [m] else List.range m
theorem moreN_lt {m : Nat} {b : Bool} {n : Nat} (h : n ∈ moreN m b) : n < (if b = true then m + 1 else m) := by
  unfold moreN at h
  cases b with
  | true =>
    have h : n ∈ List.range m ++ [m] := h
    rcases List.mem_append.mp h with z | z
    · have := List.mem_range.mp z
      show n < m + 1
      omega
    · have := List.mem_singleton.mp z
      show n < m + 1
      omega
  | false =>
    have h : n ∈ List.range m := h
    exact List.mem_range.mp h
theorem moreN_ne {m : Nat} {b : Bool} (h : 1 ≤ m) : moreN m b ≠ [] := by
  have ne : List.range m ≠ [] := by
    intro z
    have := congrArg List.length z
    rw [List.length_range] at this
    simp at this
    omega
  unfold moreN
  cases b with
  | true => simp
  | false => exact ne
theorem moreN_len {m : Nat} {b : Bool} (h : m ≤ 3) : (moreN m b).length ≤ 40 := by
  unfold moreN
  cases b with
  | true =>
    show (List.range m ++ [m]).length ≤ 40
    rw [List.length_append, List.length_range, List.length_singleton]
    omega
  | false =>
    show (List.range m).length ≤ 40
    rw [List.length_range]
    omega
theorem use_q {rows : List (Nat × Ac)} {u : Us} {nm : List Nat} {e : Nat} (hc : Can rows) (h : ∃ q, rows[u.row]? = some q ∧ u.names.length = q.1) (hn : ∀ n ∈ u.names, n ∈ nm) (he : ∀ n ∈ nm, n < e) (he2 : e ≤ 50) : GoodU (rows.map (·.1)) e u ∧ Small u := by
  obtain ⟨q, e1, e2⟩ := h
  have lt := (List.getElem?_eq_some_iff.mp e1).1
  have b := hc.lo q (List.mem_of_getElem? e1)
  refine ⟨⟨by rw [List.getElem?_map, e1, e2]; rfl, fun n h => he n (hn n h)⟩, ⟨?_, by omega, fun n h => by have := he n (hn n h); omega, by have := hc.len; omega⟩⟩
  intro z
  rw [z] at e2
  simp only [List.length_nil] at e2
  omega
def wdT : Sl := .sh (.str "take")
section
variable {R D : Dat} {s : DS} {a m i : Nat} {ct x y P : Dat} {mo pk : Sl} {cs : Option Nat} {e : Bool}
theorem tk1_run (h : St s a) (ha : a ≤ 40000) (hm : 1 ≤ m) (hm3 : m ≤ 3) (hp : Shn pk) : ∃ (c : Option Nat) (s' : DS), (∀ n, c = some n → n < m) ∧ St s' (a + 2) ∧
    tk1 (rC s R D (.bool e) (.sh (dn m)) (.sh ct) mo .no (.sh (rg m)) wdT (.sh x) (.sh y) (.sh (dn i)) (.sh P) (.sh (encC cs)) pk) = .ok .nx (rC s' R D (.bool e) (.sh (dn m)) (.sh ct) mo .no (.sh (rg m)) wdT (.sh x) (.sh y) (.sh (dn i)) (.sh P) (.sh (encC cs)) (.sh (encC c))) := by
  obtain ⟨r, s1, d1, hr, h1⟩ := run_draw h (by omega) 3 (by omega) (by omega)
  have d1 : g__law_draw [.int 3] [] s = .ok (.sh (dn r)) [] s1 := d1
  by_cases r0 : r = 0
  · subst r0
    refine ⟨none, s1, (fun n hn => (nomatch hn)), h1.mono (by omega), ?_⟩
    rcases hp with rfl | ⟨p, rfl⟩ <;> simp [tk1, d1, encC]
  · obtain ⟨n, s2, e2, hn, h2⟩ := run_of_n h1 (by omega) (l := List.range m) (moreN_ne (b := false) hm) (by rw [List.length_range]; omega)
    have hn := List.mem_range.mp hn
    refine ⟨some n, s2, fun k hk => by cases hk; exact hn, h2.mono (by omega), ?_⟩
    have q : ¬ (r : Int) = 0 := by omega
    simp only [rg]
    generalize (List.range m).map dn = L at e2 ⊢
    rcases hp with rfl | ⟨p, rfl⟩ <;> simp [tk1, d1, encC, r0, q, e2]
theorem tk2_run {c : Option Nat} : ∃ k : Option Nat, (k = cs ∨ k = c) ∧ tk2 (rC s R D (.bool e) (.sh (dn m)) (.sh ct) mo .no (.sh (rg m)) wdT (.sh x) (.sh y) (.sh (dn i)) (.sh P) (.sh (encC cs)) (.sh (encC c))) = .ok .nx (rC s R D (.bool e) (.sh (dn m)) (.sh ct) mo .no (.sh (rg m)) wdT (.sh x) (.sh y) (.sh (dn i)) (.sh P) (.sh (encC k)) (.sh (encC c))) := by
  cases e with
  | false => exact ⟨c, .inr rfl, by simp [tk2]⟩
  | true =>
    by_cases hi : 0 < i
    · exact ⟨cs, .inl rfl, by simp [tk2, hi]⟩
    · exact ⟨c, .inr rfl, by simp [tk2, hi]⟩
theorem tk3_run {c k : Option Nat} (hm : Shn mo) (hm3 : m ≤ 3) : tk3 (rC s R D (.bool e) (.sh (dn m)) (.sh ct) mo .no (.sh (rg m)) wdT (.sh x) (.sh y) (.sh (dn i)) (.sh P) (.sh (encC k)) (.sh (encC c))) = .ok .nx (rC s R D (.bool e) (.sh (dn m)) (.sh ct) (.sh (.list ((moreN m k.isNone).map dn))) .no (.sh (rg m)) wdT (.sh x) (.sh y) (.sh (dn i)) (.sh P) (.sh (encC k)) (.sh (encC c))) := by
  have ct := x_catL ((List.range m).map dn) [.int (m : Int)] (by rw [List.length_map, List.length_range]; omega) (by simp)
  cases k with
  | none =>
    have mn : (moreN m (Option.isNone (none : Option Nat))).map dn = (List.range m).map dn ++ [.int (m : Int)] := by
      show (List.range m ++ [m]).map dn = _
      rw [List.map_append]
      rfl
    rw [mn]
    simp only [rg]
    generalize (List.range m).map dn = L at ct ⊢
    rcases hm with rfl | ⟨p, rfl⟩ <;> simp [tk3, encC, ct]
  | some n =>
    have mn : (moreN m (Option.isNone (some n))).map dn = (List.range m).map dn := rfl
    rw [mn]
    simp only [rg]
    generalize (List.range m).map dn = L
    rcases hm with rfl | ⟨p, rfl⟩ <;> simp [tk3, encC]
theorem tk4_run {c k : Option Nat} {rows : List (Nat × Ac)} {ps : List (Option Nat × Us)} (h : St s a) (ha : a ≤ 40000) (hc : Can rows) (hm : 1 ≤ m) (hm3 : m ≤ 3) (hp : ps.length ≤ 100) (hk : ∀ n, k = some n → n < m) :
    ∃ (u : Us) (s' : DS), GoodP (rows.map (·.1)) m (k, u) ∧ Small u ∧ St s' (a + 6) ∧
      tk4 (rC s (.list (rows.map encR)) D (.bool e) (.sh (dn m)) (.sh ct) (.sh (.list ((moreN m k.isNone).map dn))) .no (.sh (rg m)) wdT (.sh x) (.sh y) (.sh (dn i)) (.sh (.tuple (ps.map encP))) (.sh (encC k)) (.sh (encC c))) =
      .ok .nx (rC s' (.list (rows.map encR)) D (.bool e) (.sh (dn m)) (.sh ct) (.sh (.list ((moreN m k.isNone).map dn))) .no (.sh (rg m)) wdT (.sh x) (.sh y) (.sh (dn i)) (.sh (.tuple ((ps ++ [(k, u)]).map encP))) (.sh (encC k)) (.sh (encC c))) := by
  obtain ⟨u, s1, e1, hq, hn, h1⟩ := run_use h (by omega) hc.ne (by have := hc.len; omega) hc.lo (moreN_ne (b := k.isNone) hm) (moreN_len hm3)
  obtain ⟨g1, g2⟩ := use_q hc hq hn (e := if k.isNone = true then m + 1 else m) (fun n hn => moreN_lt hn) (by split <;> omega)
  refine ⟨u, s1, ?_, g2, h1, ?_⟩
  · cases k with
    | none => exact g1
    | some n => exact ⟨hk n rfl, g1⟩
  · have ct := x_catT (ps.map encP) [encP (k, u)] (by rw [List.length_map]; omega) (by simp)
    rw [List.map_append, List.map_singleton]
    simp only [rg]
    generalize (List.range m).map dn = L
    generalize (moreN m k.isNone).map dn = N at e1 ⊢
    generalize rows.map encR = RR at e1 ⊢
    generalize ps.map encP = PP at ct ⊢
    simp only [encP] at ct ⊢
    simp [tk4, e1, ct]
end
def tkI (rows : List (Nat × Ac)) (D : Dat) (e : Bool) (m : Nat) (ct x y : Dat) (a j : Nat) (c : Cfg) : Prop :=
  ∃ (s : DS) (mo tn pk : Sl) (ps : List (Option Nat × Us)) (cs : Option Nat), c = rC s (.list (rows.map encR)) D (.bool e) (.sh (dn m)) (.sh ct) mo .no (.sh (rg m)) wdT (.sh x) (.sh y) tn (.sh (.tuple (ps.map encP))) (.sh (encC cs)) pk ∧
    Shn mo ∧ Shn tn ∧ Shn pk ∧ (∀ p ∈ ps, GoodP (rows.map (·.1)) m p ∧ Small p.2) ∧ (∀ n, cs = some n → n < m) ∧ ps.length = j ∧ St s (a + 9 * j)
theorem tk_one {rows : List (Nat × Ac)} {D : Dat} {e : Bool} {m : Nat} {ct x y : Dat} {a j : Nat} {c : Cfg} (hc : Can rows) (hm : 1 ≤ m) (hm3 : m ≤ 3) (ha : a ≤ 30000) (hj : j ≤ 50) (i : Nat) (h : tkI rows D e m ct x y a j c) :
    ∃ c1 c2, put 12 (dn i) c = some c1 ∧ tkB c1 = .ok .nx c2 ∧ tkI rows D e m ct x y a (j + 1) c2 := by
  obtain ⟨s, mo, tn, pk, ps, cs, rfl, h1, h2, h3, h4, h5, h6, h7⟩ := h
  obtain ⟨c, s1, hcp, hs1, e1⟩ := tk1_run (R := .list (rows.map encR)) (D := D) (i := i) (ct := ct) (x := x) (y := y) (P := .tuple (ps.map encP)) (mo := mo) (cs := cs) (e := e) h7 (by omega) hm hm3 h3
  obtain ⟨k, hk, e2⟩ := tk2_run (R := .list (rows.map encR)) (D := D) (s := s1) (m := m) (i := i) (ct := ct) (x := x) (y := y) (P := .tuple (ps.map encP)) (mo := mo) (cs := cs) (e := e) (c := c)
  have hk2 : ∀ n, k = some n → n < m := fun n hn => by
    rcases hk with z | z
    · exact h5 n (z ▸ hn)
    · exact hcp n (z ▸ hn)
  have e3 := tk3_run (R := .list (rows.map encR)) (D := D) (s := s1) (m := m) (i := i) (ct := ct) (x := x) (y := y) (P := .tuple (ps.map encP)) (e := e) (c := c) (k := k) h1 hm3
  obtain ⟨u, s4, g1, g2, hs4, e4⟩ := tk4_run (D := D) (i := i) (ct := ct) (x := x) (y := y) (e := e) (c := c) (k := k) (ps := ps) hs1 (by omega) hc hm hm3 (by omega) hk2
  refine ⟨rC s (.list (rows.map encR)) D (.bool e) (.sh (dn m)) (.sh ct) mo .no (.sh (rg m)) wdT (.sh x) (.sh y) (.sh (dn i)) (.sh (.tuple (ps.map encP))) (.sh (encC cs)) pk, _, ?_, ?_, ⟨s4, .sh (.list ((moreN m k.isNone).map dn)), .sh (dn i), .sh (encC c), ps ++ [(k, u)], k, rfl, .inr ⟨_, rfl⟩, .inr ⟨_, rfl⟩, .inr ⟨_, rfl⟩, fun p hp => ?_, hk2, by rw [List.length_append, h6]; rfl, hs4.mono (by omega)⟩⟩
  · rcases h2 with rfl | ⟨d, rfl⟩ <;> rfl
  · unfold tkB
    rw [x_seq, e1]
    dsimp only
    rw [x_seq, e2]
    dsimp only
    rw [x_seq, e3]
    dsimp only
    exact e4
  · rcases List.mem_append.mp hp with z | z
    · exact h4 p z
    · (rw [List.mem_singleton.mp z])
      exact ⟨g1, g2⟩
theorem tk0_run {R D E : Dat} {s : DS} {m ct nm x y : Dat} : tk0 (rC s R D E (.sh m) (.sh ct) .no .no (.sh nm) wdT (.sh x) (.sh y) .no .no .no .no) = .ok .nx (rC s R D E (.sh m) (.sh ct) .no .no (.sh nm) wdT (.sh x) (.sh y) .no (.sh (.tuple [])) (.sh .none) .no) := by
  simp [tk0]
theorem tkR_run {R D E : Dat} {s : DS} {m x : Nat} {ct nm y : Dat} {mo tn cs pk : Sl} {ps : List (Option Nat × Us)} : tkR (rC s R D E (.sh (dn m)) (.sh ct) mo .no (.sh nm) wdT (.sh (dn x)) (.sh y) tn (.sh (.tuple (ps.map encP))) cs pk) = .ok (.rt (.sh (encR (m, .take x ps)))) (rC s R D E (.sh (dn m)) (.sh ct) mo .no (.sh nm) wdT (.sh (dn x)) (.sh y) tn (.sh (.tuple (ps.map encP))) cs pk) := by
  simp [tkR, wdT, encR, encA]
theorem tkF_eq {R D E : Dat} {s : DS} {m nm x y kd : Dat} {items : List Dat} {c' : Cfg} (it : itR [kd] = ret items) (e1 : forL (put 12) tkB items (rC s R D E (.sh m) (.sh kd) .no .no (.sh nm) wdT (.sh x) (.sh y) .no (.sh (.tuple [])) (.sh .none) .no) = .ok .nx c') :
    tkF (rC s R D E (.sh m) (.sh kd) .no .no (.sh nm) wdT (.sh x) (.sh y) .no (.sh (.tuple [])) (.sh .none) .no) = .ok .nx c' := by
  simp [tkF, it]
  exact e1
theorem tkF_run {rows : List (Nat × Ac)} {D : Dat} {e : Bool} {m : Nat} {k : Nat} {x y : Nat} {a : Nat} {s : DS} (hs : St s a) (ha : a ≤ 30000) (hk : k ≤ 2) (hc : k = 0 ∨ Can rows) (hm : 1 ≤ m) (hm3 : m ≤ 3) (hx : x < m) :
    ∃ (ps : List (Option Nat × Us)) (s' : DS) (c : Cfg), RowD (rows.map (·.1)) (m, .take x ps) ∧ St s' (a + 20) ∧ c.s = s' ∧
      seq tk0 (seq tkF tkR) (rC s (.list (rows.map encR)) D (.bool e) (.sh (dn m)) (.sh (dn k)) .no .no (.sh (rg m)) wdT (.sh (dn x)) (.sh (dn y)) .no .no .no .no) = .ok (.rt (.sh (encR (m, .take x ps)))) c := by
  have i0 : tkI rows D e m (dn k) (dn x) (dn y) a 0 (rC s (.list (rows.map encR)) D (.bool e) (.sh (dn m)) (.sh (dn k)) .no .no (.sh (rg m)) wdT (.sh (dn x)) (.sh (dn y)) .no (.sh (.tuple [])) (.sh .none) .no) :=
    ⟨s, .no, .no, .no, [], none, rfl, .inl rfl, .inl rfl, .inl rfl, fun p hp => (nomatch hp), fun n hn => (nomatch hn), rfl, hs⟩
  have lp : ∃ c', forL (put 12) tkB (numL 0 k) (rC s (.list (rows.map encR)) D (.bool e) (.sh (dn m)) (.sh (dn k)) .no .no (.sh (rg m)) wdT (.sh (dn x)) (.sh (dn y)) .no (.sh (.tuple [])) (.sh .none) .no) = .ok .nx c' ∧ tkI rows D e m (dn k) (dn x) (dn y) a k c' := by
    rcases hc with rfl | hc
    · exact ⟨_, rfl, i0⟩
    · obtain ⟨c', e1, i1⟩ := for_inv (I := fun j c => tkI rows D e m (dn k) (dn x) (dn y) a j c) (b := put 12) (m := tkB) 50 (numL 0 k) 0 _ (fun d hd j c hj hi => by
        rw [numL_dn] at hd
        obtain ⟨i, _, rfl⟩ := List.mem_map.mp hd
        exact tk_one hc hm hm3 ha (by omega) i hi) (by rw [numL_len]; omega) i0
      rw [numL_len, Nat.zero_add] at i1
      exact ⟨c', e1, i1⟩
  obtain ⟨c', e1, s', mo, tn, pk, ps, cs, rfl, h1, h2, h3, h4, h5, h6, h7⟩ := lp
  refine ⟨ps, s', rC s' (.list (rows.map encR)) D (.bool e) (.sh (dn m)) (.sh (dn k)) mo .no (.sh (rg m)) wdT (.sh (dn x)) (.sh (dn y)) tn (.sh (.tuple (ps.map encP))) (.sh (encC cs)) pk, ⟨hm, hm3, ⟨hx, fun p hp => (h4 p hp).1⟩, by show ps.length ≤ 2; omega, fun u hu => ?_⟩, h7.mono (by omega), rfl, ?_⟩
  · obtain ⟨p, hp, rfl⟩ := List.mem_map.mp hu
    exact (h4 p hp).2
  · rw [x_seq, tk0_run]
    dsimp only
    rw [x_seq, tkF_eq (kd := dn k) (items := numL 0 k) (itR_n (by omega)) e1]
    dsimp only
    rw [tkR_run]
end Pn

set_option maxHeartbeats 2000003
namespace Pn
open L2 PyProof.Rows PySem.Spec PySem
/-! ### the uses of the other rows -/
section
variable {R D E : Dat} {s : DS} {a m : Nat} {x y : Dat} {w : Str} {b : Bool}
theorem ro5_run {k : Dat} (hm3 : m ≤ 3) (hw : eqD (.str w) (.str "open") = ret (.bool b)) : ro5 (rC s R D E (.sh (dn m)) (.sh k) .no .no (.sh (rg m)) (.sh (.str w)) (.sh x) (.sh y) .no .no .no .no) = .ok .nx (rC s R D E (.sh (dn m)) (.sh k) (.sh (.list ((moreN m b).map dn))) .no (.sh (rg m)) (.sh (.str w)) (.sh x) (.sh y) .no .no .no .no) := by
  have ct := x_catL ((List.range m).map dn) [.int (m : Int)] (by rw [List.length_map, List.length_range]; omega) (by simp)
  cases b with
  | true =>
    have mn : (moreN m true).map dn = (List.range m).map dn ++ [.int (m : Int)] := by
      show (List.range m ++ [m]).map dn = _
      rw [List.map_append]
      rfl
    rw [mn]
    simp only [rg]
    generalize (List.range m).map dn = L at ct ⊢
    simp [ro5, hw, ct]
  | false =>
    have mn : (moreN m false).map dn = (List.range m).map dn := rfl
    rw [mn]
    simp only [rg]
    generalize (List.range m).map dn = L
    simp [ro5, hw]
theorem ro6_eq {R D E : Dat} {s s' : DS} {md nl nm wd x y kd : Dat} {items us : List Dat} (it : itR [kd] = ret items) (e1 : lcM [12] (put 12) (ret true) (frz (callSM 2 g__law_use (stArg 0 (aCons (rd 1) (aCons (rd 6) (aNil)))))) items (rC s R D E (.sh md) (.sh kd) (.sh nl) .no (.sh nm) (.sh wd) (.sh x) (.sh y) .no .no .no .no) = .ok (.fr us) (rC s' R D E (.sh md) (.sh kd) (.sh nl) .no (.sh nm) (.sh wd) (.sh x) (.sh y) .no .no .no .no)) :
    ro6 (rC s R D E (.sh md) (.sh kd) (.sh nl) .no (.sh nm) (.sh wd) (.sh x) (.sh y) .no .no .no .no) = .ok .nx (rC s' R D E (.sh md) (.sh kd) (.sh nl) (.sh (.tuple us)) (.sh nm) (.sh wd) (.sh x) (.sh y) .no .no .no .no) := by
  simp only [ro6]
  simp [it]
  simp [e1]
theorem ro6_lc {rows : List (Nat × Ac)} {k : Nat} (hs : St s a) (ha : a ≤ 30000) (hk : k ≤ 2) (hc : k = 0 ∨ Can rows) (hm : 1 ≤ m) (hm3 : m ≤ 3) : ∃ (us : List Us) (s' : DS), lcM [12] (put 12) (ret true) (frz (callSM 2 g__law_use (stArg 0 (aCons (rd 1) (aCons (rd 6) (aNil)))))) (numL 0 k) (rC s (.list (rows.map encR)) D E (.sh (dn m)) (.sh (dn k)) (.sh (.list ((moreN m b).map dn))) .no (.sh (rg m)) (.sh (.str w)) (.sh x) (.sh y) .no .no .no .no) = .ok (.fr (us.map encU)) (rC s' (.list (rows.map encR)) D E (.sh (dn m)) (.sh (dn k)) (.sh (.list ((moreN m b).map dn))) .no (.sh (rg m)) (.sh (.str w)) (.sh x) (.sh y) .no .no .no .no) ∧ us.length = k ∧ (∀ u ∈ us, GoodU (rows.map (·.1)) (if b = true then m + 1 else m) u ∧ Small u) ∧ St s' (a + 6 * k) := by
  rcases hc with rfl | hc
  · exact ⟨[], s, rfl, rfl, fun u hu => (nomatch hu), hs⟩
  · have z := lcM_dr (e := encU) (Q := fun u => GoodU (rows.map (·.1)) (if b = true then m + 1 else m) u ∧ Small u) (b := put 12) (me := frz (callSM 2 g__law_use (stArg 0 (aCons (rd 1) (aCons (rd 6) (aNil)))))) (vs := [12]) (R := [.st, .sh (.list (rows.map encR)), .sh D, .sh E, (.sh (dn m)), (.sh (dn k)), (.sh (.list ((moreN m b).map dn))), .no, (.sh (rg m)), (.sh (.str w)), (.sh x), (.sh y), .no, .no, .no, .no]) 6 60000 (items := numL 0 k) (fun d s a hs ha => by
      obtain ⟨u, s1, e1, hq, hn, h1⟩ := run_use (a := a) hs (by omega) hc.ne (by have := hc.len; omega) hc.lo (moreN_ne (b := b) hm) (moreN_len hm3)
      refine ⟨u, s1, ⟨[.st, .sh (.list (rows.map encR)), .sh D, .sh E, (.sh (dn m)), (.sh (dn k)), (.sh (.list ((moreN m b).map dn))), .no, (.sh (rg m)), (.sh (.str w)), (.sh x), (.sh y), .sh d, .no, .no, .no], s⟩, ⟨[.st, .sh (.list (rows.map encR)), .sh D, .sh E, (.sh (dn m)), (.sh (dn k)), (.sh (.list ((moreN m b).map dn))), .no, (.sh (rg m)), (.sh (.str w)), (.sh x), (.sh y), .sh d, .no, .no, .no], s1⟩, rfl, ?_, rfl, use_q hc hq hn (fun n hn => moreN_lt hn) (by split <;> omega), h1⟩
      simp only [rg]
      generalize (List.range m).map dn = L
      generalize (moreN m b).map dn = N at e1 ⊢
      generalize rows.map encR = RR at e1 ⊢
      simp [e1]) hs (by rw [numL_len]; omega) (by rw [numL_len]; omega) rfl rfl rfl
    rw [numL_len] at z
    exact z
theorem ro6_run {rows : List (Nat × Ac)} {k : Nat} (hs : St s a) (ha : a ≤ 30000) (hk : k ≤ 2) (hc : k = 0 ∨ Can rows) (hm : 1 ≤ m) (hm3 : m ≤ 3) : ∃ (us : List Us) (s' : DS), us.length = k ∧ (∀ u ∈ us, GoodU (rows.map (·.1)) (if b = true then m + 1 else m) u ∧ Small u) ∧ St s' (a + 20) ∧
    ro6 (rC s (.list (rows.map encR)) D E (.sh (dn m)) (.sh (dn k)) (.sh (.list ((moreN m b).map dn))) .no (.sh (rg m)) (.sh (.str w)) (.sh x) (.sh y) .no .no .no .no) = .ok .nx (rC s' (.list (rows.map encR)) D E (.sh (dn m)) (.sh (dn k)) (.sh (.list ((moreN m b).map dn))) (.sh (.tuple (us.map encU))) (.sh (rg m)) (.sh (.str w)) (.sh x) (.sh y) .no .no .no .no) := by
  obtain ⟨us, s', e1, e2, e3, e4⟩ := ro6_lc (D := D) (E := E) (x := x) (y := y) (w := w) (b := b) hs ha hk hc hm hm3
  refine ⟨us, s', e2, e3, e4.mono (by omega), ?_⟩
  have it : itR [dn k] = ret (numL 0 k) := itR_n (by omega)
  generalize dn k = kd at it e1 ⊢
  generalize numL 0 k = items at it e1
  generalize us.map encU = U at e1 ⊢
  exact ro6_eq it e1
end
theorem run_row {rows : List (Nat × Ac)} {D : Int} {e : Bool} {s : DS} {a : Nat} (hs : St s a) (ha : a ≤ 20000) (hc : (rows = [] ∧ D = 1) ∨ (Can rows ∧ D = 2 ∧ ∀ q ∈ rows, ∃ ms, RowD ms q)) :
    ∃ (q : Nat × Ac) (s' : DS), g__law_row [.list (rows.map encR), .int D, .bool e] [] s = .ok (.sh (encR q)) [] s' ∧ RowD (rows.map (·.1)) q ∧ St s' (a + 30) := by
  let k : M Ctl := seq ro3 (seq (ifS (toB (m2 eqD (rd 9) (ret (.str "take")))) (seq tk0 (seq tkF tkR)) (ret .nx)) (seq ro5 (seq ro6 (seq ro7 ro8))))
  obtain ⟨m, x, y, w, s1, m1, m3, hx, hy, hw, h1, e1⟩ := ro012_run hs (by omega) (.list (rows.map encR)) (.int D) (.bool e) k
  have c3 : ∃ (j : Nat) (s2 : DS), j ≤ 2 ∧ (j = 0 ∨ Can rows) ∧ St s2 (a + 5) ∧ ro3 (rC s1 (.list (rows.map encR)) (.int D) (.bool e) (.sh (dn m)) .no .no .no (.sh (rg m)) (.sh w) (.sh (dn x)) (.sh (dn y)) .no .no .no .no) = .ok .nx (rC s2 (.list (rows.map encR)) (.int D) (.bool e) (.sh (dn m)) (.sh (dn j)) .no .no (.sh (rg m)) (.sh w) (.sh (dn x)) (.sh (dn y)) .no .no .no .no) := by
    rcases hc with ⟨rfl, rfl⟩ | ⟨hc, rfl, hr⟩
    · exact ⟨0, s1, by omega, .inl rfl, h1.mono (by omega), ro3_none _ _ _ _ _ _⟩
    · obtain ⟨j, s2, hj, h2, e2⟩ := ro3_some (R := rows.map encR) h1 (by omega) (by have := hc.ne; simpa using this) (shaped_Rs hr hc.len) (.bool e) (dn m) (rg m) w (dn x) (dn y)
      exact ⟨j, s2, hj, .inr hc, h2, e2⟩
  obtain ⟨j, s2, hj, hcj, h2, e2⟩ := c3
  have fin : ∃ (q : Nat × Ac) (s' : DS) (c : Cfg), RowD (rows.map (·.1)) q ∧ St s' (a + 30) ∧ c.s = s' ∧
      seq (ifS (toB (m2 eqD (rd 9) (ret (.str "take")))) (seq tk0 (seq tkF tkR)) (ret .nx)) (seq ro5 (seq ro6 (seq ro7 ro8))) (rC s2 (.list (rows.map encR)) (.int D) (.bool e) (.sh (dn m)) (.sh (dn j)) .no .no (.sh (rg m)) (.sh w) (.sh (dn x)) (.sh (dn y)) .no .no .no .no) = .ok (.rt (.sh (encR q))) c := by
    have us : ∀ us : List Us, (us.map fun u => ((none : Option Nat), u)).map (·.2) = us := fun us => by
      rw [List.map_map]
      exact List.map_id us
    simp only [wordsL, List.mem_cons, List.mem_nil_iff, or_false] at hw
    rcases hw with rfl | rfl | rfl | rfl
    · have e5 := ro5_run (R := .list (rows.map encR)) (D := .int D) (E := .bool e) (s := s2) (x := dn x) (y := dn y) (k := dn j) (w := "wait") (b := false) m3 w_wait_open
      obtain ⟨us', s3, l3, g3, h3, e6⟩ := ro6_run (D := .int D) (E := .bool e) (x := dn x) (y := dn y) (w := "wait") (b := false) h2 (by omega) hj hcj m1 m3
      refine ⟨(m, .wait us'), s3, rC s3 (.list (rows.map encR)) (.int D) (.bool e) (.sh (dn m)) (.sh (dn j)) (.sh (.list ((moreN m false).map dn))) (.sh (.tuple (us'.map encU))) (.sh (rg m)) (.sh (.str "wait")) (.sh (dn x)) (.sh (dn y)) .no .no .no .no, ⟨m1, m3, fun u hu => (g3 u hu).1, by simp [casesA]; omega, fun u hu => (g3 u (by rw [usesA, casesA, us] at hu; exact hu)).2⟩, h3.mono (by omega), rfl, ?_⟩
      refine sq (c' := rC s2 (.list (rows.map encR)) (.int D) (.bool e) (.sh (dn m)) (.sh (dn j)) .no .no (.sh (rg m)) (.sh (.str "wait")) (.sh (dn x)) (.sh (dn y)) .no .no .no .no) (ifF (c' := rC s2 (.list (rows.map encR)) (.int D) (.bool e) (.sh (dn m)) (.sh (dn j)) .no .no (.sh (rg m)) (.sh (.str "wait")) (.sh (dn x)) (.sh (dn y)) .no .no .no .no) (by simp) rfl) (sq e5 (sq e6 ?_))
      simp [ro7, ro8, encR, encA]
    · have e5 := ro5_run (R := .list (rows.map encR)) (D := .int D) (E := .bool e) (s := s2) (x := dn x) (y := dn y) (k := dn j) (w := "send") (b := false) m3 w_send_open
      obtain ⟨us', s3, l3, g3, h3, e6⟩ := ro6_run (D := .int D) (E := .bool e) (x := dn x) (y := dn y) (w := "send") (b := false) h2 (by omega) hj hcj m1 m3
      refine ⟨(m, .send x y us'), s3, rC s3 (.list (rows.map encR)) (.int D) (.bool e) (.sh (dn m)) (.sh (dn j)) (.sh (.list ((moreN m false).map dn))) (.sh (.tuple (us'.map encU))) (.sh (rg m)) (.sh (.str "send")) (.sh (dn x)) (.sh (dn y)) .no .no .no .no, ⟨m1, m3, ⟨hx, hy, fun u hu => (g3 u hu).1⟩, by simp [casesA]; omega, fun u hu => (g3 u (by rw [usesA, casesA, us] at hu; exact hu)).2⟩, h3.mono (by omega), rfl, ?_⟩
      refine sq (c' := rC s2 (.list (rows.map encR)) (.int D) (.bool e) (.sh (dn m)) (.sh (dn j)) .no .no (.sh (rg m)) (.sh (.str "send")) (.sh (dn x)) (.sh (dn y)) .no .no .no .no) (ifF (c' := rC s2 (.list (rows.map encR)) (.int D) (.bool e) (.sh (dn m)) (.sh (dn j)) .no .no (.sh (rg m)) (.sh (.str "send")) (.sh (dn x)) (.sh (dn y)) .no .no .no .no) (by simp) rfl) (sq e5 (sq e6 ?_))
      simp [ro7, ro8, encR, encA]
    · have e5 := ro5_run (R := .list (rows.map encR)) (D := .int D) (E := .bool e) (s := s2) (x := dn x) (y := dn y) (k := dn j) (w := "open") (b := true) m3 w_open_open
      obtain ⟨us', s3, l3, g3, h3, e6⟩ := ro6_run (D := .int D) (E := .bool e) (x := dn x) (y := dn y) (w := "open") (b := true) h2 (by omega) hj hcj m1 m3
      refine ⟨(m, .opn x us'), s3, rC s3 (.list (rows.map encR)) (.int D) (.bool e) (.sh (dn m)) (.sh (dn j)) (.sh (.list ((moreN m true).map dn))) (.sh (.tuple (us'.map encU))) (.sh (rg m)) (.sh (.str "open")) (.sh (dn x)) (.sh (dn y)) .no .no .no .no, ⟨m1, m3, ⟨hx, fun u hu => (g3 u hu).1⟩, by simp [casesA]; omega, fun u hu => (g3 u (by rw [usesA, casesA, us] at hu; exact hu)).2⟩, h3.mono (by omega), rfl, ?_⟩
      refine sq (c' := rC s2 (.list (rows.map encR)) (.int D) (.bool e) (.sh (dn m)) (.sh (dn j)) .no .no (.sh (rg m)) (.sh (.str "open")) (.sh (dn x)) (.sh (dn y)) .no .no .no .no) (ifF (c' := rC s2 (.list (rows.map encR)) (.int D) (.bool e) (.sh (dn m)) (.sh (dn j)) .no .no (.sh (rg m)) (.sh (.str "open")) (.sh (dn x)) (.sh (dn y)) .no .no .no .no) (by simp) rfl) (sq e5 (sq e6 ?_))
      simp [ro7, ro8, encR, encA]
    · obtain ⟨ps, s3, c, g3, h3, hcs, e6⟩ := tkF_run (D := .int D) (e := e) (y := y) h2 (by omega) hj hcj m1 m3 hx
      refine ⟨(m, .take x ps), s3, c, g3, h3.mono (by omega), hcs, ?_⟩
      exact sqR (ifT (c' := rC s2 (.list (rows.map encR)) (.int D) (.bool e) (.sh (dn m)) (.sh (dn j)) .no .no (.sh (rg m)) (.sh (.str "take")) (.sh (dn x)) (.sh (dn y)) .no .no .no .no) (by simp) e6)
  obtain ⟨q, s', c, g, h', hcs, e3⟩ := fin
  refine ⟨q, s', ?_, g, h'⟩
  have run : m__law_row (rC s (.list (rows.map encR)) (.int D) (.bool e) .no .no .no .no .no .no .no .no .no .no .no .no) = .ok (.rt (.sh (encR q))) c := by
    rw [row_eq]
    exact e1.trans (sq e2 e3)
  show runG true false 16 m__law_row [.list (rows.map encR), .int D, .bool e] [] s = _
  unfold runG
  rw [show initG true false 16 [.list (rows.map encR), .int D, .bool e] [] = [.st, .sh (.list (rows.map encR)), .sh (.int D), .sh (.bool e), .no, .no, .no, .no, .no, .no, .no, .no, .no, .no, .no, .no] from rfl]
  rw [run]
  simp [endG, hcs]
end Pn

set_option maxHeartbeats 2000003
namespace Pn
open L2 PyProof.Rows PySem.Spec PySem
/-! ### _law_lifted -/
theorem paired_map {α : Type} {R : Dat → Dat → Prop} (e f : α → Dat) : ∀ l : List α, (∀ x ∈ l, R (e x) (f x)) → Paired R (l.map e) (l.map f)
  | [], _ => .nil
  | x :: l, h => .cons (h x List.mem_cons_self) (paired_map e f l fun y hy => h y (List.mem_cons_of_mem _ hy))
theorem lcM_al {α : Type} {e f : α → Dat} {b : Dat → Cfg → Option Cfg} {me : M Dat} {vs : List Nat} {c : Cfg} {items : List α} (h : ∀ x ∈ items, ∃ c1 c3, b (e x) { c with r := clr vs c.r } = some c1 ∧ me c1 = .ok (f x) c3 ∧ { c3 with r := clr vs c3.r } = { c with r := clr vs c.r })
    (q : vs.all (fun v => quiet c.r[v]?) = true) (hl : items.length ≤ 100000) (hb : back vs c.r (clr vs c.r) = c.r) : lcM vs b (ret true) me (items.map e) c = .ok (.fr (items.map f)) c :=
  lcM_rel (paired_map (R := fun d y => ∃ x ∈ items, d = e x ∧ y = f x) e f items fun x hx => ⟨x, hx, rfl, rfl⟩) (fun d y ⟨x, hx, e1, e2⟩ => by
    subst e1 e2
    exact h x hx) q (by rw [List.length_map]; exact hl) hb
def liftU (t : Nat) (u : Us) : Us := ⟨u.t, u.row + t, u.names⟩
def liftP (t : Nat) (p : Option Nat × Us) : Option Nat × Us := (p.1, liftU t p.2)
def liftA (t : Nat) : Ac → Ac
  | .wait us => .wait (us.map (liftU t))
  | .send a b us => .send a b (us.map (liftU t))
  | .opn a us => .opn a (us.map (liftU t))
  | .take a ps => .take a (ps.map (liftP t))
def liftR (t : Nat) (q : Nat × Ac) : Nat × Ac := (q.1, liftA t q.2)
theorem cut_t2 (a b c : Dat) : cutL [a, b, c] none (some 2) = [a, b] := by kernel_rfl
theorem cut_m2 (a b : Dat) : cutL [a, b] none (some (-1)) = [a] := by kernel_rfl
theorem cut_m3 (a b c : Dat) : cutL [a, b, c] none (some (-1)) = [a, b] := by kernel_rfl
theorem cut_m4 (a b c d : Dat) : cutL [a, b, c, d] none (some (-1)) = [a, b, c] := by kernel_rfl
theorem cat_t1 (a b : Dat) : catD (.tuple [a]) (.tuple [b]) = ret (.sh (.tuple [a, b])) := x_catT _ _ (by simp) (by simp)
theorem cat_t2 (a b c : Dat) : catD (.tuple [a, b]) (.tuple [c]) = ret (.sh (.tuple [a, b, c])) := x_catT _ _ (by simp) (by simp)
theorem cat_t3 (a b c d : Dat) : catD (.tuple [a, b, c]) (.tuple [d]) = ret (.sh (.tuple [a, b, c, d])) := x_catT _ _ (by simp) (by simp)
def lfT : M RV := M.bind (M.bind (ixD (rd 4) (ret (.int 2))) itT) (lcM [7, 6] (putTup 2 (putCons (put 7) (putCons (put 6) (putNil)))) (ret true) (M.bind (aCons (rd 7) (aCons (M.bind (aCons (ixD (rd 6) (ret (.int 0))) (aCons (m2 addI (ixD (rd 6) (ret (.int 1))) (rd 1)) (aCons (ixD (rd 6) (ret (.int 2))) (aNil)))) tupD) (aNil))) tupD))
def lfU : M RV := M.bind (M.bind (ixD (rd 4) (negV (ret (.int 1)))) itT) (lcM [6] (put 6) (ret true) (M.bind (aCons (ixD (rd 6) (ret (.int 0))) (aCons (m2 addI (ixD (rd 6) (ret (.int 1))) (rd 1)) (aCons (ixD (rd 6) (ret (.int 2))) (aNil)))) tupD))
theorem lf_eq : m__law_lifted = seq (M.bind (rd 0) (tgtM (putTup 2 (putCons (put 3) (putCons (put 4) (putNil)))))) (seq (ifS (toB (m2 eqD (ixD (rd 4) (ret (.int 0))) (ret (.str "take")))) (seq (M.bind (asx (M.bind (rowX lfT) tupR)) (asg 5)) (retS (asx (M.bind (aCons (rd 3) (aCons (frz (M.bind (frz (slM (rd 4) (ret none) (partO (ret (.int 2))))) fun x => M.bind (M.bind (aCons (rd 5) (aNil)) tupD) fun y => catD x y)) (aNil))) tupD)))) (ret .nx)) (seq (M.bind (asx (M.bind (rowX lfU) tupR)) (asg 2)) (retS (asx (M.bind (aCons (rd 3) (aCons (frz (M.bind (frz (slM (rd 4) (ret none) (partO (negV (ret (.int 1)))))) fun x => M.bind (M.bind (aCons (rd 2) (aNil)) tupD) fun y => catD x y)) (aNil))) tupD))))) := rfl
abbrev lfC (R : Dat) (t : Nat) (m A : Dat) : Cfg := ⟨[.sh R, .sh (dn t), .no, .sh m, .sh A, .no, .no, .no], s0⟩
theorem lfT_run {R m w n : Dat} {t : Nat} {ps : List (Option Nat × Us)} (hl : ps.length ≤ 1000) : lfT (lfC R t m (.tuple [w, n, .tuple (ps.map encP)])) = .ok (.fr ((ps.map (liftP t)).map encP)) (lfC R t m (.tuple [w, n, .tuple (ps.map encP)])) := by
  have lc := lcM_al (e := encP) (f := fun p => encP (liftP t p)) (b := putTup 2 (putCons (put 7) (putCons (put 6) (putNil)))) (me := M.bind (aCons (rd 7) (aCons (M.bind (aCons (ixD (rd 6) (ret (.int 0))) (aCons (m2 addI (ixD (rd 6) (ret (.int 1))) (rd 1)) (aCons (ixD (rd 6) (ret (.int 2))) (aNil)))) tupD) (aNil))) tupD) (vs := [7, 6]) (c := lfC R t m (.tuple [w, n, .tuple (ps.map encP)])) (items := ps) (fun p hp => by
    refine ⟨⟨[.sh R, .sh (dn t), .no, .sh m, .sh (.tuple [w, n, .tuple (ps.map encP)]), .no, .sh (encU p.2), .sh (encC p.1)], s0⟩, ⟨[.sh R, .sh (dn t), .no, .sh m, .sh (.tuple [w, n, .tuple (ps.map encP)]), .no, .sh (encU p.2), .sh (encC p.1)], s0⟩, rfl, ?_, rfl⟩
    have e : ((p.2.row + t : Nat) : Int) = (p.2.row : Int) + (t : Int) := by omega
    simp [encP, encU, liftP, liftU, e]) rfl (by omega) rfl
  unfold lfT
  rw [x_bind, x_bind]
  have i : ixD (rd 4) (ret (.int 2)) (lfC R t m (.tuple [w, n, .tuple (ps.map encP)])) = .ok (.tuple (ps.map encP)) (lfC R t m (.tuple [w, n, .tuple (ps.map encP)])) := by simp
  rw [i]
  show lcM _ _ _ _ (ps.map encP) _ = _
  rw [lc, List.map_map]
  rfl
theorem lfU_run {R m A : Dat} {t : Nat} {us : List Us} (hl : us.length ≤ 1000) (i : ixD (rd 4) (negV (ret (.int 1))) (lfC R t m A) = .ok (.tuple (us.map encU)) (lfC R t m A)) : lfU (lfC R t m A) = .ok (.fr ((us.map (liftU t)).map encU)) (lfC R t m A) := by
  have lc := lcM_al (e := encU) (f := fun u => encU (liftU t u)) (b := put 6) (me := M.bind (aCons (ixD (rd 6) (ret (.int 0))) (aCons (m2 addI (ixD (rd 6) (ret (.int 1))) (rd 1)) (aCons (ixD (rd 6) (ret (.int 2))) (aNil)))) tupD) (vs := [6]) (c := lfC R t m A) (items := us) (fun u hu => by
    refine ⟨⟨[.sh R, .sh (dn t), .no, .sh m, .sh A, .no, .sh (encU u), .no], s0⟩, ⟨[.sh R, .sh (dn t), .no, .sh m, .sh A, .no, .sh (encU u), .no], s0⟩, rfl, ?_, rfl⟩
    have e : ((u.row + t : Nat) : Int) = (u.row : Int) + (t : Int) := by omega
    simp [encU, liftU, e]) rfl (by omega) rfl
  unfold lfU
  rw [x_bind, x_bind, i]
  show lcM _ _ _ _ (us.map encU) _ = _
  rw [lc, List.map_map]
  rfl
theorem run_lifted {q : Nat × Ac} {t : Nat} (hl : (casesA q.2).length ≤ 1000) : g__law_lifted [encR q, dn t] = .ok (.sh (encR (liftR t q))) := by
  obtain ⟨m, a⟩ := q
  show runP 8 m__law_lifted _ = _
  rw [lf_eq]
  cases a with
  | wait us =>
    have u := lfU_run (R := encR (m, .wait us)) (m := dn m) (A := encA (.wait us)) (t := t) (us := us) (by simpa [casesA] using hl) (by simp [encA, last2])
    simp only [encR, encA] at u
    simp only [encR, liftR, liftA, encA]
    simp [u, cut_m2, cat_t1]
  | send x y us =>
    have u := lfU_run (R := encR (m, .send x y us)) (m := dn m) (A := encA (.send x y us)) (t := t) (us := us) (by simpa [casesA] using hl) (by simp [encA, last4])
    simp only [encR, encA] at u
    simp only [encR, liftR, liftA, encA]
    simp [u, cut_m4, cat_t3]
  | opn x us =>
    have u := lfU_run (R := encR (m, .opn x us)) (m := dn m) (A := encA (.opn x us)) (t := t) (us := us) (by simpa [casesA] using hl) (by simp [encA, last3])
    simp only [encR, encA] at u
    simp only [encR, liftR, liftA, encA]
    simp [u, cut_m3, cat_t2]
  | take x ps =>
    have u := lfT_run (R := encR (m, .take x ps)) (m := dn m) (w := .str "take") (n := dn x) (t := t) (ps := ps) hl
    simp only [encR, encA] at u
    simp only [encR, liftR, liftA, encA]
    simp [u, cut_t2, cat_t2]
/-! ### lifted rows are good -/
theorem GoodU.app {ms xs : List Nat} {e : Nat} {u : Us} (h : GoodU ms e u) : GoodU (ms ++ xs) e u := ⟨by rw [List.getElem?_append_left h.lt]; exact h.1, h.2⟩
theorem GoodU.lift {ms pre : List Nat} {e : Nat} {u : Us} (h : GoodU ms e u) : GoodU (pre ++ ms) e (liftU pre.length u) := ⟨by
  show (pre ++ ms)[u.row + pre.length]? = _
  rw [List.getElem?_append_right (by omega), Nat.add_sub_cancel]
  exact h.1, h.2⟩
theorem GoodP.app {ms xs : List Nat} {m : Nat} {p : Option Nat × Us} (h : GoodP ms m p) : GoodP (ms ++ xs) m p := by
  obtain ⟨c, u⟩ := p
  cases c with
  | none => exact GoodU.app h
  | some n => exact ⟨h.1, GoodU.app h.2⟩
theorem GoodP.lift {ms pre : List Nat} {m : Nat} {p : Option Nat × Us} (h : GoodP ms m p) : GoodP (pre ++ ms) m (liftP pre.length p) := by
  obtain ⟨c, u⟩ := p
  cases c with
  | none => exact GoodU.lift h
  | some n => exact ⟨h.1, GoodU.lift h.2⟩
theorem GoodA.app {ms xs : List Nat} {m : Nat} {a : Ac} (h : GoodA ms m a) : GoodA (ms ++ xs) m a := by
  cases a with
  | wait us => exact fun u hu => (h u hu).app
  | send x y us => exact ⟨h.1, h.2.1, fun u hu => (h.2.2 u hu).app⟩
  | opn x us => exact ⟨h.1, fun u hu => (h.2 u hu).app⟩
  | take x ps => exact ⟨h.1, fun p hp => (h.2 p hp).app⟩
theorem GoodA.lift {ms pre : List Nat} {m : Nat} {a : Ac} (h : GoodA ms m a) : GoodA (pre ++ ms) m (liftA pre.length a) := by
  have us : ∀ {e : Nat} {us : List Us}, (∀ u ∈ us, GoodU ms e u) → ∀ u ∈ us.map (liftU pre.length), GoodU (pre ++ ms) e u := fun h u hu => by
    obtain ⟨v, hv, rfl⟩ := List.mem_map.mp hu
    exact (h v hv).lift
  cases a with
  | wait us' => exact us h
  | send x y us' => exact ⟨h.1, h.2.1, us h.2.2⟩
  | opn x us' => exact ⟨h.1, us h.2⟩
  | take x ps => exact ⟨h.1, fun p hp => by
    obtain ⟨v, hv, rfl⟩ := List.mem_map.mp hp
    exact (h.2 v hv).lift⟩
theorem cases_lift (t : Nat) (a : Ac) : casesA (liftA t a) = (casesA a).map (liftP t) := by
  cases a <;> simp [casesA, liftA, liftP]
theorem RowD.lift {ms pre : List Nat} {q : Nat × Ac} (h : RowD ms q) (hl : (pre ++ ms).length ≤ 40) : RowD (pre ++ ms) (liftR pre.length q) where
  lo := h.lo
  hi := h.hi
  good := h.good.lift
  few := by
    show (casesA (liftA pre.length q.2)).length ≤ 2
    rw [cases_lift, List.length_map]
    exact h.few
  small := fun u hu => by
    have hu : u ∈ (casesA (liftA pre.length q.2)).map (·.2) := hu
    rw [cases_lift, List.map_map] at hu
    obtain ⟨p, hp, rfl⟩ := List.mem_map.mp hu
    have s := h.small p.2 (List.mem_map.mpr ⟨p, hp, rfl⟩)
    have lt := rows_lt h.good p hp
    rw [List.length_append] at hl
    exact ⟨s.ne, s.len, s.lt, by show p.2.row + pre.length < 50; omega⟩
theorem RowD.app {ms xs : List Nat} {q : Nat × Ac} (h : RowD ms q) : RowD (ms ++ xs) q := ⟨h.lo, h.hi, h.good.app, h.few, h.small⟩
theorem Rows.app : ∀ {ms : List Nat} {r r2 : List (Nat × Ac)}, Rows ms r → Rows (ms ++ r.map (·.1)) r2 → Rows ms (r ++ r2)
  | ms, _, r2, .nil, h => by simpa using h
  | ms, _, r2, .cons (m := m) (a := a) (r := r) hm g f t, h => .cons hm g f (Rows.app t (by
    have e : ms ++ [m] ++ r.map (·.1) = ms ++ ((m, a) :: r).map (·.1) := by simp
    rw [e]
    exact h))
theorem RowD.rows : ∀ {xs : List (Nat × Ac)} {ms ms2 : List Nat}, (∀ q ∈ xs, RowD ms q) → Rows (ms ++ ms2) xs
  | [], _, _, _ => .nil
  | (m, a) :: xs, ms, ms2, h => by
    have z := h (m, a) List.mem_cons_self
    refine .cons (by have := z.hi; show m ≤ 24; have : m ≤ 3 := z.hi; omega) z.good.app ⟨by have : (casesA a).length ≤ 2 := z.few; omega, fun u hu => by have := (z.small u hu).len; omega⟩ ?_
    rw [List.append_assoc]
    exact RowD.rows fun q hq => h q (List.mem_cons_of_mem _ hq)
end Pn

set_option maxHeartbeats 2000003
namespace Pn
open L2 PyProof.Rows PySem.Spec PySem
/-! ### _law_sentence -/
def se0 : M Ctl := M.bind (asx (frz (M.bind (M.bind (aCons (ret (.int 2)) aNil) itR) (lcM [6] (put 6) (ret true) (frz (callSM 3 g__law_row (stArg 0 (aCons (frz (M.bind (aNil) lstD)) (aCons (ret (.int 1)) (aCons (rd 2) (aNil))))))))))) (asg 4)
def se1 : M Ctl := M.bind (asx (ret (.int 0))) (asg 5)
def sl1 : M Ctl := M.bind (asx (frz (M.bind (M.bind (aCons (ret (.int 2)) aNil) itR) (lcM [9] (put 9) (ret true) (frz (callSM 3 g__law_row (stArg 0 (aCons (frz (slM (rd 4) (partO (rd 5)) (ret none))) (aCons (ret (.int 2)) (aCons (rd 2) (aNil))))))))))) (asg 8)
def sl2 : M Ctl := M.bind (asx (frz (M.bind (M.bind (rd 8) itL) (lcM [10] (put 10) (ret true) (frz (callN 2 g__law_lifted (aCons (rd 10) (aCons (rd 5) (aNil))))))))) (asg 8)
def sl3 : M Ctl := M.bind (asx (M.bind (rowVar 4) lenR)) (asg 5)
def sl4 : M Ctl := M.bind (asx (frz (M.bind (rd 4) fun x => M.bind (rd 8) fun y => catD x y))) (asg 4)
def slB : M Ctl := seq sl1 (seq sl2 (seq sl3 sl4))
def seF : M Ctl := M.bind (M.bind (aCons (m2 subI (rd 1) (ret (.int 1))) aNil) itR) fun items => forL (put 6) slB items
def se3 : M Ctl := M.bind (asx (frz (callSM 2 g__law_use (stArg 0 (aCons (frz (slM (rd 4) (partO (rd 5)) (ret none))) (aCons (frz (M.bind (rd 3) lsRgR)) (aNil))))))) (asg 7)
def se4 : M Ctl := retS (asx (M.bind (aCons (M.bind (rowVar 4) tupR) (aCons (M.bind (aCons (ixD (rd 7) (ret (.int 0))) (aCons (m2 addI (ixD (rd 7) (ret (.int 1))) (rd 5)) (aCons (ixD (rd 7) (ret (.int 2))) (aNil)))) tupD) (aNil))) tupD))
theorem se_eq : m__law_sentence = seq se0 (seq se1 (seq seF (seq se3 se4))) := rfl
abbrev sC (s : DS) (k e l : Dat) (ro to tn us fr : Sl) : Cfg := ⟨[.st, .sh k, .sh e, .sh l, ro, to, tn, us, fr, .no, .no], s⟩
theorem it_2 : itR [.int 2] = ret (numL 0 2) := itR_n (n := 2) (by omega)
theorem se0_run {s : DS} {a : Nat} {k l : Dat} {e : Bool} (hs : St s a) (ha : a ≤ 10000) : ∃ (xs : List (Nat × Ac)) (s' : DS), xs.length = 2 ∧ (∀ q ∈ xs, RowD [] q) ∧ St s' (a + 60) ∧
    se0 (sC s k (.bool e) l .no .no .no .no .no) = .ok .nx (sC s' k (.bool e) l (.sh (.list (xs.map encR))) .no .no .no .no) := by
  obtain ⟨xs, s', e1, hl, hq, h1⟩ := lcM_dr (e := encR) (Q := fun q => RowD [] q) (b := put 6) (me := frz (callSM 3 g__law_row (stArg 0 (aCons (frz (M.bind (aNil) lstD)) (aCons (ret (.int 1)) (aCons (rd 2) (aNil))))))) (vs := [6]) (R := [.st, .sh k, .sh (.bool e), .sh l, .no, .no, .no, .no, .no, .no, .no]) 30 20000 (items := numL 0 2) (fun d s a hs ha => by
    obtain ⟨q, s1, e1, g, h1⟩ := run_row (rows := []) (D := 1) (e := e) (a := a) hs (by omega) (.inl ⟨rfl, rfl⟩)
    refine ⟨q, s1, ⟨[.st, .sh k, .sh (.bool e), .sh l, .no, .no, .sh d, .no, .no, .no, .no], s⟩, ⟨[.st, .sh k, .sh (.bool e), .sh l, .no, .no, .sh d, .no, .no, .no, .no], s1⟩, rfl, ?_, rfl, g, h1⟩
    rw [List.map_nil] at e1
    simp [e1]) hs (by rw [numL_len]; omega) (by rw [numL_len]; omega) rfl rfl rfl
  rw [numL_len] at hl h1
  refine ⟨xs, s', hl, hq, h1, ?_⟩
  have it := it_2
  generalize numL 0 2 = items at it e1
  generalize xs.map encR = X at e1 ⊢
  simp only [se0]
  simp [it]
  simp [e1]
structure SlI (pre last : List (Nat × Ac)) : Prop where
  rows : Rows [] (pre ++ last)
  each : ∀ q ∈ pre ++ last, ∃ ms, RowD ms q
  two : last.length = 2
theorem SlI.can {pre last : List (Nat × Ac)} (h : SlI pre last) : Can last where
  ne := by
    intro z
    have := h.two
    rw [z] at this
    exact absurd this (by decide)
  len := by have := h.two; omega
  lo := fun q hq => by
    obtain ⟨ms, z⟩ := h.each q (List.mem_append_right _ hq)
    exact ⟨z.lo, z.hi⟩
theorem drop_pre (pre last : List (Nat × Ac)) : cutL ((pre ++ last).map encR) (some (pre.length : Int)) none = last.map encR := by
  rw [cut_from _ _ (by rw [List.length_map, List.length_append]; omega), List.map_append, List.drop_append_of_le_length (by rw [List.length_map]; omega)]
  rw [List.drop_eq_nil_of_le (by rw [List.length_map]; omega), List.nil_append]
theorem sl1_run {s : DS} {a : Nat} {k l : Dat} {e : Bool} {tn fr : Sl} {pre last : List (Nat × Ac)} (hs : St s a) (ha : a ≤ 10000) (h : SlI pre last) (hf : Shn fr) : ∃ (xs : List (Nat × Ac)) (s' : DS), xs.length = 2 ∧ (∀ q ∈ xs, RowD (last.map (·.1)) q) ∧ St s' (a + 60) ∧
    sl1 (sC s k (.bool e) l (.sh (.list ((pre ++ last).map encR))) (.sh (dn pre.length)) tn .no fr) = .ok .nx (sC s' k (.bool e) l (.sh (.list ((pre ++ last).map encR))) (.sh (dn pre.length)) tn .no (.sh (.list (xs.map encR)))) := by
  have dr := drop_pre pre last
  obtain ⟨xs, s', e1, hl, hq, h1⟩ := lcM_dr (e := encR) (Q := fun q => RowD (last.map (·.1)) q) (b := put 9) (me := frz (callSM 3 g__law_row (stArg 0 (aCons (frz (slM (rd 4) (partO (rd 5)) (ret none))) (aCons (ret (.int 2)) (aCons (rd 2) (aNil))))))) (vs := [9]) (R := [.st, .sh k, .sh (.bool e), .sh l, (.sh (.list ((pre ++ last).map encR))), (.sh (dn pre.length)), tn, .no, fr, .no, .no]) 30 20000 (items := numL 0 2) (fun d s a hs ha => by
    obtain ⟨q, s1, e1, g, h1⟩ := run_row (rows := last) (D := 2) (e := e) (a := a) hs (by omega) (.inr ⟨h.can, rfl, fun q hq => h.each q (List.mem_append_right _ hq)⟩)
    refine ⟨q, s1, ⟨[.st, .sh k, .sh (.bool e), .sh l, (.sh (.list ((pre ++ last).map encR))), (.sh (dn pre.length)), tn, .no, fr, .sh d, .no], s⟩, ⟨[.st, .sh k, .sh (.bool e), .sh l, (.sh (.list ((pre ++ last).map encR))), (.sh (dn pre.length)), tn, .no, fr, .sh d, .no], s1⟩, rfl, ?_, rfl, g, h1⟩
    generalize (pre ++ last).map encR = PL at dr ⊢
    generalize last.map encR = LL at dr e1
    simp [dr, e1]) hs (by rw [numL_len]; omega) (by rw [numL_len]; omega) rfl rfl rfl
  rw [numL_len] at hl h1
  refine ⟨xs, s', hl, hq, h1, ?_⟩
  have it := it_2
  generalize numL 0 2 = items at it e1
  generalize xs.map encR = X at e1 ⊢
  generalize (pre ++ last).map encR = PL at e1 ⊢
  rcases hf with rfl | ⟨f, rfl⟩
  · simp only [sl1]
    simp [it]
    simp [e1]
  · simp only [sl1]
    simp [it]
    simp [e1]
theorem sl2_run {s : DS} {k l e P : Dat} {tn : Sl} {t : Nat} {xs : List (Nat × Ac)} (hl : xs.length ≤ 1000) (h : ∀ q ∈ xs, (casesA q.2).length ≤ 1000) :
    sl2 (sC s k e l (.sh P) (.sh (dn t)) tn .no (.sh (.list (xs.map encR)))) = .ok .nx (sC s k e l (.sh P) (.sh (dn t)) tn .no (.sh (.list ((xs.map (liftR t)).map encR)))) := by
  have lc := lcM_al (e := encR) (f := fun q => encR (liftR t q)) (b := put 10) (me := frz (callN 2 g__law_lifted (aCons (rd 10) (aCons (rd 5) (aNil))))) (vs := [10]) (c := sC s k e l (.sh P) (.sh (dn t)) tn .no (.sh (.list (xs.map encR)))) (items := xs) (fun q hq => by
    have z := run_lifted (t := t) (h q hq)
    exact ⟨⟨[.st, .sh k, .sh e, .sh l, .sh P, .sh (dn t), tn, .no, .sh (.list (xs.map encR)), .no, .sh (encR q)], s⟩, ⟨[.st, .sh k, .sh e, .sh l, .sh P, .sh (dn t), tn, .no, .sh (.list (xs.map encR)), .no, .sh (encR q)], s⟩, rfl, by simp [z], rfl⟩) rfl (by omega) rfl
  have m : (xs.map fun q => encR (liftR t q)) = (xs.map (liftR t)).map encR := by rw [List.map_map]; rfl
  rw [m] at lc
  generalize (xs.map (liftR t)).map encR = Y at lc ⊢
  generalize xs.map encR = X at lc ⊢
  simp only [sl2]
  simp
  simp [lc]
theorem sl34_run {s : DS} {k l e : Dat} {tn : Sl} {t : Nat} {p xs : List (Nat × Ac)} (hp : p.length ≤ 1000) (hl : xs.length ≤ 1000) :
    seq sl3 sl4 (sC s k e l (.sh (.list (p.map encR))) (.sh (dn t)) tn .no (.sh (.list (xs.map encR)))) = .ok .nx (sC s k e l (.sh (.list ((p ++ xs).map encR))) (.sh (dn p.length)) tn .no (.sh (.list (xs.map encR)))) := by
  have c := x_catL (p.map encR) (xs.map encR) (by rw [List.length_map]; omega) (by rw [List.length_map]; omega)
  have n : (p.map encR).length = p.length := List.length_map _
  rw [List.map_append]
  generalize xs.map encR = X at c ⊢
  generalize p.map encR = PP at c n ⊢
  simp [sl3, sl4, n, c]
def seI (k l : Dat) (e : Bool) (a j : Nat) (c : Cfg) : Prop :=
  ∃ (s : DS) (tn fr : Sl) (pre last : List (Nat × Ac)), c = sC s k (.bool e) l (.sh (.list ((pre ++ last).map encR))) (.sh (dn pre.length)) tn .no fr ∧ Shn tn ∧ Shn fr ∧ SlI pre last ∧ pre.length = 2 * j ∧ St s (a + 60 * j)
theorem se_one {k l : Dat} {e : Bool} {a j : Nat} {c : Cfg} (ha : a ≤ 5000) (hj : j ≤ 4) (i : Nat) (h : seI k l e a j c) : ∃ c1 c2, put 6 (dn i) c = some c1 ∧ slB c1 = .ok .nx c2 ∧ seI k l e a (j + 1) c2 := by
  obtain ⟨s, tn, fr, pre, last, rfl, h1, h2, h3, h4, h5⟩ := h
  obtain ⟨xs, s', hl, hq, hs, e1⟩ := sl1_run (k := k) (l := l) (e := e) (tn := .sh (dn i)) h5 (by omega) h3 h2
  have e2 := sl2_run (s := s') (k := k) (l := l) (e := .bool e) (P := .list ((pre ++ last).map encR)) (tn := .sh (dn i)) (t := pre.length) (xs := xs) (by omega) (fun q h => by have := (hq q h).few; omega)
  have e3 := sl34_run (s := s') (k := k) (l := l) (e := .bool e) (tn := .sh (dn i)) (t := pre.length) (p := pre ++ last) (xs := xs.map (liftR pre.length)) (by rw [List.length_append, h3.two]; omega) (by rw [List.length_map]; omega)
  have ll := h3.two
  have each : ∀ q ∈ xs.map (liftR pre.length), RowD ((pre ++ last).map (·.1)) q := fun q hq2 => by
    obtain ⟨x, hx, rfl⟩ := List.mem_map.mp hq2
    have z := (hq x hx).lift (pre := pre.map (·.1)) (by rw [List.length_append, List.length_map, List.length_map]; omega)
    rw [List.length_map] at z
    rw [List.map_append]
    exact z
  refine ⟨sC s k (.bool e) l (.sh (.list ((pre ++ last).map encR))) (.sh (dn pre.length)) (.sh (dn i)) .no fr, _, ?_, sq e1 (sq e2 e3), ⟨s', .sh (dn i), .sh (.list ((xs.map (liftR pre.length)).map encR)), pre ++ last, xs.map (liftR pre.length), rfl, .inr ⟨_, rfl⟩, .inr ⟨_, rfl⟩, ⟨?_, ?_, by rw [List.length_map]; exact hl⟩, by rw [List.length_append]; omega, hs.mono (by omega)⟩⟩
  · rcases h1 with rfl | ⟨d, rfl⟩ <;> rfl
  · refine Rows.app h3.rows ?_
    have z := RowD.rows (ms2 := []) each
    rw [List.append_nil] at z
    exact z
  · intro q hq2
    rcases List.mem_append.mp hq2 with z | z
    · exact h3.each q z
    · exact ⟨_, each q z⟩
structure SeD (s : Se) : Prop where
  rows : Rows [] s.rows
  each : ∀ q ∈ s.rows, ∃ ms, RowD ms q
  lo : 2 ≤ s.rows.length
  hi : s.rows.length ≤ 6
  use : GoodU (s.rows.map (·.1)) 10 s.use
  small : Small s.use
theorem SeD.good {s : Se} (h : SeD s) : GoodS s := ⟨h.rows, h.use, by have := h.small.len; omega, by have := h.hi; omega⟩
theorem seF_eq {s : DS} {k l e P t nd : Dat} {items : List Dat} {c' : Cfg} (n : ∀ c, subI k (.int 1) c = .ok nd c) (it : itR [nd] = ret items) (e1 : forL (put 6) slB items (sC s k e l (.sh P) (.sh t) .no .no .no) = .ok .nx c') : seF (sC s k e l (.sh P) (.sh t) .no .no .no) = .ok .nx c' := by
  simp [seF, n, it]
  exact e1
theorem se3_run {s : DS} {a : Nat} {k : Dat} {e : Bool} {tn fr : Sl} {pre last : List (Nat × Ac)} (hs : St s a) (ha : a ≤ 10000) (h : SlI pre last) (hp : pre.length ≤ 4) : ∃ (u : Us) (s' : DS) (c : Cfg), SeD ⟨pre ++ last, liftU pre.length u⟩ ∧ St s' (a + 6) ∧ c.s = s' ∧
    seq se3 se4 (sC s k (.bool e) (.int 10) (.sh (.list ((pre ++ last).map encR))) (.sh (dn pre.length)) tn .no fr) = .ok (.rt (.sh (encS ⟨pre ++ last, liftU pre.length u⟩))) c := by
  have dr := drop_pre pre last
  have cn := h.can
  have ls : lsRgR (.int 10) = ret (.fr ((List.range 10).map dn)) := lsRg_n (n := 10) (by omega)
  obtain ⟨u, s1, e1, hq, hn, h1⟩ := run_use (rows := last) (nm := List.range 10) hs (by omega) cn.ne (by have := cn.len; omega) cn.lo (by decide) (by decide)
  obtain ⟨g1, g2⟩ := use_q cn hq hn (e := 10) (fun n hn => List.mem_range.mp hn) (by omega)
  have gl := g1.lift (pre := pre.map (·.1))
  rw [List.length_map] at gl
  have two := h.two
  have lt := g1.lt
  rw [List.length_map] at lt
  refine ⟨u, s1, sC s1 k (.bool e) (.int 10) (.sh (.list ((pre ++ last).map encR))) (.sh (dn pre.length)) tn (.sh (encU u)) fr, ⟨h.rows, h.each, by show 2 ≤ (pre ++ last).length; rw [List.length_append]; omega, by show (pre ++ last).length ≤ 6; rw [List.length_append]; omega, by show GoodU ((pre ++ last).map (·.1)) 10 _; rw [List.map_append]; exact gl, ⟨g2.ne, g2.len, g2.lt, by show u.row + pre.length < 50; omega⟩⟩, h1, rfl, ?_⟩
  refine sq (c' := sC s1 k (.bool e) (.int 10) (.sh (.list ((pre ++ last).map encR))) (.sh (dn pre.length)) tn (.sh (encU u)) fr) ?_ ?_
  · generalize (List.range 10).map dn = N at ls e1
    generalize (pre ++ last).map encR = PL at dr ⊢
    generalize last.map encR = LL at dr e1
    generalize encU u = U at e1 ⊢
    simp [se3, dr, ls, e1]
  · have x : ((u.row + pre.length : Nat) : Int) = (u.row : Int) + (pre.length : Int) := by omega
    simp only [encS, liftU]
    generalize (pre ++ last).map encR = PL
    simp [se4, encU, x]
theorem run_sentence {s : DS} {a k : Nat} {e : Bool} (hs : St s a) (ha : a ≤ 4000) (h1 : 1 ≤ k) (h3 : k ≤ 3) : ∃ (S : Se) (s' : DS), g__law_sentence [dn k, .bool e, .int 10] [] s = .ok (.sh (encS S)) [] s' ∧ SeD S ∧ St s' (a + 200) := by
  obtain ⟨xs, s1, l1, q1, hs1, e1⟩ := se0_run (k := dn k) (l := .int 10) (e := e) hs (by omega)
  have e2 : se1 (sC s1 (dn k) (.bool e) (.int 10) (.sh (.list (xs.map encR))) .no .no .no .no) = .ok .nx (sC s1 (dn k) (.bool e) (.int 10) (.sh (.list (xs.map encR))) (.sh (dn 0)) .no .no .no) := by
    simp [se1]
  have i0 : seI (dn k) (.int 10) e (a + 60) 0 (sC s1 (dn k) (.bool e) (.int 10) (.sh (.list (xs.map encR))) (.sh (dn 0)) .no .no .no) :=
    ⟨s1, .no, .no, [], xs, rfl, .inl rfl, .inl rfl, ⟨by have z := RowD.rows (ms2 := []) q1; exact z, fun q hq => ⟨[], q1 q hq⟩, l1⟩, rfl, hs1⟩
  obtain ⟨c', e3, i3⟩ := for_inv (I := fun j c => seI (dn k) (.int 10) e (a + 60) j c) (b := put 6) (m := slB) 4 (numL 0 (k - 1)) 0 _ (fun d hd j c hj hi => by
    rw [numL_dn] at hd
    obtain ⟨i, _, rfl⟩ := List.mem_map.mp hd
    exact se_one (by omega) (by omega) i hi) (by rw [numL_len]; omega) i0
  rw [numL_len, Nat.zero_add] at i3
  obtain ⟨s2, tn, fr, pre, last, rfl, f1, f2, f3, f4, f5⟩ := i3
  obtain ⟨u, s3, c, g, hs3, hc, e4⟩ := se3_run (k := dn k) (e := e) (tn := tn) (fr := fr) f5 (by omega) f3 (by omega)
  refine ⟨⟨pre ++ last, liftU pre.length u⟩, s3, ?_, g, hs3.mono (by omega)⟩
  have nd : ∀ c, subI (dn k) (.int 1) c = .ok (dn (k - 1)) c := fun c => by
    show Res.ok (PyData.int ((k : Int) - 1)) c = _
    have x : (k : Int) - 1 = ((k - 1 : Nat) : Int) := by omega
    rw [x]
  have e5 := seF_eq (nd := dn (k - 1)) (items := numL 0 (k - 1)) (e := .bool e) nd (itR_n (by omega)) e3
  have run := sq e1 (sq e2 (sq e5 e4))
  rw [← se_eq] at run
  show runG true false 11 m__law_sentence [dn k, .bool e, .int 10] [] s = _
  unfold runG
  rw [show initG true false 11 [dn k, .bool e, .int 10] [] = [.st, .sh (dn k), .sh (.bool e), .sh (.int 10), .no, .no, .no, .no, .no, .no, .no] from rfl, run]
  simp [endG, hc]
end Pn

set_option maxHeartbeats 2000003
namespace Pn
open L2 PyProof.Rows PySem.Spec PySem
/-! ### _law_odd_row -/
def od0 : M Ctl := M.bind (rd 2) (tgtM (putTup 2 (putCons (put 7) (putCons (put 8) (putNil)))))
def od1 : M Ctl := M.bind (asx (frz (callSM 1 g__law_draw (stArg 0 (aCons (ret (.int 8)) (aNil)))))) (asg 3)
def od2 : M Ctl := ifS (toB (m2 ltI (rd 3) (ret (.int 4)))) (retS (asx (ixD (frz (M.bind (aCons (M.bind (aCons (ret (.int 25)) (aCons (rd 8) (aNil))) tupD) (aCons (M.bind (aCons (ret (.bool true)) (aCons (rd 8) (aNil))) tupD) (aCons (M.bind (aCons (rd 7) (aCons (rd 8) (aCons (M.bind (aNil) tupD) (aNil)))) tupD) (aCons (M.bind (aCons (rd 7) (aCons (frz (M.bind (rowVar 8) lstR)) (aNil))) tupD) (aNil))))) lstD)) (rd 3)))) (ret .nx)
def od3 : M Ctl := ifS (andB (toB (m2 eqD (rd 3) (ret (.int 4)))) (toB (m2 neD (ixD (rd 8) (ret (.int 0))) (ret (.str "wait"))))) (seq (M.bind (asx (ixD (frz (M.bind (aCons (rd 7) (aCons (ret (.bool true)) (aCons (negV (ret (.int 1))) (aCons (ret .none) (aNil))))) lstD)) (frz (callSM 1 g__law_draw (stArg 0 (aCons (ret (.int 4)) (aNil))))))) (asg 9)) (retS (asx (M.bind (aCons (rd 7) (aCons (frz (M.bind (frz (M.bind (frz (slM (rd 8) (ret none) (partO (ret (.int 1))))) fun x => M.bind (M.bind (aCons (rd 9) (aNil)) tupD) fun y => catD x y)) fun x => M.bind (frz (slM (rd 8) (partO (ret (.int 2))) (ret none))) fun y => catD x y)) (aNil))) tupD)))) (ret .nx)
def od4 : M Ctl := ifS (toB (m2 eqD (rd 3) (ret (.int 5)))) (retS (asx (M.bind (aCons (rd 7) (aCons (frz (M.bind (M.bind (aCons (ret (.str "waits")) (aNil)) tupD) fun x => M.bind (frz (slM (rd 8) (partO (ret (.int 1))) (ret none))) fun y => catD x y)) (aNil))) tupD))) (ret .nx)
def od5 : M Ctl := ifS (orB (toB (m2 eqD (ixD (rd 8) (negV (ret (.int 1)))) (M.bind (aNil) tupD))) (toB (m2 eqD (rd 3) (ret (.int 6))))) (retS (asx (M.bind (aCons (rd 7) (aCons (frz (M.bind (frz (slM (rd 8) (ret none) (partO (negV (ret (.int 1)))))) fun x => M.bind (M.bind (aCons (ret .none) (aNil)) tupD) fun y => catD x y)) (aNil))) tupD))) (ret .nx)
def od6 : M Ctl := M.bind (asx (frz (slM (ixD (rd 8) (negV (ret (.int 1)))) (partO (ret (.int 1))) (ret none)))) (asg 4)
def od7a : M Ctl := M.bind (asx (m2 addI (rd 7) (ifE (toB (m2 eqD (ixD (rd 8) (ret (.int 0))) (ret (.str "open")))) (ret (.int 1)) (ret (.int 0))))) (asg 5)
def od7b : M Ctl := retS (asx (M.bind (aCons (rd 7) (aCons (frz (M.bind (frz (slM (rd 8) (ret none) (partO (negV (ret (.int 1)))))) fun x => M.bind (M.bind (aCons (frz (M.bind (M.bind (aCons (frz (callSM 3 g__law_odd_use (stArg 0 (aCons (rd 1) (aCons (ixD (ixD (rd 8) (negV (ret (.int 1)))) (ret (.int 0))) (aCons (rd 5) (aNil))))))) (aNil)) tupD) fun x => M.bind (rd 4) fun y => catD x y)) (aNil)) tupD) fun y => catD x y)) (aNil))) tupD))
def od7 : M Ctl := ifS (toB (m2 neD (ixD (rd 8) (ret (.int 0))) (ret (.str "take")))) (seq od7a od7b) (ret .nx)
def od8 : M Ctl := M.bind (ixD (ixD (rd 8) (ret (.int 2))) (ret (.int 0))) (tgtM (putTup 2 (putCons (put 10) (putCons (put 11) (putNil)))))
def od9 : M Ctl := M.bind (asx (m2 addI (rd 7) (ifE (toB (m2 isR (rd 10) (ret .none))) (ret (.int 1)) (ret (.int 0))))) (asg 5)
def od10 : M Ctl := M.bind (asx (M.bind (aCons (rd 10) (aCons (frz (callSM 3 g__law_odd_use (stArg 0 (aCons (rd 1) (aCons (rd 11) (aCons (rd 5) (aNil))))))) (aNil))) tupD)) (asg 6)
def od11 : M Ctl := ifS (toB (m2 eqD (frz (callSM 1 g__law_draw (stArg 0 (aCons (ret (.int 3)) (aNil))))) (ret (.int 0)))) (M.bind (asx (M.bind (aCons (ixD (frz (M.bind (aCons (rd 7) (aCons (ret (.bool true)) (aCons (ret (.str "None")) (aNil)))) lstD)) (frz (callSM 1 g__law_draw (stArg 0 (aCons (ret (.int 3)) (aNil)))))) (aCons (rd 11) (aNil))) tupD)) (asg 6)) (ret .nx)
def od12 : M Ctl := retS (asx (M.bind (aCons (rd 7) (aCons (frz (M.bind (frz (slM (rd 8) (ret none) (partO (ret (.int 2))))) fun x => M.bind (M.bind (aCons (frz (M.bind (M.bind (aCons (rd 6) (aNil)) tupD) fun x => M.bind (rd 4) fun y => catD x y)) (aNil)) tupD) fun y => catD x y)) (aNil))) tupD))
theorem od_eq : m__law_odd_row = seq od0 (seq od1 (seq od2 (seq od3 (seq od4 (seq od5 (seq od6 (seq od7 (seq od8 (seq od9 (seq od10 (seq od11 od12))))))))))) := rfl
abbrev oC (s : DS) (N R p : Dat) (re wi fi : Sl) (m A : Dat) (od ca us : Sl) : Cfg := ⟨[.st, .sh N, .sh R, .sh p, re, wi, fi, .sh m, .sh A, od, ca, us], s⟩
theorem cut_f1 (x : Dat) (l : List Dat) : cutL (x :: l) (some 1) none = l := (cut_from (x :: l) 1 (by simp)).trans rfl
theorem cut_f2 (x y : Dat) (l : List Dat) : cutL (x :: y :: l) (some 2) none = l := (cut_from (x :: y :: l) 2 (by simp)).trans rfl
theorem cut_t1 (x : Dat) (l : List Dat) : cutL (x :: l) none (some 1) = [x] := (cut_to (x :: l) 1 (by simp)).trans rfl
theorem eq_emp {l : List Dat} (h : SeqAt.shaped (.tuple l) = true) : eqD (.tuple l) (.tuple []) = ret (.bool l.isEmpty) := by
  unfold eqD
  rw [h, show SeqAt.shaped (.tuple []) = true from rfl]
  cases l with
  | nil => rfl
  | cons p l => rfl
section
variable {s : DS} {a v : Nat} {N R M : Dat} {L l init : List Dat}
def oddLow (M : Dat) (L : List Dat) : List Dat := [.tuple [.int 25, .tuple L], .tuple [.bool true, .tuple L], .tuple [M, .tuple L, .tuple []], .tuple [M, .list L]]
theorem od2_yes (hv : v < 4) : ∃ d ∈ oddLow M L, od2 (oC s N R (dn v) .no .no .no M (.tuple L) .no .no .no) = .ok (.rt (.sh d)) (oC s N R (dn v) .no .no .no M (.tuple L) .no .no .no) := by
  have lt : (v : Int) < 4 := by omega
  have hl : v < (oddLow M L).length := hv
  have ix : ixR (false, oddLow M L) (dn v) = ret (oddLow M L)[v] := ixR_nat (List.getElem?_eq_getElem hl)
  refine ⟨(oddLow M L)[v], List.getElem_mem hl, ?_⟩
  generalize (oddLow M L)[v] = X at ix
  simp only [oddLow] at ix
  simp [od2, lt, ix]
theorem od2_no (hv : ¬ v < 4) : od2 (oC s N R (dn v) .no .no .no M (.tuple L) .no .no .no) = .ok .nx (oC s N R (dn v) .no .no .no M (.tuple L) .no .no .no) := by
  have lt : ¬ (v : Int) < 4 := by omega
  simp [od2, lt]
theorem od3_no (h : v ≠ 4 ∨ ∃ l, L = .str "wait" :: l) : od3 (oC s N R (dn v) .no .no .no M (.tuple L) .no .no .no) = .ok .nx (oC s N R (dn v) .no .no .no M (.tuple L) .no .no .no) := by
  rcases h with h | ⟨l, rfl⟩
  · have e : ((v : Int) == 4) = false := beq_eq_false_iff_ne.mpr (by omega)
    simp [od3, e]
  · have w : neD (.str "wait") (.str "wait") = ret (.bool false) := by kernel_rfl
    by_cases e : ((v : Int) == 4) = true
    · simp [od3, e, w]
    · simp [od3, e, w]
def oddNm (M : Dat) : List Dat := [M, .bool true, .int (-1), .none]
theorem od3_yes {w : Str} {n : Dat} (hs : St s a) (ha : a ≤ 90000) (hw : neD (.str w) (.str "wait") = ret (.bool true)) (hl : l.length ≤ 10) : ∃ d ∈ oddNm M, ∃ (s' : DS) (c : Cfg), St s' (a + 1) ∧ c.s = s' ∧
    od3 (oC s N R (dn 4) .no .no .no M (.tuple (.str w :: n :: l)) .no .no .no) = .ok (.rt (.sh (.tuple [M, .tuple (.str w :: d :: l)]))) c := by
  obtain ⟨r, s1, d1, hr, h1⟩ := run_draw hs (by omega) 4 (by omega) (by omega)
  have d1 : g__law_draw [.int 4] [] s = .ok (.sh (dn r)) [] s1 := d1
  have hl2 : r < (oddNm M).length := hr
  have ix : ixR (false, oddNm M) (dn r) = ret (oddNm M)[r] := ixR_nat (List.getElem?_eq_getElem hl2)
  have c2 := x_catT [.str w, (oddNm M)[r]] l (by simp) (by omega)
  refine ⟨(oddNm M)[r], List.getElem_mem hl2, s1, oC s1 N R (dn 4) .no .no .no M (.tuple (.str w :: n :: l)) (.sh (oddNm M)[r]) .no .no, h1, rfl, ?_⟩
  generalize (oddNm M)[r] = X at ix c2 ⊢
  simp only [oddNm] at ix
  simp [od3, hw, d1, ix, cut_t1, cut_f2, cat_t1, c2]
theorem od4_no (h : v ≠ 5) : od4 (oC s N R (dn v) .no .no .no M (.tuple L) .no .no .no) = .ok .nx (oC s N R (dn v) .no .no .no M (.tuple L) .no .no .no) := by
  have e : ((v : Int) == 5) = false := beq_eq_false_iff_ne.mpr (by omega)
  simp [od4, e]
theorem od4_yes {x : Dat} (hl : l.length ≤ 10) : od4 (oC s N R (dn 5) .no .no .no M (.tuple (x :: l)) .no .no .no) = .ok (.rt (.sh (.tuple [M, .tuple (.str "waits" :: l)]))) (oC s N R (dn 5) .no .no .no M (.tuple (x :: l)) .no .no .no) := by
  have c2 := x_catT [.str "waits"] l (by simp) (by omega)
  simp [od4, cut_f1, c2]
theorem od5_yes {b : Bool} {last : Dat} (hc : cutL L none (some (-1)) = init) (hi : init.length ≤ 10) (hx : ixR (true, L) (.int (-1)) = ret last) (he : eqD last (.tuple []) = ret (.bool b)) (h : b = true ∨ v = 6) :
    od5 (oC s N R (dn v) .no .no .no M (.tuple L) .no .no .no) = .ok (.rt (.sh (.tuple [M, .tuple (init ++ [.none])]))) (oC s N R (dn v) .no .no .no M (.tuple L) .no .no .no) := by
  have c2 := x_catT init [.none] (by omega) (by simp)
  rcases h with rfl | rfl
  · simp [od5, hx, he, hc, c2]
  · cases b <;> simp [od5, hx, he, hc, c2]
theorem od5_no {last : Dat} (hx : ixR (true, L) (.int (-1)) = ret last) (he : eqD last (.tuple []) = ret (.bool false)) (h : v ≠ 6) :
    od5 (oC s N R (dn v) .no .no .no M (.tuple L) .no .no .no) = .ok .nx (oC s N R (dn v) .no .no .no M (.tuple L) .no .no .no) := by
  have e : ((v : Int) == 6) = false := beq_eq_false_iff_ne.mpr (by omega)
  simp [od5, hx, he, e]
theorem od6_run {x : Dat} (hx : ixR (true, L) (.int (-1)) = ret (.tuple (x :: l))) : od6 (oC s N R (dn v) .no .no .no M (.tuple L) .no .no .no) = .ok .nx (oC s N R (dn v) (.sh (.tuple l)) .no .no M (.tuple L) .no .no .no) := by
  simp [od6, hx, cut_f1]
theorem od7_run {w : Str} {b : Bool} {m k : Nat} {u : Us} {L' : List Dat} (hs : St s a) (ha : a ≤ 90000) (h1 : u.names ≠ []) (h2 : u.names.length ≤ 1000) (hw : neD (.str w) (.str "take") = ret (.bool true)) (ho : eqD (.str w) (.str "open") = ret (.bool b)) (hL : L = .str w :: L')
    (hx : ixR (true, L) (.int (-1)) = ret (.tuple (encU u :: l))) (hc : cutL L none (some (-1)) = init) (hi : init.length ≤ 10) (hl : l.length ≤ 10) :
    ∃ d ∈ oddUs k (if b = true then m + 1 else m) u, ∃ (s' : DS) (c : Cfg), St s' (a + 1) ∧ c.s = s' ∧ od7 (oC s (dn k) R (dn v) (.sh (.tuple l)) .no .no (dn m) (.tuple L) .no .no .no) = .ok (.rt (.sh (.tuple [dn m, .tuple (init ++ [.tuple (d :: l)])]))) c := by
  obtain ⟨d, s1, e1, hd, h3⟩ := run_odd_use (number := k) (e := if b = true then m + 1 else m) hs (by omega) h1 h2
  have c1 := x_catT [d] l (by simp) (by omega)
  have c2 := x_catT init [.tuple (d :: l)] (by omega) (by simp)
  have a7 : od7a (oC s (dn k) R (dn v) (.sh (.tuple l)) .no .no (dn m) (.tuple L) .no .no .no) = .ok .nx (oC s (dn k) R (dn v) (.sh (.tuple l)) (.sh (dn (if b = true then m + 1 else m))) .no (dn m) (.tuple L) .no .no .no) := by
    subst hL
    cases b <;> simp [od7a, ho]
  refine ⟨d, hd, s1, oC s1 (dn k) R (dn v) (.sh (.tuple l)) (.sh (dn (if b = true then m + 1 else m))) .no (dn m) (.tuple L) .no .no .no, h3, rfl, ifT (c' := oC s (dn k) R (dn v) (.sh (.tuple l)) .no .no (dn m) (.tuple L) .no .no .no) ?_ (sq a7 ?_)⟩
  · subst hL
    simp [hw]
  · generalize dn (if b = true then m + 1 else m) = E at e1 ⊢
    generalize encU u = U at e1 hx
    simp only [od7b]
    simp [hx, e1, hc]
    simp [c1, c2]
theorem od7_no {re : Sl} {L' : List Dat} : od7 (oC s N R (dn v) re .no .no M (.tuple (.str "take" :: L')) .no .no .no) = .ok .nx (oC s N R (dn v) re .no .no M (.tuple (.str "take" :: L')) .no .no .no) := by
  have w : neD (.str "take") (.str "take") = ret (.bool false) := by kernel_rfl
  simp [od7, w]
end
end Pn

set_option maxHeartbeats 2000003
namespace Pn
open L2 PyProof.Rows PySem.Spec PySem
/-! ### a spoilt case of a take -/
section
variable {s : DS} {a v m k : Nat} {N R x : Dat} {l : List Dat} {p : Option Nat × Us}
abbrev tkL (x : Dat) (p : Option Nat × Us) (l : List Dat) : Dat := .tuple [.str "take", x, .tuple (encP p :: l)]
theorem od8_run : od8 (oC s N R (dn v) (.sh (.tuple l)) .no .no (dn m) (tkL x p l) .no .no .no) = .ok .nx (oC s N R (dn v) (.sh (.tuple l)) .no .no (dn m) (tkL x p l) .no (.sh (encC p.1)) (.sh (encU p.2))) := by
  simp only [encP, tkL]
  generalize encU p.2 = U
  generalize encC p.1 = C
  simp [od8]
theorem od9_run : od9 (oC s N R (dn v) (.sh (.tuple l)) .no .no (dn m) (tkL x p l) .no (.sh (encC p.1)) (.sh (encU p.2))) = .ok .nx (oC s N R (dn v) (.sh (.tuple l)) (.sh (dn (if p.1.isNone = true then m + 1 else m))) .no (dn m) (tkL x p l) .no (.sh (encC p.1)) (.sh (encU p.2))) := by
  obtain ⟨c, u⟩ := p
  simp only [encP, tkL]
  generalize encU u = U
  cases c with
  | none => simp [od9, encC]
  | some n => simp [od9, encC]
theorem od10_run (hs : St s a) (ha : a ≤ 90000) (h1 : p.2.names ≠ []) (h2 : p.2.names.length ≤ 1000) : ∃ d ∈ oddUs k (if p.1.isNone = true then m + 1 else m) p.2, ∃ s' : DS, St s' (a + 1) ∧
    od10 (oC s (dn k) R (dn v) (.sh (.tuple l)) (.sh (dn (if p.1.isNone = true then m + 1 else m))) .no (dn m) (tkL x p l) .no (.sh (encC p.1)) (.sh (encU p.2))) = .ok .nx (oC s' (dn k) R (dn v) (.sh (.tuple l)) (.sh (dn (if p.1.isNone = true then m + 1 else m))) (.sh (.tuple [encC p.1, d])) (dn m) (tkL x p l) .no (.sh (encC p.1)) (.sh (encU p.2))) := by
  obtain ⟨d, s1, e1, hd, h3⟩ := run_odd_use (number := k) (e := if p.1.isNone = true then m + 1 else m) hs (by omega) h1 h2
  refine ⟨d, hd, s1, h3, ?_⟩
  generalize dn (if p.1.isNone = true then m + 1 else m) = E at e1 ⊢
  simp only [encP, tkL]
  generalize encU p.2 = U at e1 ⊢
  generalize encC p.1 = C
  simp [od10, e1]
def oddCs (M U : Dat) : List Dat := [.tuple [M, U], .tuple [.bool true, U], .tuple [.str "None", U]]
theorem od11_run {wi : Sl} {f C : Dat} (hs : St s a) (ha : a ≤ 90000) : ∃ g : Dat, (g = f ∨ g ∈ oddCs (dn m) (encU p.2)) ∧ ∃ s' : DS, St s' (a + 2) ∧
    od11 (oC s N R (dn v) (.sh (.tuple l)) wi (.sh f) (dn m) (tkL x p l) .no (.sh C) (.sh (encU p.2))) = .ok .nx (oC s' N R (dn v) (.sh (.tuple l)) wi (.sh g) (dn m) (tkL x p l) .no (.sh C) (.sh (encU p.2))) := by
  obtain ⟨r, s1, d1, hr, h1⟩ := run_draw hs (by omega) 3 (by omega) (by omega)
  have d1 : g__law_draw [.int 3] [] s = .ok (.sh (dn r)) [] s1 := d1
  by_cases r0 : r = 0
  · subst r0
    obtain ⟨t, s2, d2, ht, h2⟩ := run_draw h1 (by omega) 3 (by omega) (by omega)
    have d2 : g__law_draw [.int 3] [] s1 = .ok (.sh (dn t)) [] s2 := d2
    have hl : t < [dn m, PyData.bool true, PyData.str "None"].length := ht
    have ix : ixR (false, [dn m, .bool true, .str "None"]) (dn t) = ret [dn m, PyData.bool true, PyData.str "None"][t] := ixR_nat (List.getElem?_eq_getElem hl)
    refine ⟨.tuple [[dn m, PyData.bool true, PyData.str "None"][t], encU p.2], .inr ?_, s2, h2.mono (by omega), ?_⟩
    · have q : t = 0 ∨ t = 1 ∨ t = 2 := by omega
      rcases q with rfl | rfl | rfl <;> simp [oddCs]
    · simp only [encP, tkL]
      generalize [dn m, PyData.bool true, PyData.str "None"][t] = X at ix ⊢
      generalize encU p.2 = U
      generalize encC p.1 = C2
      simp [od11, d1, d2, ix]
  · have e : ((r : Int) == 0) = false := beq_eq_false_iff_ne.mpr (by omega)
    refine ⟨f, .inl rfl, s1, h1.mono (by omega), ?_⟩
    simp only [encP, tkL]
    generalize encU p.2 = U
    generalize encC p.1 = C2
    simp [od11, d1, e]
theorem od12_run {wi ca us : Sl} {g : Dat} (hl : l.length ≤ 10) : od12 (oC s N R (dn v) (.sh (.tuple l)) wi (.sh g) (dn m) (tkL x p l) .no ca us) = .ok (.rt (.sh (.tuple [dn m, .tuple [.str "take", x, .tuple (g :: l)]]))) (oC s N R (dn v) (.sh (.tuple l)) wi (.sh g) (dn m) (tkL x p l) .no ca us) := by
  have c1 := x_catT [g] l (by simp) (by omega)
  simp only [encP, tkL]
  generalize encU p.2 = U
  generalize encC p.1 = C2
  simp [od12, cut_t2, cat_t2, c1]
end
/-! ### what is refused of rows -/
theorem uses_bad {ms : List Nat} {e : Nat} {d : Dat} {us : List Us} (hd : g_is_use [d, dn e, ld ms] = okB false) (h : ∀ u ∈ us, GoodU ms e u) (hl : us.length ≤ 100) (hn : ∀ u ∈ us, u.names.length ≤ 1000) : g_are_uses [.tuple (d :: us.map encU), dn e, ld ms] = okB false := by
  have t : ∀ x ∈ d :: us.map encU, Tl g_is_use [dn e, ld ms] x := fun x hx => by
    (rcases List.mem_cons.mp hx with rfl | hx)
    · exact (Tl.of hd).1
    · obtain ⟨u, hu, rfl⟩ := List.mem_map.mp hx
      exact (Tl.of (use_good (h u hu) (hn u hu))).1
  rw [run_uses t (by rw [List.length_cons, List.length_map]; omega), List.all_cons, (Tl.of hd).2]
  rfl
theorem cases_bad {ms : List Nat} {m : Nat} {d : Dat} {ps : List (Option Nat × Us)} (hd : g_is_case [d, dn m, ld ms] = okB false) (h : ∀ p ∈ ps, GoodP ms m p) (hl : ps.length ≤ 100) (hn : ∀ p ∈ ps, p.2.names.length ≤ 1000) : g_are_cases [.tuple (d :: ps.map encP), dn m, ld ms] = okB false := by
  have t : ∀ x ∈ d :: ps.map encP, Tl g_is_case [dn m, ld ms] x := fun x hx => by
    (rcases List.mem_cons.mp hx with rfl | hx)
    · exact (Tl.of hd).1
    · obtain ⟨p, hp, rfl⟩ := List.mem_map.mp hx
      exact (Tl.of (case_good (h p hp) (hn p hp))).1
  rw [run_cases t (by rw [List.length_cons, List.length_map]; omega), List.all_cons, (Tl.of hd).2]
  rfl
theorem nm_bad {m : Nat} {d : Dat} (h : d ∈ oddNm (dn m)) : g_is_below [d, dn m] = okB false := by
  simp only [oddNm, List.mem_cons, List.mem_nil_iff, or_false] at h
  rcases h with rfl | rfl | rfl | rfl
  · exact bel_not (Nat.lt_irrefl _)
  · exact bel_of (int_b true) _
  · exact bel_neg _
  · exact bel_of int_n _
theorem two_bad {m n : Nat} {d : Dat} (h : d ∈ oddNm (dn m)) (hn : n < m) : g_are_below [.tuple [d, dn n], dn m] = okB false := by
  have t : ∀ x ∈ [d, dn n], Tl g_is_below [dn m] x := fun x hx => by
    (rcases List.mem_cons.mp hx with rfl | hx)
    · exact (Tl.of (nm_bad h)).1
    · rw [List.mem_singleton.mp hx]
      exact (Tl.of (bel_dn hn)).1
  rw [run_bel t (by simp), List.all_cons, (Tl.of (nm_bad h)).2]
  rfl
theorem cs_bad {ms : List Nat} {m : Nat} {u : Us} {d : Dat} (h : d ∈ oddCs (dn m) (encU u)) : g_is_case [d, dn m, ld ms] = okB false := by
  simp only [oddCs, List.mem_cons, List.mem_nil_iff, or_false] at h
  rcases h with rfl | rfl | rfl
  · exact case_bad (x_isR2 _) (bel_not (Nat.lt_irrefl _))
  · exact case_bad (x_isR3 _) (bel_of (int_b true) _)
  · exact case_bad (x_isR4 _) (bel_of (int_s _) _)
theorem low_bad {ms : List Nat} {m : Nat} {L : List Dat} (hm : m ≤ 24) {d : Dat} (h : d ∈ oddLow (dn m) L) : g_is_sentence_row [d, ld ms] = okB false := by
  simp only [oddLow, List.mem_cons, List.mem_nil_iff, or_false] at h
  rcases h with rfl | rfl | rfl | rfl
  · exact row_many (bel_not (n := 25) (e := 25) (Nat.lt_irrefl _))
  · exact row_many (bel_of (int_b true) _)
  · exact row_three
  · exact row_listed hm
end Pn

set_option maxHeartbeats 2000003
namespace Pn
open L2 PyProof.Rows PySem.Spec PySem
def odT : M Ctl := seq od2 (seq od3 (seq od4 (seq od5 (seq od6 (seq od7 (seq od8 (seq od9 (seq od10 (seq od11 od12)))))))))
abbrev BadR (ms : List Nat) (d : Dat) : Prop := g_is_sentence_row [d, ld ms] = okB false
theorem odd_gen {ms : List Nat} {m v a : Nat} {s : DS} {R : Dat} {w : Str} {L' init : List Dat} {us : List Us} {b : Bool} (hs : St s a) (ha : a ≤ 50000) (hm : m ≤ 24) (hv : v < 8)
    (h1 : (neD (.str w) (.str "wait") = ret (.bool true) ∧ ∃ n l, L' = n :: l ∧ l.length ≤ 10 ∧ ∀ d ∈ oddNm (dn m), BadR ms (.tuple [dn m, .tuple (.str w :: d :: l)])) ∨ w = "wait")
    (hw : neD (.str w) (.str "take") = ret (.bool true)) (ho : eqD (.str w) (.str "open") = ret (.bool b))
    (hx : ixR (true, .str w :: L') (.int (-1)) = ret (.tuple (us.map encU))) (hc : cutL (.str w :: L') none (some (-1)) = init) (hi : init.length ≤ 10) (hL : L'.length ≤ 10)
    (hus : us.length ≤ 2) (hu : ∀ u ∈ us, GoodU ms (if b = true then m + 1 else m) u ∧ Small u)
    (hU : ∀ X, g_are_uses [X, dn (if b = true then m + 1 else m), ld ms] = okB false → BadR ms (.tuple [dn m, .tuple (init ++ [X])])) :
    ∃ (d : Dat) (s' : DS) (c : Cfg), BadR ms d ∧ St s' (a + 10) ∧ c.s = s' ∧ odT (oC s (dn ms.length) R (dn v) .no .no .no (dn m) (.tuple (.str w :: L')) .no .no .no) = .ok (.rt (.sh d)) c := by
  by_cases v4 : v < 4
  · obtain ⟨d, hd, e⟩ := od2_yes (s := s) (N := dn ms.length) (R := R) (M := dn m) (L := .str w :: L') v4
    exact ⟨d, s, _, low_bad hm hd, hs.mono (by omega), rfl, sqR e⟩
  have e2 := od2_no (s := s) (N := dn ms.length) (R := R) (M := dn m) (L := .str w :: L') v4
  by_cases q4 : v = 4 ∧ w ≠ "wait"
  · obtain ⟨rfl, hw2⟩ := q4
    rcases h1 with ⟨hw3, n, l, rfl, hl, hb⟩ | z
    · obtain ⟨d, hd, s', c, h', hc', e3⟩ := od3_yes (N := dn ms.length) (R := R) (M := dn m) (w := w) (n := n) hs (by omega) hw3 hl
      exact ⟨_, s', c, hb d hd, h'.mono (by omega), hc', sq e2 (sqR e3)⟩
    · exact absurd z hw2
  have e3 := od3_no (s := s) (v := v) (N := dn ms.length) (R := R) (M := dn m) (L := .str w :: L') (by
    by_cases z : v = 4
    · by_cases z2 : w = "wait"
      · exact .inr ⟨L', by rw [z2]⟩
      · exact absurd ⟨z, z2⟩ q4
    · exact .inl z)
  by_cases v5 : v = 5
  · subst v5
    have e4 := od4_yes (s := s) (N := dn ms.length) (R := R) (M := dn m) (x := .str w) (l := L') hL
    exact ⟨_, s, _, row_waits hm, hs.mono (by omega), rfl, sq e2 (sq e3 (sqR e4))⟩
  have e4 := od4_no (s := s) (N := dn ms.length) (R := R) (M := dn m) (L := .str w :: L') v5
  have emp := eq_emp ((gd_Us hus fun u h => (hu u h).2).shaped (by omega))
  by_cases q6 : us.map encU = [] ∨ v = 6
  · have e5 := od5_yes (s := s) (v := v) (N := dn ms.length) (R := R) (M := dn m) hc hi hx emp (by
      rcases q6 with z | z
      · exact .inl (by rw [z]; rfl)
      · exact .inr z)
    exact ⟨_, s, _, hU _ (uses_none _ _), hs.mono (by omega), rfl, sq e2 (sq e3 (sq e4 (sqR e5)))⟩
  cases us with
  | nil => exact absurd (.inl rfl) q6
  | cons u us =>
    have e5 := od5_no (s := s) (v := v) (N := dn ms.length) (R := R) (M := dn m) hx emp (fun z => q6 (.inr z))
    have e6 := od6_run (s := s) (v := v) (N := dn ms.length) (R := R) (M := dn m) hx
    rw [List.length_cons] at hus
    have sm := (hu u List.mem_cons_self).2
    obtain ⟨d, hd, s', c, h', hc', e7⟩ := od7_run (R := R) (v := v) (m := m) (k := ms.length) (b := b) hs (by omega) sm.ne (by have := sm.len; omega) hw ho rfl hx hc hi (by rw [List.length_map]; omega)
    exact ⟨_, s', c, hU _ (uses_bad (odd_use_bad (hu u List.mem_cons_self).1.1 d hd) (fun x h => (hu x (List.mem_cons_of_mem _ h)).1) (by omega) fun x h => by have := (hu x (List.mem_cons_of_mem _ h)).2.len; omega), h'.mono (by omega), hc', sq e2 (sq e3 (sq e4 (sq e5 (sq e6 (sqR e7)))))⟩
theorem odd_take {ms : List Nat} {m v a n : Nat} {s : DS} {R : Dat} {ps : List (Option Nat × Us)} (hs : St s a) (ha : a ≤ 50000) (hm : m ≤ 24) (hv : v < 8) (hn : n < m) (hps : ps.length ≤ 2) (hp : ∀ p ∈ ps, GoodP ms m p ∧ Small p.2) :
    ∃ (d : Dat) (s' : DS) (c : Cfg), BadR ms d ∧ St s' (a + 10) ∧ c.s = s' ∧ odT (oC s (dn ms.length) R (dn v) .no .no .no (dn m) (.tuple [.str "take", dn n, .tuple (ps.map encP)]) .no .no .no) = .ok (.rt (.sh d)) c := by
  have hb : ∀ X, g_are_cases [X, dn m, ld ms] = okB false → BadR ms (.tuple [dn m, .tuple [.str "take", dn n, X]]) := fun X hX => row_take hm (bel_dn hn) fun _ => hX
  by_cases v4 : v < 4
  · obtain ⟨d, hd, e⟩ := od2_yes (s := s) (N := dn ms.length) (R := R) (M := dn m) (L := [.str "take", dn n, .tuple (ps.map encP)]) v4
    exact ⟨d, s, _, low_bad hm hd, hs.mono (by omega), rfl, sqR e⟩
  have e2 := od2_no (s := s) (N := dn ms.length) (R := R) (M := dn m) (L := [.str "take", dn n, .tuple (ps.map encP)]) v4
  by_cases q4 : v = 4
  · subst q4
    obtain ⟨d, hd, s', c, h', hc', e3⟩ := od3_yes (N := dn ms.length) (R := R) (M := dn m) (w := "take") (n := dn n) (l := [.tuple (ps.map encP)]) hs (by omega) (by kernel_rfl) (by simp)
    exact ⟨_, s', c, row_take (x := false) (y := false) hm (nm_bad hd) (fun z => by cases z), h'.mono (by omega), hc', sq e2 (sqR e3)⟩
  have e3 := od3_no (s := s) (v := v) (N := dn ms.length) (R := R) (M := dn m) (L := [.str "take", dn n, .tuple (ps.map encP)]) (.inl q4)
  by_cases v5 : v = 5
  · subst v5
    have e4 := od4_yes (s := s) (N := dn ms.length) (R := R) (M := dn m) (x := .str "take") (l := [dn n, .tuple (ps.map encP)]) (by simp)
    exact ⟨_, s, _, row_waits hm, hs.mono (by omega), rfl, sq e2 (sq e3 (sqR e4))⟩
  have e4 := od4_no (s := s) (N := dn ms.length) (R := R) (M := dn m) (L := [.str "take", dn n, .tuple (ps.map encP)]) v5
  have emp := eq_emp (shaped_Ps ps)
  have hx := last3 true (.str "take") (dn n) (.tuple (ps.map encP))
  have hc := cut_m3 (.str "take") (dn n) (.tuple (ps.map encP))
  by_cases q6 : ps.map encP = [] ∨ v = 6
  · have e5 := od5_yes (s := s) (v := v) (N := dn ms.length) (R := R) (M := dn m) hc (by simp) hx emp (by
      rcases q6 with z | z
      · exact .inl (by rw [z]; rfl)
      · exact .inr z)
    exact ⟨_, s, _, hb _ (cases_none _ _), hs.mono (by omega), rfl, sq e2 (sq e3 (sq e4 (sqR e5)))⟩
  cases ps with
  | nil => exact absurd (.inl rfl) q6
  | cons p ps =>
    have e5 := od5_no (s := s) (v := v) (N := dn ms.length) (R := R) (M := dn m) hx emp (fun z => q6 (.inr z))
    have e6 := od6_run (s := s) (v := v) (N := dn ms.length) (R := R) (M := dn m) hx
    rw [List.length_cons] at hps
    obtain ⟨gp, sm⟩ := hp p List.mem_cons_self
    have e7 := od7_no (s := s) (v := v) (N := dn ms.length) (R := R) (M := dn m) (re := .sh (.tuple (ps.map encP))) (L' := [dn n, .tuple ((p :: ps).map encP)])
    have e8 := od8_run (s := s) (v := v) (m := m) (N := dn ms.length) (R := R) (x := dn n) (l := ps.map encP) (p := p)
    have e9 := od9_run (s := s) (v := v) (m := m) (N := dn ms.length) (R := R) (x := dn n) (l := ps.map encP) (p := p)
    obtain ⟨d, hd, s1, h1, e10⟩ := od10_run (R := R) (v := v) (m := m) (k := ms.length) (x := dn n) (l := ps.map encP) hs (by omega) sm.ne (by have := sm.len; omega)
    obtain ⟨g, hg, s2, h2, e11⟩ := od11_run (R := R) (v := v) (m := m) (N := dn ms.length) (x := dn n) (l := ps.map encP) (p := p) (wi := .sh (dn (if p.1.isNone = true then m + 1 else m))) (f := .tuple [encC p.1, d]) (C := encC p.1) h1 (by omega)
    have e12 := od12_run (s := s2) (N := dn ms.length) (R := R) (v := v) (m := m) (x := dn n) (l := ps.map encP) (p := p) (wi := .sh (dn (if p.1.isNone = true then m + 1 else m))) (ca := .sh (encC p.1)) (us := .sh (encU p.2)) (g := g) (by rw [List.length_map]; omega)
    have bad : g_is_case [g, dn m, ld ms] = okB false := by
      rcases hg with rfl | hg
      · obtain ⟨c, u⟩ := p
        cases c with
        | none => exact case_none (odd_use_bad (show GoodU ms (m + 1) u from gp).1 d hd)
        | some k => exact case_some gp.1 (odd_use_bad gp.2.1 d hd)
      · exact cs_bad hg
    exact ⟨_, s2, _, hb _ (cases_bad bad (fun x h => (hp x (List.mem_cons_of_mem _ h)).1) (by omega) fun x h => by have := (hp x (List.mem_cons_of_mem _ h)).2.len; omega), h2.mono (by omega), rfl, sq e2 (sq e3 (sq e4 (sq e5 (sq e6 (sq e7 (sq e8 (sq e9 (sq e10 (sq e11 e12)))))))))⟩
theorem run_odd_row {ms : List Nat} {q : Nat × Ac} {s : DS} {a : Nat} (h : RowD ms q) (hs : St s a) (ha : a ≤ 40000) : ∃ (d : Dat) (s' : DS), g__law_odd_row [dn ms.length, encR q] [] s = .ok (.sh d) [] s' ∧ BadR ms d ∧ St s' (a + 20) := by
  obtain ⟨m, x⟩ := q
  obtain ⟨lo, hi, good, few, small⟩ := h
  simp only at lo hi good few small
  obtain ⟨v, s1, d1, hv, h1⟩ := run_draw hs (by omega) 8 (by omega) (by omega)
  have d1 : g__law_draw [.int 8] [] s = .ok (.sh (dn v)) [] s1 := d1
  have mu : ∀ us : List Us, ∀ u ∈ us, u ∈ (us.map fun u => ((none : Option Nat), u)).map (·.2) := fun us u hu => mem_uses hu
  have fin : ∃ (d : Dat) (s' : DS) (c : Cfg), BadR ms d ∧ St s' (a + 1 + 10) ∧ c.s = s' ∧ odT (oC s1 (dn ms.length) (encR (m, x)) (dn v) .no .no .no (dn m) (encA x) .no .no .no) = .ok (.rt (.sh d)) c := by
    cases x with
    | wait us =>
      have f : us.length ≤ 2 := by simpa [casesA] using few
      exact odd_gen (w := "wait") (b := false) (us := us) h1 (by omega) (by omega) hv (.inr rfl) (by kernel_rfl) w_wait_open (last2 true _ _) (cut_m2 _ _) (by simp) (by simp) f (fun u hu => ⟨good u hu, small u (mu us u hu)⟩) (fun X hX => row_wait (by omega) hX)
    | send y z us =>
      have f : us.length ≤ 2 := by simpa [casesA] using few
      refine odd_gen (w := "send") (b := false) (us := us) h1 (by omega) (by omega) hv (.inl ⟨by kernel_rfl, dn y, [dn z, .tuple (us.map encU)], rfl, by simp, fun d hd => ?_⟩) (by kernel_rfl) w_send_open (last4 true _ _ _ _) (cut_m4 _ _ _ _) (by simp) (by simp) f (fun u hu => ⟨good.2.2 u hu, small u (mu us u hu)⟩) (fun X hX => ?_)
      · exact row_send (x := false) (y := false) (by omega) (two_bad hd good.2.1) (fun z => by cases z)
      · exact row_send (x := true) (y := false) (by omega) (by
          have t : g_are_below [dp [y, z], dn m] = okB true := bel_dns (fun n hn => by
            rcases List.mem_cons.mp hn with rfl | hn
            · exact good.1
            · rw [List.mem_singleton.mp hn]; exact good.2.1) (by simp)
          exact t) fun _ => hX
    | opn y us =>
      have f : us.length ≤ 2 := by simpa [casesA] using few
      refine odd_gen (w := "open") (b := true) (us := us) h1 (by omega) (by omega) hv (.inl ⟨by kernel_rfl, dn y, [.tuple (us.map encU)], rfl, by simp, fun d hd => ?_⟩) (by kernel_rfl) w_open_open (last3 true _ _ _) (cut_m3 _ _ _) (by simp) (by simp) f (fun u hu => ⟨good.2 u hu, small u (mu us u hu)⟩) (fun X hX => ?_)
      · exact row_open (x := false) (y := false) (by omega) (nm_bad hd) (fun z => by cases z)
      · exact row_open (x := true) (y := false) (by omega) (bel_dn good.1) fun _ => hX
    | take y ps => exact odd_take h1 (by omega) (by omega) hv good.1 few fun p hp => ⟨good.2 p hp, small p.2 (List.mem_map.mpr ⟨p, hp, rfl⟩)⟩
  obtain ⟨d, s', c, hb, h2, hc, e⟩ := fin
  refine ⟨d, s', ?_, hb, h2.mono (by omega)⟩
  have e0 : od0 ⟨[.st, .sh (dn ms.length), .sh (encR (m, x)), .no, .no, .no, .no, .no, .no, .no, .no, .no], s⟩ = .ok .nx ⟨[.st, .sh (dn ms.length), .sh (encR (m, x)), .no, .no, .no, .no, .sh (dn m), .sh (encA x), .no, .no, .no], s⟩ := by
    simp only [encR]
    generalize encA x = A
    simp [od0]
  have e1 : od1 ⟨[.st, .sh (dn ms.length), .sh (encR (m, x)), .no, .no, .no, .no, .sh (dn m), .sh (encA x), .no, .no, .no], s⟩ = .ok .nx (oC s1 (dn ms.length) (encR (m, x)) (dn v) .no .no .no (dn m) (encA x) .no .no .no) := by
    generalize encA x = A
    generalize encR (m, x) = R
    simp [od1, d1]
  have run := sq e0 (sq e1 e)
  have q : seq od0 (seq od1 odT) = m__law_odd_row := od_eq.symm
  rw [q] at run
  show runG true false 12 m__law_odd_row [dn ms.length, encR (m, x)] [] s = _
  unfold runG
  rw [show initG true false 12 [dn ms.length, encR (m, x)] [] = [.st, .sh (dn ms.length), .sh (encR (m, x)), .no, .no, .no, .no, .no, .no, .no, .no, .no] from rfl, run]
  simp [endG, hc]
end Pn

set_option maxHeartbeats 2000003
namespace Pn
open L2 PyProof.Rows PySem.Spec PySem
/-! ### _law_spoilt -/
def sp0 : M Ctl := M.bind (rd 1) (tgtM (putTup 2 (putCons (put 5) (putCons (put 6) (putNil)))))
def sp1 : M Ctl := M.bind (asx (frz (callSM 1 g__law_draw (stArg 0 (aCons (ret (.int 6)) (aNil)))))) (asg 2)
def sp2 : M Ctl := ifS (toB (m2 eqD (rd 2) (ret (.int 0)))) (retS (asx (M.bind (aCons (frz (callSM 1 g__law_of (stArg 0 (aCons (frz (M.bind (aCons (frz (M.bind (rowVar 1) lstR)) (aCons (M.bind (aCons (rd 5) (aNil)) tupD) (aCons (ret .none) (aCons (frz (M.bind (rd 5) fun x => M.bind (rd 5) fun y => catD x y)) (aNil))))) lstD)) (aNil))))) (aCons (M.bind (aNil) tupD) (aNil))) tupD))) (ret .nx)
def sp3 : M Ctl := ifS (toB (m2 eqD (rd 2) (ret (.int 1)))) (retS (asx (M.bind (aCons (M.bind (aCons (frz (M.bind (rowVar 5) lstR)) (aCons (rd 6) (aNil))) tupD) (aCons (M.bind (aCons (ret (.int 0)) (aNil)) tupD) (aNil))) tupD))) (ret .nx)
def sp4a : M Ctl := M.bind (M.bind (aCons (frz (M.bind (M.bind (aCons (ret (.int 1)) (aNil)) tupD) fun x => M.bind (frz (slM (rd 6) (partO (ret (.int 1))) (ret none))) fun y => catD x y)) (aCons (M.bind (aCons (ixD (rd 6) (ret (.int 0))) (aCons (M.bind (rowVar 5) lenR) (aCons (ixD (rd 6) (ret (.int 2))) (aNil)))) tupD) (aCons (frz (slM (rd 6) (ret none) (partO (ret (.int 2))))) (aCons (M.bind (aCons (ixD (rd 6) (ret (.int 0))) (aCons (ixD (rd 6) (ret (.int 1))) (aCons (frz (M.bind (ixD (rd 6) (ret (.int 2))) fun x => M.bind (M.bind (aCons (ret (.int 0)) (aNil)) tupD) fun y => catD x y)) (aNil)))) tupD) (aNil))))) lstD) (asg 7)
def sp4b : M Ctl := dropS (appV 7 (M.bind (aCons (ixD (rd 6) (ret (.int 0))) (aCons (ixD (rd 6) (ret (.int 1))) (aCons (frz (M.bind (M.bind (aCons (ret (.int 10)) (aNil)) tupD) fun x => M.bind (m2 addI (M.bind (rowD (ixD (rd 6) (ret (.int 2)))) lenR) (ifE (toB (m2 neD (ixD (rd 6) (ret (.int 2))) (M.bind (aNil) tupD))) (ret (.int 0)) (ret (.int 1)))) fun y => repW x y)) (aNil)))) tupD))
def sp4c : M Ctl := retS (asx (M.bind (aCons (M.bind (aCons (rd 5) (aCons (frz (callSM 1 g__law_of (stArg 0 (aCons (frz (outV 7)) (aNil))))) (aNil))) tupD) (aCons (M.bind (aCons (ret (.int 1)) (aNil)) tupD) (aNil))) tupD))
def sp4 : M Ctl := ifS (toB (m2 eqD (rd 2) (ret (.int 2)))) (seq sp4a (seq sp4b sp4c)) (ret .nx)
def sp5 : M Ctl := M.bind (asx (frz (callSM 1 g__law_draw (stArg 0 (aCons (M.bind (rowVar 5) lenR) (aNil)))))) (asg 3)
def sp6 : M Ctl := M.bind (asx (frz (callSM 2 g__law_odd_row (stArg 0 (aCons (rd 3) (aCons (ixD (rd 5) (rd 3)) (aNil))))))) (asg 4)
def sp7 : M Ctl := retS (asx (M.bind (aCons (M.bind (aCons (frz (M.bind (frz (M.bind (frz (slM (rd 5) (ret none) (partO (rd 3)))) fun x => M.bind (M.bind (aCons (rd 4) (aNil)) tupD) fun y => catD x y)) fun x => M.bind (frz (slM (rd 5) (partO (m2 addI (rd 3) (ret (.int 1)))) (ret none))) fun y => catD x y)) (aCons (ret .none) (aNil))) tupD) (aCons (M.bind (aCons (ret (.int 0)) (aCons (rd 3) (aNil))) tupD) (aNil))) tupD))
theorem sp_eq : m__law_spoilt = seq sp0 (seq sp1 (seq sp2 (seq sp3 (seq sp4 (seq sp5 (seq sp6 sp7)))))) := rfl
abbrev pC (s : DS) (V p : Dat) (at_ bd : Sl) (R U : Dat) (od : Sl) : Cfg := ⟨[.st, .sh V, .sh p, at_, bd, .sh R, .sh U, od], s⟩
abbrev NoS (V p : Dat) : Prop := g_need_sentence [V] = .exc 1 p
section
variable {s : DS} {a v : Nat} {RL : List Dat} {U : Dat}
theorem sp2_no (h : v ≠ 0) {V R : Dat} : sp2 (pC s V (dn v) .no .no R U .no) = .ok .nx (pC s V (dn v) .no .no R U .no) := by
  have e : ((v : Int) == 0) = false := beq_eq_false_iff_ne.mpr (by omega)
  simp [sp2, e]
theorem sp3_no (h : v ≠ 1) {V R : Dat} : sp3 (pC s V (dn v) .no .no R U .no) = .ok .nx (pC s V (dn v) .no .no R U .no) := by
  have e : ((v : Int) == 1) = false := beq_eq_false_iff_ne.mpr (by omega)
  simp [sp3, e]
theorem sp4_no (h : v ≠ 2) {V R : Dat} : sp4 (pC s V (dn v) .no .no R U .no) = .ok .nx (pC s V (dn v) .no .no R U .no) := by
  have e : ((v : Int) == 2) = false := beq_eq_false_iff_ne.mpr (by omega)
  simp [sp4, e]
theorem sp2_yes (hs : St s a) (ha : a ≤ 90000) (l2 : 2 ≤ RL.length) (l6 : RL.length ≤ 6) : ∃ (X : Dat) (s' : DS) (c : Cfg), NoS X (.tuple []) ∧ St s' (a + 1) ∧ c.s = s' ∧
    sp2 (pC s (.tuple [.tuple RL, U]) (dn 0) .no .no (.tuple RL) U .no) = .ok (.rt (.sh (.tuple [X, .tuple []]))) c := by
  obtain ⟨X, s1, e1, hx, h1⟩ := run_of (l := [.list [.tuple RL, U], .tuple [.tuple RL], .none, .tuple (RL ++ RL)]) hs (by omega) (by simp) (by simp)
  have c1 := x_catT RL RL (by omega) (by omega)
  refine ⟨X, s1, pC s1 (.tuple [.tuple RL, U]) (dn 0) .no .no (.tuple RL) U .no, ?_, h1, rfl, ?_⟩
  · simp only [List.mem_cons, List.mem_nil_iff, or_false] at hx
    rcases hx with rfl | rfl | rfl | rfl
    · exact no_pair (row_lst _ _)
    · exact no_pair (by rw [row_tup]; rfl)
    · exact no_pair (row_non _)
    · refine no_pair ?_
      rw [row_tup]
      have e : (((RL ++ RL).length : Int) == 2) = false := beq_eq_false_iff_ne.mpr (by rw [List.length_append]; omega)
      rw [e]
  · simp [sp2, c1, e1]
theorem sp3_yes {V : Dat} : sp3 (pC s V (dn 1) .no .no (.tuple RL) U .no) = .ok (.rt (.sh (.tuple [.tuple [.list RL, U], .tuple [.int 0]]))) (pC s V (dn 1) .no .no (.tuple RL) U .no) := by
  simp [sp3]
def oddSe (n : Nat) (u : Us) : List Dat := [.tuple [.int 1, dn u.row, dp u.names], .tuple [.bool u.t, dn n, dp u.names], .tuple [.bool u.t, dn u.row], .tuple [.bool u.t, dn u.row, .tuple (u.names.map dn ++ [.int 0])], .tuple [.bool u.t, dn u.row, .tuple (List.replicate u.names.length (.int 10))]]
theorem ne_emp {l : List Dat} (h : SeqAt.shaped (.tuple l) = true) : neD (.tuple l) (.tuple []) = ret (.bool (!l.isEmpty)) := by
  unfold neD
  rw [h, show SeqAt.shaped (.tuple []) = true from rfl]
  cases l with
  | nil => rfl
  | cons p l => rfl
theorem sp4_yes {V : Dat} {u : Us} (hs : St s a) (ha : a ≤ 90000) (hu : Small u) : ∃ (X : Dat) (s' : DS) (c : Cfg), X ∈ oddSe RL.length u ∧ St s' (a + 1) ∧ c.s = s' ∧
    sp4 (pC s V (dn 2) .no .no (.tuple RL) (encU u) .no) = .ok (.rt (.sh (.tuple [.tuple [.tuple RL, X], .tuple [.int 1]]))) c := by
  obtain ⟨X, s1, e1, hx, h1⟩ := run_of (l := oddSe RL.length u) hs (by omega) (by simp [oddSe]) (by simp [oddSe])
  refine ⟨X, s1, pC s1 V (dn 2) .no .no (.tuple RL) (encU u) .no, hx, h1, rfl, ifT (c' := pC s V (dn 2) .no .no (.tuple RL) (encU u) .no) ?_ ?_⟩
  · generalize encU u = U2
    simp
  have lu := hu.len
  have ne := hu.ne
  have nn := ne_emp ((gd_dp 0 u.names fun n hn => by have := hu.lt n hn; omega).shaped (by omega))
  have ie : (u.names.map dn).isEmpty = false := by
    cases h : u.names with
    | nil => exact absurd h ne
    | cons x l => rfl
  rw [ie] at nn
  have lp : 0 < u.names.length := List.length_pos_iff.mpr ne
  have c1 := x_catT [.int 1] [dn u.row, dp u.names] (by simp) (by simp)
  have c2 := x_catT (u.names.map dn) [.int 0] (by rw [List.length_map]; omega) (by simp)
  have rp : repW (.tuple [.int 10]) (.int (u.names.length : Int)) = ret (.sh (.tuple (List.replicate u.names.length (.int 10)))) := by
    show (if [PyData.int 10] ≠ [] ∧ (1 : Int) ≤ (u.names.length : Int) ∧ (u.names.length : Int) ≤ 2000 ∧ [PyData.int 10].length ≤ 1000 then ret (RV.sh (PyData.tuple (List.replicate (u.names.length : Int).toNat [PyData.int 10]).flatten)) else bad) = _
    rw [if_pos ⟨by simp, by omega, by omega, by simp⟩, Int.toNat_natCast, rep_one]
  have a4 : sp4a (pC s V (dn 2) .no .no (.tuple RL) (encU u) .no) = .ok .nx (pC s V (dn 2) .no .no (.tuple RL) (encU u) (.own [.tuple [.int 1, dn u.row, dp u.names], .tuple [.bool u.t, dn RL.length, dp u.names], .tuple [.bool u.t, dn u.row], .tuple [.bool u.t, dn u.row, .tuple (u.names.map dn ++ [.int 0])]])) := by
    simp only [encU]
    simp [sp4a, cut_f1, cut_t2, c1, c2]
  have b4 : sp4b (pC s V (dn 2) .no .no (.tuple RL) (encU u) (.own [.tuple [.int 1, dn u.row, dp u.names], .tuple [.bool u.t, dn RL.length, dp u.names], .tuple [.bool u.t, dn u.row], .tuple [.bool u.t, dn u.row, .tuple (u.names.map dn ++ [.int 0])]])) = .ok .nx (pC s V (dn 2) .no .no (.tuple RL) (encU u) (.own (oddSe RL.length u))) := by
    simp only [encU, oddSe]
    simp [sp4b, held, wr, nn, rp]
  have c4 : sp4c (pC s V (dn 2) .no .no (.tuple RL) (encU u) (.own (oddSe RL.length u))) = .ok (.rt (.sh (.tuple [.tuple [.tuple RL, X], .tuple [.int 1]]))) (pC s1 V (dn 2) .no .no (.tuple RL) (encU u) .no) := by
    generalize oddSe RL.length u = O at e1 ⊢
    generalize encU u = U2
    simp [sp4c, outV, e1]
  exact sq a4 (sq b4 c4)
end
theorem ten_bad {n : Nat} (h : 0 < n) (hl : n ≤ 1000) : g_are_below [.tuple (List.replicate n (.int 10)), dn 10] = okB false := by
  have b : g_is_below [.int 10, dn 10] = okB false := bel_not (n := 10) (e := 10) (Nat.lt_irrefl _)
  rw [run_bel (fun d hd => by
    rw [List.eq_of_mem_replicate hd]
    exact (Tl.of b).1) (by rw [List.length_replicate]; exact hl)]
  have e : (List.replicate n (PyData.int 10)).all (tb g_is_below [dn 10]) = false := by
    cases n with
    | zero => omega
    | succ n =>
      rw [List.replicate_succ, List.all_cons, (Tl.of b).2]
      rfl
  rw [e]
theorem oddSe_bad {ms : List Nat} {u : Us} (h : ms[u.row]? = some u.names.length) (hn : u.names ≠ []) (hl : u.names.length ≤ 1000) : ∀ d ∈ oddSe ms.length u, g_is_use [d, dn 10, ld ms] = okB false := by
  intro d hd
  simp only [oddSe, List.mem_cons, List.mem_nil_iff, or_false] at hd
  rcases hd with rfl | rfl | rfl | rfl | rfl
  · exact bad_int _ _
  · exact bad_below (bel_not (Nat.lt_irrefl _))
  · exact bad_two _ _
  · exact bad_long h (by simp)
  · exact bad_names h (by simp) (ten_bad (List.length_pos_iff.mpr hn) hl)
theorem Rows.split : ∀ {A : List (Nat × Ac)} {ms : List Nat} {q : Nat × Ac} {B : List (Nat × Ac)}, Rows ms (A ++ q :: B) → Rows ms A ∧ GoodA (ms ++ A.map (·.1)) q.1 q.2
  | [], ms, q, B, h => by
    cases h with
    | cons hm g f t =>
      refine ⟨.nil, ?_⟩
      rw [List.map_nil, List.append_nil]
      exact g
  | (m, x) :: A, ms, q, B, h => by
    cases h with
    | cons hm g f t =>
      obtain ⟨r, z⟩ := Rows.split t
      refine ⟨.cons hm g f r, ?_⟩
      have e : ms ++ ((m, x) :: A).map (·.1) = ms ++ [m] ++ A.map (·.1) := by simp
      rw [e]
      exact z
section
variable {s : DS} {a v : Nat} {U V : Dat}
theorem sp567_run {A B : List (Nat × Ac)} {q : Nat × Ac} {X : Dat} {s1 s2 : DS} (hl : (A ++ q :: B).length ≤ 100) (d1 : g__law_draw [dn (A ++ q :: B).length] [] s = .ok (.sh (dn A.length)) [] s1) (e2 : g__law_odd_row [dn A.length, encR q] [] s1 = .ok (.sh X) [] s2) :
    seq sp5 (seq sp6 sp7) (pC s V (dn v) .no .no (.tuple ((A ++ q :: B).map encR)) U .no) = .ok (.rt (.sh (.tuple [.tuple [.tuple (A.map encR ++ X :: B.map encR), .none], .tuple [.int 0, dn A.length]]))) (pC s2 V (dn v) (.sh (dn A.length)) (.sh X) (.tuple ((A ++ q :: B).map encR)) U .no) := by
  have n : ((A ++ q :: B).map encR).length = (A ++ q :: B).length := List.length_map _
  have ix : ixR (true, (A ++ q :: B).map encR) (dn A.length) = ret (encR q) := ixR_nat (by
    rw [List.map_append, List.getElem?_append_right (by rw [List.length_map]; omega), List.length_map, Nat.sub_self]
    rfl)
  have t : cutL ((A ++ q :: B).map encR) none (some (A.length : Int)) = A.map encR := by
    rw [cut_to _ _ (by rw [n, List.length_append]; omega), List.map_append, List.take_append_of_le_length (by rw [List.length_map]; omega), List.take_of_length_le (by rw [List.length_map]; omega)]
  have d : cutL ((A ++ q :: B).map encR) (some ((A.length : Int) + 1)) none = B.map encR := by
    have z := cut_from ((A ++ q :: B).map encR) (A.length + 1) (by rw [n, List.length_append, List.length_cons]; omega)
    have e : (((A.length + 1 : Nat)) : Int) = (A.length : Int) + 1 := by omega
    rw [e] at z
    rw [z, List.map_append, List.map_cons]
    have e3 : (A.map encR ++ encR q :: B.map encR) = (A.map encR ++ [encR q]) ++ B.map encR := by simp
    rw [e3, List.drop_append_of_le_length (by simp), List.drop_eq_nil_of_le (by simp), List.nil_append]
  have c1 := x_catT (A.map encR) [X] (by rw [List.length_map]; rw [List.length_append] at hl; omega) (by simp)
  have c2 := x_catT (A.map encR ++ [X]) (B.map encR) (by rw [List.length_append, List.length_map, List.length_singleton]; rw [List.length_append] at hl; omega) (by rw [List.length_map]; rw [List.length_append, List.length_cons] at hl; omega)
  have c2 : catD (.tuple (A.map encR ++ [X])) (.tuple (B.map encR)) = ret (.sh (.tuple (A.map encR ++ X :: B.map encR))) := by
    rw [c2, List.append_assoc]
    rfl
  generalize A.map encR ++ X :: B.map encR = Z at c2 ⊢
  generalize (A ++ q :: B).map encR = L at n ix t d ⊢
  generalize A.map encR ++ [X] = AX at c1 c2
  generalize A.map encR = AL at t c1
  generalize B.map encR = BL at d c2
  generalize encR q = Q at ix e2
  generalize (A ++ q :: B).length = NN at n d1
  have e5 : sp5 (pC s V (dn v) .no .no (.tuple L) U .no) = .ok .nx (pC s1 V (dn v) (.sh (dn A.length)) .no (.tuple L) U .no) := by
    simp [sp5, n, d1]
  have e6 : sp6 (pC s1 V (dn v) (.sh (dn A.length)) .no (.tuple L) U .no) = .ok .nx (pC s2 V (dn v) (.sh (dn A.length)) (.sh X) (.tuple L) U .no) := by
    simp [sp6, ix, e2]
  refine sq e5 (sq e6 ?_)
  simp [sp7, t, c1, d, c2]
end
theorem gd_path0 : Gd 2 30 (.tuple []) := gd_tup (gd_z (n := 0)) (by omega) (by omega)
theorem gd_path1 {n : Nat} (h : n < 100) : Gd 2 30 (.tuple [dn n]) := gd_tup (gd_cons (gd_dn n 0 h) gd_z (Nat.le_refl _)) (by omega) (by omega)
theorem gd_path2 {n m : Nat} (h : n < 100) (h2 : m < 100) : Gd 2 30 (.tuple [dn n, dn m]) := gd_tup (gd_cons (gd_dn n 0 h) (gd_cons (gd_dn m 0 h2) gd_z (Nat.le_refl _)) (Nat.le_refl _)) (by omega) (by omega)
theorem run_spoilt {S : Se} {s : DS} {a : Nat} (h : SeD S) (hs : St s a) (ha : a ≤ 20000) : ∃ (V p : Dat) (s' : DS), g__law_spoilt [encS S] [] s = .ok (.sh (.tuple [V, p])) [] s' ∧ NoS V p ∧ Gd 2 30 p ∧ St s' (a + 30) := by
  obtain ⟨rows, use⟩ := S
  obtain ⟨hr, he, l2, l6, hu, sm⟩ := h
  simp only at hr he l2 l6 hu sm
  obtain ⟨v, s1, d1, hv, h1⟩ := run_draw hs (by omega) 6 (by omega) (by omega)
  have d1 : g__law_draw [.int 6] [] s = .ok (.sh (dn v)) [] s1 := d1
  have e0 : sp0 ⟨[.st, .sh (encS ⟨rows, use⟩), .no, .no, .no, .no, .no, .no], s⟩ = .ok .nx ⟨[.st, .sh (encS ⟨rows, use⟩), .no, .no, .no, .sh (.tuple (rows.map encR)), .sh (encU use), .no], s⟩ := by
    simp only [encS]
    generalize encU use = U
    generalize rows.map encR = R
    simp [sp0]
  have e1 : sp1 ⟨[.st, .sh (encS ⟨rows, use⟩), .no, .no, .no, .sh (.tuple (rows.map encR)), .sh (encU use), .no], s⟩ = .ok .nx (pC s1 (encS ⟨rows, use⟩) (dn v) .no .no (.tuple (rows.map encR)) (encU use) .no) := by
    generalize encS ⟨rows, use⟩ = S
    generalize encU use = U
    generalize rows.map encR = R
    simp [sp1, d1]
  have fin : ∃ (V p : Dat) (s' : DS) (c : Cfg), NoS V p ∧ Gd 2 30 p ∧ St s' (a + 30) ∧ c.s = s' ∧ seq sp2 (seq sp3 (seq sp4 (seq sp5 (seq sp6 sp7)))) (pC s1 (encS ⟨rows, use⟩) (dn v) .no .no (.tuple (rows.map encR)) (encU use) .no) = .ok (.rt (.sh (.tuple [V, p]))) c := by
    by_cases v0 : v = 0
    · subst v0
      obtain ⟨X, s2, c, nx, h2, hc, e2⟩ := sp2_yes (RL := rows.map encR) (U := encU use) h1 (by omega) (by rw [List.length_map]; exact l2) (by rw [List.length_map]; exact l6)
      exact ⟨X, .tuple [], s2, c, nx, gd_path0, h2.mono (by omega), hc, sqR e2⟩
    have q2 := sp2_no (s := s1) (U := encU use) (V := encS ⟨rows, use⟩) (R := .tuple (rows.map encR)) v0
    by_cases v1 : v = 1
    · subst v1
      exact ⟨_, _, s1, _, no_rows, gd_path1 (n := 0) (by omega), h1.mono (by omega), rfl, sq q2 (sqR sp3_yes)⟩
    have q3 := sp3_no (s := s1) (U := encU use) (V := encS ⟨rows, use⟩) (R := .tuple (rows.map encR)) v1
    by_cases v2 : v = 2
    · subst v2
      obtain ⟨X, s2, c, nx, h2, hc, e2⟩ := sp4_yes (RL := rows.map encR) (V := encS ⟨rows, use⟩) h1 (by omega) sm
      refine ⟨_, _, s2, c, ?_, gd_path1 (n := 1) (by omega), h2.mono (by omega), hc, sq q2 (sq q3 (sqR e2))⟩
      have hr2 := hr.ok
      have nx2 : X ∈ oddSe (rows.map (·.1)).length use := by
        rw [List.length_map] at nx ⊢
        exact nx
      have z := no_use (ds := rows.map datR) (U := X) hr2 (by
        rw [fst_datR]
        exact oddSe_bad hu.1 sm.ne (by have := sm.len; omega) X nx2) (by rw [List.length_map]; omega)
      rw [rowE_datR] at z
      exact z
    have q4 := sp4_no (s := s1) (U := encU use) (V := encS ⟨rows, use⟩) (R := .tuple (rows.map encR)) v2
    obtain ⟨j, s2, d2, hj, h2⟩ := run_draw h1 (by omega) rows.length (by omega) (by omega)
    obtain ⟨A, q, B, rfl, hA⟩ : ∃ A q B, rows = A ++ q :: B ∧ A.length = j := ⟨rows.take j, rows[j], rows.drop (j + 1), by rw [List.getElem_cons_drop hj, List.take_append_drop], by rw [List.length_take]; omega⟩
    subst hA
    obtain ⟨rA, gq⟩ := hr.split
    rw [List.nil_append] at gq
    obtain ⟨ms', zq⟩ := he q (List.mem_append_right _ List.mem_cons_self)
    have rq : RowD (A.map (·.1)) q := ⟨zq.lo, zq.hi, gq, zq.few, zq.small⟩
    obtain ⟨X, s3, e3, bx, h3⟩ := run_odd_row rq h2 (by omega)
    rw [List.length_map] at e3
    have run := sp567_run (V := encS ⟨A ++ q :: B, use⟩) (U := encU use) (v := v) (by omega) d2 e3
    rw [List.length_append, List.length_cons] at l6
    refine ⟨_, _, s3, _, ?_, gd_path2 (n := 0) (m := A.length) (by omega) (by omega), h3.mono (by omega), rfl, sq q2 (sq q3 (sq q4 run))⟩
    have z := no_row (ds := A.map datR) (x := X) (U := .none) (rest := B.map encR) rA.ok (by rw [fst_datR]; exact bx) (by rw [List.length_map, List.length_map]; omega)
    rw [rowE_datR, List.length_map] at z
    exact z
  obtain ⟨V, p, s', c, n, g, h', hc, e⟩ := fin
  refine ⟨V, p, s', ?_, n, g, h'⟩
  have run := sq e0 (sq e1 e)
  rw [← sp_eq] at run
  show runG true false 8 m__law_spoilt [encS ⟨rows, use⟩] [] s = _
  unfold runG
  rw [show initG true false 8 [encS ⟨rows, use⟩] [] = [.st, .sh (encS ⟨rows, use⟩), .no, .no, .no, .no, .no, .no] from rfl, run]
  simp [endG, hc]
end Pn

set_option maxHeartbeats 2000003
namespace Pn
open L2 PyProof.Rows PySem.Spec PySem
/-! ### _law_bounds_right -/
def bo0 : M Ctl := M.bind (asx (M.bind (aCons (ret (.int 24)) (aCons (M.bind (aCons (ret (.str "send")) (aCons (ret (.int 23)) (aCons (ret (.int 0)) (aCons (M.bind (aNil) tupD) (aNil))))) tupD) (aNil))) tupD)) (asg 1)
def bo1 : M Ctl := M.bind (asx (M.bind (aCons (frz (M.bind (M.bind (aCons (rd 1) (aNil)) tupD) fun x => M.bind (ret (.int 1500)) fun y => repW x y)) (aCons (M.bind (aCons (ret (.bool true)) (aCons (ret (.int 1499)) (aCons (frz (M.bind (M.bind (aCons (ret (.int 9)) (aNil)) tupD) fun x => M.bind (ret (.int 24)) fun y => repW x y)) (aNil)))) tupD) (aNil))) tupD)) (asg 2)
def bo2 : M Ctl := M.bind (M.bind (aCons (M.bind (rowX (callN 1 g__law_heard (aCons (rd 2) (aNil)))) lenR) (aCons (frz (callN 1 g__law_heard (aCons (M.bind (aCons (frz (M.bind (M.bind (aCons (rd 1) (aNil)) tupD) fun x => M.bind (ret (.int 1501)) fun y => repW x y)) (aCons (ret .none) (aNil))) tupD) (aNil)))) (aCons (frz (callN 1 g_depth_of (aCons (rd 2) (aNil)))) (aNil)))) lstD) (asg 3)
def bo3 : M Ctl := dropS (appV 3 (frz (callN 1 g__law_heard (aCons (M.bind (aCons (frz (M.bind (M.bind (aCons (M.bind (aCons (ret (.int 25)) (aCons (ixD (rd 1) (ret (.int 1))) (aNil))) tupD) (aNil)) tupD) fun x => M.bind (frz (M.bind (M.bind (aCons (rd 1) (aNil)) tupD) fun x => M.bind (ret (.int 1499)) fun y => repW x y)) fun y => catD x y)) (aCons (ret .none) (aNil))) tupD) (aNil)))))
def bo4 : M Ctl := dropS (appV 3 (frz (callN 1 g__law_heard (aCons (M.bind (aCons (M.bind (aCons (M.bind (aCons (ret (.int 0)) (aCons (M.bind (aCons (ret (.str "wait")) (aCons (M.bind (aNil) tupD) (aNil))) tupD) (aNil))) tupD) (aNil)) tupD) (aCons (M.bind (aCons (ret (.bool false)) (aCons (ret (.int 0)) (aCons (M.bind (aNil) tupD) (aNil)))) tupD) (aNil))) tupD) (aNil)))))
def bo5 : M Ctl := M.bind (asx (frz (M.bind (aCons (ret (.int 1)) (aCons (M.bind (aCons (ret (.str "great")) (aCons (ret (.int 1500)) (aNil))) tupD) (aCons (ret (.int 1)) (aCons (M.bind (aCons (ret (.str "bad")) (aCons (M.bind (aCons (ret (.int 0)) (aCons (ret (.int 0)) (aNil))) tupD) (aNil))) tupD) (aCons (frz (M.bind (aCons (M.bind (aCons (M.bind (aCons (M.bind (aCons (ret (.int 0)) (aCons (M.bind (aCons (ret (.str "wait")) (aCons (M.bind (aNil) tupD) (aNil))) tupD) (aNil))) tupD) (aNil)) tupD) (aCons (M.bind (aCons (ret (.bool false)) (aCons (ret (.int 0)) (aCons (M.bind (aNil) tupD) (aNil)))) tupD) (aNil))) tupD) (aNil)) lstD)) (aNil)))))) lstD))) (asg 4)
def bo6 : M Ctl := retS (callQM false 2 g__law_like (aCons (frz (outV 3)) (aCons (rd 4) (aNil))))
theorem bo_eq : m__law_bounds_right = seq bo0 (seq bo1 (seq bo2 (seq bo3 (seq bo4 (seq bo5 bo6))))) := rfl
theorem repW_n {d : Dat} {k : Int} {n : Nat} (e : k = (n : Int)) (h : 1 ≤ n) (h2 : n ≤ 2000) : repW (.tuple [d]) (.int k) = ret (.sh (.tuple (List.replicate n d))) := by
  subst e
  show (if [d] ≠ [] ∧ (1 : Int) ≤ (n : Int) ∧ (n : Int) ≤ 2000 ∧ [d].length ≤ 1000 then ret (RV.sh (PyData.tuple (List.replicate (n : Int).toNat [d]).flatten)) else bad) = _
  rw [if_pos ⟨by simp, by omega, by omega, by simp⟩, Int.toNat_natCast, rep_one]
def r0 : Nat × Ac := (24, .send 23 0 [])
theorem good_r0 (ms : List Nat) : GoodA ms r0.1 r0.2 := ⟨by decide, by decide, fun u hu => nomatch hu⟩
theorem rows_rep : ∀ (n : Nat) (ms : List Nat), Rows ms (List.replicate n r0)
  | 0, ms => .nil
  | n + 1, ms => by
    rw [List.replicate_succ]
    exact .cons (by decide) (good_r0 ms) ⟨by decide, fun u hu => (nomatch hu)⟩ (rows_rep n (ms ++ [24]))
def fullS : Se := ⟨List.replicate 1500 r0, ⟨true, 1499, List.replicate 24 9⟩⟩
theorem good_full : GoodS fullS where
  rows := rows_rep 1500 []
  use := ⟨by
    show ((List.replicate 1500 r0).map (·.1))[1499]? = _
    rw [List.map_replicate, List.getElem?_replicate, if_pos (by omega)]
    show some 24 = some (List.replicate 24 9).length
    rw [List.length_replicate], fun n hn => by
    rw [List.eq_of_mem_replicate hn]
    omega⟩
  few := by
    show (List.replicate 24 9).length ≤ 1000
    rw [List.length_replicate]
    omega
  len := by
    show (List.replicate 1500 r0).length ≤ 1500
    rw [List.length_replicate]
    omega
theorem enc_full : encS fullS = .tuple [.tuple (List.replicate 1500 (encR r0)), .tuple [.bool true, .int 1499, .tuple (List.replicate 24 (.int 9))]] := by
  show PyData.tuple [.tuple ((List.replicate 1500 r0).map encR), .tuple [.bool true, dn 1499, .tuple ((List.replicate 24 9).map dn)]] = _
  rw [List.map_replicate, List.map_replicate]
  rfl
theorem full_heard : g__law_heard [encS fullS] = .ok (.fr [encS fullS]) := heard_ok (need_good good_full)
theorem full_depth : g_depth_of [encS fullS] = .ok (.sh (.int 1)) := by
  rw [depth_good good_full]
  have z := (dep_of (rows_rep 1500 []) 1499 r0 (by rw [List.getElem?_replicate, if_pos (by omega)])).1
  have e : (dAll [] fullS.rows).getD fullS.use.row 0 = 1 := z
  rw [e]
  rfl
theorem many_heard : g__law_heard [.tuple [.tuple (List.replicate 1501 (encR r0)), .none]] = .ok (.sh (.tuple [.str "great", .int 1500])) := heard_great (too_many (by rw [List.length_replicate]; omega))
def r25 : Dat := .tuple [.int 25, encA r0.2]
theorem wide_heard : g__law_heard [.tuple [.tuple (r25 :: List.replicate 1499 (encR r0)), .none]] = .ok (.sh (.tuple [.str "bad", .tuple [.int 0, .int 0]])) := by
  have b : g_is_sentence_row [r25, ld (([] : List (Nat × Dat)).map (·.1))] = okB false := row_many (bel_not (n := 25) (e := 25) (Nat.lt_irrefl _))
  exact heard_bad (no_row (ds := []) (x := r25) (U := .none) (rest := List.replicate 1499 (encR r0)) .nil b (by rw [List.length_replicate, List.length_nil]; omega))
def tiny : Dat := .tuple [.tuple [.tuple [.int 0, .tuple [.str "wait", .tuple []]]], .tuple [.bool false, .int 0, .tuple []]]
theorem tiny_heard : g__law_heard [tiny] = .ok (.fr [tiny]) := by
  have g : GoodS ⟨[(0, .wait [])], ⟨false, 0, []⟩⟩ := ⟨.cons (by decide) (fun u hu => nomatch hu) ⟨by decide, fun u hu => (nomatch hu)⟩ .nil, ⟨rfl, fun n hn => nomatch hn⟩, by decide, by decide⟩
  exact heard_ok (need_good g)
def dueB : Dat := .list [.int 1, .tuple [.str "great", .int 1500], .int 1, .tuple [.str "bad", .tuple [.int 0, .int 0]], .list [tiny]]
theorem gd_due : Gd 10 300 dueB := ⟨by decide +kernel, by decide +kernel, by decide +kernel, by decide +kernel⟩
def bo2P (GH GD : List Dat → PR) (RW : Dat → Dat → M RV) : M Ctl := M.bind (M.bind (aCons (M.bind (rowX (callN 1 GH (aCons (rd 2) (aNil)))) lenR) (aCons (frz (callN 1 GH (aCons (M.bind (aCons (frz (M.bind (M.bind (aCons (rd 1) (aNil)) tupD) fun x => M.bind (ret (.int 1501)) fun y => RW x y)) (aCons (ret .none) (aNil))) tupD) (aNil)))) (aCons (frz (callN 1 GD (aCons (rd 2) (aNil)))) (aNil)))) lstD) (asg 3)
theorem bo2_eq : bo2 = bo2P g__law_heard g_depth_of repW := rfl
theorem bo2P_run {GH GD : List Dat → PR} {RW : Dat → Dat → M RV} {row F : Dat} {l : List Dat} {s : DS} (p2 : RW (.tuple [row]) (.int 1501) = ret (.sh (.tuple l))) (h1 : GH [F] = .ok (.fr [F])) (h2 : GH [.tuple [.tuple l, .none]] = .ok (.sh (.tuple [.str "great", .int 1500]))) (h3 : GD [F] = .ok (.sh (.int 1))) :
    bo2P GH GD RW ⟨[.st, .sh row, .sh F, .no, .no], s⟩ = .ok .nx ⟨[.st, .sh row, .sh F, .own [.int 1, .tuple [.str "great", .int 1500], .int 1], .no], s⟩ := by
  simp [bo2P, p2, h1, h2, h3]
theorem runG_rt {us : Bool} {N : Nat} {m : M Ctl} {ds l : List Dat} {s : DS} {v : RV} {c : Cfg} (e : m ⟨initG us false N ds l, s⟩ = .ok (.rt v) c) : runG us false N m ds l s = .ok v [] c.s := by
  unfold runG
  rw [e]
  rfl
theorem run_bounds (s : DS) : g__law_bounds_right [] [] s = .ok (.sh (.bool true)) [] s := by
  have lk := run_like gd_due (by omega) (by omega) rfl
  have p1 := repW_n (d := encR r0) (k := 1500) (n := 1500) rfl (by omega) (by omega)
  have p2 := repW_n (d := encR r0) (k := 1501) (n := 1501) rfl (by omega) (by omega)
  have p3 := repW_n (d := encR r0) (k := 1499) (n := 1499) rfl (by omega) (by omega)
  have p4 := repW_n (d := .int 9) (k := 24) (n := 24) rfl (by omega) (by omega)
  have c1 := x_catT [r25] (List.replicate 1499 (encR r0)) (by simp) (by rw [List.length_replicate]; omega)
  have h1 := full_heard
  have h2 := many_heard
  have h3 := full_depth
  have h4 := wide_heard
  have h5 := tiny_heard
  rw [enc_full] at h1 h3
  rw [List.singleton_append] at c1
  generalize List.replicate 1500 (encR r0) = L1 at p1 h1 h3
  generalize List.replicate 1501 (encR r0) = L2 at p2 h2
  generalize r25 :: List.replicate 1499 (encR r0) = L4 at c1 h4
  generalize List.replicate 1499 (encR r0) = L3 at p3 c1
  generalize List.replicate 24 (PyData.int 9) = L5 at p4 h1 h3
  have rr : encR r0 = .tuple [.int 24, .tuple [.str "send", .int 23, .int 0, .tuple []]] := rfl
  have r25' : r25 = .tuple [.int 25, .tuple [.str "send", .int 23, .int 0, .tuple []]] := rfl
  rw [rr] at p1 p2 p3
  rw [r25'] at c1
  have e0 : bo0 ⟨[.st, .no, .no, .no, .no], s⟩ = .ok .nx ⟨[.st,  .sh (.tuple [.int 24, .tuple [.str "send", .int 23, .int 0, .tuple []]]), .no, .no, .no], s⟩ := by simp [bo0]
  have e1 : bo1 ⟨[.st,  .sh (.tuple [.int 24, .tuple [.str "send", .int 23, .int 0, .tuple []]]), .no, .no, .no], s⟩ = .ok .nx ⟨[.st,  .sh (.tuple [.int 24, .tuple [.str "send", .int 23, .int 0, .tuple []]]), .sh (.tuple [.tuple L1, .tuple [.bool true, .int 1499, .tuple L5]]), .no, .no], s⟩ := by
    unfold bo1
    generalize repW = Z_repW at p1 p4 ⊢
    simp [p1, p4]
  have e2 : bo2 ⟨[.st,  .sh (.tuple [.int 24, .tuple [.str "send", .int 23, .int 0, .tuple []]]), .sh (.tuple [.tuple L1, .tuple [.bool true, .int 1499, .tuple L5]]), .no, .no], s⟩ = .ok .nx ⟨[.st,  .sh (.tuple [.int 24, .tuple [.str "send", .int 23, .int 0, .tuple []]]), .sh (.tuple [.tuple L1, .tuple [.bool true, .int 1499, .tuple L5]]), .own [.int 1, .tuple [.str "great", .int 1500], .int 1], .no], s⟩ := by
    rw [bo2_eq]
    exact bo2P_run p2 h1 h2 h3
  have e3 : bo3 ⟨[.st,  .sh (.tuple [.int 24, .tuple [.str "send", .int 23, .int 0, .tuple []]]), .sh (.tuple [.tuple L1, .tuple [.bool true, .int 1499, .tuple L5]]), .own [.int 1, .tuple [.str "great", .int 1500], .int 1], .no], s⟩ = .ok .nx ⟨[.st,  .sh (.tuple [.int 24, .tuple [.str "send", .int 23, .int 0, .tuple []]]), .sh (.tuple [.tuple L1, .tuple [.bool true, .int 1499, .tuple L5]]), .own [.int 1, .tuple [.str "great", .int 1500], .int 1, .tuple [.str "bad", .tuple [.int 0, .int 0]]], .no], s⟩ := by
    unfold bo3
    generalize repW = Z_repW at p3 ⊢
    generalize g__law_heard = Z_g__law_heard at h4 ⊢
    simp [p3, c1, h4, held, wr]
  have e4 : bo4 ⟨[.st,  .sh (.tuple [.int 24, .tuple [.str "send", .int 23, .int 0, .tuple []]]), .sh (.tuple [.tuple L1, .tuple [.bool true, .int 1499, .tuple L5]]), .own [.int 1, .tuple [.str "great", .int 1500], .int 1, .tuple [.str "bad", .tuple [.int 0, .int 0]]], .no], s⟩ = .ok .nx ⟨[.st,  .sh (.tuple [.int 24, .tuple [.str "send", .int 23, .int 0, .tuple []]]), .sh (.tuple [.tuple L1, .tuple [.bool true, .int 1499, .tuple L5]]), .own [.int 1, .tuple [.str "great", .int 1500], .int 1, .tuple [.str "bad", .tuple [.int 0, .int 0]], .list [tiny]], .no], s⟩ := by
    simp only [tiny] at h5 ⊢
    unfold bo4
    generalize g__law_heard = Z_g__law_heard at h5 ⊢
    simp [h5, held, wr]
  have e5 : bo5 ⟨[.st,  .sh (.tuple [.int 24, .tuple [.str "send", .int 23, .int 0, .tuple []]]), .sh (.tuple [.tuple L1, .tuple [.bool true, .int 1499, .tuple L5]]), .own [.int 1, .tuple [.str "great", .int 1500], .int 1, .tuple [.str "bad", .tuple [.int 0, .int 0]], .list [tiny]], .no], s⟩ = .ok .nx ⟨[.st,  .sh (.tuple [.int 24, .tuple [.str "send", .int 23, .int 0, .tuple []]]), .sh (.tuple [.tuple L1, .tuple [.bool true, .int 1499, .tuple L5]]), .own [.int 1, .tuple [.str "great", .int 1500], .int 1, .tuple [.str "bad", .tuple [.int 0, .int 0]], .list [tiny]], .sh dueB], s⟩ := by
    simp [bo5, dueB, tiny]
  have e6 : bo6 ⟨[.st,  .sh (.tuple [.int 24, .tuple [.str "send", .int 23, .int 0, .tuple []]]), .sh (.tuple [.tuple L1, .tuple [.bool true, .int 1499, .tuple L5]]), .own [.int 1, .tuple [.str "great", .int 1500], .int 1, .tuple [.str "bad", .tuple [.int 0, .int 0]], .list [tiny]], .sh dueB], s⟩ = .ok (.rt (.sh (.bool true))) ⟨[.st,  .sh (.tuple [.int 24, .tuple [.str "send", .int 23, .int 0, .tuple []]]), .sh (.tuple [.tuple L1, .tuple [.bool true, .int 1499, .tuple L5]]), .no, .sh dueB], s⟩ := by
    have q : PyData.list [.int 1, .tuple [.str "great", .int 1500], .int 1, .tuple [.str "bad", .tuple [.int 0, .int 0]], .list [tiny]] = dueB := rfl
    generalize [PyData.int 1, .tuple [.str "great", .int 1500], .int 1, .tuple [.str "bad", .tuple [.int 0, .int 0]], .list [tiny]] = Q at q
    rw [← q] at lk ⊢
    unfold bo6
    generalize g__law_like = Z_g__law_like at lk ⊢
    simp [outV, lk]
  have run := sq e0 (sq e1 (sq e2 (sq e3 (sq e4 (sq e5 e6)))))
  rw [← bo_eq] at run
  exact runG_rt (us := true) (N := 5) (ds := []) run
end Pn

set_option maxHeartbeats 2000003
namespace Pn
open L2 PyProof.Rows PySem.Spec PySem
/-! ### the law -/
def la0 : M Ctl := M.bind (asx (frz (callSM 3 g__law_sentence (stArg 1 (aCons (m2 addI (ret (.int 1)) (frz (callSM 1 g__law_draw (stArg 1 (aCons (ret (.int 3)) (aNil)))))) (aCons (m2 eqD (frz (callSM 1 g__law_draw (stArg 1 (aCons (ret (.int 2)) (aNil))))) (ret (.int 0))) (aCons (ret (.int 10)) (aNil)))))))) (asg 3)
def la1 : M Ctl := ifS (notB (toB (frz (callQM false 2 g__law_like (aCons (frz (callN 1 g__law_heard (aCons (rd 3) (aNil)))) (aCons (frz (M.bind (aCons (rd 3) (aNil)) lstD)) (aNil))))))) (retS (asx (ret (.bool false)))) (ret .nx)
def la2 : M Ctl := M.bind (rd 3) (tgtM (putTup 2 (putCons (put 6) (putCons (put 7) (putNil)))))
def la3 : M Ctl := ifS (notB (toB (frz (callQM false 2 g__law_like (aCons (frz (callN 1 g_depth_of (aCons (rd 3) (aNil)))) (aCons (frz (callN 2 (g__law_deep 10) (aCons (rd 6) (aCons (ixD (rd 7) (ret (.int 1))) (aNil))))) (aNil))))))) (retS (asx (ret (.bool false)))) (ret .nx)
def la4 : M Ctl := ifS (notB (toB (frz (callQM false 2 g__law_like (aCons (frz (callN 1 g_is_early (aCons (rd 3) (aNil)))) (aCons (frz (callN 1 g__law_same_cases (aCons (rd 6) (aNil)))) (aNil))))))) (retS (asx (ret (.bool false)))) (ret .nx)
def la5 : M Ctl := M.bind (asx (frz (callN 1 g_turned_sentence (aCons (rd 3) (aNil))))) (asg 4)
def la6 : M Ctl := ifS (notB (toB (frz (callQM false 2 g__law_like (aCons (rd 4) (aCons (M.bind (aCons (rd 6) (aCons (M.bind (aCons (notV (ixD (rd 7) (ret (.int 0)))) (aCons (ixD (rd 7) (ret (.int 1))) (aCons (ixD (rd 7) (ret (.int 2))) (aNil)))) tupD) (aNil))) tupD) (aNil))))))) (retS (asx (ret (.bool false)))) (ret .nx)
def la7 : M Ctl := ifS (notB (toB (frz (callQM false 2 g__law_like (aCons (frz (callN 1 g_turned_sentence (aCons (rd 4) (aNil)))) (aCons (rd 3) (aNil))))))) (retS (asx (ret (.bool false)))) (ret .nx)
def la8 : M Ctl := M.bind (M.bind (aCons (ret (.int 3)) aNil) itR) fun items => forL (put 5) (seq (M.bind (frz (callSM 1 g__law_spoilt (stArg 1 (aCons (rd 3) (aNil))))) (tgtM (putTup 2 (putCons (put 8) (putCons (put 9) (putNil)))))) (ifS (notB (toB (frz (callQM false 2 g__law_like (aCons (frz (callN 1 g__law_heard (aCons (rd 8) (aNil)))) (aCons (M.bind (aCons (ret (.str "bad")) (aCons (rd 9) (aNil))) tupD) (aNil))))))) (retS (asx (ret (.bool false)))) (ret .nx))) items
def laB : M Ctl := seq la0 (seq la1 (seq la2 (seq la3 (seq la4 (seq la5 (seq la6 (seq la7 la8)))))))
def laF : M Ctl := M.bind (M.bind (aCons (ret (.int 4)) aNil) itR) fun items => forL (put 2) laB items
def laZ : M Ctl := retS (callSM 0 g__law_bounds_right (stArg 1 (aNil)))
theorem la_eq : m_law = seq laF laZ := rfl
def lb0 : M Ctl := M.bind (frz (callSM 1 g__law_spoilt (stArg 1 (aCons (rd 3) (aNil))))) (tgtM (putTup 2 (putCons (put 8) (putCons (put 9) (putNil)))))
def lb1 : M Ctl := ifS (notB (toB (frz (callQM false 2 g__law_like (aCons (frz (callN 1 g__law_heard (aCons (rd 8) (aNil)))) (aCons (M.bind (aCons (ret (.str "bad")) (aCons (rd 9) (aNil))) tupD) (aNil))))))) (retS (asx (ret (.bool false)))) (ret .nx)
theorem la8_eq : la8 = M.bind (M.bind (aCons (ret (.int 3)) aNil) itR) fun items => forL (put 5) (seq lb0 lb1) items := rfl
abbrev lC (s : DS) (lap se tu tn ro us va pl : Sl) : Cfg := ⟨[.no, .st, lap, se, tu, tn, ro, us, va, pl], s⟩
theorem st_begin (ns : List Int) : St ⟨cellsOf ns, leftsOf ns, 0⟩ 0 where
  len := by show ((cellsOf ns).map leftOf).length = _; rw [List.length_map]
  pos := by
    show 0 < (cellsOf ns).length
    unfold cellsOf
    split
    · decide
    · rename_i h
      exact List.length_pos_iff.mpr h
  left := fun x hx => by
    obtain ⟨c, _, rfl⟩ := List.mem_map.mp hx
    unfold leftOf
    split <;> omega
  lo := by show (0 : Int) ≤ 0; omega
  hi := by show (0 : Int) ≤ ((0 : Nat) : Int); omega
section
variable {s : DS} {a : Nat} {lap tn va pl : Sl} {S : Se}
theorem la0_run (hs : St s a) (ha : a ≤ 3000) {se tu ro us : Sl} (h : Shn se) : ∃ (S : Se) (s' : DS), SeD S ∧ St s' (a + 210) ∧ la0 (lC s lap se tu tn ro us va pl) = .ok .nx (lC s' lap (.sh (encS S)) tu tn ro us va pl) := by
  obtain ⟨r, s1, d1, hr, h1⟩ := run_draw hs (by omega) 3 (by omega) (by omega)
  have d1 : g__law_draw [.int 3] [] s = .ok (.sh (dn r)) [] s1 := d1
  obtain ⟨t, s2, d2, ht, h2⟩ := run_draw h1 (by omega) 2 (by omega) (by omega)
  have d2 : g__law_draw [.int 2] [] s1 = .ok (.sh (dn t)) [] s2 := d2
  obtain ⟨S, s3, e3, hS, h3⟩ := run_sentence (k := 1 + r) (e := ((t : Int) == 0)) h2 (by omega) (by omega) (by omega)
  have e : ((1 + r : Nat) : Int) = 1 + (r : Int) := by omega
  have e3 : g__law_sentence [.int (1 + (r : Int)), .bool ((t : Int) == 0), .int 10] [] s2 = .ok (.sh (encS S)) [] s3 := by
    rw [← e]
    exact e3
  refine ⟨S, s3, hS, h3.mono (by omega), ?_⟩
  generalize encS S = E at e3 ⊢
  rcases h with rfl | ⟨d, rfl⟩ <;> simp [la0, d1, d2, e3]
theorem la1_run (h : SeD S) {tu ro us : Sl} : la1 (lC s lap (.sh (encS S)) tu tn ro us va pl) = .ok .nx (lC s lap (.sh (encS S)) tu tn ro us va pl) := by
  have e1 := heard_ok (need_good h.good)
  have lk := run_like (gd_lst (gd_cons (gd_S h.each (by have := h.hi; omega) h.small) gd_z (Nat.le_refl _)) (m := 20) (v := 5000) (by omega) (by omega)) (by omega) (by omega) rfl
  generalize encS S = E at e1 lk ⊢
  simp [la1, e1, lk]
theorem la2_run {tu ro us : Sl} (h1 : Shn ro) (h2 : Shn us) : la2 (lC s lap (.sh (encS S)) tu tn ro us va pl) = .ok .nx (lC s lap (.sh (encS S)) tu tn (.sh (.tuple (S.rows.map encR))) (.sh (encU S.use)) va pl) := by
  simp only [encS]
  generalize encU S.use = U
  generalize S.rows.map encR = R
  rcases h1 with rfl | ⟨d, rfl⟩ <;> rcases h2 with rfl | ⟨e, rfl⟩ <;> simp [la2]
theorem dep_le {r : List (Nat × Ac)} {D : List Nat} (h : DepOf r D) (hh : ∀ (k : Nat) (q : Nat × Ac), r[k]? = some q → ∀ p ∈ casesA q.2, p.2.row < k) : ∀ (n k : Nat), k < n → k < r.length → D.getD k 0 ≤ k + 1
  | 0, k, hk, _ => by omega
  | n + 1, k, hk, hl => by
    have e := (h k r[k] (List.getElem?_eq_getElem hl)).1
    have b : ∀ (l : List Nat) (a : Nat), a ≤ k → (∀ x ∈ l, x ≤ k) → l.foldl max a ≤ k := by
      intro l
      induction l with
      | nil => intro a ha _; exact ha
      | cons x l ih =>
        intro a ha hx
        exact ih (max a x) (Nat.max_le.mpr ⟨ha, hx x List.mem_cons_self⟩) fun y hy => hx y (List.mem_cons_of_mem _ hy)
    have z := b ((casesA r[k].2).map fun p => D.getD p.2.row 0) 0 (Nat.zero_le _) (fun x hx => by
      obtain ⟨p, hp, rfl⟩ := List.mem_map.mp hx
      have lt := hh k r[k] (List.getElem?_eq_getElem hl) p hp
      have := dep_le h hh n p.2.row (by omega) (by omega)
      omega)
    omega
theorem rows_before {r : List (Nat × Ac)} (h : Rows [] r) (k : Nat) (q : Nat × Ac) (e : r[k]? = some q) : ∀ p ∈ casesA q.2, p.2.row < k := by
  have lk := (List.getElem?_eq_some_iff.mp e)
  have sp : r = r.take k ++ q :: r.drop (k + 1) := by
    obtain ⟨h1, h2⟩ := lk
    rw [← h2, List.getElem_cons_drop h1, List.take_append_drop]
  rw [sp] at h
  obtain ⟨_, g⟩ := h.split
  rw [List.nil_append] at g
  intro p hp
  have z := rows_lt g p hp
  rw [List.length_map, List.length_take] at z
  omega
theorem la3_run (h : SeD S) {tu : Sl} : la3 (lC s lap (.sh (encS S)) tu tn (.sh (.tuple (S.rows.map encR))) (.sh (encU S.use)) va pl) = .ok .nx (lC s lap (.sh (encS S)) tu tn (.sh (.tuple (S.rows.map encR))) (.sh (encU S.use)) va pl) := by
  have lt := h.use.lt
  rw [List.length_map] at lt
  have D := dep_of h.rows
  have le := dep_le D (rows_before h.rows) (S.use.row + 1) S.use.row (by omega) lt
  have hi := h.hi
  have e1 := depth_good h.good
  have e2 := deep_run D 10 S.use.row lt (by omega)
  have lk := run_like (gd_dn ((dAll [] S.rows).getD S.use.row 0) 1 (by omega)) (by omega) (by omega) rfl
  generalize (dAll [] S.rows).getD S.use.row 0 = n at e1 e2 lk
  generalize encS S = E at e1 ⊢
  generalize S.rows.map encR = R at e2 ⊢
  simp only [encU]
  simp [la3, e1, e2, lk]
theorem la4_run (h : SeD S) {tu us : Sl} : la4 (lC s lap (.sh (encS S)) tu tn (.sh (.tuple (S.rows.map encR))) us va pl) = .ok .nx (lC s lap (.sh (encS S)) tu tn (.sh (.tuple (S.rows.map encR))) us va pl) := by
  have hc : ∀ q ∈ S.rows, (casesA q.2).length ≤ 1000 := fun q hq => by
    obtain ⟨ms, z⟩ := h.each q hq
    have := z.few
    omega
  have e1 := early_good h.good hc
  have e2 := same_good hc
  have lk := run_like (gd_bool (!S.rows.any fun q => twoA q.2) 1) (by omega) (by omega) rfl
  generalize (!S.rows.any fun q => twoA q.2) = b at e1 e2 lk
  generalize encS S = E at e1 ⊢
  generalize S.rows.map encR = R at e2 ⊢
  simp [la4, e1, e2, lk]
abbrev turnS (S : Se) : Se := ⟨S.rows, ⟨!S.use.t, S.use.row, S.use.names⟩⟩
theorem SeD.turn (h : SeD S) : SeD (turnS S) := ⟨h.rows, h.each, h.lo, h.hi, h.use, ⟨h.small.ne, h.small.len, h.small.lt, h.small.row⟩⟩
theorem la5_run (h : SeD S) {tu ro us : Sl} (h1 : Shn tu) : la5 (lC s lap (.sh (encS S)) tu tn ro us va pl) = .ok .nx (lC s lap (.sh (encS S)) (.sh (encS (turnS S))) tn ro us va pl) := by
  have e := turned_good h.good
  have e : g_turned_sentence [encS S] = .ok (.sh (encS (turnS S))) := e
  generalize encS (turnS S) = T at e ⊢
  generalize encS S = E at e ⊢
  rcases h1 with rfl | ⟨d, rfl⟩ <;> simp [la5, e]
theorem like_S (h : SeD S) : g__law_like [encS S, encS S] [] s0 = .ok (.sh (.bool true)) [] s0 := run_like (gd_S h.each (by have := h.hi; omega) h.small) (by omega) (by omega) rfl
theorem la6_run (h : SeD S) {se : Sl} : la6 (lC s lap se (.sh (encS (turnS S))) tn (.sh (.tuple (S.rows.map encR))) (.sh (encU S.use)) va pl) = .ok .nx (lC s lap se (.sh (encS (turnS S))) tn (.sh (.tuple (S.rows.map encR))) (.sh (encU S.use)) va pl) := by
  have lk := like_S h.turn
  simp only [encS, turnS, encU] at lk ⊢
  generalize S.rows.map encR = R at lk ⊢
  simp [la6, lk]
theorem la7_run (h : SeD S) {ro us : Sl} : la7 (lC s lap (.sh (encS S)) (.sh (encS (turnS S))) tn ro us va pl) = .ok .nx (lC s lap (.sh (encS S)) (.sh (encS (turnS S))) tn ro us va pl) := by
  have e := turned_good h.turn.good
  have t : (⟨(turnS S).rows, ⟨!(turnS S).use.t, (turnS S).use.row, (turnS S).use.names⟩⟩ : Se) = S := by
    show (⟨S.rows, ⟨!(!S.use.t), S.use.row, S.use.names⟩⟩ : Se) = S
    rw [Bool.not_not]
  rw [t] at e
  have lk := like_S h
  generalize encS (turnS S) = T at e ⊢
  generalize encS S = E at e lk ⊢
  simp [la7, e, lk]
theorem wo_bad : wordOk "bad" = true := by decide +kernel
theorem lb_run (h : SeD S) (hs : St s a) (ha : a ≤ 20000) {tu ro us : Sl} (h1 : Shn va) (h2 : Shn pl) : ∃ (V p : Dat) (s' : DS), St s' (a + 30) ∧ seq lb0 lb1 (lC s lap (.sh (encS S)) tu tn ro us va pl) = .ok .nx (lC s' lap (.sh (encS S)) tu tn ro us (.sh V) (.sh p)) := by
  obtain ⟨V, p, s', e1, n, g, h'⟩ := run_spoilt h hs ha
  have hd := heard_bad n
  have lk := run_like (gd_tup (gd_cons (gd_str "bad" 2 wo_bad) (gd_cons g gd_z (Nat.le_refl _)) (Nat.le_refl _)) (m := 3) (v := 60) (by omega) (by omega)) (by omega) (by omega) rfl
  refine ⟨V, p, s', h', ?_⟩
  generalize encS S = E at e1 ⊢
  refine sq (c' := lC s' lap (.sh E) tu tn ro us (.sh V) (.sh p)) ?_ ?_
  · rcases h1 with rfl | ⟨d, rfl⟩ <;> rcases h2 with rfl | ⟨e, rfl⟩ <;> simp [lb0, e1]
  · simp [lb1, hd, lk]
end
theorem it_3 : itR [.int 3] = ret (numL 0 3) := itR_n (n := 3) (by omega)
theorem it_4 : itR [.int 4] = ret (numL 0 4) := itR_n (n := 4) (by omega)
def J8 (S : Se) (lap tu ro us : Sl) (a j : Nat) (c : Cfg) : Prop := ∃ (s : DS) (tn va pl : Sl), c = lC s lap (.sh (encS S)) tu tn ro us va pl ∧ Shn tn ∧ Shn va ∧ Shn pl ∧ St s (a + 30 * j)
theorem loop_eq {n : Dat} {b : Dat → Cfg → Option Cfg} {m : M Ctl} {items : List Dat} {c c' : Cfg} (it : itR [n] = ret items) (e : forL b m items c = .ok .nx c') : M.bind (M.bind (aCons (ret n) aNil) itR) (fun items => forL b m items) c = .ok .nx c' := by
  simp [it]
  exact e
theorem la8_run {S : Se} (h : SeD S) {s : DS} {a : Nat} (hs : St s a) (ha : a ≤ 10000) {lap tu tn ro us va pl : Sl} (h0 : Shn tn) (h1 : Shn va) (h2 : Shn pl) : ∃ c', la8 (lC s lap (.sh (encS S)) tu tn ro us va pl) = .ok .nx c' ∧ J8 S lap tu ro us a 3 c' := by
  obtain ⟨c', e, i⟩ := for_inv (I := fun j c => J8 S lap tu ro us a j c) (b := put 5) (m := seq lb0 lb1) 3 (numL 0 3) 0 (lC s lap (.sh (encS S)) tu tn ro us va pl) (fun d hd j c hj ⟨s, tn, va, pl, e, q0, q1, q2, q3⟩ => by
    subst e
    obtain ⟨V, p, s', h', run⟩ := lb_run (lap := lap) (tn := .sh d) (tu := tu) (ro := ro) (us := us) h q3 (by omega) q1 q2
    refine ⟨lC s lap (.sh (encS S)) tu (.sh d) ro us va pl, _, ?_, run, s', .sh d, .sh V, .sh p, rfl, .inr ⟨_, rfl⟩, .inr ⟨_, rfl⟩, .inr ⟨_, rfl⟩, h'.mono (by omega)⟩
    rcases q0 with rfl | ⟨x, rfl⟩ <;> rfl) (by rw [numL_len]; omega) ⟨s, tn, va, pl, rfl, h0, h1, h2, hs⟩
  rw [numL_len, Nat.zero_add] at i
  rw [la8_eq]
  exact ⟨c', loop_eq it_3 e, i⟩
def J0 (j : Nat) (c : Cfg) : Prop := ∃ (s : DS) (lap se tu tn ro us va pl : Sl), c = lC s lap se tu tn ro us va pl ∧ Shn lap ∧ Shn se ∧ Shn tu ∧ Shn tn ∧ Shn ro ∧ Shn us ∧ Shn va ∧ Shn pl ∧ St s (400 * j)
theorem la_one {j : Nat} {c : Cfg} (hj : j ≤ 4) (d : Dat) (h : J0 j c) : ∃ c1 c2, put 2 d c = some c1 ∧ laB c1 = .ok .nx c2 ∧ J0 (j + 1) c2 := by
  obtain ⟨s, lap, se, tu, tn, ro, us, va, pl, rfl, q1, q2, q3, q4, q5, q6, q7, q8, hs⟩ := h
  obtain ⟨S, s1, hS, h1, e0⟩ := la0_run (lap := .sh d) (tn := tn) (va := va) (pl := pl) (tu := tu) (ro := ro) (us := us) hs (by omega) q2
  obtain ⟨c', e8, s2, tn', va', pl', rfl, r1, r2, r3, h2⟩ := la8_run hS (lap := .sh d) (tu := .sh (encS (turnS S))) (ro := .sh (.tuple (S.rows.map encR))) (us := .sh (encU S.use)) h1 (by omega) q4 q7 q8
  refine ⟨lC s (.sh d) se tu tn ro us va pl, _, ?_, sq e0 (sq (la1_run hS) (sq (la2_run q5 q6) (sq (la3_run hS) (sq (la4_run hS) (sq (la5_run hS q3) (sq (la6_run hS) (sq (la7_run hS) e8))))))), s2, .sh d, _, _, tn', _, _, va', pl', rfl, .inr ⟨_, rfl⟩, .inr ⟨_, rfl⟩, .inr ⟨_, rfl⟩, r1, .inr ⟨_, rfl⟩, .inr ⟨_, rfl⟩, r2, r3, h2.mono (by omega)⟩
  rcases q1 with rfl | ⟨x, rfl⟩ <;> rfl
theorem laZ_run {G : GF} {s : DS} {lap se tu tn ro us va pl : Sl} (b : G [] [] s = .ok (.sh (.bool true)) [] s) : retS (callSM 0 G (stArg 1 (aNil))) (lC s lap se tu tn ro us va pl) = .ok (.rt (.sh (.bool true))) (lC s lap se tu tn ro us va pl) := by
  simp [b]
theorem law_good (ns : List Int) : LawGood ns := by
  obtain ⟨c', e, s, lap, se, tu, tn, ro, us, va, pl, rfl, _⟩ := for_inv (I := J0) (b := put 2) (m := laB) 4 (numL 0 4) 0 ⟨lawR, ⟨cellsOf ns, leftsOf ns, 0⟩⟩ (fun d hd j c hj h => la_one (by omega) d h) (by rw [numL_len]; omega) ⟨_, .no, .no, .no, .no, .no, .no, .no, .no, rfl, .inl rfl, .inl rfl, .inl rfl, .inl rfl, .inl rfl, .inl rfl, .inl rfl, .inl rfl, st_begin ns⟩
  refine ⟨lC s lap se tu tn ro us va pl, ?_⟩
  have e1 : laF ⟨lawR, ⟨cellsOf ns, leftsOf ns, 0⟩⟩ = .ok .nx (lC s lap se tu tn ro us va pl) := by
    unfold laF
    exact loop_eq it_4 e
  rw [la_eq]
  refine sq e1 ?_
  exact laZ_run (run_bounds s)
end Pn

set_option maxHeartbeats 4000003
namespace Pn
open L2 PyProof.Rows PySem.Spec PySem
/-! ### each def where it stands -/
structure DefF (K : PySem.W.Frag) (mg : Str → Option Value) (x : Str) (st : Stmt) (ps : List Str) : Prop where
  ex : ∃ (f : Addr) (fd : FuncData), Fun K x x st f fd ∧ At K mg x f fd ps
section
variable {K : PySem.W.Frag} {h : Heap} {mg : Str → Option Value} (X : K.In h) (G : h.Ns mainGlobals mg)
include X G

theorem df_is_integer {f : Addr} {oc : Value} {od an : Option Addr} {osl : Array (Option Value)} {kV doc pm cdv ct : Value} (a : PySem.W.nsIn K mainGlobals "is_integer" = some (some (.ref f))) (l : K.lookup f = some ⟨oc, od, .func (PySem.W.fnOf "is_integer" "is_integer" (defArgs (top 5)) (defBody (top 5)) (defScope (top 5)) .none kV doc pm an cdv ct), osl⟩) (c : PySem.W.codeIn K cdv "is_integer" = true) (k : PySem.W.keepIn K (.ref f) = true) : DefF K mg "is_integer" (top 5) ["value"] :=
  ⟨f, _, fun_mk l c k, PySem.W.mg_of X G a, k, (fun_mk l c k).binds fun _ _ _ _ _ _ us hl => match us, hl with
    | [_], _ => rfl⟩
theorem df_is_from_zero {f : Addr} {oc : Value} {od an : Option Addr} {osl : Array (Option Value)} {kV doc pm cdv ct : Value} (a : PySem.W.nsIn K mainGlobals "is_from_zero" = some (some (.ref f))) (l : K.lookup f = some ⟨oc, od, .func (PySem.W.fnOf "is_from_zero" "is_from_zero" (defArgs (top 6)) (defBody (top 6)) (defScope (top 6)) .none kV doc pm an cdv ct), osl⟩) (c : PySem.W.codeIn K cdv "is_from_zero" = true) (k : PySem.W.keepIn K (.ref f) = true) : DefF K mg "is_from_zero" (top 6) ["value"] :=
  ⟨f, _, fun_mk l c k, PySem.W.mg_of X G a, k, (fun_mk l c k).binds fun _ _ _ _ _ _ us hl => match us, hl with
    | [_], _ => rfl⟩
theorem df_is_below {f : Addr} {oc : Value} {od an : Option Addr} {osl : Array (Option Value)} {kV doc pm cdv ct : Value} (a : PySem.W.nsIn K mainGlobals "is_below" = some (some (.ref f))) (l : K.lookup f = some ⟨oc, od, .func (PySem.W.fnOf "is_below" "is_below" (defArgs (top 7)) (defBody (top 7)) (defScope (top 7)) .none kV doc pm an cdv ct), osl⟩) (c : PySem.W.codeIn K cdv "is_below" = true) (k : PySem.W.keepIn K (.ref f) = true) : DefF K mg "is_below" (top 7) ["value", "end"] :=
  ⟨f, _, fun_mk l c k, PySem.W.mg_of X G a, k, (fun_mk l c k).binds fun _ _ _ _ _ _ us hl => match us, hl with
    | [_, _], _ => rfl⟩
theorem df_is_row_of {f : Addr} {oc : Value} {od an : Option Addr} {osl : Array (Option Value)} {kV doc pm cdv ct : Value} (a : PySem.W.nsIn K mainGlobals "is_row_of" = some (some (.ref f))) (l : K.lookup f = some ⟨oc, od, .func (PySem.W.fnOf "is_row_of" "is_row_of" (defArgs (top 8)) (defBody (top 8)) (defScope (top 8)) .none kV doc pm an cdv ct), osl⟩) (c : PySem.W.codeIn K cdv "is_row_of" = true) (k : PySem.W.keepIn K (.ref f) = true) : DefF K mg "is_row_of" (top 8) ["value", "many"] :=
  ⟨f, _, fun_mk l c k, PySem.W.mg_of X G a, k, (fun_mk l c k).binds fun _ _ _ _ _ _ us hl => match us, hl with
    | [_, _], _ => rfl⟩
theorem df_are_below {f : Addr} {oc : Value} {od an : Option Addr} {osl : Array (Option Value)} {kV doc pm cdv ct : Value} (a : PySem.W.nsIn K mainGlobals "are_below" = some (some (.ref f))) (l : K.lookup f = some ⟨oc, od, .func (PySem.W.fnOf "are_below" "are_below" (defArgs (top 13)) (defBody (top 13)) (defScope (top 13)) .none kV doc pm an cdv ct), osl⟩) (c : PySem.W.codeIn K cdv "are_below" = true) (k : PySem.W.keepIn K (.ref f) = true) : DefF K mg "are_below" (top 13) ["values", "end"] :=
  ⟨f, _, fun_mk l c k, PySem.W.mg_of X G a, k, (fun_mk l c k).binds fun _ _ _ _ _ _ us hl => match us, hl with
    | [_, _], _ => rfl⟩
theorem df_is_use {f : Addr} {oc : Value} {od an : Option Addr} {osl : Array (Option Value)} {kV doc pm cdv ct : Value} (a : PySem.W.nsIn K mainGlobals "is_use" = some (some (.ref f))) (l : K.lookup f = some ⟨oc, od, .func (PySem.W.fnOf "is_use" "is_use" (defArgs (top 17)) (defBody (top 17)) (defScope (top 17)) .none kV doc pm an cdv ct), osl⟩) (c : PySem.W.codeIn K cdv "is_use" = true) (k : PySem.W.keepIn K (.ref f) = true) : DefF K mg "is_use" (top 17) ["value", "end", "manys"] :=
  ⟨f, _, fun_mk l c k, PySem.W.mg_of X G a, k, (fun_mk l c k).binds fun _ _ _ _ _ _ us hl => match us, hl with
    | [_, _, _], _ => rfl⟩
theorem df_are_uses {f : Addr} {oc : Value} {od an : Option Addr} {osl : Array (Option Value)} {kV doc pm cdv ct : Value} (a : PySem.W.nsIn K mainGlobals "are_uses" = some (some (.ref f))) (l : K.lookup f = some ⟨oc, od, .func (PySem.W.fnOf "are_uses" "are_uses" (defArgs (top 14)) (defBody (top 14)) (defScope (top 14)) .none kV doc pm an cdv ct), osl⟩) (c : PySem.W.codeIn K cdv "are_uses" = true) (k : PySem.W.keepIn K (.ref f) = true) : DefF K mg "are_uses" (top 14) ["value", "end", "manys"] :=
  ⟨f, _, fun_mk l c k, PySem.W.mg_of X G a, k, (fun_mk l c k).binds fun _ _ _ _ _ _ us hl => match us, hl with
    | [_, _, _], _ => rfl⟩
theorem df_is_case {f : Addr} {oc : Value} {od an : Option Addr} {osl : Array (Option Value)} {kV doc pm cdv ct : Value} (a : PySem.W.nsIn K mainGlobals "is_case" = some (some (.ref f))) (l : K.lookup f = some ⟨oc, od, .func (PySem.W.fnOf "is_case" "is_case" (defArgs (top 16)) (defBody (top 16)) (defScope (top 16)) .none kV doc pm an cdv ct), osl⟩) (c : PySem.W.codeIn K cdv "is_case" = true) (k : PySem.W.keepIn K (.ref f) = true) : DefF K mg "is_case" (top 16) ["value", "many", "manys"] :=
  ⟨f, _, fun_mk l c k, PySem.W.mg_of X G a, k, (fun_mk l c k).binds fun _ _ _ _ _ _ us hl => match us, hl with
    | [_, _, _], _ => rfl⟩
theorem df_are_cases {f : Addr} {oc : Value} {od an : Option Addr} {osl : Array (Option Value)} {kV doc pm cdv ct : Value} (a : PySem.W.nsIn K mainGlobals "are_cases" = some (some (.ref f))) (l : K.lookup f = some ⟨oc, od, .func (PySem.W.fnOf "are_cases" "are_cases" (defArgs (top 15)) (defBody (top 15)) (defScope (top 15)) .none kV doc pm an cdv ct), osl⟩) (c : PySem.W.codeIn K cdv "are_cases" = true) (k : PySem.W.keepIn K (.ref f) = true) : DefF K mg "are_cases" (top 15) ["value", "many", "manys"] :=
  ⟨f, _, fun_mk l c k, PySem.W.mg_of X G a, k, (fun_mk l c k).binds fun _ _ _ _ _ _ us hl => match us, hl with
    | [_, _, _], _ => rfl⟩
theorem df_is_sentence_row {f : Addr} {oc : Value} {od an : Option Addr} {osl : Array (Option Value)} {kV doc pm cdv ct : Value} (a : PySem.W.nsIn K mainGlobals "is_sentence_row" = some (some (.ref f))) (l : K.lookup f = some ⟨oc, od, .func (PySem.W.fnOf "is_sentence_row" "is_sentence_row" (defArgs (top 12)) (defBody (top 12)) (defScope (top 12)) .none kV doc pm an cdv ct), osl⟩) (c : PySem.W.codeIn K cdv "is_sentence_row" = true) (k : PySem.W.keepIn K (.ref f) = true) : DefF K mg "is_sentence_row" (top 12) ["value", "manys"] :=
  ⟨f, _, fun_mk l c k, PySem.W.mg_of X G a, k, (fun_mk l c k).binds fun _ _ _ _ _ _ us hl => match us, hl with
    | [_, _], _ => rfl⟩
theorem df_cases_in {f : Addr} {oc : Value} {od an : Option Addr} {osl : Array (Option Value)} {kV doc pm cdv ct : Value} (a : PySem.W.nsIn K mainGlobals "cases_in" = some (some (.ref f))) (l : K.lookup f = some ⟨oc, od, .func (PySem.W.fnOf "cases_in" "cases_in" (defArgs (top 18)) (defBody (top 18)) (defScope (top 18)) .none kV doc pm an cdv ct), osl⟩) (c : PySem.W.codeIn K cdv "cases_in" = true) (k : PySem.W.keepIn K (.ref f) = true) : DefF K mg "cases_in" (top 18) ["action"] :=
  ⟨f, _, fun_mk l c k, PySem.W.mg_of X G a, k, (fun_mk l c k).binds fun _ _ _ _ _ _ us hl => match us, hl with
    | [_], _ => rfl⟩
theorem df_need_sentence {f : Addr} {oc : Value} {od an : Option Addr} {osl : Array (Option Value)} {kV doc pm cdv ct : Value} (a : PySem.W.nsIn K mainGlobals "need_sentence" = some (some (.ref f))) (l : K.lookup f = some ⟨oc, od, .func (PySem.W.fnOf "need_sentence" "need_sentence" (defArgs (top 21)) (defBody (top 21)) (defScope (top 21)) .none kV doc pm an cdv ct), osl⟩) (c : PySem.W.codeIn K cdv "need_sentence" = true) (k : PySem.W.keepIn K (.ref f) = true) : DefF K mg "need_sentence" (top 21) ["value"] :=
  ⟨f, _, fun_mk l c k, PySem.W.mg_of X G a, k, (fun_mk l c k).binds fun _ _ _ _ _ _ us hl => match us, hl with
    | [_], _ => rfl⟩
theorem df_depth_of {f : Addr} {oc : Value} {od an : Option Addr} {osl : Array (Option Value)} {kV doc pm cdv ct : Value} (a : PySem.W.nsIn K mainGlobals "depth_of" = some (some (.ref f))) (l : K.lookup f = some ⟨oc, od, .func (PySem.W.fnOf "depth_of" "depth_of" (defArgs (top 22)) (defBody (top 22)) (defScope (top 22)) .none kV doc pm an cdv ct), osl⟩) (c : PySem.W.codeIn K cdv "depth_of" = true) (k : PySem.W.keepIn K (.ref f) = true) : DefF K mg "depth_of" (top 22) ["sentence"] :=
  ⟨f, _, fun_mk l c k, PySem.W.mg_of X G a, k, (fun_mk l c k).binds fun _ _ _ _ _ _ us hl => match us, hl with
    | [_], _ => rfl⟩
theorem df_is_early {f : Addr} {oc : Value} {od an : Option Addr} {osl : Array (Option Value)} {kV doc pm cdv ct : Value} (a : PySem.W.nsIn K mainGlobals "is_early" = some (some (.ref f))) (l : K.lookup f = some ⟨oc, od, .func (PySem.W.fnOf "is_early" "is_early" (defArgs (top 23)) (defBody (top 23)) (defScope (top 23)) .none kV doc pm an cdv ct), osl⟩) (c : PySem.W.codeIn K cdv "is_early" = true) (k : PySem.W.keepIn K (.ref f) = true) : DefF K mg "is_early" (top 23) ["sentence"] :=
  ⟨f, _, fun_mk l c k, PySem.W.mg_of X G a, k, (fun_mk l c k).binds fun _ _ _ _ _ _ us hl => match us, hl with
    | [_], _ => rfl⟩
theorem df_turned_sentence {f : Addr} {oc : Value} {od an : Option Addr} {osl : Array (Option Value)} {kV doc pm cdv ct : Value} (a : PySem.W.nsIn K mainGlobals "turned_sentence" = some (some (.ref f))) (l : K.lookup f = some ⟨oc, od, .func (PySem.W.fnOf "turned_sentence" "turned_sentence" (defArgs (top 24)) (defBody (top 24)) (defScope (top 24)) .none kV doc pm an cdv ct), osl⟩) (c : PySem.W.codeIn K cdv "turned_sentence" = true) (k : PySem.W.keepIn K (.ref f) = true) : DefF K mg "turned_sentence" (top 24) ["sentence"] :=
  ⟨f, _, fun_mk l c k, PySem.W.mg_of X G a, k, (fun_mk l c k).binds fun _ _ _ _ _ _ us hl => match us, hl with
    | [_], _ => rfl⟩
theorem df__law_mixed {f : Addr} {oc : Value} {od an : Option Addr} {osl : Array (Option Value)} {kV doc pm cdv ct : Value} (a : PySem.W.nsIn K mainGlobals "_law_mixed" = some (some (.ref f))) (l : K.lookup f = some ⟨oc, od, .func (PySem.W.fnOf "_law_mixed" "_law_mixed" (defArgs (top 26)) (defBody (top 26)) (defScope (top 26)) .none kV doc pm an cdv ct), osl⟩) (c : PySem.W.codeIn K cdv "_law_mixed" = true) (k : PySem.W.keepIn K (.ref f) = true) : DefF K mg "_law_mixed" (top 26) ["cell", "k"] :=
  ⟨f, _, fun_mk l c k, PySem.W.mg_of X G a, k, (fun_mk l c k).binds fun _ _ _ _ _ _ us hl => match us, hl with
    | [_, _], _ => rfl⟩
theorem df__law_draw {f : Addr} {oc : Value} {od an : Option Addr} {osl : Array (Option Value)} {kV doc pm cdv ct : Value} (a : PySem.W.nsIn K mainGlobals "_law_draw" = some (some (.ref f))) (l : K.lookup f = some ⟨oc, od, .func (PySem.W.fnOf "_law_draw" "_law_draw" (defArgs (top 28)) (defBody (top 28)) (defScope (top 28)) .none kV doc pm an cdv ct), osl⟩) (c : PySem.W.codeIn K cdv "_law_draw" = true) (k : PySem.W.keepIn K (.ref f) = true) : DefF K mg "_law_draw" (top 28) ["state", "limit"] :=
  ⟨f, _, fun_mk l c k, PySem.W.mg_of X G a, k, (fun_mk l c k).binds fun _ _ _ _ _ _ us hl => match us, hl with
    | [_, _], _ => rfl⟩
theorem df__law_of {f : Addr} {oc : Value} {od an : Option Addr} {osl : Array (Option Value)} {kV doc pm cdv ct : Value} (a : PySem.W.nsIn K mainGlobals "_law_of" = some (some (.ref f))) (l : K.lookup f = some ⟨oc, od, .func (PySem.W.fnOf "_law_of" "_law_of" (defArgs (top 29)) (defBody (top 29)) (defScope (top 29)) .none kV doc pm an cdv ct), osl⟩) (c : PySem.W.codeIn K cdv "_law_of" = true) (k : PySem.W.keepIn K (.ref f) = true) : DefF K mg "_law_of" (top 29) ["state", "some"] :=
  ⟨f, _, fun_mk l c k, PySem.W.mg_of X G a, k, (fun_mk l c k).binds fun _ _ _ _ _ _ us hl => match us, hl with
    | [_, _], _ => rfl⟩
theorem df__law_use {f : Addr} {oc : Value} {od an : Option Addr} {osl : Array (Option Value)} {kV doc pm cdv ct : Value} (a : PySem.W.nsIn K mainGlobals "_law_use" = some (some (.ref f))) (l : K.lookup f = some ⟨oc, od, .func (PySem.W.fnOf "_law_use" "_law_use" (defArgs (top 30)) (defBody (top 30)) (defScope (top 30)) .none kV doc pm an cdv ct), osl⟩) (c : PySem.W.codeIn K cdv "_law_use" = true) (k : PySem.W.keepIn K (.ref f) = true) : DefF K mg "_law_use" (top 30) ["state", "rows", "names"] :=
  ⟨f, _, fun_mk l c k, PySem.W.mg_of X G a, k, (fun_mk l c k).binds fun _ _ _ _ _ _ us hl => match us, hl with
    | [_, _, _], _ => rfl⟩
theorem df__law_row {f : Addr} {oc : Value} {od an : Option Addr} {osl : Array (Option Value)} {kV doc pm cdv ct : Value} (a : PySem.W.nsIn K mainGlobals "_law_row" = some (some (.ref f))) (l : K.lookup f = some ⟨oc, od, .func (PySem.W.fnOf "_law_row" "_law_row" (defArgs (top 31)) (defBody (top 31)) (defScope (top 31)) .none kV doc pm an cdv ct), osl⟩) (c : PySem.W.codeIn K cdv "_law_row" = true) (k : PySem.W.keepIn K (.ref f) = true) : DefF K mg "_law_row" (top 31) ["state", "rows", "deep", "early"] :=
  ⟨f, _, fun_mk l c k, PySem.W.mg_of X G a, k, (fun_mk l c k).binds fun _ _ _ _ _ _ us hl => match us, hl with
    | [_, _, _, _], _ => rfl⟩
theorem df__law_lifted {f : Addr} {oc : Value} {od an : Option Addr} {osl : Array (Option Value)} {kV doc pm cdv ct : Value} (a : PySem.W.nsIn K mainGlobals "_law_lifted" = some (some (.ref f))) (l : K.lookup f = some ⟨oc, od, .func (PySem.W.fnOf "_law_lifted" "_law_lifted" (defArgs (top 32)) (defBody (top 32)) (defScope (top 32)) .none kV doc pm an cdv ct), osl⟩) (c : PySem.W.codeIn K cdv "_law_lifted" = true) (k : PySem.W.keepIn K (.ref f) = true) : DefF K mg "_law_lifted" (top 32) ["row", "top"] :=
  ⟨f, _, fun_mk l c k, PySem.W.mg_of X G a, k, (fun_mk l c k).binds fun _ _ _ _ _ _ us hl => match us, hl with
    | [_, _], _ => rfl⟩
theorem df__law_sentence {f : Addr} {oc : Value} {od an : Option Addr} {osl : Array (Option Value)} {kV doc pm cdv ct : Value} (a : PySem.W.nsIn K mainGlobals "_law_sentence" = some (some (.ref f))) (l : K.lookup f = some ⟨oc, od, .func (PySem.W.fnOf "_law_sentence" "_law_sentence" (defArgs (top 33)) (defBody (top 33)) (defScope (top 33)) .none kV doc pm an cdv ct), osl⟩) (c : PySem.W.codeIn K cdv "_law_sentence" = true) (k : PySem.W.keepIn K (.ref f) = true) : DefF K mg "_law_sentence" (top 33) ["state", "deep", "early", "limit"] :=
  ⟨f, _, fun_mk l c k, PySem.W.mg_of X G a, k, (fun_mk l c k).binds fun _ _ _ _ _ _ us hl => match us, hl with
    | [_, _, _, _], _ => rfl⟩
theorem df__law_deep {f : Addr} {oc : Value} {od an : Option Addr} {osl : Array (Option Value)} {kV doc pm cdv ct : Value} (a : PySem.W.nsIn K mainGlobals "_law_deep" = some (some (.ref f))) (l : K.lookup f = some ⟨oc, od, .func (PySem.W.fnOf "_law_deep" "_law_deep" (defArgs (top 34)) (defBody (top 34)) (defScope (top 34)) .none kV doc pm an cdv ct), osl⟩) (c : PySem.W.codeIn K cdv "_law_deep" = true) (k : PySem.W.keepIn K (.ref f) = true) : DefF K mg "_law_deep" (top 34) ["rows", "number"] :=
  ⟨f, _, fun_mk l c k, PySem.W.mg_of X G a, k, (fun_mk l c k).binds fun _ _ _ _ _ _ us hl => match us, hl with
    | [_, _], _ => rfl⟩
theorem df__law_same_cases {f : Addr} {oc : Value} {od an : Option Addr} {osl : Array (Option Value)} {kV doc pm cdv ct : Value} (a : PySem.W.nsIn K mainGlobals "_law_same_cases" = some (some (.ref f))) (l : K.lookup f = some ⟨oc, od, .func (PySem.W.fnOf "_law_same_cases" "_law_same_cases" (defArgs (top 37)) (defBody (top 37)) (defScope (top 37)) .none kV doc pm an cdv ct), osl⟩) (c : PySem.W.codeIn K cdv "_law_same_cases" = true) (k : PySem.W.keepIn K (.ref f) = true) : DefF K mg "_law_same_cases" (top 37) ["rows"] :=
  ⟨f, _, fun_mk l c k, PySem.W.mg_of X G a, k, (fun_mk l c k).binds fun _ _ _ _ _ _ us hl => match us, hl with
    | [_], _ => rfl⟩
theorem df__law_odd_use {f : Addr} {oc : Value} {od an : Option Addr} {osl : Array (Option Value)} {kV doc pm cdv ct : Value} (a : PySem.W.nsIn K mainGlobals "_law_odd_use" = some (some (.ref f))) (l : K.lookup f = some ⟨oc, od, .func (PySem.W.fnOf "_law_odd_use" "_law_odd_use" (defArgs (top 38)) (defBody (top 38)) (defScope (top 38)) .none kV doc pm an cdv ct), osl⟩) (c : PySem.W.codeIn K cdv "_law_odd_use" = true) (k : PySem.W.keepIn K (.ref f) = true) : DefF K mg "_law_odd_use" (top 38) ["state", "number", "use", "names"] :=
  ⟨f, _, fun_mk l c k, PySem.W.mg_of X G a, k, (fun_mk l c k).binds fun _ _ _ _ _ _ us hl => match us, hl with
    | [_, _, _, _], _ => rfl⟩
theorem df__law_odd_row {f : Addr} {oc : Value} {od an : Option Addr} {osl : Array (Option Value)} {kV doc pm cdv ct : Value} (a : PySem.W.nsIn K mainGlobals "_law_odd_row" = some (some (.ref f))) (l : K.lookup f = some ⟨oc, od, .func (PySem.W.fnOf "_law_odd_row" "_law_odd_row" (defArgs (top 39)) (defBody (top 39)) (defScope (top 39)) .none kV doc pm an cdv ct), osl⟩) (c : PySem.W.codeIn K cdv "_law_odd_row" = true) (k : PySem.W.keepIn K (.ref f) = true) : DefF K mg "_law_odd_row" (top 39) ["state", "number", "row"] :=
  ⟨f, _, fun_mk l c k, PySem.W.mg_of X G a, k, (fun_mk l c k).binds fun _ _ _ _ _ _ us hl => match us, hl with
    | [_, _, _], _ => rfl⟩
theorem df__law_spoilt {f : Addr} {oc : Value} {od an : Option Addr} {osl : Array (Option Value)} {kV doc pm cdv ct : Value} (a : PySem.W.nsIn K mainGlobals "_law_spoilt" = some (some (.ref f))) (l : K.lookup f = some ⟨oc, od, .func (PySem.W.fnOf "_law_spoilt" "_law_spoilt" (defArgs (top 40)) (defBody (top 40)) (defScope (top 40)) .none kV doc pm an cdv ct), osl⟩) (c : PySem.W.codeIn K cdv "_law_spoilt" = true) (k : PySem.W.keepIn K (.ref f) = true) : DefF K mg "_law_spoilt" (top 40) ["state", "sentence"] :=
  ⟨f, _, fun_mk l c k, PySem.W.mg_of X G a, k, (fun_mk l c k).binds fun _ _ _ _ _ _ us hl => match us, hl with
    | [_, _], _ => rfl⟩
theorem df__law_like {f : Addr} {oc : Value} {od an : Option Addr} {osl : Array (Option Value)} {kV doc pm cdv ct : Value} (a : PySem.W.nsIn K mainGlobals "_law_like" = some (some (.ref f))) (l : K.lookup f = some ⟨oc, od, .func (PySem.W.fnOf "_law_like" "_law_like" (defArgs (top 35)) (defBody (top 35)) (defScope (top 35)) .none kV doc pm an cdv ct), osl⟩) (c : PySem.W.codeIn K cdv "_law_like" = true) (k : PySem.W.keepIn K (.ref f) = true) : DefF K mg "_law_like" (top 35) ["got", "due"] :=
  ⟨f, _, fun_mk l c k, PySem.W.mg_of X G a, k, (fun_mk l c k).binds fun _ _ _ _ _ _ us hl => match us, hl with
    | [_, _], _ => rfl⟩
theorem df__law_heard {f : Addr} {oc : Value} {od an : Option Addr} {osl : Array (Option Value)} {kV doc pm cdv ct : Value} (a : PySem.W.nsIn K mainGlobals "_law_heard" = some (some (.ref f))) (l : K.lookup f = some ⟨oc, od, .func (PySem.W.fnOf "_law_heard" "_law_heard" (defArgs (top 36)) (defBody (top 36)) (defScope (top 36)) .none kV doc pm an cdv ct), osl⟩) (c : PySem.W.codeIn K cdv "_law_heard" = true) (k : PySem.W.keepIn K (.ref f) = true) : DefF K mg "_law_heard" (top 36) ["value"] :=
  ⟨f, _, fun_mk l c k, PySem.W.mg_of X G a, k, (fun_mk l c k).binds fun _ _ _ _ _ _ us hl => match us, hl with
    | [_], _ => rfl⟩
theorem df__law_bounds_right {f : Addr} {oc : Value} {od an : Option Addr} {osl : Array (Option Value)} {kV doc pm cdv ct : Value} (a : PySem.W.nsIn K mainGlobals "_law_bounds_right" = some (some (.ref f))) (l : K.lookup f = some ⟨oc, od, .func (PySem.W.fnOf "_law_bounds_right" "_law_bounds_right" (defArgs (top 41)) (defBody (top 41)) (defScope (top 41)) .none kV doc pm an cdv ct), osl⟩) (c : PySem.W.codeIn K cdv "_law_bounds_right" = true) (k : PySem.W.keepIn K (.ref f) = true) : DefF K mg "_law_bounds_right" (top 41) ["state"] :=
  ⟨f, _, fun_mk l c k, PySem.W.mg_of X G a, k, (fun_mk l c k).binds fun _ _ _ _ _ _ us hl => match us, hl with
    | [_], _ => rfl⟩
theorem df__law_begin {f : Addr} {oc : Value} {od an : Option Addr} {osl : Array (Option Value)} {kV doc pm cdv ct : Value} (a : PySem.W.nsIn K mainGlobals "_law_begin" = some (some (.ref f))) (l : K.lookup f = some ⟨oc, od, .func (PySem.W.fnOf "_law_begin" "_law_begin" (defArgs (top 27)) (defBody (top 27)) (defScope (top 27)) .none kV doc pm an cdv ct), osl⟩) (c : PySem.W.codeIn K cdv "_law_begin" = true) (k : PySem.W.keepIn K (.ref f) = true) : DefF K mg "_law_begin" (top 27) ["script"] :=
  ⟨f, _, fun_mk l c k, PySem.W.mg_of X G a, k, (fun_mk l c k).binds fun _ _ _ _ _ _ us hl => match us, hl with
    | [_], _ => rfl⟩
end
structure AllD (K : PySem.W.Frag) (mg : Str → Option Value) : Prop where
  d_is_integer : DefF K mg "is_integer" (top 5) ["value"]
  d_is_from_zero : DefF K mg "is_from_zero" (top 6) ["value"]
  d_is_below : DefF K mg "is_below" (top 7) ["value", "end"]
  d_is_row_of : DefF K mg "is_row_of" (top 8) ["value", "many"]
  d_are_below : DefF K mg "are_below" (top 13) ["values", "end"]
  d_is_use : DefF K mg "is_use" (top 17) ["value", "end", "manys"]
  d_are_uses : DefF K mg "are_uses" (top 14) ["value", "end", "manys"]
  d_is_case : DefF K mg "is_case" (top 16) ["value", "many", "manys"]
  d_are_cases : DefF K mg "are_cases" (top 15) ["value", "many", "manys"]
  d_is_sentence_row : DefF K mg "is_sentence_row" (top 12) ["value", "manys"]
  d_cases_in : DefF K mg "cases_in" (top 18) ["action"]
  d_need_sentence : DefF K mg "need_sentence" (top 21) ["value"]
  d_depth_of : DefF K mg "depth_of" (top 22) ["sentence"]
  d_is_early : DefF K mg "is_early" (top 23) ["sentence"]
  d_turned_sentence : DefF K mg "turned_sentence" (top 24) ["sentence"]
  d__law_mixed : DefF K mg "_law_mixed" (top 26) ["cell", "k"]
  d__law_draw : DefF K mg "_law_draw" (top 28) ["state", "limit"]
  d__law_of : DefF K mg "_law_of" (top 29) ["state", "some"]
  d__law_use : DefF K mg "_law_use" (top 30) ["state", "rows", "names"]
  d__law_row : DefF K mg "_law_row" (top 31) ["state", "rows", "deep", "early"]
  d__law_lifted : DefF K mg "_law_lifted" (top 32) ["row", "top"]
  d__law_sentence : DefF K mg "_law_sentence" (top 33) ["state", "deep", "early", "limit"]
  d__law_deep : DefF K mg "_law_deep" (top 34) ["rows", "number"]
  d__law_same_cases : DefF K mg "_law_same_cases" (top 37) ["rows"]
  d__law_odd_use : DefF K mg "_law_odd_use" (top 38) ["state", "number", "use", "names"]
  d__law_odd_row : DefF K mg "_law_odd_row" (top 39) ["state", "number", "row"]
  d__law_spoilt : DefF K mg "_law_spoilt" (top 40) ["state", "sentence"]
  d__law_like : DefF K mg "_law_like" (top 35) ["got", "due"]
  d__law_heard : DefF K mg "_law_heard" (top 36) ["value"]
  d__law_bounds_right : DefF K mg "_law_bounds_right" (top 41) ["state"]
  d__law_begin : DefF K mg "_law_begin" (top 27) ["script"]
  Z : Glo K mg
  b_repr : mg "repr" = none
theorem At.hasQ {P : Program} {w : World} {K : PySem.W.Frag} {mg : Str → Option Value} {base : Heap} {C : Cls} {us : Bool} {okT : Tbs → Prop} {x : Str} {f : Addr} {fd : FuncData} {ps : List Str} {k n : Nat} {g : GF} (a : At K mg x f fd ps) (F : FnG P w K mg base (L2.CX P w) k f fd ps (spG K C us false okT n g)) : HasQ P w K mg base C us okT x k n g :=
  ⟨f, fd, ps, F, a.m, a.k, a.b⟩
section
variable {P : Program} {w : World} {K : PySem.W.Frag} {mg : Str → Option Value} {base : Heap} {C : Cls}
theorem law_all (A : AllD K mg) {B : Addr} {cE : Nat → Addr} (Ze : Errs K mg C B cE) (hts : Tells K C clauL (tellL cE)) (x_BadSentence : ErrX P w K mg base C 1 "BadSentence") (x_TooGreat : ErrX P w K mg base C 2 "TooGreat")
    {f c : Addr} {oc : Value} {od an : Option Addr} {osl : Array (Option Value)} {kV doc pm ct : Value}
    (lk : K.lookup f = some ⟨oc, od, .func (PySem.W.fnOf "law" "law" (defArgs (top 42)) (defBody (top 42)) (defScope (top 42)) .none kV doc pm an (.ref c) ct), osl⟩) (hcd : PySem.W.codeIn K (.ref c) "law" = true) :
    FnG P w K mg base (L2.CX P w) 133 f (PySem.W.fnOf "law" "law" (defArgs (top 42)) (defBody (top 42)) (defScope (top 42)) .none kV doc pm an (.ref c) ct) ["script"] (spLaw K) := by
  obtain ⟨f_is_integer, fd_is_integer, F_is_integer, A_is_integer⟩ := A.d_is_integer.ex
  have o_is_integer := ok_is_integer (P := P) (w := w) (base := base) (C := C) F_is_integer A.Z
  have h_is_integer : Has P w K mg base C "is_integer" 1 1 g_is_integer := A_is_integer.has rfl o_is_integer
  obtain ⟨f_is_from_zero, fd_is_from_zero, F_is_from_zero, A_is_from_zero⟩ := A.d_is_from_zero.ex
  have o_is_from_zero := ok_is_from_zero (P := P) (w := w) (base := base) (C := C) F_is_from_zero A.Z h_is_integer
  have h_is_from_zero : Has P w K mg base C "is_from_zero" 2 1 g_is_from_zero := A_is_from_zero.has rfl o_is_from_zero
  obtain ⟨f_is_below, fd_is_below, F_is_below, A_is_below⟩ := A.d_is_below.ex
  have o_is_below := ok_is_below (P := P) (w := w) (base := base) (C := C) F_is_below A.Z h_is_from_zero
  have h_is_below : Has P w K mg base C "is_below" 3 2 g_is_below := A_is_below.has rfl o_is_below
  obtain ⟨f_is_row_of, fd_is_row_of, F_is_row_of, A_is_row_of⟩ := A.d_is_row_of.ex
  have o_is_row_of := ok_is_row_of (P := P) (w := w) (base := base) (C := C) F_is_row_of A.Z
  have h_is_row_of : Has P w K mg base C "is_row_of" 1 2 g_is_row_of := A_is_row_of.has rfl o_is_row_of
  obtain ⟨f_are_below, fd_are_below, F_are_below, A_are_below⟩ := A.d_are_below.ex
  have o_are_below := ok_are_below (P := P) (w := w) (base := base) (C := C) F_are_below A.Z h_is_below
  have h_are_below : Has P w K mg base C "are_below" 4 2 g_are_below := A_are_below.has rfl o_are_below
  obtain ⟨f_is_use, fd_is_use, F_is_use, A_is_use⟩ := A.d_is_use.ex
  have o_is_use := ok_is_use (P := P) (w := w) (base := base) (C := C) F_is_use A.Z h_is_row_of h_is_below h_are_below
  have h_is_use : Has P w K mg base C "is_use" 5 3 g_is_use := A_is_use.has rfl o_is_use
  obtain ⟨f_are_uses, fd_are_uses, F_are_uses, A_are_uses⟩ := A.d_are_uses.ex
  have o_are_uses := ok_are_uses (P := P) (w := w) (base := base) (C := C) F_are_uses A.Z h_is_use
  have h_are_uses : Has P w K mg base C "are_uses" 6 3 g_are_uses := A_are_uses.has rfl o_are_uses
  obtain ⟨f_is_case, fd_is_case, F_is_case, A_is_case⟩ := A.d_is_case.ex
  have o_is_case := ok_is_case (P := P) (w := w) (base := base) (C := C) F_is_case A.Z h_is_row_of h_is_use h_is_below
  have h_is_case : Has P w K mg base C "is_case" 6 3 g_is_case := A_is_case.has rfl o_is_case
  obtain ⟨f_are_cases, fd_are_cases, F_are_cases, A_are_cases⟩ := A.d_are_cases.ex
  have o_are_cases := ok_are_cases (P := P) (w := w) (base := base) (C := C) F_are_cases A.Z h_is_case
  have h_are_cases : Has P w K mg base C "are_cases" 7 3 g_are_cases := A_are_cases.has rfl o_are_cases
  obtain ⟨f_is_sentence_row, fd_is_sentence_row, F_is_sentence_row, A_is_sentence_row⟩ := A.d_is_sentence_row.ex
  have o_is_sentence_row := ok_is_sentence_row (P := P) (w := w) (base := base) (C := C) F_is_sentence_row A.Z h_is_row_of h_is_below h_are_uses h_are_below h_are_cases
  have h_is_sentence_row : Has P w K mg base C "is_sentence_row" 8 2 g_is_sentence_row := A_is_sentence_row.has rfl o_is_sentence_row
  obtain ⟨f_cases_in, fd_cases_in, F_cases_in, A_cases_in⟩ := A.d_cases_in.ex
  have o_cases_in := ok_cases_in (P := P) (w := w) (base := base) (C := C) F_cases_in A.Z
  have h_cases_in : Has P w K mg base C "cases_in" 1 1 g_cases_in := A_cases_in.has rfl o_cases_in
  obtain ⟨f_need_sentence, fd_need_sentence, F_need_sentence, A_need_sentence⟩ := A.d_need_sentence.ex
  have o_need_sentence := ok_need_sentence (P := P) (w := w) (base := base) (C := C) F_need_sentence A.Z h_is_row_of h_is_sentence_row h_is_use x_BadSentence x_TooGreat
  have h_need_sentence : Has P w K mg base C "need_sentence" 9 1 g_need_sentence := A_need_sentence.has rfl o_need_sentence
  obtain ⟨f_depth_of, fd_depth_of, F_depth_of, A_depth_of⟩ := A.d_depth_of.ex
  have o_depth_of := ok_depth_of (P := P) (w := w) (base := base) (C := C) F_depth_of A.Z h_need_sentence h_cases_in
  have h_depth_of : Has P w K mg base C "depth_of" 10 1 g_depth_of := A_depth_of.has rfl o_depth_of
  obtain ⟨f_is_early, fd_is_early, F_is_early, A_is_early⟩ := A.d_is_early.ex
  have o_is_early := ok_is_early (P := P) (w := w) (base := base) (C := C) F_is_early A.Z h_need_sentence h_cases_in
  have h_is_early : Has P w K mg base C "is_early" 10 1 g_is_early := A_is_early.has rfl o_is_early
  obtain ⟨f_turned_sentence, fd_turned_sentence, F_turned_sentence, A_turned_sentence⟩ := A.d_turned_sentence.ex
  have o_turned_sentence := ok_turned_sentence (P := P) (w := w) (base := base) (C := C) F_turned_sentence A.Z h_need_sentence
  have h_turned_sentence : Has P w K mg base C "turned_sentence" 10 1 g_turned_sentence := A_turned_sentence.has rfl o_turned_sentence
  obtain ⟨f__law_mixed, fd__law_mixed, F__law_mixed, A__law_mixed⟩ := A.d__law_mixed.ex
  have o__law_mixed := ok__law_mixed (P := P) (w := w) (base := base) (C := C) F__law_mixed A.Z
  have h__law_mixed : Has P w K mg base C "_law_mixed" 1 2 g__law_mixed := A__law_mixed.has rfl o__law_mixed
  obtain ⟨f__law_draw, fd__law_draw, F__law_draw, A__law_draw⟩ := A.d__law_draw.ex
  have h__law_draw : HasG P w K mg base C true false "_law_draw" 2 1 g__law_draw := A__law_draw.hasG (ok__law_draw F__law_draw A.Z h__law_mixed)
  obtain ⟨f__law_of, fd__law_of, F__law_of, A__law_of⟩ := A.d__law_of.ex
  have h__law_of : HasG P w K mg base C true false "_law_of" 3 1 g__law_of := A__law_of.hasG (ok__law_of F__law_of A.Z h__law_draw)
  obtain ⟨f__law_use, fd__law_use, F__law_use, A__law_use⟩ := A.d__law_use.ex
  have h__law_use : HasG P w K mg base C true false "_law_use" 4 2 g__law_use := A__law_use.hasG (ok__law_use F__law_use A.Z h__law_draw h__law_of)
  obtain ⟨f__law_row, fd__law_row, F__law_row, A__law_row⟩ := A.d__law_row.ex
  have h__law_row : HasG P w K mg base C true false "_law_row" 5 3 g__law_row := A__law_row.hasG (ok__law_row F__law_row A.Z h__law_draw h__law_of h__law_use)
  obtain ⟨f__law_lifted, fd__law_lifted, F__law_lifted, A__law_lifted⟩ := A.d__law_lifted.ex
  have o__law_lifted := ok__law_lifted (P := P) (w := w) (base := base) (C := C) F__law_lifted A.Z
  have h__law_lifted : Has P w K mg base C "_law_lifted" 1 2 g__law_lifted := A__law_lifted.has rfl o__law_lifted
  obtain ⟨f__law_sentence, fd__law_sentence, F__law_sentence, A__law_sentence⟩ := A.d__law_sentence.ex
  have h__law_sentence : HasG P w K mg base C true false "_law_sentence" 6 3 g__law_sentence := A__law_sentence.hasG (ok__law_sentence F__law_sentence A.Z h__law_lifted h__law_row h__law_use)
  obtain ⟨f__law_deep, fd__law_deep, F__law_deep, A__law_deep⟩ := A.d__law_deep.ex
  have o__law_deep := ok__law_deep (P := P) (w := w) (base := base) (C := C) F__law_deep A__law_deep A.Z 10
  have h__law_deep : Has P w K mg base C "_law_deep" 11 2 (g__law_deep 10) := A__law_deep.has rfl o__law_deep
  obtain ⟨f__law_same_cases, fd__law_same_cases, F__law_same_cases, A__law_same_cases⟩ := A.d__law_same_cases.ex
  have o__law_same_cases := ok__law_same_cases (P := P) (w := w) (base := base) (C := C) F__law_same_cases A.Z
  have h__law_same_cases : Has P w K mg base C "_law_same_cases" 1 1 g__law_same_cases := A__law_same_cases.has rfl o__law_same_cases
  obtain ⟨f__law_odd_use, fd__law_odd_use, F__law_odd_use, A__law_odd_use⟩ := A.d__law_odd_use.ex
  have h__law_odd_use : HasG P w K mg base C true false "_law_odd_use" 3 3 g__law_odd_use := A__law_odd_use.hasG (ok__law_odd_use F__law_odd_use A.Z h__law_draw)
  obtain ⟨f__law_odd_row, fd__law_odd_row, F__law_odd_row, A__law_odd_row⟩ := A.d__law_odd_row.ex
  have h__law_odd_row : HasG P w K mg base C true false "_law_odd_row" 4 2 g__law_odd_row := A__law_odd_row.hasG (ok__law_odd_row F__law_odd_row A.Z h__law_draw h__law_odd_use)
  obtain ⟨f__law_spoilt, fd__law_spoilt, F__law_spoilt, A__law_spoilt⟩ := A.d__law_spoilt.ex
  have h__law_spoilt : HasG P w K mg base C true false "_law_spoilt" 5 1 g__law_spoilt := A__law_spoilt.hasG (ok__law_spoilt F__law_spoilt A.Z h__law_draw h__law_of h__law_odd_row)
  obtain ⟨f__law_like, fd__law_like, F__law_like, A__law_like⟩ := A.d__law_like.ex
  have h__law_like : HasQ P w K mg base C false (fun _ => True) "_law_like" 1 2 g__law_like := A__law_like.hasQ (ok__law_like F__law_like A.b_repr)
  obtain ⟨f__law_heard, fd__law_heard, F__law_heard, A__law_heard⟩ := A.d__law_heard.ex
  have o__law_heard := ok__law_heard (P := P) (w := w) (base := base) (C := C) F__law_heard Ze hts h_need_sentence
  have h__law_heard : Has P w K mg base C "_law_heard" 10 1 g__law_heard := A__law_heard.has rfl o__law_heard
  obtain ⟨f__law_bounds_right, fd__law_bounds_right, F__law_bounds_right, A__law_bounds_right⟩ := A.d__law_bounds_right.ex
  have h__law_bounds_right : HasQ P w K mg base C true (fun _ => True) "_law_bounds_right" 131 0 g__law_bounds_right := A__law_bounds_right.hasQ (ok__law_bounds_right F__law_bounds_right A.Z h__law_like (h__law_heard.up (by decide)) (h_depth_of.up (by decide)))
  obtain ⟨fb, fdb, Fb, ab⟩ := A.d__law_begin.ex
  exact ok_law lk hcd Fb ab A.Z (h__law_sentence.up (by decide)) (h__law_draw.up (by decide)) (h__law_heard.up (by decide)) (h_depth_of.up (by decide)) (h__law_deep.up (by decide)) (h_is_early.up (by decide)) (h__law_same_cases.up (by decide)) (h_turned_sentence.up (by decide)) (h__law_spoilt.up (by decide)) h__law_like h__law_bounds_right
end
end Pn

set_option maxHeartbeats 4000003
namespace Pn
open L2 PyProof.Rows PySem.Spec PySem
section
variable {K : PySem.W.Frag} {h : Heap} {mg : Str → Option Value} (X : K.In h) (G : h.Ns mainGlobals mg)
include X G
theorem glo_int {x : Str} {i : Int} {t : Nat} (e : PySem.W.nsIn K mainGlobals x = some (some (.int i t))) : GloD K mg x (.int i) := ⟨.int i, _, PySem.W.mg_of X G e, ⟨t, rfl⟩, .int i⟩
theorem glo_str {x y : Str} {t : Nat} (e : PySem.W.nsIn K mainGlobals x = some (some (.str y t))) : GloD K mg x (.str y) := ⟨.str y, _, PySem.W.mg_of X G e, ⟨t, rfl⟩, .str y⟩
theorem glo_tup {x : Str} {a : Addr} {od : Option Addr} {its : Array Value} {n : Nat} {sl : Array (Option Value)} {ws : List Str} (e : PySem.W.nsIn K mainGlobals x = some (some (.ref a))) (l : K.lookup a = some ⟨.type "tuple", od, .seq its n, sl⟩) (v : Vals (ws.map V.str) its.toList) (hl : ws.length ≤ 1000) : GloD K mg x (.tuple (ws.map PyData.str)) := by
  have q : ∀ ws : List Str, RpA K (fun _ => none) (ws.map V.str) (ws.map PyData.str) := by
    intro ws
    induction ws with
    | nil => exact .nil
    | cons w ws ih => exact .cons (.str w) ih
  refine ⟨.ref a, _, PySem.W.mg_of X G e, rfl, .tup (.inr ⟨_, its, n, l, rfl, rfl, ?_, v⟩) (q ws)⟩
  have z := Vals.length v
  rw [List.length_map] at z
  have z2 : its.toList.length = its.size := Array.length_toList
  exact Nat.le_of_lt (small1000 (by omega))
theorem glo_tupI {x : Str} {a : Addr} {od : Option Addr} {its : Array Value} {n : Nat} {sl : Array (Option Value)} {ws : List Int} (e : PySem.W.nsIn K mainGlobals x = some (some (.ref a))) (l : K.lookup a = some ⟨.type "tuple", od, .seq its n, sl⟩) (v : Vals (ws.map V.int) its.toList) (hl : ws.length ≤ 1000) : GloD K mg x (.tuple (ws.map PyData.int)) := by
  have q : ∀ ws : List Int, RpA K (fun _ => none) (ws.map V.int) (ws.map PyData.int) := by
    intro ws
    induction ws with
    | nil => exact .nil
    | cons w ws ih => exact .cons (.int w) ih
  refine ⟨.ref a, _, PySem.W.mg_of X G e, rfl, .tup (.inr ⟨_, its, n, l, rfl, rfl, ?_, v⟩) (q ws)⟩
  have z := Vals.length v
  rw [List.length_map] at z
  have z2 : its.toList.length = its.size := Array.length_toList
  exact Nat.le_of_lt (small1000 (by omega))
end
def initSt : Stmt → Stmt
  | .ClassDef _ _ _ b _ _ _ _ _ _ _ => b.getD 0 (.Pass ⟨0, 0, 0, 0⟩)
  | s => s
theorem kit_of {K : PySem.W.Frag} {A S : Addr} (h2 : PySem.W.isClsIn K S = true) (h3 : PySem.W.typeIn K (.ref S) = some (.type "type")) : PySem.W.kitCls K (.ref A) (.ref S) = PySem.W.subIn K (.ref A) (.ref S) := by
  have e2 : (((PySem.W.clsIn K S).isSome && PySem.W.typeIn K (.ref S) == some (.type "type")) = true) := by
    have h2' : ((PySem.W.clsIn K S).isSome = true) := h2
    rw [h2', h3] <;> rfl
  show (if ((PySem.W.clsIn K S).isSome && PySem.W.typeIn K (.ref S) == some (.type "type")) = true then PySem.W.subIn K (.ref A) (.ref S) else none) = _
  rw [if_pos e2]
theorem exm_is {K : PySem.W.Frag} {A S : Addr} {b : Bool} (h1 : PySem.W.subIn K (.ref S) (.type "BaseException") = some true) (h2 : PySem.W.isClsIn K S = true) (h3 : PySem.W.typeIn K (.ref S) = some (.type "type")) (h4 : PySem.W.subIn K (.ref A) (.ref S) = some b) : PySem.W.exmOne K (.ref A) (.ref S) = some b := by
  have e1 : ((PySem.W.subIn K (.ref S) (.type "BaseException") == some true) = true) := by rw [h1] <;> rfl
  show (if (PySem.W.subIn K (.ref S) (.type "BaseException") == some true) = true then PySem.W.kitCls K (.ref A) (.ref S) else none) = _
  rw [if_pos e1, kit_of h2 h3, h4]
theorem kit_is {K : PySem.W.Frag} {A S : Addr} (ne : A ≠ S) (h2 : PySem.W.isClsIn K S = true) (h3 : PySem.W.typeIn K (.ref S) = some (.type "type")) (h4 : PySem.W.subIn K (.ref A) (.ref S) = some true) : PySem.W.kitOne K (.ref A) (.ref S) = some true := by
  have e : ((Value.ref A) == (Value.ref S)) = false := beq_eq_false_iff_ne.mpr fun z => ne (Value.ref.inj z)
  show (if ((Value.ref A) == (Value.ref S)) = true then some true else PySem.W.kitCls K (.ref A) (.ref S)) = _
  rw [e, if_neg (by decide), kit_of h2 h3, h4]
/-- what the written part says of an error's class -/
structure ErrK (K : PySem.W.Frag) (mg : Str → Option Value) (C B : Addr) (x f : Str) (qual : Str) (st : Stmt) : Prop where
  g : mg x = some (.ref C)
  ox : OexC K C
  ini : ∃ (fI : Addr) (fd : FuncData), PySem.W.findIn K (.ref C) "__init__" = some (some (.ref fI)) ∧ PySem.W.typeIn K (.ref fI) = some (.type "function") ∧ Fun K "__init__" qual st fI fd
  no : PySem.W.findIn K (.ref C) f = some none
  ef : PnCt.ErrF K C B f
  iC : PySem.W.isClsIn K C = true
  (tyC : PySem.W.typeIn K (.ref C) = some (.type "type"))
  eC : PySem.W.subIn K (.ref C) (.type "BaseException") = some true
  sC : PySem.W.subIn K (.ref C) (.ref C) = some true
theorem err_mk {K : PySem.W.Frag} {h : Heap} {mg : Str → Option Value} {x f qual : Str} {st : Stmt} (X : K.In h) (G : h.Ns mainGlobals mg) {C B fI : Addr} {nm q : Str} {N : Addr} {bs bm : List Value} {sn : List Str} {sub : List Value} {ab : Bool} {col : Option Bool} {dd : Option Addr} {m0 m1 m2 m3 m5 : Option Value}
    {oc : Value} {od an : Option Addr} {osl : Array (Option Value)} {kV doc pm cdv ct : Value}
    (aC : PySem.W.nsIn K mainGlobals x = some (some (.ref C))) (aB : PySem.W.nsIn K mainGlobals "PassError" = some (some (.ref B)))
    (xL : K.lookup C = some (excClassObj nm q C N bs bm true sn sub ab col dd m0 m1 m2 m3 m5 "ValueError.__new__")) (rf : PySem.HandSPX.refsVE bm = true)
    (sa : PySem.W.findIn K (.ref C) "__setattr__" = some (some (.builtin "object.__setattr__"))) (ga : PySem.W.findIn K (.ref C) "__getattribute__" = some (some (.builtin "BaseException.__getattribute__"))) (gg : PySem.W.findIn K (.ref C) "__getattr__" = some none) (no : PySem.W.findIn K (.ref C) f = some none)
    (a1 : PySem.W.findIn K (.ref C) "__init__" = some (some (.ref fI))) (t1 : PySem.W.typeIn K (.ref fI) = some (.type "function"))
    (l1 : K.lookup fI = some ⟨oc, od, .func (PySem.W.fnOf "__init__" qual (defArgs st) (defBody st) (defScope st) .none kV doc pm an cdv ct), osl⟩) (c1 : PySem.W.codeIn K cdv qual = true) (k1 : PySem.W.keepIn K (.ref fI) = true)
    (kC : PySem.W.keepIn K (.ref C) = true)
    (eC : PySem.W.subIn K (.ref C) (.type "BaseException") = some true) (tC : PySem.W.typeIn K (.ref C) = some (.type "type")) (hC : PySem.W.hasDictIn K C = true) (iC : PySem.W.isClsIn K C = true) (sC : PySem.W.subIn K (.ref C) (.ref C) = some true)
    (iB : PySem.W.isClsIn K B = true) (tB : PySem.W.typeIn K (.ref B) = some (.type "type")) (sB : PySem.W.subIn K (.ref C) (.ref B) = some true) (ne : C ≠ B)
    (ca : PySem.W.findIn K (.ref C) "__class__" = some (some (.builtin "object.__class__"))) (gt : PySem.W.specialIn K (.builtin "object.__class__") "__get__" = some (some (.builtin "getset_descriptor.__get__"))) (tk : PySem.W.takesIn K (.builtin "object.__class__") = some true) (mo : PySem.W.mroIn K C (.type "object") = some true) :
    mg "PassError" = some (.ref B) ∧ ErrK K mg C B x f qual st :=
  ⟨PySem.W.mg_of X G aB, PySem.W.mg_of X G aC, ⟨⟨nm, q, N, bs, bm, sn, sub, ab, col, dd, m0, m1, m2, m3, m5, xL, rf⟩, sa, eC, tC, kC⟩, ⟨fI, _, a1, t1, fun_mk l1 c1 k1⟩, no,
    ⟨⟨ga, gg, eC, hC⟩, no, iC, ca, gt, tk, mo, kit_is ne iB tB sB⟩, iC, tC, eC, sC⟩
theorem errx_of {P : Program} {w : World} {K : PySem.W.Frag} {mg : Str → Option Value} {base : Heap} {C : Cls} {k : Nat} {Ca B : Addr} {x f p qual : Str} {st : Stmt} (E : ErrK K mg Ca B x f qual st) (e1 : C.at_ k = .ref Ca) (e2 : C.fld k = f) (S : FnScope [("self" : Str), p] [("self" : Str), p] (defScope st))
    (hb : ∃ p1 p2 p3 p4, defBody st = [.Assign [.Attribute (.Name "self" p1) f p2] (.Name p p3) p4]) (hx : (p == ("__debug__" : Str)) = false) (hx2 : (p == ("__classdict__" : Str)) = false) (hv0 : Vis (defScope st) "self") (hv1 : Vis (defScope st) p)
    (hbd : ∀ (kV doc pm : Value) (an : Option Addr) (cdv ct : Value) (us : List Value), us.length = 2 → bindArgs (PySem.W.fnOf "__init__" qual (defArgs st) (defBody st) (defScope st) .none kV doc pm an cdv ct) ⟨us, []⟩ = pure ([("self" : Str), p].zip us)) : ErrX P w K mg base C k x := by
  obtain ⟨fI, fd, i1, t1, F⟩ := E.ini
  have ok := ok_exInit (P := P) (w := w) (mg := mg) (base := base) F S hb hx hx2 hv0 hv1 E.ox E.no
  rw [← e2] at ok
  exact ⟨Ca, fI, fd, [("self" : Str), p], e1, E.ox, i1, t1, ok, F.binds hbd, E.g⟩
abbrev st_BadSentence : Stmt := initSt (top 2)
theorem sc_BadSentence : FnScope ["self", "path"] ["self", "path"] (defScope st_BadSentence) := ⟨rfl, rfl, rfl, by decide +kernel, rfl, by decide +kernel, by decide +kernel⟩
abbrev st_TooGreat : Stmt := initSt (top 3)
theorem sc_TooGreat : FnScope ["self", "most"] ["self", "most"] (defScope st_TooGreat) := ⟨rfl, rfl, rfl, by decide +kernel, rfl, by decide +kernel, by decide +kernel⟩
def clsOf (c1 c2 : Addr) : Cls where
  at_ := fun k => match k with
    | 1 => .ref c1
    | 2 => .ref c2
    | _ => .none
  fld := fun k => match k with
    | 1 => "path"
    | 2 => "most"
    | _ => ""
def celOf (c1 c2 : Addr) (i : Nat) : Addr := match i with
  | 0 => c1
  | _ => c2
section
variable {P : Program} {w : World} {K : PySem.W.Frag} {mg : Str → Option Value} {base : Heap} {B c1 c2 : Addr}
theorem tells_of (E1 : ErrK K mg c1 B "BadSentence" "path" "BadSentence.__init__" st_BadSentence) (E2 : ErrK K mg c2 B "TooGreat" "most" "TooGreat.__init__" st_TooGreat) (a12 : PySem.W.subIn K (.ref c2) (.ref c1) = some false) : Tells K (clsOf c1 c2) clauL (tellL (celOf c1 c2)) := by
  have one : ∀ {A S : Addr} {b : Bool} {x f q : Str} {st : Stmt}, ErrK K mg S B x f q st → PySem.W.subIn K (.ref A) (.ref S) = some b → PySem.W.exmOne K (.ref A) (.ref S) = some b := fun E e => exm_is E.eC E.iC E.tyC e
  refine .cons rfl rfl rfl (one E1 E1.sC) (fun r hr => ?_) (.cons rfl rfl rfl (one E2 E2.sC) (fun r hr => ?_) .nil)
  · simp only [List.mem_cons, List.mem_nil_iff, or_false] at hr
    subst hr
    exact ⟨one E1 a12, by decide⟩
  · cases hr
theorem errs_of (E1 : ErrK K mg c1 B "BadSentence" "path" "BadSentence.__init__" st_BadSentence) (E2 : ErrK K mg c2 B "TooGreat" "most" "TooGreat.__init__" st_TooGreat) : Errs K mg (clsOf c1 c2) B (celOf c1 c2) := ⟨E1.g, E2.g, E1.ef, E2.ef⟩
theorem ex_BadSentence (E : ErrK K mg c1 B "BadSentence" "path" "BadSentence.__init__" st_BadSentence) : ErrX P w K mg base (clsOf c1 c2) 1 "BadSentence" :=
  errx_of (p := "path") E rfl rfl sc_BadSentence ⟨_, _, _, _, rfl⟩ (by decide) (by decide) (.inl rfl) (.inl rfl) fun _ _ _ _ _ _ us hl => match us, hl with
    | [_, _], _ => rfl
theorem ex_TooGreat (E : ErrK K mg c2 B "TooGreat" "most" "TooGreat.__init__" st_TooGreat) : ErrX P w K mg base (clsOf c1 c2) 2 "TooGreat" :=
  errx_of (p := "most") E rfl rfl sc_TooGreat ⟨_, _, _, _, rfl⟩ (by decide) (by decide) (.inl rfl) (.inl rfl) fun _ _ _ _ _ _ us hl => match us, hl with
    | [_, _], _ => rfl
end
theorem shaped_ints (l : List Int) : SeqAt.shaped (.list (l.map PyData.int)) = true := by
  have a : ∀ l : List Int, PyData.canLayAll0 (l.map PyData.int) = true := by
    intro l
    induction l with
    | nil => rfl
    | cons x l ih =>
      rw [List.map_cons, PyData.canLayAll0, ih]
      rfl
  have b : ∀ l : List Int, PyData.depthAll (l.map PyData.int) = 0 := by
    intro l
    induction l with
    | nil => rfl
    | cons x l ih =>
      rw [List.map_cons, PyData.depthAll, ih]
      rfl
  unfold SeqAt.shaped
  rw [PyData.canLay0, PyData.depth, a, b]
  rfl
/-- all that the head has to find -/
theorem here_mk {l : PySem.W.OpenLaw} {w : World} {K : PySem.W.Frag} {h : Heap} {mg : Str → Option Value} {fa B c1 c2 : Addr} {f c : Addr} {oc : Value} {od an : Option Addr} {osl : Array (Option Value)} {kV doc pm ct : Value}
    (X : K.In h) (G : h.Ns mainGlobals mg) (hfa : mg "law" = some (.ref fa)) (A : AllD K mg) (Q1 : mg "PassError" = some (.ref B) ∧ ErrK K mg c1 B "BadSentence" "path" "BadSentence.__init__" st_BadSentence) (Q2 : mg "PassError" = some (.ref B) ∧ ErrK K mg c2 B "TooGreat" "most" "TooGreat.__init__" st_TooGreat)
    (a12 : PySem.W.subIn K (.ref c2) (.ref c1) = some false)
    (a : PySem.W.nsIn K mainGlobals "law" = some (some (.ref f))) (lk : K.lookup f = some ⟨oc, od, .func (PySem.W.fnOf "law" "law" (defArgs (top 42)) (defBody (top 42)) (defScope (top 42)) .none kV doc pm an (.ref c) ct), osl⟩) (hcd : PySem.W.codeIn K (.ref c) "law" = true) :
    PnEnd.LawHere l w K (L2.CX l.prog w) 133 63 "script" mg fa h := by
  have e := hfa.symm.trans (PySem.W.mg_of X G a)
  cases e
  have E1 := Q1.2
  have E2 := Q2.2
  have hts : Tells K (clsOf c1 c2) clauL (tellL (celOf c1 c2)) := tells_of E1 E2 a12
  refine ⟨PySem.W.fnOf "law" "law" (defArgs (top 42)) (defBody (top 42)) (defScope (top 42)) .none kV doc pm an (.ref c) ct, [], spLaw K, ?_, ?_, ?_, fun s v => .of_eq rfl, ?_, ?_⟩
  · exact fun p hp => nomatch hp
  · exact fun p hp => nomatch hp
  · exact fun p hp => nomatch hp
  · intro H b ns hl _ tabs S
    exact ⟨b, ns, rfl, S, by omega, shaped_ints ns, law_good ns, fun _ => rfl⟩
  · intro base _ _ TB
    exact law_all A (errs_of E1 E2) hts (ex_BadSentence E1) (ex_TooGreat E2) lk hcd
end Pn

open PySem PyProof.Rows PySem.W
set_option maxHeartbeats 0 in
theorem PySem.Challenge.cw_passednames_k60_sentences_and_their_dept_holds : PySem.Challenge.rw_passednames_k60_sentences_and_their_dept.Holds := by
  w_on; o_law; k_head
  (case hw => w_witness2)
  k_fill
  refine PnEnd.walk_ends (l := PySem.Challenge.rw_passednames_k60_sentences_and_their_dept) (n := 63) (k := 133) (x := "script") (CX := fun w => L2.CX PySem.Challenge.rw_passednames_k60_sentences_and_their_dept.prog w) rfl (by decide) rfl ⟨rfl, by decide, by decide⟩ (fun w h Y => kIn_of Y) ?here ?cx
  case here =>
    intro w mg fa h Y KX G hmg
    have D_is_integer : Pn.DefF (PySem.Challenge.cw_passednames_k60_sentences_and_their_dept_holds.heap_39 w.params) mg "is_integer" (Pn.top 5) ["value"] := by
      refine' Pn.df_is_integer KX G ?qa ?ql ?qc ?qk
      (case qa => k_is); (case ql => k_is); (case qc => k_is); (case qk => k_is)
    have D_is_from_zero : Pn.DefF (PySem.Challenge.cw_passednames_k60_sentences_and_their_dept_holds.heap_39 w.params) mg "is_from_zero" (Pn.top 6) ["value"] := by
      refine' Pn.df_is_from_zero KX G ?qa ?ql ?qc ?qk
      (case qa => k_is); (case ql => k_is); (case qc => k_is); (case qk => k_is)
    have D_is_below : Pn.DefF (PySem.Challenge.cw_passednames_k60_sentences_and_their_dept_holds.heap_39 w.params) mg "is_below" (Pn.top 7) ["value", "end"] := by
      refine' Pn.df_is_below KX G ?qa ?ql ?qc ?qk
      (case qa => k_is); (case ql => k_is); (case qc => k_is); (case qk => k_is)
    have D_is_row_of : Pn.DefF (PySem.Challenge.cw_passednames_k60_sentences_and_their_dept_holds.heap_39 w.params) mg "is_row_of" (Pn.top 8) ["value", "many"] := by
      refine' Pn.df_is_row_of KX G ?qa ?ql ?qc ?qk
      (case qa => k_is); (case ql => k_is); (case qc => k_is); (case qk => k_is)
    have D_are_below : Pn.DefF (PySem.Challenge.cw_passednames_k60_sentences_and_their_dept_holds.heap_39 w.params) mg "are_below" (Pn.top 13) ["values", "end"] := by
      refine' Pn.df_are_below KX G ?qa ?ql ?qc ?qk
      (case qa => k_is); (case ql => k_is); (case qc => k_is); (case qk => k_is)
    have D_is_use : Pn.DefF (PySem.Challenge.cw_passednames_k60_sentences_and_their_dept_holds.heap_39 w.params) mg "is_use" (Pn.top 17) ["value", "end", "manys"] := by
      refine' Pn.df_is_use KX G ?qa ?ql ?qc ?qk
      (case qa => k_is); (case ql => k_is); (case qc => k_is); (case qk => k_is)
    have D_are_uses : Pn.DefF (PySem.Challenge.cw_passednames_k60_sentences_and_their_dept_holds.heap_39 w.params) mg "are_uses" (Pn.top 14) ["value", "end", "manys"] := by
      refine' Pn.df_are_uses KX G ?qa ?ql ?qc ?qk
      (case qa => k_is); (case ql => k_is); (case qc => k_is); (case qk => k_is)
    have D_is_case : Pn.DefF (PySem.Challenge.cw_passednames_k60_sentences_and_their_dept_holds.heap_39 w.params) mg "is_case" (Pn.top 16) ["value", "many", "manys"] := by
      refine' Pn.df_is_case KX G ?qa ?ql ?qc ?qk
      (case qa => k_is); (case ql => k_is); (case qc => k_is); (case qk => k_is)
    have D_are_cases : Pn.DefF (PySem.Challenge.cw_passednames_k60_sentences_and_their_dept_holds.heap_39 w.params) mg "are_cases" (Pn.top 15) ["value", "many", "manys"] := by
      refine' Pn.df_are_cases KX G ?qa ?ql ?qc ?qk
      (case qa => k_is); (case ql => k_is); (case qc => k_is); (case qk => k_is)
    have D_is_sentence_row : Pn.DefF (PySem.Challenge.cw_passednames_k60_sentences_and_their_dept_holds.heap_39 w.params) mg "is_sentence_row" (Pn.top 12) ["value", "manys"] := by
      refine' Pn.df_is_sentence_row KX G ?qa ?ql ?qc ?qk
      (case qa => k_is); (case ql => k_is); (case qc => k_is); (case qk => k_is)
    have D_cases_in : Pn.DefF (PySem.Challenge.cw_passednames_k60_sentences_and_their_dept_holds.heap_39 w.params) mg "cases_in" (Pn.top 18) ["action"] := by
      refine' Pn.df_cases_in KX G ?qa ?ql ?qc ?qk
      (case qa => k_is); (case ql => k_is); (case qc => k_is); (case qk => k_is)
    have D_need_sentence : Pn.DefF (PySem.Challenge.cw_passednames_k60_sentences_and_their_dept_holds.heap_39 w.params) mg "need_sentence" (Pn.top 21) ["value"] := by
      refine' Pn.df_need_sentence KX G ?qa ?ql ?qc ?qk
      (case qa => k_is); (case ql => k_is); (case qc => k_is); (case qk => k_is)
    have D_depth_of : Pn.DefF (PySem.Challenge.cw_passednames_k60_sentences_and_their_dept_holds.heap_39 w.params) mg "depth_of" (Pn.top 22) ["sentence"] := by
      refine' Pn.df_depth_of KX G ?qa ?ql ?qc ?qk
      (case qa => k_is); (case ql => k_is); (case qc => k_is); (case qk => k_is)
    have D_is_early : Pn.DefF (PySem.Challenge.cw_passednames_k60_sentences_and_their_dept_holds.heap_39 w.params) mg "is_early" (Pn.top 23) ["sentence"] := by
      refine' Pn.df_is_early KX G ?qa ?ql ?qc ?qk
      (case qa => k_is); (case ql => k_is); (case qc => k_is); (case qk => k_is)
    have D_turned_sentence : Pn.DefF (PySem.Challenge.cw_passednames_k60_sentences_and_their_dept_holds.heap_39 w.params) mg "turned_sentence" (Pn.top 24) ["sentence"] := by
      refine' Pn.df_turned_sentence KX G ?qa ?ql ?qc ?qk
      (case qa => k_is); (case ql => k_is); (case qc => k_is); (case qk => k_is)
    have D__law_mixed : Pn.DefF (PySem.Challenge.cw_passednames_k60_sentences_and_their_dept_holds.heap_39 w.params) mg "_law_mixed" (Pn.top 26) ["cell", "k"] := by
      refine' Pn.df__law_mixed KX G ?qa ?ql ?qc ?qk
      (case qa => k_is); (case ql => k_is); (case qc => k_is); (case qk => k_is)
    have D__law_draw : Pn.DefF (PySem.Challenge.cw_passednames_k60_sentences_and_their_dept_holds.heap_39 w.params) mg "_law_draw" (Pn.top 28) ["state", "limit"] := by
      refine' Pn.df__law_draw KX G ?qa ?ql ?qc ?qk
      (case qa => k_is); (case ql => k_is); (case qc => k_is); (case qk => k_is)
    have D__law_of : Pn.DefF (PySem.Challenge.cw_passednames_k60_sentences_and_their_dept_holds.heap_39 w.params) mg "_law_of" (Pn.top 29) ["state", "some"] := by
      refine' Pn.df__law_of KX G ?qa ?ql ?qc ?qk
      (case qa => k_is); (case ql => k_is); (case qc => k_is); (case qk => k_is)
    have D__law_use : Pn.DefF (PySem.Challenge.cw_passednames_k60_sentences_and_their_dept_holds.heap_39 w.params) mg "_law_use" (Pn.top 30) ["state", "rows", "names"] := by
      refine' Pn.df__law_use KX G ?qa ?ql ?qc ?qk
      (case qa => k_is); (case ql => k_is); (case qc => k_is); (case qk => k_is)
    have D__law_row : Pn.DefF (PySem.Challenge.cw_passednames_k60_sentences_and_their_dept_holds.heap_39 w.params) mg "_law_row" (Pn.top 31) ["state", "rows", "deep", "early"] := by
      refine' Pn.df__law_row KX G ?qa ?ql ?qc ?qk
      (case qa => k_is); (case ql => k_is); (case qc => k_is); (case qk => k_is)
    have D__law_lifted : Pn.DefF (PySem.Challenge.cw_passednames_k60_sentences_and_their_dept_holds.heap_39 w.params) mg "_law_lifted" (Pn.top 32) ["row", "top"] := by
      refine' Pn.df__law_lifted KX G ?qa ?ql ?qc ?qk
      (case qa => k_is); (case ql => k_is); (case qc => k_is); (case qk => k_is)
    have D__law_sentence : Pn.DefF (PySem.Challenge.cw_passednames_k60_sentences_and_their_dept_holds.heap_39 w.params) mg "_law_sentence" (Pn.top 33) ["state", "deep", "early", "limit"] := by
      refine' Pn.df__law_sentence KX G ?qa ?ql ?qc ?qk
      (case qa => k_is); (case ql => k_is); (case qc => k_is); (case qk => k_is)
    have D__law_deep : Pn.DefF (PySem.Challenge.cw_passednames_k60_sentences_and_their_dept_holds.heap_39 w.params) mg "_law_deep" (Pn.top 34) ["rows", "number"] := by
      refine' Pn.df__law_deep KX G ?qa ?ql ?qc ?qk
      (case qa => k_is); (case ql => k_is); (case qc => k_is); (case qk => k_is)
    have D__law_same_cases : Pn.DefF (PySem.Challenge.cw_passednames_k60_sentences_and_their_dept_holds.heap_39 w.params) mg "_law_same_cases" (Pn.top 37) ["rows"] := by
      refine' Pn.df__law_same_cases KX G ?qa ?ql ?qc ?qk
      (case qa => k_is); (case ql => k_is); (case qc => k_is); (case qk => k_is)
    have D__law_odd_use : Pn.DefF (PySem.Challenge.cw_passednames_k60_sentences_and_their_dept_holds.heap_39 w.params) mg "_law_odd_use" (Pn.top 38) ["state", "number", "use", "names"] := by
      refine' Pn.df__law_odd_use KX G ?qa ?ql ?qc ?qk
      (case qa => k_is); (case ql => k_is); (case qc => k_is); (case qk => k_is)
    have D__law_odd_row : Pn.DefF (PySem.Challenge.cw_passednames_k60_sentences_and_their_dept_holds.heap_39 w.params) mg "_law_odd_row" (Pn.top 39) ["state", "number", "row"] := by
      refine' Pn.df__law_odd_row KX G ?qa ?ql ?qc ?qk
      (case qa => k_is); (case ql => k_is); (case qc => k_is); (case qk => k_is)
    have D__law_spoilt : Pn.DefF (PySem.Challenge.cw_passednames_k60_sentences_and_their_dept_holds.heap_39 w.params) mg "_law_spoilt" (Pn.top 40) ["state", "sentence"] := by
      refine' Pn.df__law_spoilt KX G ?qa ?ql ?qc ?qk
      (case qa => k_is); (case ql => k_is); (case qc => k_is); (case qk => k_is)
    have D__law_like : Pn.DefF (PySem.Challenge.cw_passednames_k60_sentences_and_their_dept_holds.heap_39 w.params) mg "_law_like" (Pn.top 35) ["got", "due"] := by
      refine' Pn.df__law_like KX G ?qa ?ql ?qc ?qk
      (case qa => k_is); (case ql => k_is); (case qc => k_is); (case qk => k_is)
    have D__law_heard : Pn.DefF (PySem.Challenge.cw_passednames_k60_sentences_and_their_dept_holds.heap_39 w.params) mg "_law_heard" (Pn.top 36) ["value"] := by
      refine' Pn.df__law_heard KX G ?qa ?ql ?qc ?qk
      (case qa => k_is); (case ql => k_is); (case qc => k_is); (case qk => k_is)
    have D__law_bounds_right : Pn.DefF (PySem.Challenge.cw_passednames_k60_sentences_and_their_dept_holds.heap_39 w.params) mg "_law_bounds_right" (Pn.top 41) ["state"] := by
      refine' Pn.df__law_bounds_right KX G ?qa ?ql ?qc ?qk
      (case qa => k_is); (case ql => k_is); (case qc => k_is); (case qk => k_is)
    have D__law_begin : Pn.DefF (PySem.Challenge.cw_passednames_k60_sentences_and_their_dept_holds.heap_39 w.params) mg "_law_begin" (Pn.top 27) ["script"] := by
      refine' Pn.df__law_begin KX G ?qa ?ql ?qc ?qk
      (case qa => k_is); (case ql => k_is); (case qc => k_is); (case qk => k_is)
    have Z : Pn.Glo (PySem.Challenge.cw_passednames_k60_sentences_and_their_dept_holds.heap_39 w.params) mg := {
      b_all := PySem.W.mg_none_of KX G (by k_is)
      b_any := PySem.W.mg_none_of KX G (by k_is)
      b_bool := PySem.W.mg_none_of KX G (by k_is)
      b_enumerate := PySem.W.mg_none_of KX G (by k_is)
      b_int := PySem.W.mg_none_of KX G (by k_is)
      b_isinstance := PySem.W.mg_none_of KX G (by k_is)
      b_len := PySem.W.mg_none_of KX G (by k_is)
      b_list := PySem.W.mg_none_of KX G (by k_is)
      b_max := PySem.W.mg_none_of KX G (by k_is)
      b_range := PySem.W.mg_none_of KX G (by k_is)
      b_str := PySem.W.mg_none_of KX G (by k_is)
      b_tuple := PySem.W.mg_none_of KX G (by k_is)
      MOST_NAMES_IN_ROW := Pn.glo_int KX G (by k_is)
      MOST_ROWS := Pn.glo_int KX G (by k_is)
      AS_IS := by
        refine' Pn.glo_tupI (ws := [0, 1, 2, 3, 4, 5, 6, 7, 8, 9]) KX G ?qe ?ql ?qv ?qn
        (case qe => k_is); (case ql => k_is); (case qv => exact .cons ⟨_, rfl⟩ (.cons ⟨_, rfl⟩ (.cons ⟨_, rfl⟩ (.cons ⟨_, rfl⟩ (.cons ⟨_, rfl⟩ (.cons ⟨_, rfl⟩ (.cons ⟨_, rfl⟩ (.cons ⟨_, rfl⟩ (.cons ⟨_, rfl⟩ (.cons ⟨_, rfl⟩ .nil)))))))))); (case qn => decide) }
    have A : Pn.AllD (PySem.Challenge.cw_passednames_k60_sentences_and_their_dept_holds.heap_39 w.params) mg := { d_is_integer := D_is_integer, d_is_from_zero := D_is_from_zero, d_is_below := D_is_below, d_is_row_of := D_is_row_of, d_are_below := D_are_below, d_is_use := D_is_use, d_are_uses := D_are_uses, d_is_case := D_is_case, d_are_cases := D_are_cases, d_is_sentence_row := D_is_sentence_row, d_cases_in := D_cases_in, d_need_sentence := D_need_sentence, d_depth_of := D_depth_of, d_is_early := D_is_early, d_turned_sentence := D_turned_sentence, d__law_mixed := D__law_mixed, d__law_draw := D__law_draw, d__law_of := D__law_of, d__law_use := D__law_use, d__law_row := D__law_row, d__law_lifted := D__law_lifted, d__law_sentence := D__law_sentence, d__law_deep := D__law_deep, d__law_same_cases := D__law_same_cases, d__law_odd_use := D__law_odd_use, d__law_odd_row := D__law_odd_row, d__law_spoilt := D__law_spoilt, d__law_like := D__law_like, d__law_heard := D__law_heard, d__law_bounds_right := D__law_bounds_right, d__law_begin := D__law_begin, Z := Z, b_repr := PySem.W.mg_none_of KX G (by k_is) }
    refine' Pn.here_mk KX G hmg A (Pn.err_mk KX G ?yaC1 ?yaB1 ?yxL1 ?yrf1 ?ysa1 ?yga1 ?ygg1 ?yno1 ?ya11 ?yt11 ?yl11 ?yc11 ?yk11 ?ykC1 ?yeC1 ?ytC1 ?yhC1 ?yiC1 ?ysC1 ?yiB1 ?ytB1 ?ysB1 ?yne1 ?yca1 ?ygt1 ?ytk1 ?ymo1) (Pn.err_mk KX G ?yaC2 ?yaB2 ?yxL2 ?yrf2 ?ysa2 ?yga2 ?ygg2 ?yno2 ?ya12 ?yt12 ?yl12 ?yc12 ?yk12 ?ykC2 ?yeC2 ?ytC2 ?yhC2 ?yiC2 ?ysC2 ?yiB2 ?ytB2 ?ysB2 ?yne2 ?yca2 ?ygt2 ?ytk2 ?ymo2) ?xs12 ?za ?zlk ?zhcd
    (case yaC1 => k_is); (case yaB1 => k_is); (case yxL1 => k_is); (case yrf1 => first | k_is | rfl | decide); (case ysa1 => k_is); (case yga1 => k_is); (case ygg1 => k_is); (case yno1 => k_is); (case ya11 => k_is); (case yt11 => k_is); (case yl11 => k_is); (case yc11 => k_is); (case yk11 => k_is); (case ykC1 => k_is); (case yeC1 => first | k_is | rfl | decide); (case ytC1 => k_is); (case yhC1 => first | k_is | rfl | decide); (case yiC1 => first | k_is | rfl | decide); (case ysC1 => first | k_is | rfl | decide); (case yiB1 => first | k_is | rfl | decide); (case ytB1 => k_is); (case ysB1 => first | k_is | rfl | decide); (case yne1 => first | k_is | rfl | decide); (case yca1 => k_is); (case ygt1 => k_is); (case ytk1 => k_is); (case ymo1 => k_is)
    (case yaC2 => k_is); (case yaB2 => k_is); (case yxL2 => k_is); (case yrf2 => first | k_is | rfl | decide); (case ysa2 => k_is); (case yga2 => k_is); (case ygg2 => k_is); (case yno2 => k_is); (case ya12 => k_is); (case yt12 => k_is); (case yl12 => k_is); (case yc12 => k_is); (case yk12 => k_is); (case ykC2 => k_is); (case yeC2 => first | k_is | rfl | decide); (case ytC2 => k_is); (case yhC2 => first | k_is | rfl | decide); (case yiC2 => first | k_is | rfl | decide); (case ysC2 => first | k_is | rfl | decide); (case yiB2 => first | k_is | rfl | decide); (case ytB2 => k_is); (case ysB2 => first | k_is | rfl | decide); (case yne2 => first | k_is | rfl | decide); (case yca2 => k_is); (case ygt2 => k_is); (case ytk2 => k_is); (case ymo2 => k_is)
    (case xs12 => k_is)
    (case za => k_is); (case zlk => k_is); (case zhcd => k_is)
  case cx =>
    intro w H s e s' z
    obtain ⟨_, _, _, _, _, _, _, _, _, _, _, _, z⟩ := z
    exact z

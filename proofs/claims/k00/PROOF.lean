import PyProof.Rows.All
import Wide.All
import OpenK.AllK
import Wide.FinOn
import HandS.ForMost
import HandS.ForExc
import HandS.Evl
import HandS.Lambda
import HandS.IsInst
import HandS.Deep
import HandS.TupAny
import HandS.ExcInit
import HandS.Flow
import KE.GoesMore
import HandS.SetFor
import HandS.Strs
import HandS.Rev
import HandS.SortKw
import KE.DatumOrd
import HandS.Small
import HandS.Exc
import HandS.TryMany
import HandS.WordsExc
import PyProof.ReprRoads
import HandS.ExcField
import HandS.ExcIs
import KE.KExcIs
import HandS.Conv
import HandS.EndTab
import KE.KDictPairs
import HandS.ListItems
import PySem.Challenge.RW_passednames_k00_parts_of_programs
set_option Elab.async false
set_option linter.all false
set_option maxRecDepth 100000
/-! The core: defs of the package told as plain functions of data. -/
namespace Pn
open L2 PyProof.Rows PySem.Spec PySem
abbrev Dat := PyData

/-! ### data and heaps -/
mutual
/-- the value v is the datum over the heap -/
inductive Rp (K : PySem.W.Frag) (G : Hp) : V → Dat → Prop
  | non : Rp K G .non .none
  | bl (b : Bool) : Rp K G (.bl b) (.bool b)
  | int (i : Int) : Rp K G (.int i) (.int i)
  | str (x : Str) : Rp K G (.str x) (.str x)
  | lst {a : Addr} {xs : List V} {ds : List Dat} : G a = some (.lst xs) → RpA K G xs ds → Rp K G (.ref a) (.list ds)
  | tup {a : Addr} {xs : List V} {ds : List Dat} : SqT K G a xs → RpA K G xs ds → Rp K G (.ref a) (.tuple ds)
inductive RpA (K : PySem.W.Frag) (G : Hp) : List V → List Dat → Prop
  | nil : RpA K G [] []
  | cons {v : V} {vs : List V} {d : Dat} {ds : List Dat} : Rp K G v d → RpA K G vs ds → RpA K G (v :: vs) (d :: ds)
end
mutual
theorem Rp.dp {K : PySem.W.Frag} {G : Hp} : ∀ {v : V} {d : Dat}, Rp K G v d → Dp K G v d
  | _, _, .non => .non
  | _, _, .bl b => .bl b
  | _, _, .int i => .int i
  | _, _, .str x => .str x
  | _, _, .lst h k => .lst (Evl.sq_of h) (RpA.dp k)
  | _, _, .tup h k => .tup h (RpA.dp k)
theorem RpA.dp {K : PySem.W.Frag} {G : Hp} : ∀ {vs : List V} {ds : List Dat}, RpA K G vs ds → DpAll K G vs ds
  | _, _, .nil => .nil
  | _, _, .cons h k => .cons (Rp.dp h) (RpA.dp k)
end
theorem sqL_mono {K : PySem.W.Frag} {G G' : Hp} {a : Addr} {xs : List V} (e : Same G G') (h : SqL K G a xs) : SqL K G' a xs := e.seq h
theorem sqT_mono {K : PySem.W.Frag} {G G' : Hp} {a : Addr} {xs : List V} (e : Same G G') (h : SqT K G a xs) : SqT K G' a xs := Evl.ex_t e h
mutual
theorem dp_mono {K : PySem.W.Frag} {G G' : Hp} (e : Same G G') : ∀ {v : V} {d : Dat}, Rp K G v d → Rp K G' v d
  | _, _, .non => .non
  | _, _, .bl b => .bl b
  | _, _, .int i => .int i
  | _, _, .str x => .str x
  | _, _, .lst h k => .lst (e _ _ h) (dpAll_mono e k)
  | _, _, .tup h k => .tup (sqT_mono e h) (dpAll_mono e k)
theorem dpAll_mono {K : PySem.W.Frag} {G G' : Hp} (e : Same G G') : ∀ {vs : List V} {ds : List Dat}, RpA K G vs ds → RpA K G' vs ds
  | _, _, .nil => .nil
  | _, _, .cons h k => .cons (dp_mono e h) (dpAll_mono e k)
end
theorem dpAll_len {K : PySem.W.Frag} {G : Hp} : ∀ {vs : List V} {ds : List Dat}, RpA K G vs ds → vs.length = ds.length
  | _, _, .nil => rfl
  | _, _, .cons _ k => congrArg (· + 1) (dpAll_len k)
theorem dpAll_app {K : PySem.W.Frag} {G : Hp} : ∀ {vs ws : List V} {ds es : List Dat}, RpA K G vs ds → RpA K G ws es → RpA K G (vs ++ ws) (ds ++ es)
  | _, _, _, _, .nil, k => k
  | _, _, _, _, .cons h t, k => .cons h (dpAll_app t k)
theorem dpAll_get {K : PySem.W.Frag} {G : Hp} : ∀ {vs : List V} {ds : List Dat} {i : Nat} {d : Dat}, RpA K G vs ds → ds[i]? = some d → ∃ v, vs[i]? = some v ∧ Rp K G v d
  | _, _, _, _, .nil, e => absurd e (by simp)
  | _, _, 0, _, .cons h _, e => by simp at e; subst e; exact ⟨_, rfl, h⟩
  | _, _, i + 1, d, .cons _ t, e => by
    obtain ⟨v, h1, h2⟩ := dpAll_get (i := i) (d := d) t (by simpa using e)
    exact ⟨v, by simpa using h1, h2⟩
theorem dpAll_getV {K : PySem.W.Frag} {G : Hp} : ∀ {vs : List V} {ds : List Dat} {i : Nat} {v : V}, RpA K G vs ds → vs[i]? = some v → ∃ d, ds[i]? = some d ∧ Rp K G v d
  | _, _, _, _, .nil, e => absurd e (by simp)
  | _, _, 0, _, .cons h _, e => by simp at e; subst e; exact ⟨_, rfl, h⟩
  | _, _, i + 1, d, .cons _ t, e => by
    obtain ⟨v, h1, h2⟩ := dpAll_getV (i := i) (v := d) t (by simpa using e)
    exact ⟨v, by simpa using h1, h2⟩

/-! ### slots, states -/
/-- what a slot holds: nothing that is known, a datum, a list of its own, a list that the caller sees change, the law's state -/
inductive Sl where
  | no | sh (d : Dat) | own (l : List Dat) | io (l : List Dat) | st
/-- the law's draws: its cells, what is left of them, how many draws there were -/
structure DS where
  cells : List Int
  lefts : List Int
  at_ : Int
structure Cfg where
  r : List Sl
  s : DS
inductive Res (α : Type) where
  | ok (a : α) (c : Cfg) | exc (k : Nat) (d : Dat) (c : Cfg) | bad
def M (α : Type) := Cfg → Res α
def M.bind {α β : Type} (m : M α) (f : α → M β) : M β := fun c => match m c with
  | .ok a c' => f a c'
  | .exc k d c' => .exc k d c'
  | .bad => .bad
def ret {α : Type} (a : α) : M α := fun c => .ok a c
def bad {α : Type} : M α := fun _ => .bad
/-- a value: a datum, or a list that nobody holds as yet -/
inductive RV where
  | sh (d : Dat) | fr (l : List Dat)
def RV.dat : RV → Dat
  | .sh d => d
  | .fr l => .list l
/-- the classes of errors: where each stands, the name of its field -/
structure Cls where
  at_ : Nat → Value
  fld : Nat → Str
/-- a def's frame: the state's addresses (its dict, cells, lefts), whether it is in hand, where the lists that may change stand, by slots, the heaps at the entry -/
structure Fr where
  K : PySem.W.Frag
  C : Cls
  sa : Addr
  sc : Addr
  sl : Addr
  us : Bool
  ia : Nat → Addr
  mu : List Addr
  G0 : Hp
  H0 : Hp
  /-- objects that are under way and stay meanwhile -/
  pins : List (Addr × HO) := []
  /-- the tables in which code of lambdas is kept, each with the name of what it keeps -/
  tb : List (Addr × Str) := []
def Fr.sta (F : Fr) : List Addr := if F.us = true then [F.sa, F.sc, F.sl] else []
def stKv (sc sl : Addr) (n : Int) : List (Key × V) := [(Sum.inr "cells", .ref sc), (Sum.inr "lefts", .ref sl), (Sum.inr "at", .int n)]
def StOk (sa sc sl : Addr) (G H : Hp) (s : DS) : Prop :=
  H sa = some (.dK (stKv sc sl s.at_)) ∧ H sc = some (.lst (s.cells.map V.int)) ∧ H sl = some (.lst (s.lefts.map V.int)) ∧ G sa = none ∧ G sc = none ∧ G sl = none ∧ sc ≠ sl
def SlOk (F : Fr) (G H : Hp) (i : Nat) : Sl → Option (Option V) → Prop
  | .no, _ => True
  | .sh d, x => ∃ v, x = some (some v) ∧ Rp F.K G v d
  | .own l, x => ∃ a xs, x = some (some (.ref a)) ∧ H a = some (.lst xs) ∧ G a = none ∧ RpA F.K G xs l ∧ F.H0 a = none ∧ ∀ p ∈ F.pins, a ≠ p.1
  | .io l, x => ∃ xs, x = some (some (.ref (F.ia i))) ∧ H (F.ia i) = some (.lst xs) ∧ G (F.ia i) = none ∧ RpA F.K G xs l ∧ F.ia i ∈ F.mu
  | .st, x => x = some (some (.ref F.sa)) ∧ F.us = true
/-- a table or a thing told by a word of its own -/
def IsT (o : HO) : Prop := (∃ ps, o = .tbl ps) ∨ ∃ φ, o = .ext φ
theorem tabS_move {H H' : Hp} {P : Addr} {q : Str} (t : LamX.TabS H P q) (k : ∀ b o, H b = some o → IsT o → H' b = some o) : LamX.TabS H' P q := by
  obtain ⟨ps, h1, h2, h3⟩ := t
  refine ⟨ps, k _ _ h1 (.inl ⟨ps, rfl⟩), h2, fun pos cv hc => ?_⟩
  (obtain ⟨c, e1, e2⟩ := h3 pos cv hc)
  exact ⟨c, e1, k _ _ e2 (.inr ⟨_, rfl⟩)⟩
def TbOk (F : Fr) (G H : Hp) : Prop := ∀ p ∈ F.tb, LamX.TabS H p.1 p.2 ∧ G p.1 = none ∧ p.1 ∈ F.mu
theorem TbOk.move {F : Fr} {G H G' H' : Hp} (z : TbOk F G H) (k : ∀ b o, H b = some o → IsT o → H' b = some o) (g : ∀ b o, H b = some o → IsT o → G b = none → G' b = none) : TbOk F G' H' := by
  intro p hp
  obtain ⟨t, n, m⟩ := z p hp
  obtain ⟨ps, e, _⟩ := id t
  exact ⟨tabS_move t k, g _ _ e (.inl ⟨ps, rfl⟩) n, m⟩
theorem isT_lst {xs : List V} : ¬ IsT (.lst xs) := by
  rintro (⟨_, e⟩ | ⟨_, e⟩) <;> cases e
theorem isT_dK {kvs : List (Key × V)} : ¬ IsT (.dK kvs) := by
  rintro (⟨_, e⟩ | ⟨_, e⟩) <;> cases e
/-- what holds all the while of a def's slots and the heap; x: an address that no slot holds -/
structure Rel (F : Fr) (G : Hp) (c : Cfg) (σ : L2.St) (H : Hp) : Prop where
  sub : Same G H
  g0 : Same F.G0 G
  fresh : ∀ b, G b ≠ none → F.G0 b ≠ none ∨ F.H0 b = none
  keep : ∀ b o, F.H0 b = some o → b ∉ F.mu → b ∉ F.sta → H b = some o
  len : c.r.length = σ.length
  sl : ∀ (i : Nat) (s : Sl), c.r[i]? = some s → SlOk F G H i s (σ[i]?)
  inj : ∀ (i j : Nat) (l l' : List Dat), c.r[i]? = some (.own l) → c.r[j]? = some (.own l') → σ[i]? = σ[j]? → i = j
  ioj : ∀ (i j : Nat) (l l' : List Dat), c.r[i]? = some (.io l) → c.r[j]? = some (.io l') → F.ia i = F.ia j → i = j
  st : F.us = true → StOk F.sa F.sc F.sl G H c.s
  mu0 : ∀ b ∈ F.mu, F.H0 b ≠ none ∧ b ∉ F.sta
  st0 : ∀ b ∈ F.sta, F.H0 b ≠ none
  dom : ∀ b, F.H0 b ≠ none → H b ≠ none
  pin : ∀ p ∈ F.pins, H p.1 = some p.2 ∧ G p.1 = none ∧ F.H0 p.1 = none
  tabs : TbOk F G H

/-! ### what a term is worth -/
def Po {α β : Type} (F : Fr) (W : L2.WX) (σ : L2.St) (R : L2.St → Hp → Hp → Cfg → β → α → Prop) (Q : β → Hp → Prop) (G : Hp) : Res α → Prop
  | .ok a c' => ∀ v G' H', Rel F G' c' σ H' → Same G G' → R σ G' H' c' v a → Q v H'
  | .exc k d c' => ∀ ad v G' H', Rel F G' c' σ H' → Same G G' → H' ad = some (.xd [(F.C.fld k, v)]) → Rp F.K G' v d → W (F.C.at_ k) (some ad) σ H'
  | .bad => False
def Sx {α β : Type} (F : Fr) (W : L2.WX) (R : L2.St → Hp → Hp → Cfg → β → α → Prop) (m : M α) : L2.St → Hp → (β → Hp → Prop) → Prop := fun σ H Q => ∃ G c, Rel F G c σ H ∧ Po F W σ R Q G (m c)
def RD (F : Fr) : L2.St → Hp → Hp → Cfg → V → Dat → Prop := fun _ G _ _ v d => Rp F.K G v d
def RB : L2.St → Hp → Hp → Cfg → Bool → Bool → Prop := fun _ _ _ _ b a => b = a
def RA (F : Fr) : L2.St → Hp → Hp → Cfg → List V → List Dat → Prop := fun _ G _ _ vs ds => RpA F.K G vs ds
/-- a list that nobody holds -/
def Lone (F : Fr) (σ : L2.St) (G H : Hp) (c : Cfg) (p : Addr) (l : List Dat) : Prop :=
  ∃ xs, H p = some (.lst xs) ∧ RpA F.K G xs l ∧ G p = none ∧ F.H0 p = none ∧ (∀ (i : Nat) (l' : List Dat), c.r[i]? = some (Sl.own l') → σ[i]? ≠ some (some (V.ref p))) ∧ ∀ q ∈ F.pins, p ≠ q.1
def RX (F : Fr) : L2.St → Hp → Hp → Cfg → V → RV → Prop := fun σ G H c v r => match r with
  | .sh d => Rp F.K G v d
  | .fr l => ∃ p, v = .ref p ∧ Lone F σ G H c p l
abbrev E (F : Fr) (W : L2.WX) (m : M Dat) : TE := Sx F W (RD F) m
abbrev EX (F : Fr) (W : L2.WX) (m : M RV) : TE := Sx F W (RX F) m
abbrev B (F : Fr) (W : L2.WX) (m : M Bool) : TT := Sx F W RB m
abbrev A (F : Fr) (W : L2.WX) (m : M (List Dat)) : TA := Sx F W (RA F) m

section
variable {F : Fr} {W : L2.WX} {σ : L2.St} {H : Hp} {X : Cx}
theorem _root_.L2.PE.mono {X : Cx} {e : Expr} {t t' : TE} (h : PE X e t) (k : ∀ σ H Q, t' σ H Q → t σ H Q) : PE X e t' := ⟨fun pins s σ H Q I q => h.run pins s σ H Q I (k _ _ _ q)⟩
theorem _root_.L2.PT.mono {X : Cx} {e : Expr} {t t' : TT} (h : PT X e t) (k : ∀ σ H Q, t' σ H Q → t σ H Q) : PT X e t' := ⟨fun pins s σ H Q I q => h.run pins s σ H Q I (k _ _ _ q)⟩
theorem _root_.L2.PA.mono {X : Cx} {e : List Expr} {t t' : TA} (h : PA X e t) (k : ∀ σ H Q, t' σ H Q → t σ H Q) : PA X e t' := ⟨fun pos pins s σ H Q I q => h.run pos pins s σ H Q I (k _ _ _ q)⟩
theorem _root_.L2.PS.mono {X : Cx} {e : Stmt} {t t' : TS} (h : PS X e t) (k : ∀ D σ H, t' D σ H → t D σ H) : PS X e t' := ⟨fun pins s σ H Q I q => h.run pins s σ H Q I (k _ _ _ q)⟩
theorem _root_.L2.PSs.mono {X : Cx} {e : List Stmt} {t t' : TS} (h : PSs X e t) (k : ∀ D σ H, t' D σ H → t D σ H) : PSs X e t' := ⟨fun pins s σ H Q I q => h.run pins s σ H Q I (k _ _ _ q)⟩

theorem sx_mono {α β : Type} {R : L2.St → Hp → Hp → Cfg → β → α → Prop} {m : M α} {Q Q' : β → Hp → Prop} (h : Sx F W R m σ H Q) (k : ∀ x H, Q x H → Q' x H) : Sx F W R m σ H Q' := by
  obtain ⟨G, c, r, p⟩ := h
  refine ⟨G, c, r, ?_⟩
  cases e : m c with
  | ok a c' =>
    rw [e] at p
    exact fun v G' H' r' s' q => k _ _ (p v G' H' r' s' q)
  | exc j d c' =>
    rw [e] at p
    exact p
  | bad =>
    rw [e] at p
    exact p
/-- a first part, then the rest -/
theorem po_bind {α β γ δ : Type} {R1 : L2.St → Hp → Hp → Cfg → β → α → Prop} {R : L2.St → Hp → Hp → Cfg → δ → γ → Prop} {m : M α} {f : α → M γ} {Q : δ → Hp → Prop} {G : Hp} {c : Cfg} (r : Rel F G c σ H) (p : Po F W σ R Q G (M.bind m f c)) :
    Sx F W R1 m σ H (fun x H1 => ∃ a G1 c1, Rel F G1 c1 σ H1 ∧ Same G G1 ∧ R1 σ G1 H1 c1 x a ∧ Po F W σ R Q G1 (f a c1)) := by
  refine ⟨G, c, r, ?_⟩
  unfold M.bind at p
  cases e : m c with
  | ok a c' =>
    rw [e] at p
    intro v G' H' r' s' q
    refine ⟨a, G', c', r', s', q, ?_⟩
    cases e2 : f a c' with
    | ok b c2 =>
      simp only [e2] at p
      exact fun v2 G2 H2 r2 s2 q2 => p v2 G2 H2 r2 (s'.trans s2) q2
    | exc k d c2 =>
      simp only [e2] at p
      exact fun ad v2 G2 H2 r2 s2 => p ad v2 G2 H2 r2 (s'.trans s2)
    | bad =>
      simp only [e2] at p
      exact p
  | exc k d c' =>
    rw [e] at p
    exact p
  | bad =>
    rw [e] at p
    exact p
theorem sx_bind {α β γ δ : Type} {R1 : L2.St → Hp → Hp → Cfg → β → α → Prop} {R : L2.St → Hp → Hp → Cfg → δ → γ → Prop} {m : M α} {f : α → M γ} {Q : δ → Hp → Prop} (h : Sx F W R (M.bind m f) σ H Q) :
    Sx F W R1 m σ H (fun x H1 => ∃ a G1 c1, Rel F G1 c1 σ H1 ∧ R1 σ G1 H1 c1 x a ∧ Po F W σ R Q G1 (f a c1)) := by
  obtain ⟨G, c, r, p⟩ := h
  exact sx_mono (po_bind r p) fun x H1 ⟨a, G1, c1, r1, _, q, p1⟩ => ⟨a, G1, c1, r1, q, p1⟩
/-- two data, then the rest -/
theorem sx_bind2 {γ δ : Type} {R : L2.St → Hp → Hp → Cfg → δ → γ → Prop} {ma mb : M Dat} {f : Dat → Dat → M γ} {Q : δ → Hp → Prop} (h : Sx F W R (M.bind ma fun a => M.bind mb fun b => f a b) σ H Q) :
    E F W ma σ H fun x H1 => E F W mb σ H1 fun y H2 => ∃ a b G2 c2, Rel F G2 c2 σ H2 ∧ Rp F.K G2 x a ∧ Rp F.K G2 y b ∧ Po F W σ R Q G2 (f a b c2) := by
  refine sx_mono (sx_bind (R1 := RD F) h) fun x H1 ⟨a, G1, c1, r1, q, p1⟩ => ?_
  exact sx_mono (po_bind (R1 := RD F) r1 p1) fun y H2 ⟨b, G2, c2, r2, s2, q2, p2⟩ => ⟨a, b, G2, c2, r2, dp_mono s2 q, q2, p2⟩
/-- nothing changes, a value is told -/
theorem po_ret {α β : Type} {R : L2.St → Hp → Hp → Cfg → β → α → Prop} {Q : β → Hp → Prop} {G : Hp} {c : Cfg} {a : α} {v : β} (r : Rel F G c σ H) (p : Po F W σ R Q G (.ok a c)) (q : R σ G H c v a) : Q v H := p v G H r (Same.refl _) q

/-! ### names, constants -/
def rd (i : Nat) : M Dat := fun c => match c.r[i]? with
  | some (.sh d) => .ok d c
  | _ => .bad
theorem e_var {i : Nat} {x : Str} {pos : Pos} (hN : X.N[i]? = some x) (hv : Vis X.env.scope x) (hd : (x == ("__debug__" : Str)) = false) (hcd : (x == ("__classdict__" : Str)) = false) : PE X (.Name x pos) (E F W (rd i)) :=
  (pe_var hN hv hd hcd).mono fun σ H Q ⟨G, c, r, p⟩ => by
    unfold rd at p
    cases e : c.r[i]? with
    | none => rw [e] at p; exact p.elim
    | some s =>
      rw [e] at p
      cases s with
      | sh d =>
        obtain ⟨v, e2, q⟩ := r.sl i _ e
        exact ⟨v, e2, po_ret r p q⟩
      | no => exact p.elim
      | own l => exact p.elim
      | io l => exact p.elim
      | st => exact p.elim
theorem e_int {i : Int} {j pos} : PE X (.Constant (.int i) j pos) (E F W (ret (.int i))) := pe_int.mono fun σ H Q ⟨G, c, r, p⟩ => po_ret r p (.int i)
theorem e_bl {i : Bool} {j pos} : PE X (.Constant (.bool i) j pos) (E F W (ret (.bool i))) := pe_bl.mono fun σ H Q ⟨G, c, r, p⟩ => po_ret r p (.bl i)
theorem e_non {j pos} : PE X (.Constant .none j pos) (E F W (ret .none)) := pe_non.mono fun σ H Q ⟨G, c, r, p⟩ => po_ret r p .non
theorem e_str {x : Str} {j pos} : PE X (.Constant (.str x) j pos) (E F W (ret (.str x))) := pe_str.mono fun σ H Q ⟨G, c, r, p⟩ => po_ret r p (.str x)

/-! ### operators on ints -/
def m2 (f : Dat → Dat → M Dat) (a b : M Dat) : M Dat := M.bind a fun x => M.bind b fun y => f x y
def int2 (g : Int → Int → Dat) : Dat → Dat → M Dat := fun x y => match x, y with
  | .int i, .int j => ret (g i j)
  | _, _ => bad
/-- ints in, under a condition -/
def int2c (ok : Int → Int → Bool) (g : Int → Int → Dat) : Dat → Dat → M Dat := fun x y => match x, y with
  | .int i, .int j => if ok i j then ret (g i j) else bad
  | _, _ => bad
theorem e_op2 {op : Operator} {a b : Expr} {ma mb : M Dat} {pos : Pos} {r : R2} {f : Dat → Dat → M Dat} (ho : OpR X (binaryOp op) r)
    (hf : ∀ {G H : Hp} {c : Cfg} {x y : V} {d e : Dat} {Q : VK} {σ : L2.St}, Rel F G c σ H → Rp F.K G x d → Rp F.K G y e → Po F W σ (RD F) Q G (f d e c) → r x y H Q)
    (ha : PE X a (E F W ma)) (hb : PE X b (E F W mb)) : PE X (.BinOp a op b pos) (E F W (m2 f ma mb)) :=
  (pe_op ho ha hb).mono fun σ H Q h => sx_mono (sx_bind2 h) fun x H1 h1 => sx_mono h1 fun y H2 ⟨d, e, G2, c2, r2, q1, q2, p⟩ => hf r2 q1 q2 p
theorem hf_int0 {g : Int → Int → V} {g' : Int → Int → Dat} (hg : ∀ {G : Hp} (i j : Int), Rp F.K G (g i j) (g' i j)) {G H : Hp} {c : Cfg} {x y : V} {d e : Dat} {Q : VK} {σ : L2.St} (r : Rel F G c σ H) (h1 : Rp F.K G x d) (h2 : Rp F.K G y e)
    (p : Po F W σ (RD F) Q G (int2 g' d e c)) : rI0 g x y H Q := by
  cases h1 with
  | int i =>
    cases h2 with
    | int j => exact ⟨i, j, rfl, rfl, po_ret r p (hg i j)⟩
    | _ => exact p.elim
  | _ => exact p.elim
theorem hf_int {C : Int → Int → Prop} {ok : Int → Int → Bool} {g : Int → Int → V} {g' : Int → Int → Dat} (hk : ∀ i j, ok i j = true → C i j) (hg : ∀ {G : Hp} (i j : Int), Rp F.K G (g i j) (g' i j)) {G H : Hp} {c : Cfg} {x y : V} {d e : Dat} {Q : VK} {σ : L2.St}
    (r : Rel F G c σ H) (h1 : Rp F.K G x d) (h2 : Rp F.K G y e) (p : Po F W σ (RD F) Q G (int2c ok g' d e c)) : rI C g x y H Q := by
  cases h1 with
  | int i =>
    cases h2 with
    | int j =>
      unfold int2c at p
      by_cases o : ok i j = true
      · simp only [o, if_pos] at p
        exact ⟨i, j, rfl, rfl, hk i j o, po_ret r p (hg i j)⟩
      · simp only [o] at p
        exact p.elim
    | _ => exact p.elim
  | _ => exact p.elim
section
variable {a b : Expr} {ma mb : M Dat} {pos : Pos}
def addI := int2 fun i j => .int (i + j)
def subI := int2 fun i j => .int (i - j)
def mulI := int2c (fun i j => decide (-(2 ^ 64) < i ∧ i < 2 ^ 64) || decide (-(2 ^ 64) < j ∧ j < 2 ^ 64)) fun i j => .int (i * j)
def modI := int2c (fun _ j => decide (j ≠ 0)) fun i j => .int (i.fmod j)
def fdivI := int2c (fun _ j => decide (j ≠ 0 ∧ j.natAbs < 1073741824)) fun i j => .int (i.fdiv j)
theorem e_add (ha : PE X a (E F W ma)) (hb : PE X b (E F W mb)) : PE X (.BinOp a .Add b pos) (E F W (m2 addI ma mb)) := e_op2 op_add (hf_int0 fun i j => .int _) ha hb
theorem e_sub (ha : PE X a (E F W ma)) (hb : PE X b (E F W mb)) : PE X (.BinOp a .Sub b pos) (E F W (m2 subI ma mb)) := e_op2 op_sub (hf_int0 fun i j => .int _) ha hb
theorem e_mul (ha : PE X a (E F W ma)) (hb : PE X b (E F W mb)) : PE X (.BinOp a .Mult b pos) (E F W (m2 mulI ma mb)) := e_op2 op_mul (hf_int (fun i j h => by
  simp only [Bool.or_eq_true, decide_eq_true_eq] at h
  exact h) fun i j => .int _) ha hb
theorem e_mod (ha : PE X a (E F W ma)) (hb : PE X b (E F W mb)) : PE X (.BinOp a .Mod b pos) (E F W (m2 modI ma mb)) := e_op2 op_modN (hf_int (fun i j h => of_decide_eq_true h) fun i j => .int _) ha hb
theorem e_fdiv (ha : PE X a (E F W ma)) (hb : PE X b (E F W mb)) : PE X (.BinOp a .FloorDiv b pos) (E F W (m2 fdivI ma mb)) := e_op2 op_fdivN (hf_int (fun i j h => of_decide_eq_true h) fun i j => .int _) ha hb
end

/-! ### lists that nobody holds -/
theorem Rel.own_ne {G : Hp} {c : Cfg} {i : Nat} {l : List Dat} (r : Rel F G c σ H) (e : c.r[i]? = some (.own l)) : ∃ a xs, σ[i]? = some (some (.ref a)) ∧ H a = some (.lst xs) ∧ G a = none ∧ RpA F.K G xs l ∧ F.H0 a = none ∧ ∀ p ∈ F.pins, a ≠ p.1 := r.sl i _ e
theorem Rel.old {G : Hp} {c : Cfg} {p : Addr} (r : Rel F G c σ H) (hp : H p = none) : F.H0 p = none := by
  cases e : F.H0 p with
  | none => rfl
  | some o => exact absurd hp (r.dom p (by rw [e]; simp))
theorem Rel.gNone {G : Hp} {c : Cfg} {p : Addr} (r : Rel F G c σ H) (hp : H p = none) : G p = none := by
  cases e : G p with
  | none => rfl
  | some o' =>
    have := r.sub _ _ e
    rw [hp] at this
    cases this
/-- another still part and heap -/
theorem SlOk.move {G G' H' : Hp} {i : Nat} {s : Sl} {x : Option (Option V)} (h : SlOk F G H i s x) (sG : Same G G')
    (ko : ∀ (l : List Dat) (a : Addr) (xs : List V), s = .own l → x = some (some (.ref a)) → H a = some (.lst xs) → G a = none → F.H0 a = none → H' a = some (.lst xs) ∧ G' a = none)
    (ki : ∀ (l : List Dat) (xs : List V), s = .io l → H (F.ia i) = some (.lst xs) → G (F.ia i) = none → F.ia i ∈ F.mu → H' (F.ia i) = some (.lst xs) ∧ G' (F.ia i) = none) : SlOk F G' H' i s x := by
  cases s with
  | no => trivial
  | sh d =>
    obtain ⟨v, e, q⟩ := h
    exact ⟨v, e, dp_mono sG q⟩
  | own l =>
    obtain ⟨a, xs, e, q1, q2, q3, q4, q5⟩ := h
    obtain ⟨k1, k2⟩ := ko l a xs rfl e q1 q2 q4
    exact ⟨a, xs, e, k1, k2, dpAll_mono sG q3, q4, q5⟩
  | io l =>
    obtain ⟨xs, e, q1, q2, q3, q4⟩ := h
    obtain ⟨k1, k2⟩ := ki l xs rfl q1 q2 q4
    exact ⟨xs, e, k1, k2, dpAll_mono sG q3, q4⟩
  | st => exact h
theorem StOk.move {a b l : Addr} {G G' H' : Hp} {s : DS} (h : StOk a b l G H s) (ka : H' a = H a) (kb : H' b = H b) (kl : H' l = H l) (ga : G' a = none) (gb : G' b = none) (gl : G' l = none) : StOk a b l G' H' s := by
  obtain ⟨h1, h2, h3, _, _, _, h4⟩ := h
  exact ⟨ka.trans h1, kb.trans h2, kl.trans h3, ga, gb, gl, h4⟩
theorem Rel.sta_ne {G : Hp} {c : Cfg} {p : Addr} (r : Rel F G c σ H) (hp : F.H0 p = none) (hu : F.us = true) : p ≠ F.sa ∧ p ≠ F.sc ∧ p ≠ F.sl := by
  have st0 := r.st0
  unfold Fr.sta at st0
  rw [if_pos hu] at st0
  refine ⟨fun e => ?_, fun e => ?_, fun e => ?_⟩
  · exact st0 F.sa (by simp) (e ▸ hp)
  · exact st0 F.sc (by simp) (e ▸ hp)
  · exact st0 F.sl (by simp) (e ▸ hp)
/-- a new object is laid, still from now on -/
theorem Rel.laid {G : Hp} {c : Cfg} {p : Addr} {o : HO} (r : Rel F G c σ H) (hp : H p = none) : Rel F (upd G p o) c σ (upd H p o) ∧ Same G (upd G p o) := by
  have gp := r.gNone hp
  have n0 := r.old hp
  have sG : Same G (upd G p o) := fun b u e => by
    rw [upd_ne (ne_of_none e gp)]
    exact e
  have sH : Same H (upd H p o) := fun b u e => by
    rw [upd_ne (ne_of_none e hp)]
    exact e
  refine ⟨{ sub := ?_, g0 := r.g0.trans sG, fresh := ?_, keep := fun b u e h1 h2 => sH _ _ (r.keep b u e h1 h2), len := r.len, sl := fun i s e => (r.sl i s e).move sG (fun l a xs _ _ q1 q2 _ => ?_) (fun l xs _ q1 q2 _ => ?_), inj := r.inj, ioj := r.ioj, st := fun hu => ?_, mu0 := r.mu0, st0 := r.st0, dom := ?_, pin := fun b hb => ?_, tabs := r.tabs.move (fun b u e _ => sH _ _ e) (fun b u e _ g => by rw [upd_ne (ne_of_none e hp)]; exact g) }, sG⟩
  · intro b u e
    by_cases hb : b = p
    · subst hb
      rw [upd_same] at e ⊢
      exact e
    · rw [upd_ne hb] at e ⊢
      exact r.sub _ _ e
  · intro b e
    by_cases hb : b = p
    · exact .inr (hb ▸ n0)
    · rw [upd_ne hb] at e
      exact r.fresh b e
  · exact ⟨sH _ _ q1, by rw [upd_ne (ne_of_none q1 hp)]; exact q2⟩
  · exact ⟨sH _ _ q1, by rw [upd_ne (ne_of_none q1 hp)]; exact q2⟩
  · obtain ⟨n1, n2, n3⟩ := r.sta_ne n0 hu
    obtain ⟨h1, h2, h3, g1, g2, g3, h4⟩ := r.st hu
    exact ⟨sH _ _ h1, sH _ _ h2, sH _ _ h3, by rw [upd_ne n1.symm]; exact g1, by rw [upd_ne n2.symm]; exact g2, by rw [upd_ne n3.symm]; exact g3, h4⟩
  · intro b e z
    by_cases hb : b = p
    · exact e (hb ▸ n0)
    · rw [upd_ne hb] at z
      exact r.dom b e z
  · obtain ⟨k1, k2, k3⟩ := r.pin b hb
    exact ⟨sH _ _ k1, by rw [upd_ne (ne_of_none k1 hp)]; exact k2, k3⟩
/-- a new list is laid that nobody holds as yet -/
theorem Rel.lone {G : Hp} {c : Cfg} {p : Addr} {xs : List V} {l : List Dat} (r : Rel F G c σ H) (hp : H p = none) (q : RpA F.K G xs l) : Rel F G c σ (upd H p (.lst xs)) ∧ Lone F σ G (upd H p (.lst xs)) c p l := by
  have gp := r.gNone hp
  have n0 := r.old hp
  have sH : Same H (upd H p (.lst xs)) := fun b u e => by
    rw [upd_ne (ne_of_none e hp)]
    exact e
  refine ⟨{ sub := r.sub.trans sH, g0 := r.g0, fresh := r.fresh, keep := fun b u e h1 h2 => sH _ _ (r.keep b u e h1 h2), len := r.len, sl := fun i s e => (r.sl i s e).move (Same.refl _) (fun l a xs _ _ q1 q2 _ => ⟨sH _ _ q1, q2⟩) (fun l xs _ q1 q2 _ => ⟨sH _ _ q1, q2⟩), inj := r.inj, ioj := r.ioj, st := fun hu => ?_, mu0 := r.mu0, st0 := r.st0, dom := ?_, pin := fun b hb => ?_, tabs := r.tabs.move (fun b u e _ => sH _ _ e) (fun b u e _ g => g) }, xs, upd_same, q, gp, n0, fun i l' e z => ?_, fun b hb z => ?_⟩
  · obtain ⟨h1, h2, h3, g1, g2, g3, h4⟩ := r.st hu
    exact ⟨sH _ _ h1, sH _ _ h2, sH _ _ h3, g1, g2, g3, h4⟩
  · intro b e z
    by_cases hb : b = p
    · exact e (hb ▸ n0)
    · rw [upd_ne hb] at z
      exact r.dom b e z
  · obtain ⟨k1, k2, k3⟩ := r.pin b hb
    exact ⟨sH _ _ k1, k2, k3⟩
  · obtain ⟨a, xs', e1, e2, _⟩ := r.own_ne e
    rw [e1] at z
    cases z
    rw [hp] at e2
    cases e2
  · have k1 := (r.pin b hb).1
    rw [← z, hp] at k1
    cases k1
/-- a list that nobody holds is still from now on -/
theorem Rel.freeze {G : Hp} {c : Cfg} {p : Addr} {l : List Dat} (r : Rel F G c σ H) (z : Lone F σ G H c p l) : ∃ G', Rel F G' c σ H ∧ Same G G' ∧ Rp F.K G' (.ref p) (.list l) := by
  obtain ⟨xs, hp, q, gp, n0, nown, npin⟩ := z
  have sG : Same G (upd G p (.lst xs)) := fun b u e => by
    rw [upd_ne (ne_of_none e gp)]
    exact e
  refine ⟨upd G p (.lst xs), { sub := ?_, g0 := r.g0.trans sG, fresh := ?_, keep := r.keep, len := r.len, sl := fun i s e => (r.sl i s e).move sG (fun l a xs' e1 e2 q1 q2 _ => ⟨q1, ?_⟩) (fun l xs' _ q1 q2 m => ⟨q1, ?_⟩), inj := r.inj, ioj := r.ioj, st := fun hu => ?_, mu0 := r.mu0, st0 := r.st0, dom := r.dom, pin := fun b hb => ?_, tabs := r.tabs.move (fun b u e _ => e) (fun b u e t g => by
    have : b ≠ p := fun z => by rw [z, hp] at e; cases e; exact isT_lst t
    rw [upd_ne this]; exact g) }, sG, .lst upd_same (dpAll_mono sG q)⟩
  · intro b u e
    by_cases hb : b = p
    · subst hb
      rw [upd_same] at e
      rw [hp]
      exact e
    · rw [upd_ne hb] at e
      exact r.sub _ _ e
  · intro b e
    by_cases hb : b = p
    · exact .inr (hb ▸ n0)
    · rw [upd_ne hb] at e
      exact r.fresh b e
  · by_cases hb : a = p
    · subst hb
      subst e1
      exact absurd e2 (nown i _ e)
    · rw [upd_ne hb]
      exact q2
  · by_cases hb : F.ia i = p
    · exact absurd n0 (hb ▸ (r.mu0 _ m).1)
    · rw [upd_ne hb]
      exact q2
  · obtain ⟨n1, n2, n3⟩ := r.sta_ne n0 hu
    obtain ⟨h1, h2, h3, g1, g2, g3, h4⟩ := r.st hu
    exact ⟨h1, h2, h3, by rw [upd_ne n1.symm]; exact g1, by rw [upd_ne n2.symm]; exact g2, by rw [upd_ne n3.symm]; exact g3, h4⟩
  · obtain ⟨k1, k2, k3⟩ := r.pin b hb
    exact ⟨k1, by rw [upd_ne (npin b hb).symm]; exact k2, k3⟩
def frz (m : M RV) : M Dat := M.bind m fun v => ret v.dat
def asx (m : M Dat) : M RV := M.bind m fun d => ret (.sh d)
theorem e_frz {e : Expr} {m : M RV} (h : PE X e (EX F W m)) : PE X e (E F W (frz m)) := h.mono fun σ H Q h => sx_mono (sx_bind h) fun x H1 ⟨a, G1, c1, r1, q, p⟩ => by
  cases a with
  | sh d => exact po_ret r1 p q
  | fr l =>
    obtain ⟨p1, rfl, z⟩ := q
    obtain ⟨G', r', s', d'⟩ := r1.freeze z
    exact p _ G' H1 r' s' d'
theorem e_asx {e : Expr} {m : M Dat} (h : PE X e (E F W m)) : PE X e (EX F W (asx m)) := h.mono fun σ H Q h => sx_mono (sx_bind h) fun x H1 ⟨a, G1, c1, r1, q, p⟩ => po_ret r1 p q

/-! ### argument lists, displays -/
def aNil : M (List Dat) := ret []
def aCons (a : M Dat) (r : M (List Dat)) : M (List Dat) := M.bind a fun x => M.bind r fun xs => ret (x :: xs)
theorem a_nil : PA X [] (A F W aNil) := pa_nil.mono fun σ H Q ⟨G, c, r, p⟩ => po_ret r p .nil
theorem a_cons {e : Expr} {es : List Expr} {m : M Dat} {ms : M (List Dat)} (h : PE X e (E F W m)) (hs : PA X es (A F W ms)) (h2 : starEach (e :: es) X.env = (false, eval e X.env) :: starEach es X.env := by rfl) : PA X (e :: es) (A F W (aCons m ms)) :=
  (pa_cons h hs h2).mono fun σ H Q h => sx_mono (sx_bind (R1 := RD F) h) fun x H1 ⟨a, G1, c1, r1, q, p⟩ => sx_mono (po_bind (R1 := RA F) r1 p) fun xs H2 ⟨as, G2, c2, r2, s2, q2, p2⟩ => po_ret r2 p2 (.cons (dp_mono s2 q) q2)
def many (l : List Dat) : Bool := decide (l.length ≤ 100000)
def tupD (l : List Dat) : M Dat := if many l then ret (.tuple l) else bad
def lstD (l : List Dat) : M RV := if many l then ret (.fr l) else bad
theorem many_sz {K : PySem.W.Frag} {G : Hp} {vs : List V} {l : List Dat} (h : many l = true) (q : RpA K G vs l) : vs.length ≤ sizeLine := by
  rw [dpAll_len q]
  exact Evl.sz_of (of_decide_eq_true h)
theorem e_tup {es : List Expr} {ms : M (List Dat)} {x1 pos} (h : PA X es (A F W ms)) : PE X (.Tuple es x1 pos) (E F W (M.bind ms tupD)) :=
  (pe_tup h).mono fun σ H Q h => sx_mono (sx_bind (R1 := RA F) h) fun xs H1 ⟨l, G1, c1, r1, q, p⟩ => by
    unfold tupD at p
    by_cases m : many l = true
    · rw [if_pos m] at p
      refine ⟨many_sz m q, fun a ha => ?_⟩
      obtain ⟨r2, s2⟩ := r1.laid (o := .tup xs) ha
      exact p _ _ _ r2 s2 (.tup (Evl.st_of upd_same) (dpAll_mono s2 q))
    · rw [if_neg m] at p
      exact p.elim
theorem e_lst {es : List Expr} {ms : M (List Dat)} {pos} (h : PA X es (A F W ms)) : PE X (.List es pos) (EX F W (M.bind ms lstD)) :=
  (pe_lst h).mono fun σ H Q h => sx_mono (sx_bind (R1 := RA F) h) fun xs H1 ⟨l, G1, c1, r1, q, p⟩ => by
    unfold lstD at p
    by_cases m : many l = true
    · rw [if_pos m] at p
      refine ⟨many_sz m q, fun a ha => ?_⟩
      obtain ⟨r2, z2⟩ := r1.lone ha q
      exact p _ _ _ r2 (Same.refl _) ⟨a, rfl, z2⟩
    · rw [if_neg m] at p
      exact p.elim
end
end Pn

namespace Pn
open L2 PyProof.Rows PySem.Spec PySem
section
variable {F : Fr} {W : L2.WX} {σ : L2.St} {H : Hp} {X : Cx}

/-! ### tests -/
def asB : Dat → M Bool
  | .bool b => ret b
  | _ => bad
def toB (m : M Dat) : M Bool := M.bind m asB
def ofB (m : M Bool) : M Dat := M.bind m fun b => ret (.bool b)
theorem t_val {e : Expr} {m : M Dat} (h : PE X e (E F W m)) (he : ∀ whole, isTrue e X.env whole = (do let v ← whole; standAt e.pos; holding [v] (truthy v)) := by intro _; rfl) : PT X e (B F W (toB m)) :=
  (pt_val h he).mono fun σ H Q h => sx_mono (sx_bind (R1 := RD F) h) fun x H1 ⟨a, G1, c1, r1, q, p⟩ => by
    cases q with
    | bl b => exact ⟨b, rfl, po_ret r1 p rfl⟩
    | _ => exact p.elim
def notB (m : M Bool) : M Bool := M.bind m fun b => ret (!b)
def andB (a b : M Bool) : M Bool := M.bind a fun x => if x = true then b else ret false
def orB (a b : M Bool) : M Bool := M.bind a fun x => if x = true then ret true else b
theorem t_not {a : Expr} {m : M Bool} {pos} (h : PT X a (B F W m)) : PT X (.UnaryOp .Not a pos) (B F W (notB m)) :=
  (pt_not h).mono fun σ H Q h => sx_mono (sx_bind (R1 := RB) h) fun x H1 ⟨a, G1, c1, r1, q, p⟩ => by
    cases q
    exact po_ret r1 p rfl
theorem w_and1 {a : Expr} {m : M Bool} {pos} (h : PT X a (B F W m)) : PW X (.BoolOp .And [a] pos) (B F W m) := pw_and1 h
theorem w_or1 {a : Expr} {m : M Bool} {pos} (h : PT X a (B F W m)) : PW X (.BoolOp .Or [a] pos) (B F W m) := pw_or1 h
theorem _root_.L2.PW.mono {X : Cx} {e : Expr} {t t' : TT} (h : PW X e t) (k : ∀ σ H Q, t' σ H Q → t σ H Q) : PW X e t' := ⟨fun whole pins s σ H Q I q => h.run whole pins s σ H Q I (k _ _ _ q)⟩
theorem w_and {a b : Expr} {rest : List Expr} {m n : M Bool} {pos} (h : PT X a (B F W m)) (k : PW X (.BoolOp .And (b :: rest) pos) (B F W n)) : PW X (.BoolOp .And (a :: b :: rest) pos) (B F W (andB m n)) :=
  (pw_and h k).mono fun σ H Q h => sx_mono (sx_bind (R1 := RB) h) fun x H1 ⟨a, G1, c1, r1, q, p⟩ => by
    cases q
    by_cases hx : x = true
    · rw [if_pos hx] at p ⊢
      exact ⟨G1, c1, r1, p⟩
    · rw [if_neg hx] at p ⊢
      exact po_ret r1 p rfl
theorem w_or {a b : Expr} {rest : List Expr} {m n : M Bool} {pos} (h : PT X a (B F W m)) (k : PW X (.BoolOp .Or (b :: rest) pos) (B F W n)) : PW X (.BoolOp .Or (a :: b :: rest) pos) (B F W (orB m n)) :=
  (pw_or h k).mono fun σ H Q h => sx_mono (sx_bind (R1 := RB) h) fun x H1 ⟨a, G1, c1, r1, q, p⟩ => by
    cases q
    by_cases hx : x = true
    · rw [if_pos hx] at p ⊢
      exact po_ret r1 p rfl
    · rw [if_neg hx] at p ⊢
      exact ⟨G1, c1, r1, p⟩
/-- the same as values, of bools -/
def andV (a b : M Dat) : M Dat := M.bind a fun x => M.bind (asB x) fun k => if k = true then b else ret (.bool false)
def orV (a b : M Dat) : M Dat := M.bind a fun x => M.bind (asB x) fun k => if k = true then ret (.bool true) else b
def notV (a : M Dat) : M Dat := M.bind a fun x => M.bind (asB x) fun k => ret (.bool (!k))
theorem e_one {op} {a : Expr} {m : M Dat} {pos} (h : PE X a (E F W m)) : PE X (.BoolOp op [a] pos) (E F W m) := pe_one h
theorem e_and {a b : Expr} {rest : List Expr} {m n : M Dat} {pos} (h : PE X a (E F W m)) (k : PE X (.BoolOp .And (b :: rest) pos) (E F W n)) : PE X (.BoolOp .And (a :: b :: rest) pos) (E F W (andV m n)) :=
  (pe_and h k).mono fun σ H Q h => sx_mono (sx_bind (R1 := RD F) h) fun x H1 ⟨a, G1, c1, r1, q, p⟩ => by
    cases q with
    | bl b =>
      refine ⟨b, rfl, ?_⟩
      cases b with
      | true => exact ⟨G1, c1, r1, p⟩
      | false => exact po_ret r1 p (.bl false)
    | _ => exact p.elim
theorem e_or {a b : Expr} {rest : List Expr} {m n : M Dat} {pos} (h : PE X a (E F W m)) (k : PE X (.BoolOp .Or (b :: rest) pos) (E F W n)) : PE X (.BoolOp .Or (a :: b :: rest) pos) (E F W (orV m n)) :=
  (pe_or h k).mono fun σ H Q h => sx_mono (sx_bind (R1 := RD F) h) fun x H1 ⟨a, G1, c1, r1, q, p⟩ => by
    cases q with
    | bl b =>
      refine ⟨b, rfl, ?_⟩
      cases b with
      | true => exact po_ret r1 p (.bl true)
      | false => exact ⟨G1, c1, r1, p⟩
    | _ => exact p.elim
theorem e_not {a : Expr} {m : M Dat} {pos} (h : PE X a (E F W m)) : PE X (.UnaryOp .Not a pos) (E F W (notV m)) :=
  (pe_not h).mono fun σ H Q h => sx_mono (sx_bind (R1 := RD F) h) fun x H1 ⟨a, G1, c1, r1, q, p⟩ => by
    cases q with
    | bl b => exact ⟨b, rfl, po_ret r1 p (.bl _)⟩
    | _ => exact p.elim
def ifE {α : Type} (c : M Bool) (a b : M α) : M α := M.bind c fun k => if k = true then a else b
theorem e_if {α : Type} {R : L2.St → Hp → Hp → Cfg → V → α → Prop} {c a b : Expr} {mc : M Bool} {ma mb : M α} {pos} (hc : PT X c (B F W mc)) (ha : PE X a (Sx F W R ma)) (hb : PE X b (Sx F W R mb)) : PE X (.IfExp c a b pos) (Sx F W R (ifE mc ma mb)) :=
  (pe_ifExp hc ha hb).mono fun σ H Q h => sx_mono (sx_bind (R1 := RB) h) fun x H1 ⟨a, G1, c1, r1, q, p⟩ => by
    cases q
    by_cases hx : x = true
    · rw [if_pos hx] at p ⊢
      exact ⟨G1, c1, r1, p⟩
    · rw [if_neg hx] at p ⊢
      exact ⟨G1, c1, r1, p⟩

/-! ### comparisons -/
theorem e_cmp {op : CmpOp} {a b : Expr} {ma mb : M Dat} {pos : Pos} {r : R2} {f : Dat → Dat → M Dat} (ho : OpR X (compareOp op) r)
    (hf : ∀ {G H : Hp} {c : Cfg} {x y : V} {d e : Dat} {Q : VK} {σ : L2.St}, Rel F G c σ H → Rp F.K G x d → Rp F.K G y e → Po F W σ (RD F) Q G (f d e c) → r x y H Q)
    (hm : behindInMarks op b = false) (ha : PE X a (E F W ma)) (hb : PE X b (E F W mb)) : PE X (.Compare a [op] [b] pos) (E F W (m2 f ma mb)) :=
  (pe_cmpR ho ha hb hm).mono fun σ H Q h => sx_mono (sx_bind2 h) fun x H1 h1 => sx_mono h1 fun y H2 ⟨d, e, G2, c2, r2, q1, q2, p⟩ => hf r2 q1 q2 p
def ltI := int2 fun i j => .bool (decide (i < j))
def leI := int2 fun i j => .bool (decide (i ≤ j))
def gtI := int2 fun i j => .bool (decide (j < i))
def geI := int2 fun i j => .bool (decide (j ≤ i))
def eqD (d e : Dat) : M Dat := if SeqAt.shaped d && SeqAt.shaped e then ret (.bool (PyData.eqv d e)) else bad
def neD (d e : Dat) : M Dat := if SeqAt.shaped d && SeqAt.shaped e then ret (.bool (!PyData.eqv d e)) else bad
theorem hf_eq (hK : F.K = X.K) {G H : Hp} {c : Cfg} {x y : V} {d e : Dat} {Q : VK} {σ : L2.St} (r : Rel F G c σ H) (h1 : Rp F.K G x d) (h2 : Rp F.K G y e) (p : Po F W σ (RD F) Q G (eqD d e c)) : rEqD X.K x y H Q := by
  unfold eqD at p
  by_cases o : (SeqAt.shaped d && SeqAt.shaped e) = true
  · rw [if_pos o] at p
    rw [Bool.and_eq_true] at o
    exact ⟨d, e, hK ▸ (dp_mono r.sub h1).dp, hK ▸ (dp_mono r.sub h2).dp, o.1, o.2, po_ret r p (.bl _)⟩
  · rw [if_neg o] at p
    exact p.elim
theorem hf_ne (hK : F.K = X.K) {G H : Hp} {c : Cfg} {x y : V} {d e : Dat} {Q : VK} {σ : L2.St} (r : Rel F G c σ H) (h1 : Rp F.K G x d) (h2 : Rp F.K G y e) (p : Po F W σ (RD F) Q G (neD d e c)) : rNeD X.K x y H Q := by
  unfold neD at p
  by_cases o : (SeqAt.shaped d && SeqAt.shaped e) = true
  · rw [if_pos o] at p
    rw [Bool.and_eq_true] at o
    exact ⟨d, e, hK ▸ (dp_mono r.sub h1).dp, hK ▸ (dp_mono r.sub h2).dp, o.1, o.2, po_ret r p (.bl _)⟩
  · rw [if_neg o] at p
    exact p.elim
section
variable {a b : Expr} {ma mb : M Dat} {pos : Pos}
theorem e_lt (ha : PE X a (E F W ma)) (hb : PE X b (E F W mb)) : PE X (.Compare a [.Lt] [b] pos) (E F W (m2 ltI ma mb)) := e_cmp op_lt (hf_int0 fun i j => .bl _) (nomark _) ha hb
theorem e_le (ha : PE X a (E F W ma)) (hb : PE X b (E F W mb)) : PE X (.Compare a [.LtE] [b] pos) (E F W (m2 leI ma mb)) := e_cmp op_le (hf_int0 fun i j => .bl _) (nomark _) ha hb
theorem e_gt (ha : PE X a (E F W ma)) (hb : PE X b (E F W mb)) : PE X (.Compare a [.Gt] [b] pos) (E F W (m2 gtI ma mb)) := e_cmp op_gt (hf_int0 fun i j => .bl _) (nomark _) ha hb
theorem e_ge (ha : PE X a (E F W ma)) (hb : PE X b (E F W mb)) : PE X (.Compare a [.GtE] [b] pos) (E F W (m2 geI ma mb)) := e_cmp op_ge (hf_int0 fun i j => .bl _) (nomark _) ha hb
theorem e_eq (hK : F.K = X.K) (hu : X.A.units + 64 < cLine) (ha : PE X a (E F W ma)) (hb : PE X b (E F W mb)) : PE X (.Compare a [.Eq] [b] pos) (E F W (m2 eqD ma mb)) := e_cmp (op_eqD hu) (hf_eq hK) (nomark _) ha hb
theorem e_ne (hK : F.K = X.K) (hu : X.A.units + 64 < cLine) (ha : PE X a (E F W ma)) (hb : PE X b (E F W mb)) : PE X (.Compare a [.NotEq] [b] pos) (E F W (m2 neD ma mb)) := e_cmp (op_neD hu) (hf_ne hK) (nomark _) ha hb
end

/-! ### rows: lists and tuples that are read -/
abbrev Row := Bool × List Dat
def RR (F : Fr) : L2.St → Hp → Hp → Cfg → V → Row → Prop := fun _ G H _ v r => ∃ a xs, v = .ref a ∧ (if r.1 = true then SqT F.K G a xs else H a = some (.lst xs)) ∧ RpA F.K G xs r.2
abbrev R_ (F : Fr) (W : L2.WX) (m : M Row) : TE := Sx F W (RR F) m
def rowOf : Dat → M Row
  | .tuple l => ret (true, l)
  | .list l => ret (false, l)
  | _ => bad
def rowD (m : M Dat) : M Row := M.bind m rowOf
def rowVar (i : Nat) : M Row := fun c => match c.r[i]? with
  | some (.sh d) => rowOf d c
  | some (.own l) => .ok (false, l) c
  | some (.io l) => .ok (false, l) c
  | _ => .bad
def rowX (m : M RV) : M Row := M.bind m fun v => match v with
  | .sh d => rowOf d
  | .fr l => ret (false, l)
theorem row_dp {G : Hp} {c : Cfg} {v : V} {d : Dat} {γ δ : Type} {R : L2.St → Hp → Hp → Cfg → δ → γ → Prop} {Q : δ → Hp → Prop} {f : Row → M γ} (r : Rel F G c σ H) (q : Rp F.K G v d) (p : Po F W σ R Q G (M.bind (rowOf d) f c)) :
    ∃ k, RR F σ G H c v k ∧ rowOf d c = .ok k c ∧ Po F W σ R Q G (f k c) := by
  cases q with
  | lst h k => exact ⟨(false, _), ⟨_, _, rfl, r.sub _ _ h, k⟩, rfl, p⟩
  | tup h k => exact ⟨(true, _), ⟨_, _, rfl, h, k⟩, rfl, p⟩
  | _ => exact p.elim
theorem po_row {G : Hp} {c : Cfg} {v : V} {d : Dat} {Q : VK} (r : Rel F G c σ H) (q : Rp F.K G v d) (p : Po F W σ (RR F) Q G (rowOf d c)) : Q v H := by
  cases q with
  | lst h k => exact po_ret r p ⟨_, _, rfl, r.sub _ _ h, k⟩
  | tup h k => exact po_ret r p ⟨_, _, rfl, h, k⟩
  | _ => exact p.elim
theorem r_data {e : Expr} {m : M Dat} (h : PE X e (E F W m)) : PE X e (R_ F W (rowD m)) := h.mono fun σ H Q h => sx_mono (sx_bind (R1 := RD F) h) fun x H1 ⟨a, G1, c1, r1, q, p⟩ => po_row r1 q p
theorem r_var {i : Nat} {x : Str} {pos : Pos} (hN : X.N[i]? = some x) (hv : Vis X.env.scope x) (hd : (x == ("__debug__" : Str)) = false) (hcd : (x == ("__classdict__" : Str)) = false) : PE X (.Name x pos) (R_ F W (rowVar i)) :=
  (pe_var hN hv hd hcd).mono fun σ H Q ⟨G, c, r, p⟩ => by
    unfold rowVar at p
    cases e : c.r[i]? with
    | none => rw [e] at p; exact p.elim
    | some s =>
      rw [e] at p
      cases s with
      | sh d =>
        obtain ⟨v, e2, q⟩ := r.sl i _ e
        exact ⟨v, e2, po_row r q p⟩
      | no => exact p.elim
      | own l =>
        obtain ⟨a, xs, e2, h1, h2, h3, h4⟩ := r.sl i _ e
        exact ⟨_, e2, po_ret r p ⟨a, xs, rfl, h1, h3⟩⟩
      | io l =>
        obtain ⟨xs, e2, h1, h2, h3, h4⟩ := r.sl i _ e
        exact ⟨_, e2, po_ret r p ⟨_, xs, rfl, h1, h3⟩⟩
      | st => exact p.elim
theorem r_new {e : Expr} {m : M RV} (h : PE X e (EX F W m)) : PE X e (R_ F W (rowX m)) := h.mono fun σ H Q h => sx_mono (sx_bind (R1 := RX F) h) fun x H1 ⟨a, G1, c1, r1, q, p⟩ => by
  cases a with
  | sh d => exact po_row r1 q p
  | fr l =>
    obtain ⟨a, rfl, xs, h1, h2, h3⟩ := q
    exact po_ret r1 p ⟨a, xs, rfl, h1, h2⟩

/-! ### calls of built-ins of one argument -/
theorem b_call1 {α β δ : Type} {R1 : L2.St → Hp → Hp → Cfg → V → α → Prop} {R : L2.St → Hp → Hp → Cfg → V → β → Prop} {m : M α} {f : α → M β} {id : String} {r : List V → Hp → VK → Prop} {x : Str} {a : Expr} {p pos : Pos} (hc : CallR X (.builtin id) r) (hg : Gl X x) (hm : X.mg x = none) (hv : bootBuiltins x = some (.builtin id))
    (hf : ∀ {G H : Hp} {c : Cfg} {v : V} {d : α} {Q : VK} {σ : L2.St}, Rel F G c σ H → R1 σ G H c v d → Po F W σ R Q G (f d c) → r [v] H Q) (ha : PE X a (Sx F W R1 m))
    (hn : x ≠ "__name__" := by decide) (hdb : (x == ("__debug__" : Str)) = false := by decide) (he : starEach [a] X.env = (false, eval a X.env) :: starEach [] X.env := by rfl) : PE X (.Call (.Name x p) [a] [] pos) (Sx F W R (M.bind m f)) :=
  (pe_callB hc hg hm hv (pa_cons ha pa_nil he) hn hdb he).mono fun σ H Q h => sx_mono (sx_bind (R1 := R1) h) fun x H1 ⟨a, G1, c1, r1, q, p⟩ => hf r1 q p
theorem t_call1 {α β δ : Type} {R1 : L2.St → Hp → Hp → Cfg → V → α → Prop} {R : L2.St → Hp → Hp → Cfg → V → β → Prop} {m : M α} {f : α → M β} {T : String} {r : List V → Hp → VK → Prop} {x : Str} {a : Expr} {p pos : Pos} (hc : CallR X (.type T) r) (hg : Gl X x) (hm : X.mg x = none) (hv : bootBuiltins x = some (.type T))
    (hf : ∀ {G H : Hp} {c : Cfg} {v : V} {d : α} {Q : VK} {σ : L2.St}, Rel F G c σ H → R1 σ G H c v d → Po F W σ R Q G (f d c) → r [v] H Q) (ha : PE X a (Sx F W R1 m))
    (hn : x ≠ "__name__" := by decide) (hdb : (x == ("__debug__" : Str)) = false := by decide) (he : starEach [a] X.env = (false, eval a X.env) :: starEach [] X.env := by rfl) : PE X (.Call (.Name x p) [a] [] pos) (Sx F W R (M.bind m f)) :=
  (pe_callTy hc hg hm hv (pa_cons ha pa_nil he) hn hdb he).mono fun σ H Q h => sx_mono (sx_bind (R1 := R1) h) fun x H1 ⟨a, G1, c1, r1, q, p⟩ => hf r1 q p
end
end Pn

namespace Pn
open L2 PyProof.Rows PySem.Spec PySem
section
variable {F : Fr} {W : L2.WX} {σ : L2.St} {H : Hp} {X : Cx}

/-! ### len, tuple, list, int, all, any of a row -/
theorem rr_or {K K' : PySem.W.Frag} {G H : Hp} {a : Addr} {xs : List V} {k : Bool} (hK : K = K') (s : Same G H) (h : if k = true then SqT K G a xs else H a = some (.lst xs)) : SqL K' H a xs ∨ SqT K' H a xs := by
  subst hK
  cases k with
  | true => exact .inr (sqT_mono s h)
  | false => exact .inl (Evl.sq_of h)
def lenR (r : Row) : M Dat := ret (.int (r.2.length : Nat))
theorem e_len {m : M Row} {a : Expr} {p pos : Pos} (hK : F.K = X.K) (hg : Gl X "len") (hm : X.mg "len" = none) (ha : PE X a (R_ F W m)) (he : starEach [a] X.env = (false, eval a X.env) :: starEach [] X.env := by rfl) : PE X (.Call (.Name "len" p) [a] [] pos) (E F W (M.bind m lenR)) :=
  b_call1 (δ := V) call_len_seq hg hm boot_len (fun {G H c v d Q σ} r ⟨a, xs, e, h, q⟩ p => ⟨a, xs, by rw [e], rr_or hK r.sub h, by
    have := po_ret (v := V.int (d.2.length : Nat)) r p (.int _)
    rw [dpAll_len q]
    exact this⟩) ha (by decide) (by decide) he
def tupR (r : Row) : M Dat := ret (.tuple r.2)
theorem e_tuple {m : M Row} {a : Expr} {p pos : Pos} (hK : F.K = X.K) (hg : Gl X "tuple") (hm : X.mg "tuple" = none) (ha : PE X a (R_ F W m)) (he : starEach [a] X.env = (false, eval a X.env) :: starEach [] X.env := by rfl) : PE X (.Call (.Name "tuple" p) [a] [] pos) (E F W (M.bind m tupR)) :=
  t_call1 (δ := V) call_tuple_of hg hm (by decide +kernel) (fun {G H c v d Q σ} r ⟨a, xs, e, h, q⟩ p => by
    refine ⟨a, xs, by rw [e], ?_⟩
    cases hd : d.1 with
    | true =>
      rw [hd, if_pos rfl] at h
      exact .inr ⟨hK ▸ sqT_mono r.sub h, po_ret r p (.tup h q)⟩
    | false =>
      rw [hd, if_neg Bool.false_ne_true] at h
      refine .inl ⟨Evl.sq_of h, fun l hl => ?_⟩
      obtain ⟨r2, s2⟩ := r.laid (o := .tup xs) hl
      exact p _ _ _ r2 s2 (.tup (Evl.st_of upd_same) (dpAll_mono s2 q))) ha (by decide) (by decide) he
def lstR (r : Row) : M RV := ret (.fr r.2)
theorem e_list {m : M Row} {a : Expr} {p pos : Pos} (hK : F.K = X.K) (hg : Gl X "list") (hm : X.mg "list" = none) (ha : PE X a (R_ F W m)) (he : starEach [a] X.env = (false, eval a X.env) :: starEach [] X.env := by rfl) : PE X (.Call (.Name "list" p) [a] [] pos) (EX F W (M.bind m lstR)) :=
  t_call1 (δ := V) call_list_of hg hm (by decide +kernel) (fun {G H c v d Q σ} r ⟨a, xs, e, h, q⟩ p => ⟨a, xs, by rw [e], rr_or hK r.sub h, fun l hl => by
    obtain ⟨r2, z2⟩ := r.lone hl q
    exact p _ _ _ r2 (Same.refl _) ⟨l, rfl, z2⟩⟩) ha (by decide) (by decide) he

def intR : Dat → M Dat
  | .int i => ret (.int i)
  | .bool k => ret (.int (if k then 1 else 0))
  | _ => bad
theorem e_intC {m : M Dat} {a : Expr} {p pos : Pos} (hg : Gl X "int") (hm : X.mg "int" = none) (ha : PE X a (E F W m)) (he : starEach [a] X.env = (false, eval a X.env) :: starEach [] X.env := by rfl) : PE X (.Call (.Name "int" p) [a] [] pos) (E F W (M.bind m intR)) :=
  t_call1 (δ := V) call_int1 hg hm (by decide +kernel) (fun {G H c v d Q σ} r q p => by
    cases q with
    | int i => exact .inl ⟨i, rfl, po_ret r p (.int _)⟩
    | bl b => exact .inr ⟨b, rfl, po_ret r p (.int _)⟩
    | _ => exact p.elim) ha (by decide) (by decide) he
/-- all items bools -/
def bools : List Dat → Option (List Bool)
  | [] => some []
  | .bool b :: r => (bools r).map (b :: ·)
  | _ => none
theorem bools_dp {K : PySem.W.Frag} {G : Hp} : ∀ {l : List Dat} {xs : List V} {bs : List Bool}, RpA K G xs l → bools l = some bs → xs = bs.map V.bl
  | [], _, _, .nil, e => by cases e; rfl
  | d :: l, _, bs, .cons h t, e => by
    cases h with
    | bl b =>
      unfold bools at e
      cases e2 : bools l with
      | none => rw [e2] at e; cases e
      | some cs =>
        rw [e2] at e
        cases e
        rw [bools_dp t e2]
        rfl
    | _ => simp [bools] at e
def allR (r : Row) : M Dat := match r.1, bools r.2 with
  | false, some bs => ret (.bool (bs.all id))
  | _, _ => bad
def anyR (r : Row) : M Dat := match r.1, bools r.2 with
  | false, some bs => ret (.bool (bs.any id))
  | _, _ => bad
theorem e_all {m : M Row} {a : Expr} {p pos : Pos} (hK : F.K = X.K) (hc : X.calm = true) (hg : Gl X "all") (hm : X.mg "all" = none) (ha : PE X a (R_ F W m)) (he : starEach [a] X.env = (false, eval a X.env) :: starEach [] X.env := by rfl) : PE X (.Call (.Name "all" p) [a] [] pos) (E F W (M.bind m allR)) :=
  b_call1 (δ := V) (cr_all hc) hg hm (by decide +kernel) (fun {G H c v d Q σ} r ⟨a, xs, e, h, q⟩ p => by
    obtain ⟨k, l⟩ := d
    unfold allR at p
    cases k with
    | true => exact p.elim
    | false =>
      cases eb : bools l with
      | none => simp only [eb] at p; exact p.elim
      | some bs =>
        simp only [eb] at p
        exact ⟨a, bs, by rw [e], by rw [← bools_dp q eb]; exact Evl.sq_of h, po_ret r p (.bl _)⟩) ha (by decide) (by decide) he
theorem e_any {m : M Row} {a : Expr} {p pos : Pos} (hK : F.K = X.K) (hc : X.calm = true) (hg : Gl X "any") (hm : X.mg "any" = none) (ha : PE X a (R_ F W m)) (he : starEach [a] X.env = (false, eval a X.env) :: starEach [] X.env := by rfl) : PE X (.Call (.Name "any" p) [a] [] pos) (E F W (M.bind m anyR)) :=
  b_call1 (δ := V) (cr_any hc) hg hm (by decide +kernel) (fun {G H c v d Q σ} r ⟨a, xs, e, h, q⟩ p => by
    obtain ⟨k, l⟩ := d
    unfold anyR at p
    cases k with
    | true => exact p.elim
    | false =>
      cases eb : bools l with
      | none => simp only [eb] at p; exact p.elim
      | some bs =>
        simp only [eb] at p
        exact ⟨a, bs, by rw [e], by rw [← bools_dp q eb]; exact Evl.sq_of h, po_ret r p (.bl _)⟩) ha (by decide) (by decide) he

/-! ### isinstance of a datum and a built-in class -/
def tyN : Dat → String
  | .tuple _ => "tuple" | .list _ => "list" | .int _ => "int"
  | .str _ => "str" | .bool _ => "bool" | .dict _ => "dict"
  | .none => "NoneType"
def isTy (d : Dat) (T : String) : Bool := tyN d == T || (tyN d == "bool" && T == "int")
theorem kit5 : ∀ a ∈ (["NoneType", "bool", "int", "str", "list", "tuple"] : List String), ∀ T ∈ (["bool", "int", "str", "list", "tuple"] : List String), kitB a T = some (a == T || (a == "bool" && T == "int")) := by decide +kernel
theorem tyX_dp {K : PySem.W.Frag} {G : Hp} {v : V} {d : Dat} (h : Rp K G v d) : TyX K G v (.type (tyN d)) ∧ tyN d ∈ (["NoneType", "bool", "int", "str", "list", "tuple"] : List String) := by
  cases h with
  | non => exact ⟨.base .non, by decide⟩
  | bl b => exact ⟨.base (.bl b), by show "bool" ∈ _; decide⟩
  | int i => exact ⟨.base (.int i), by show "int" ∈ _; decide⟩
  | str x => exact ⟨.base (.str x), by show "str" ∈ _; decide⟩
  | lst h k =>
    refine ⟨?_, by show "list" ∈ _; decide⟩
    exact .base (.lst h)
  | tup h k =>
    refine ⟨?_, by show "tuple" ∈ _; decide⟩
    rcases h with (h | ⟨o, h⟩) | ⟨o, its, n, h1, h2, _⟩
    · exact .base (.tup h)
    · exact .fTuple h
    · exact .kTuple h1 h2
def isiR (T : String) (d : Dat) : M Dat := ret (.bool (isTy d T))
theorem e_isi {m : M Dat} {a : Expr} {T : Str} {T' : String} {p p2 pos : Pos} (hK : F.K = X.K) (hg : Gl X "isinstance") (hm : X.mg "isinstance" = none) (hgT : Gl X T) (hmT : X.mg T = none) (hvT : bootBuiltins T = some (.type T')) (hT : T' ∈ (["bool", "int", "str", "list", "tuple"] : List String)) (hnT : T ≠ "__name__") (hdT : (T == ("__debug__" : Str)) = false)
    (ha : PE X a (E F W m)) (he : starEach [a, .Name T p2] X.env = (false, eval a X.env) :: starEach [.Name T p2] X.env := by rfl) (he2 : starEach [.Name T p2] X.env = (false, eval (.Name T p2) X.env) :: starEach [] X.env := by rfl)
    (hpl : (backTo pos (starEach [.Name T p2] X.env)).any (·.1) = false := by rfl) : PE X (.Call (.Name "isinstance" p) [a, .Name T p2] [] pos) (E F W (M.bind m (isiR T'))) :=
  (pe_callB call_isi hg hm (by decide +kernel) (pa_cons ha (pa_cons (pe_bltn hgT hmT hvT (v := .ty T') rfl hnT hdT) pa_nil he2) he) (by decide) (by decide) he hpl).mono fun σ H Q h => sx_mono (sx_bind (R1 := RD F) h) fun x H1 ⟨d, G1, c1, r1, q, p⟩ => by
    obtain ⟨t1, t2⟩ := tyX_dp (dp_mono r1.sub q)
    exact ⟨x, .ty T', _, _, isTy d T', rfl, .ty T', hK ▸ t1, kit_ty (kit5 _ t2 _ hT), po_ret r1 p (.bl _)⟩

/-! ### items -/
def ixR (r : Row) (k : Dat) : M Dat := match k with
  | .int i => match atI r.2 i with
    | some d => ret d
    | none => bad
  | _ => bad
theorem atI_dp {K : PySem.W.Frag} {G : Hp} {xs : List V} {l : List Dat} {i : Int} {d : Dat} (q : RpA K G xs l) (e : atI l i = some d) : ∃ v, atI xs i = some v ∧ Rp K G v d := by
  unfold atI at e ⊢
  rw [dpAll_len q]
  cases e2 : ixN l.length i with
  | none => rw [e2] at e; cases e
  | some j =>
    rw [e2] at e
    exact dpAll_get q e
theorem hf_ix (hK : F.K = X.K) {G : Hp} {c : Cfg} {x y : V} {k : Row} {e : Dat} {Q : VK} (r : Rel F G c σ H) (h1 : RR F σ G H c x k) (h2 : Rp F.K G y e) (p : Po F W σ (RD F) Q G (ixR k e c)) : (fun x y H Q => rIxL X.K x y H Q ∨ rIxT X.K x y H Q : R2) x y H Q := by
  obtain ⟨a, xs, rfl, h, q⟩ := h1
  cases h2 with
  | int i =>
    unfold ixR at p
    cases e2 : atI k.2 i with
    | none => simp only [e2] at p; exact p.elim
    | some d =>
      simp only [e2] at p
      obtain ⟨v, ev, qv⟩ := atI_dp q e2
      rcases rr_or hK r.sub h with h | h
      · exact .inl ⟨a, xs, i, v, rfl, rfl, h, ev, po_ret r p qv⟩
      · exact .inr ⟨a, xs, i, v, rfl, rfl, h, ev, po_ret r p qv⟩
  | _ => exact p.elim
theorem ix_lt : IxR X (fun x y H Q => rIxL X.K x y H Q ∨ rIxT X.K x y H Q) := ix_list.or ix_tup
/-- d[k] of a datum -/
def ixD (a b : M Dat) : M Dat := M.bind a fun x => M.bind b fun y => M.bind (rowOf x) fun k => ixR k y
theorem e_ix {a b : Expr} {ma mb : M Dat} {pos : Pos} (hK : F.K = X.K) (ha : PE X a (E F W ma)) (hb : PE X b (E F W mb)) (hs : PlainIx b := by intro _ _; rfl) : PE X (.Subscript a b pos) (E F W (ixD ma mb)) :=
  (pe_ix ix_lt ha hb hs).mono fun σ H Q h => sx_mono (sx_bind2 h) fun x H1 h1 => sx_mono h1 fun y H2 ⟨d, e, G2, c2, r2, q1, q2, p⟩ => by
    obtain ⟨k, z1, z2, z3⟩ := row_dp (W := W) r2 q1 p
    exact hf_ix hK r2 z1 q2 z3
theorem rowOf_at {G : Hp} {c c' : Cfg} {v : V} {d : Dat} {k : Row} (r : Rel F G c σ H) (q : Rp F.K G v d) (e : rowOf d c = .ok k c') : c' = c ∧ RR F σ G H c v k := by
  cases q with
  | lst h q2 => cases e; exact ⟨rfl, _, _, rfl, r.sub _ _ h, q2⟩
  | tup h q2 => cases e; exact ⟨rfl, _, _, rfl, h, q2⟩
  | _ => cases e
theorem rowVar_at {G : Hp} {c c' : Cfg} {i : Nat} {k : Row} (r : Rel F G c σ H) (e : rowVar i c = .ok k c') : c' = c ∧ ∃ v, σ[i]? = some (some v) ∧ RR F σ G H c v k := by
  unfold rowVar at e
  cases es : c.r[i]? with
  | none => rw [es] at e; cases e
  | some s =>
    rw [es] at e
    cases s with
    | sh d =>
      obtain ⟨v, e2, q⟩ := r.sl i _ es
      obtain ⟨e3, q3⟩ := rowOf_at r q e
      exact ⟨e3, v, e2, q3⟩
    | no => cases e
    | own l =>
      obtain ⟨a, xs, e2, h1, h2, h3, h4⟩ := r.sl i _ es
      cases e
      exact ⟨rfl, _, e2, a, xs, rfl, h1, h3⟩
    | io l =>
      obtain ⟨xs, e2, h1, h2, h3, h4⟩ := r.sl i _ es
      cases e
      exact ⟨rfl, _, e2, _, xs, rfl, h1, h3⟩
    | st => cases e
theorem rowVar_no {i : Nat} {c c' : Cfg} {k : Nat} {d : Dat} : rowVar i c ≠ .exc k d c' := fun e => by
  unfold rowVar at e
  cases es : c.r[i]? with
  | none => rw [es] at e; cases e
  | some s =>
    rw [es] at e
    cases s with
    | sh d => cases d <;> cases e
    | no => cases e
    | own l => cases e
    | io l => cases e
    | st => cases e
/-- x[k] of a slot's row, as it stands behind k -/
def ixV (i : Nat) (b : M Dat) : M Dat := M.bind (rowVar i) fun _ => M.bind b fun y => M.bind (rowVar i) fun k => ixR k y
/-- a slot's row, then the rest -/
theorem po_rowVar {γ δ : Type} {R : L2.St → Hp → Hp → Cfg → δ → γ → Prop} {Q : δ → Hp → Prop} {G : Hp} {c : Cfg} {i : Nat} {f : Row → M γ} (r : Rel F G c σ H) (p : Po F W σ R Q G (M.bind (rowVar i) f c)) :
    ∃ k v, σ[i]? = some (some v) ∧ RR F σ G H c v k ∧ Po F W σ R Q G (f k c) := by
  unfold M.bind at p
  cases e : rowVar i c with
  | ok k c' =>
    rw [e] at p
    obtain ⟨rfl, v, e2, q⟩ := rowVar_at r e
    exact ⟨k, v, e2, q, p⟩
  | exc k d c' => exact absurd e rowVar_no
  | bad => rw [e] at p; exact p.elim
theorem e_ixV {i : Nat} {x : Str} {b : Expr} {mb : M Dat} {p pos : Pos} (hK : F.K = X.K) (hN : X.N[i]? = some x) (hv : Vis X.env.scope x) (hd : (x == ("__debug__" : Str)) = false) (hcd : (x == ("__classdict__" : Str)) = false) (hb : PE X b (E F W mb)) (hs : PlainIx b := by intro _ _; rfl) :
    PE X (.Subscript (.Name x p) b pos) (E F W (ixV i mb)) :=
  (pe_ix ix_lt (pe_var hN hv hd hcd) hb hs).mono fun σ H Q ⟨G, c, r, p⟩ => by
    obtain ⟨_, v, e2, _, p⟩ := po_rowVar r p
    refine ⟨v, e2, sx_mono (po_bind (R1 := RD F) r p) fun y H2 ⟨k, G2, c2, r2, s2, q2, p2⟩ => ?_⟩
    obtain ⟨k2, v2, e3, q3, p3⟩ := po_rowVar r2 p2
    rw [e2] at e3
    cases e3
    exact hf_ix hK r2 q3 q2 p3

/-! ### slices -/
/-- xs[lo:hi] -/
def cutL (xs : List Dat) (lo hi : Option Int) : List Dat := (xs.drop (HT.sIx xs.length 0 lo)).take (HT.sIx xs.length xs.length hi - HT.sIx xs.length 0 lo)
theorem dpAll_take {K : PySem.W.Frag} {G : Hp} : ∀ {vs : List V} {ds : List Dat} (n : Nat), RpA K G vs ds → RpA K G (vs.take n) (ds.take n)
  | _, _, 0, _ => .nil
  | _, _, _ + 1, .nil => .nil
  | _, _, n + 1, .cons h t => .cons h (dpAll_take n t)
theorem dpAll_drop {K : PySem.W.Frag} {G : Hp} : ∀ {vs : List V} {ds : List Dat} (n : Nat), RpA K G vs ds → RpA K G (vs.drop n) (ds.drop n)
  | _, _, 0, h => h
  | _, _, _ + 1, .nil => .nil
  | _, _, n + 1, .cons _ t => dpAll_drop n t
theorem cut_dp {K : PySem.W.Frag} {G : Hp} {vs : List V} {ds : List Dat} (lo hi : Option Int) (q : RpA K G vs ds) : RpA K G (cutV vs lo hi) (cutL ds lo hi) := by
  unfold cutV cutL
  rw [dpAll_len q]
  exact dpAll_take _ (dpAll_drop _ q)
end
end Pn

namespace Pn
open L2 PyProof.Rows PySem.Spec PySem

/-! ### statements -/
inductive Ctl where
  | nx | rt (v : RV) | bk | ct
section
variable {F : Fr} {W : L2.WX} {σ : L2.St} {H : Hp} {X : Cx} {D : Ends}
def Ps (F : Fr) (W : L2.WX) (D : Ends) (G : Hp) : Res Ctl → Prop
  | .ok .nx c' => ∀ σ' G' H', Rel F G' c' σ' H' → Same G G' → D.nx σ' H'
  | .ok (.rt v) c' => ∀ x σ' G' H', Rel F G' c' σ' H' → RX F σ' G' H' c' x v → D.rt x H'
  | .ok .bk c' => ∀ σ' G' H', Rel F G' c' σ' H' → Same G G' → D.bk σ' H'
  | .ok .ct c' => ∀ σ' G' H', Rel F G' c' σ' H' → Same G G' → D.ct σ' H'
  | .exc k d c' => ∀ ad v σ' G' H', Rel F G' c' σ' H' → H' ad = some (.xd [(F.C.fld k, v)]) → Rp F.K G' v d → W (F.C.at_ k) (some ad) σ' H'
  | .bad => False
def T (F : Fr) (W : L2.WX) (m : M Ctl) : TS := fun D σ H => ∃ G c, Rel F G c σ H ∧ Ps F W D G (m c)
theorem Ps.up {G G' : Hp} {r : Res Ctl} (s : Same G G') (p : Ps F W D G r) : Ps F W D G' r := by
  cases r with
  | ok a c =>
    cases a with
    | nx => exact fun σ' G2 H' r2 s2 => p σ' G2 H' r2 (s.trans s2)
    | rt v => exact p
    | bk => exact fun σ' G2 H' r2 s2 => p σ' G2 H' r2 (s.trans s2)
    | ct => exact fun σ' G2 H' r2 s2 => p σ' G2 H' r2 (s.trans s2)
  | exc k d c => exact p
  | bad => exact p
theorem ps_bind {α β : Type} {R1 : L2.St → Hp → Hp → Cfg → β → α → Prop} {m : M α} {f : α → M Ctl} {G : Hp} {c : Cfg} (r : Rel F G c σ H) (p : Ps F W D G (M.bind m f c)) :
    Sx F W R1 m σ H (fun x H1 => ∃ a G1 c1, Rel F G1 c1 σ H1 ∧ Same G G1 ∧ R1 σ G1 H1 c1 x a ∧ Ps F W D G1 (f a c1)) := by
  refine ⟨G, c, r, ?_⟩
  unfold M.bind at p
  cases e : m c with
  | ok a c' =>
    rw [e] at p
    exact fun v G' H' r' s' q => ⟨a, G', c', r', s', q, p.up s'⟩
  | exc k d c' =>
    rw [e] at p
    exact fun ad v G' H' r' _ h q => p ad v σ G' H' r' h q
  | bad =>
    rw [e] at p
    exact p
/-- one statement, then the others -/
def seq (a b : M Ctl) : M Ctl := fun c => match a c with
  | .ok .nx c' => b c'
  | r => r
theorem ss_cons {st : Stmt} {rest : List Stmt} {m n : M Ctl} (h : PS X st (T F W m)) (k : PSs X rest (T F W n)) : PSs X (st :: rest) (T F W (seq m n)) :=
  (pss_cons h k).mono fun D σ H ⟨G, c, r, p⟩ => by
    refine ⟨G, c, r, ?_⟩
    unfold seq at p
    cases e : m c with
    | ok a c' =>
      rw [e] at p
      cases a with
      | nx => exact fun σ' G' H' r' s' => ⟨G', c', r', p.up s'⟩
      | rt v => exact p
      | bk => exact p
      | ct => exact p
    | exc k d c' => rw [e] at p; exact p
    | bad => rw [e] at p; exact p
theorem ss_one {st : Stmt} {m : M Ctl} (h : PS X st (T F W m)) : PSs X [st] (T F W m) := pss_one h
theorem ss_nil : PSs X [] (T F W (ret .nx)) := pss_nil.mono fun D σ H ⟨G, c, r, p⟩ => p σ G H r (Same.refl _)
def retS (m : M RV) : M Ctl := M.bind m fun v => ret (.rt v)
theorem s_ret {e : Expr} {m : M RV} {pos} (h : PE X e (EX F W m)) : PS X (.Return (some e) pos) (T F W (retS m)) :=
  (ps_ret h).mono fun D σ H ⟨G, c, r, p⟩ => sx_mono (ps_bind (R1 := RX F) r p) fun x H1 ⟨a, G1, c1, r1, s1, q, p1⟩ => p1 x σ G1 H1 r1 q
/-- return x, x a slot that holds a list of its own: it goes out -/
def outV (i : Nat) : M RV := fun c => match c.r[i]? with
  | some (.sh d) => .ok (.sh d) c
  | some (.own l) => .ok (.fr l) { c with r := c.r.set i .no }
  | _ => .bad
theorem get_set {α : Type} {l : List α} {i j : Nat} {a b : α} (h : (l.set i a)[j]? = some b) : (i = j ∧ b = a ∧ i < l.length) ∨ (i ≠ j ∧ l[j]? = some b) := by
  by_cases hj : i = j
  · subst hj
    have hl : i < l.length := by
      have z := (List.getElem?_eq_some_iff.mp h).1
      rw [List.length_set] at z
      exact z
    rw [List.getElem?_set_self hl] at h
    cases h
    exact .inl ⟨rfl, rfl, hl⟩
  · rw [List.getElem?_set_ne hj] at h
    exact .inr ⟨hj, h⟩
theorem Rel.drop {G : Hp} {c : Cfg} {i : Nat} (r : Rel F G c σ H) : Rel F G { c with r := c.r.set i .no } σ H :=
  { sub := r.sub, g0 := r.g0, fresh := r.fresh, keep := r.keep, len := by rw [← r.len]; exact List.length_set, mu0 := r.mu0, st0 := r.st0, dom := r.dom, st := r.st, pin := r.pin, tabs := r.tabs
    sl := fun j s e => by
      rcases get_set e with ⟨_, rfl, _⟩ | ⟨_, e⟩
      · trivial
      · exact r.sl j s e
    inj := fun j k l l' e1 e2 => by
      rcases get_set e1 with ⟨_, z, _⟩ | ⟨_, e1⟩
      · cases z
      · rcases get_set e2 with ⟨_, z, _⟩ | ⟨_, e2⟩
        · cases z
        · exact r.inj j k l l' e1 e2
    ioj := fun j k l l' e1 e2 => by
      rcases get_set e1 with ⟨_, z, _⟩ | ⟨_, e1⟩
      · cases z
      · rcases get_set e2 with ⟨_, z, _⟩ | ⟨_, e2⟩
        · cases z
        · exact r.ioj j k l l' e1 e2 }
theorem e_out {i : Nat} {x : Str} {pos : Pos} (hN : X.N[i]? = some x) (hv : Vis X.env.scope x) (hd : (x == ("__debug__" : Str)) = false) (hcd : (x == ("__classdict__" : Str)) = false) : PE X (.Name x pos) (EX F W (outV i)) :=
  (pe_var hN hv hd hcd).mono fun σ H Q ⟨G, c, r, p⟩ => by
    unfold outV at p
    cases e : c.r[i]? with
    | none => rw [e] at p; exact p.elim
    | some s =>
      rw [e] at p
      cases s with
      | sh d =>
        obtain ⟨v, e2, q⟩ := r.sl i _ e
        exact ⟨v, e2, po_ret r p q⟩
      | no => exact p.elim
      | own l =>
        obtain ⟨a, xs, e2, h1, h2, h3, h4, h5⟩ := r.sl i _ e
        refine ⟨_, e2, p _ G H r.drop (Same.refl _) ⟨a, rfl, xs, h1, h3, h2, h4, fun j l' e5 e6 => ?_, h5⟩⟩
        rcases get_set e5 with ⟨_, z, _⟩ | ⟨n1, e5⟩
        · cases z
        · exact n1 (r.inj i j l l' e e5 (e2.trans e6.symm))
      | io l => exact p.elim
      | st => exact p.elim
/-- a value goes into a slot -/
def slOf : RV → Sl
  | .sh d => .sh d
  | .fr l => .own l
def asg (i : Nat) (v : RV) : M Ctl := fun c => match c.r[i]? with
  | some (.io _) => .bad
  | some .st => .bad
  | none => .bad
  | some _ => .ok .nx { c with r := c.r.set i (slOf v) }
theorem Rel.put {G : Hp} {c : Cfg} {i : Nat} {x : V} {v : RV} (r : Rel F G c σ H) (q : RX F σ G H c x v) : Rel F G { c with r := c.r.set i (slOf v) } (σ.set i (some x)) H :=
  { sub := r.sub, g0 := r.g0, fresh := r.fresh, keep := r.keep, len := by simp only [List.length_set]; exact r.len, mu0 := r.mu0, st0 := r.st0, dom := r.dom, st := r.st, pin := r.pin, tabs := r.tabs
    sl := fun j s e => by
      rcases get_set e with ⟨rfl, rfl, hl⟩ | ⟨hj, e⟩
      · have hs : (σ.set i (some x))[i]? = some (some x) := by
          rw [List.getElem?_set_self (by rw [← r.len]; exact hl)]
        rw [hs]
        cases v with
        | sh d => exact ⟨x, rfl, q⟩
        | fr l =>
          obtain ⟨p, rfl, xs, h1, h2, h3, h4, _, h5⟩ := q
          exact ⟨p, xs, rfl, h1, h3, h2, h4, h5⟩
      · rw [List.getElem?_set_ne hj]
        exact r.sl j s e
    inj := fun j k l l' e1 e2 e3 => by
      rcases get_set e1 with ⟨h1, h2, h3⟩ | ⟨h1, h2⟩
      · rcases get_set e2 with ⟨k1, k2, k3⟩ | ⟨k1, k2⟩
        · exact h1.symm.trans k1
        · exfalso
          subst h1
          rw [List.getElem?_set_self (by rw [← r.len]; exact h3), List.getElem?_set_ne k1] at e3
          cases v with
          | sh d => cases h2
          | fr l2 =>
            obtain ⟨p, rfl, xs, _, _, _, _, hno, _⟩ := q
            exact hno k _ k2 e3.symm
      · rcases get_set e2 with ⟨k1, k2, k3⟩ | ⟨k1, k2⟩
        · exfalso
          subst k1
          rw [List.getElem?_set_self (by rw [← r.len]; exact k3), List.getElem?_set_ne h1] at e3
          cases v with
          | sh d => cases k2
          | fr l2 =>
            obtain ⟨p, rfl, xs, _, _, _, _, hno, _⟩ := q
            exact hno j _ h2 e3
        · rw [List.getElem?_set_ne h1, List.getElem?_set_ne k1] at e3
          exact r.inj j k l l' h2 k2 e3
    ioj := fun j k l l' e1 e2 => by
      rcases get_set e1 with ⟨h1, h2, h3⟩ | ⟨h1, h2⟩
      · cases v <;> cases h2
      · rcases get_set e2 with ⟨k1, k2, k3⟩ | ⟨k1, k2⟩
        · cases v <;> cases k2
        · exact r.ioj j k l l' h2 k2 }
theorem ps_asg_ok {G : Hp} {c : Cfg} {i : Nat} {x : V} {v : RV} (r : Rel F G c σ H) (q : RX F σ G H c x v) (p : Ps F W D G (asg i v c)) : D.nx (σ.set i (some x)) H := by
  unfold asg at p
  cases e : c.r[i]? with
  | none => rw [e] at p; exact p.elim
  | some s =>
    rw [e] at p
    cases s with
    | io l => exact p.elim
    | st => exact p.elim
    | no => exact p _ G H (r.put q) (Same.refl _)
    | sh d => exact p _ G H (r.put q) (Same.refl _)
    | own l => exact p _ G H (r.put q) (Same.refl _)
theorem s_asg {i : Nat} {x : Str} {e : Expr} {m : M RV} {pos pos' : Pos} (hN : X.N.Nodup) (hi : X.N[i]? = some x) (hx : Loc X.env.scope x) (h : PE X e (EX F W m)) (hs : swapsWith e (some (.Name x pos')) pos.line X.env = pure false := by rfl)
    (hf : X.fn x = true ∨ X.env.scope.names.lookup x = some .local := by first | exact .inl rfl | exact .inr rfl) : PS X (.Assign [.Name x pos'] e pos) (T F W (M.bind m (asg i))) :=
  (ps_set hN hi hx h hs hf).mono fun D σ H ⟨G, c, r, p⟩ => sx_mono (ps_bind (R1 := RX F) r p) fun x H1 ⟨a, G1, c1, r1, s1, q, p1⟩ => ps_asg_ok r1 q p1
def ifS (c : M Bool) (a b : M Ctl) : M Ctl := M.bind c fun k => if k = true then a else b
theorem s_if {c : Expr} {a b : List Stmt} {mc : M Bool} {ma mb : M Ctl} {pos} (hc : PT X c (B F W mc)) (ha : PSs X a (T F W ma)) (hb : PSs X b (T F W mb)) : PS X (.If c a b pos) (T F W (ifS mc ma mb)) :=
  (ps_if hc ha hb).mono fun D σ H ⟨G, c, r, p⟩ => sx_mono (ps_bind (R1 := RB) r p) fun x H1 ⟨a, G1, c1, r1, s1, q, p1⟩ => by
    cases q
    by_cases hx : x = true
    · rw [if_pos hx] at p1 ⊢
      exact ⟨G1, c1, r1, p1⟩
    · rw [if_neg hx] at p1 ⊢
      exact ⟨G1, c1, r1, p1⟩
def dropS {α : Type} (m : M α) : M Ctl := M.bind m fun _ => ret .nx
theorem s_expr {α : Type} {R : L2.St → Hp → Hp → Cfg → V → α → Prop} {e : Expr} {m : M α} {pos} (h : PE X e (Sx F W R m)) (hs : swapsWith e none pos.line X.env = pure false := by rfl) : PS X (.Expr e pos) (T F W (dropS m)) :=
  (ps_expr h hs).mono fun D σ H ⟨G, c, r, p⟩ => sx_mono (ps_bind (R1 := R) r p) fun x H1 ⟨a, G1, c1, r1, s1, q, p1⟩ => p1 σ G1 H1 r1 (Same.refl _)
end
end Pn

set_option maxHeartbeats 1000001
namespace Pn
open L2 PyProof.Rows PySem.Spec PySem

/-! ### what a def of data promises -/
inductive PR where
  | ok (v : RV) | exc (k : Nat) (d : Dat) | bad
structure After (G H G' H' : Hp) : Prop where
  g : Same G G'
  sub : Same G' H'
  h : Same H H'
  new : ∀ b, G' b ≠ none → G b ≠ none ∨ H b = none
def Ret (K : PySem.W.Frag) (H G' H' : Hp) (x : V) : RV → Prop
  | .sh d => Rp K G' x d
  | .fr l => ∃ p xs, x = .ref p ∧ H' p = some (.lst xs) ∧ RpA K G' xs l ∧ G' p = none ∧ H p = none
def spP (K : PySem.W.Frag) (C : Cls) (n : Nat) (f : List Dat → PR) : Sp := fun vs H Q E => ∃ G ds, Same G H ∧ RpA K G vs ds ∧ ds.length = n ∧ match f ds with
  | .ok v => ∀ x G' H', After G H G' H' → Ret K H G' H' x v → Q x H'
  | .exc k d => ∀ ad v G' H', After G H G' H' → H' ad = some (.xd [(C.fld k, v)]) → Rp K G' v d → E (C.at_ k) (some ad) H'
  | .bad => False
def initR (n : Nat) (ds : List Dat) : List Sl := ds.map Sl.sh ++ List.replicate (n - ds.length) Sl.no
/-- a body run: n slots -/
def runP (n : Nat) (m : M Ctl) (ds : List Dat) : PR := match m ⟨initR n ds, ⟨[], [], 0⟩⟩ with
  | .ok .nx _ => .ok (.sh .none)
  | .ok (.rt v) _ => .ok v
  | .ok _ _ => .bad
  | .exc k d _ => .exc k d
  | .bad => .bad
def frP (K : PySem.W.Frag) (C : Cls) (G H : Hp) : Fr := ⟨K, C, 0, 0, 0, false, fun _ => 0, [], G, H, [], []⟩
section
variable {F : Fr} {W : L2.WX} {σ : L2.St} {H : Hp} {X : Cx} {D : Ends}
theorem Rel.after {G : Hp} {c : Cfg} {G' H' : Hp} (r : Rel F G c σ H) (a : After G H G' H') : Rel F G' c σ H' := by
  have hn : ∀ (b : Addr) (o : HO), H b = some o → G b = none → G' b = none := fun b o e1 e2 => by
    cases e : G' b with
    | none => rfl
    | some u =>
      rcases a.new b (by rw [e]; simp) with z | z
      · exact absurd e2 z
      · rw [z] at e1
        cases e1
  exact { tabs := r.tabs.move (fun b u e _ => a.h _ _ e) (fun b u e _ g => hn b u e g), sub := a.sub, g0 := r.g0.trans a.g, len := r.len, inj := r.inj, ioj := r.ioj, mu0 := r.mu0, st0 := r.st0
          fresh := fun b e => (a.new b e).elim (r.fresh b) fun z => .inr (r.old z)
          keep := fun b o e h1 h2 => a.h _ _ (r.keep b o e h1 h2)
          sl := fun i s e => (r.sl i s e).move a.g (fun l b xs _ _ q1 q2 _ => ⟨a.h _ _ q1, hn b _ q1 q2⟩) (fun l xs _ q1 q2 _ => ⟨a.h _ _ q1, hn _ _ q1 q2⟩)
          st := fun hu => by
            obtain ⟨h1, h2, h3, g1, g2, g3, h4⟩ := r.st hu
            exact ⟨a.h _ _ h1, a.h _ _ h2, a.h _ _ h3, hn _ _ h1 g1, hn _ _ h2 g2, hn _ _ h3 g3, h4⟩
          pin := fun b hb => by
            obtain ⟨k1, k2, k3⟩ := r.pin b hb
            exact ⟨a.h _ _ k1, hn _ _ k1 k2, k3⟩
          dom := fun b e z => by
            cases e2 : H b with
            | none => exact r.dom b e e2
            | some u =>
              rw [a.h _ _ e2] at z
              cases z }
theorem Ret.rx {G : Hp} {c : Cfg} {G' H' : Hp} {x : V} {v : RV} (r : Rel F G c σ H) (a : After G H G' H') (q : Ret F.K H G' H' x v) : RX F σ G' H' c x v := by
  cases v with
  | sh d => exact q
  | fr l =>
    obtain ⟨p, xs, e, h1, h2, h3, h4⟩ := q
    refine ⟨p, e, xs, h1, h2, h3, r.old h4, fun i l' e5 e6 => ?_, fun b hb z => ?_⟩
    · obtain ⟨b, ys, e7, e8, _⟩ := r.own_ne e5
      rw [e7] at e6
      cases e6
      rw [h4] at e8
      cases e8
    · have k1 := (r.pin b hb).1
      rw [← z, h4] at k1
      cases k1
def callP (f : List Dat → PR) (ds : List Dat) : M RV := fun c => match f ds with
  | .ok v => .ok v c
  | .exc k d => .exc k d c
  | .bad => .bad
theorem e_call {k n : Nat} {f : Addr} {fd : FuncData} {ps : List Str} {g : List Dat → PR} {x : Str} {p pos : Pos} {e : Expr} {es : List Expr} {ms : M (List Dat)} (hK : F.K = X.K) (hn : ps.length = n) (Fk : FnOk X.prog X.w X.K X.mg X.base (L2.CX X.prog X.w) k f fd ps (spP X.K F.C n g)) (hr : Room k X.A) (hg : Gl X x) (hm : X.mg x = some (.ref f)) (hk : PySem.W.keepIn X.K (.ref f) = true)
    (hb : Binds X.K fd ps []) (tk : Takes X W) (ha : PA X (e :: es) (A F W ms)) (hlen : (e :: es).length = n) (hdb : (x == ("__debug__" : Str)) = false := by decide) (he : starEach (e :: es) X.env = (false, eval e X.env) :: starEach es X.env := by rfl) (hpl : (backTo pos (starEach es X.env)).any (·.1) = false := by rfl) :
    PE X (.Call (.Name x p) (e :: es) [] pos) (EX F W (M.bind ms fun ds => if ds.length = n then callP g ds else bad)) :=
  (pe_callS Fk hr hg hm hk hb (fun σ => passAt tk σ) ha hdb he hpl).mono fun σ H Q h => sx_mono (sx_bind (R1 := RA F) h) fun vs H1 ⟨ds, G1, c1, r1, q, p⟩ => by
    by_cases hl : ds.length = n
    · rw [if_pos hl] at p
      refine ⟨G1, ds, r1.sub, hK ▸ q, hl, ?_⟩
      unfold callP at p
      cases e : g ds with
      | ok v =>
        rw [e] at p
        exact fun x G' H' a z => p x G' H' (r1.after a) a.g (Ret.rx r1 a (hK ▸ z))
      | exc k d =>
        rw [e] at p
        exact fun ad v G' H' a z1 z2 => p ad v G' H' (r1.after a) a.g z1 (hK ▸ z2)
      | bad =>
        rw [e] at p
        exact p
    · rw [if_neg hl] at p
      exact p.elim
/-! ### a def's body -/
theorem dpAll_sh {K : PySem.W.Frag} {C : Cls} {G H : Hp} : ∀ {vs : List V} {ds : List Dat} {n : Nat}, RpA K G vs ds → ∀ (i : Nat) (s : Sl), (initR n ds)[i]? = some s → SlOk (frP K C G H) G H i s ((vs.map some ++ List.replicate (n - vs.length) none)[i]?)
  | vs, ds, n, q, i, s, e => by
    unfold initR at e
    by_cases hi : i < ds.length
    · rw [List.getElem?_append_left (by rw [List.length_map]; exact hi), List.getElem?_map] at e
      cases e2 : ds[i]? with
      | none => rw [e2] at e; cases e
      | some d =>
        rw [e2] at e
        cases e
        obtain ⟨v, e3, q3⟩ := dpAll_get q e2
        refine ⟨v, ?_, q3⟩
        rw [List.getElem?_append_left (by rw [List.length_map, dpAll_len q]; exact hi), List.getElem?_map, e3]
        rfl
    · rw [List.getElem?_append_right (by rw [List.length_map]; omega)] at e
      obtain ⟨h1, h2⟩ := List.getElem?_eq_some_iff.mp e
      rw [List.getElem_replicate] at h2
      subst h2
      trivial
theorem init_no {n : Nat} {ds : List Dat} {i : Nat} {s : Sl} (e : (initR n ds)[i]? = some s) : (∃ d, s = .sh d) ∨ s = .no := by
  unfold initR at e
  have m := List.mem_of_getElem? e
  rcases List.mem_append.mp m with m | m
  · obtain ⟨d, _, z⟩ := List.mem_map.mp m
    exact .inl ⟨d, z.symm⟩
  · exact .inr (List.eq_of_mem_replicate m)
theorem rel_init {K : PySem.W.Frag} {C : Cls} {G H : Hp} {vs : List V} {ds : List Dat} {n : Nat} {N : List Str} {s : DS} (hs : Same G H) (q : RpA K G vs ds) (hN : N.length = n) (hl : ds.length ≤ n) : Rel (frP K C G H) G ⟨initR n ds, s⟩ (L2.start N vs) H :=
  { sub := hs, g0 := Same.refl _, fresh := fun b e => .inl e, keep := fun b o e _ _ => e
    len := by
      show (initR n ds).length = (vs.map some ++ List.replicate (N.length - vs.length) none).length
      unfold initR
      simp only [List.length_append, List.length_map, List.length_replicate, dpAll_len q, hN]
    sl := fun i s e => by
      have := dpAll_sh (C := C) (H := H) q i s e
      rw [← hN] at this
      exact this
    inj := fun i j l l' e1 _ _ => by
      rcases init_no e1 with ⟨d, z⟩ | z <;> cases z
    ioj := fun i j l l' e1 _ _ => by
      rcases init_no e1 with ⟨d, z⟩ | z <;> cases z
    st := fun z => nomatch z
    mu0 := fun b z => nomatch z
    st0 := fun b z => nomatch z
    dom := fun b e => e
    pin := fun b z => nomatch z
    tabs := fun b z => nomatch z }
theorem Rel.aft {K : PySem.W.Frag} {C : Cls} {G0 H0 G H : Hp} {c : Cfg} (r : Rel (frP K C G0 H0) G c σ H) : After G0 H0 G H :=
  ⟨r.g0, r.sub, fun b o e => r.keep b o e (by intro z; cases z) (by intro z; cases z), r.fresh⟩
theorem fn_pure {P : Program} {w : World} {K : PySem.W.Frag} {mg : Str → Option Value} {base : Heap} {x qual : Str} {st : Stmt} {f : Addr} {fd : FuncData} {N ps : List Str} {k : Nat} {C : Cls} {m : M Ctl} (Fn : Fun K x qual st f fd) (S : FnScope N ps (defScope st)) (hps : ps.length ≤ N.length)
    (hb : ∀ (G0 H0 : Hp) (cdv : Value) (A : Around) (outer : List Env) (s : Shared) (E : XK), Room k (A.deeper (envOfC qual (defScope st) s.heap.objs.size f cdv)) →
      PSs (cxOf (L2.CX P w) P w K mg base N qual (defScope st) f cdv A outer s H0 E) (defBody st) (T (frP K C G0 H0) (fun cls d _ H => E cls d H) m)) :
    FnOk P w K mg base (L2.CX P w) (k + 1) f fd ps (spP K C ps.length (runP N.length m)) := by
  refine Fn.okX S (fun vs H Q E h => ?_) (fun cdv A outer s H vs Q E hr h => ?_)
  · obtain ⟨G, ds, _, q, hl, _⟩ := h
    rw [dpAll_len q, hl]
  · obtain ⟨G, ds, hs, q, hl, z⟩ := h
    refine ⟨_, hb G H cdv A outer s E hr, G, ⟨initR N.length ds, ⟨[], [], 0⟩⟩, rel_init hs q rfl (by rw [hl]; exact hps), ?_⟩
    unfold runP at z
    cases e : m ⟨initR N.length ds, ⟨[], [], 0⟩⟩ with
    | ok a c =>
      rw [e] at z
      cases a with
      | nx => exact fun σ' G' H' r' _ => z .non G' H' r'.aft .non
      | rt v => exact fun x σ' G' H' r' q' => z x G' H' r'.aft (by
          cases v with
          | sh d => exact q'
          | fr l =>
            obtain ⟨p, e1, xs, h1, h2, h3, h4, _⟩ := q'
            exact ⟨p, xs, e1, h1, h2, h3, h4⟩)
      | bk => exact z.elim
      | ct => exact z.elim
    | exc j d c =>
      rw [e] at z
      exact fun ad v σ' G' H' r' h1 h2 => z ad v G' H' r'.aft h1 h2
    | bad =>
      rw [e] at z
      exact z
end
end Pn

set_option maxHeartbeats 1000001
namespace Pn
open L2 PyProof.Rows PySem.Spec PySem

/-! ### targets -/
def put (i : Nat) (d : Dat) (c : Cfg) : Option Cfg := match c.r[i]? with
  | some (.io _) => none
  | some .st => none
  | none => none
  | some _ => some { c with r := c.r.set i (.sh d) }
section
variable {F : Fr} {W : L2.WX} {σ : L2.St} {H : Hp} {X : Cx} {D : Ends}
theorem wipe_set {x : Option V} : ∀ {vs : List Nat} {σ : L2.St} {i : Nat}, i ∈ vs → wipe (σ.set i x) vs = wipe σ vs := by
  have out : ∀ (vs : List Nat) (σ : L2.St) (i : Nat) (x : Option V), (wipe (σ.set i x) vs).set i none = (wipe σ vs).set i none := by
    intro vs
    induction vs with
    | nil => intro σ i x; show ((σ.set i x).set i none) = σ.set i none; rw [List.set_set]
    | cons v vs ih =>
      intro σ i x
      show ((wipe (σ.set i x) vs).set v none).set i none = ((wipe σ vs).set v none).set i none
      by_cases h : v = i
      · subst h
        rw [List.set_set, List.set_set, ih]
      · rw [List.set_comm _ _ h, ih, List.set_comm _ _ h]
  intro vs
  induction vs with
  | nil => intro σ i h; cases h
  | cons v vs ih =>
    intro σ i h
    show (wipe (σ.set i x) vs).set v none = (wipe σ vs).set v none
    by_cases e : i = v
    · subst e
      exact out vs σ i x
    · rw [ih ((List.mem_cons.mp h).resolve_left e)]
/-- a target of assignments: the slots that it stores, what it makes of a datum -/
def GOk (F : Fr) (g : TG) (is : List Nat) (b : Dat → Cfg → Option Cfg) : Prop := ∀ (G : Hp) (c c' : Cfg) (σ : L2.St) (H : Hp) (x : V) (d : Dat) (Q : L2.St → Hp → Prop), Rel F G c σ H → Rp F.K G x d → b d c = some c' →
  (∀ σ2, Rel F G c' σ2 H → (∀ vs : List Nat, (∀ i ∈ is, i ∈ vs) → wipe σ2 vs = wipe σ vs) → Q σ2 H) → g x σ H Q
def GsOk (F : Fr) (g : TGs) (is : List Nat) (b : List Dat → Cfg → Option Cfg) : Prop := ∀ (G : Hp) (c c' : Cfg) (σ : L2.St) (H : Hp) (xs : List V) (ds : List Dat) (Q : L2.St → Hp → Prop), Rel F G c σ H → RpA F.K G xs ds → b ds c = some c' →
  (∀ σ2, Rel F G c' σ2 H → (∀ vs : List Nat, (∀ i ∈ is, i ∈ vs) → wipe σ2 vs = wipe σ vs) → Q σ2 H) → g xs σ H Q
def Tgt (X : Cx) (F : Fr) (tg : Expr) (is : List Nat) (b : Dat → Cfg → Option Cfg) : Prop := ∃ g, PG X tg g ∧ GOk F g is b
def TgtS (X : Cx) (F : Fr) (ts : List Expr) (is : List Nat) (b : List Dat → Cfg → Option Cfg) : Prop := ∃ g, PGs X ts g ∧ GsOk F g is b
theorem put_rel {G : Hp} {c c' : Cfg} {i : Nat} {x : V} {d : Dat} (r : Rel F G c σ H) (q : Rp F.K G x d) (e : put i d c = some c') : Rel F G c' (σ.set i (some x)) H := by
  unfold put at e
  cases es : c.r[i]? with
  | none => rw [es] at e; cases e
  | some s =>
    rw [es] at e
    cases s with
    | io l => cases e
    | st => cases e
    | no => cases e; exact r.put (v := .sh d) q
    | sh d2 => cases e; exact r.put (v := .sh d) q
    | own l => cases e; exact r.put (v := .sh d) q
theorem gok_name {i : Nat} : GOk F (gName i) [i] (put i) := fun G c c' σ H x d Q r q e k => k _ (put_rel r q e) fun vs hv => wipe_set (hv i (by simp))
theorem tg_name {i : Nat} {x : Str} {pos : Pos} (hN : X.N.Nodup) (hi : X.N[i]? = some x) (hx : Loc X.env.scope x) (hf : X.fn x = true ∨ X.env.scope.names.lookup x = some .local) : Tgt X F (.Name x pos) [i] (put i) :=
  ⟨gName i, pg_name hN hi hx hf, gok_name⟩
def putNil : List Dat → Cfg → Option Cfg := fun ds c => match ds with
  | [] => some c
  | _ => none
def putCons (b : Dat → Cfg → Option Cfg) (r : List Dat → Cfg → Option Cfg) : List Dat → Cfg → Option Cfg := fun ds c => match ds with
  | d :: ds => (b d c).bind fun c1 => r ds c1
  | _ => none
def putTup (n : Nat) (r : List Dat → Cfg → Option Cfg) : Dat → Cfg → Option Cfg := fun d c => match d with
  | .tuple l => if l.length = n then r l c else none
  | _ => none
theorem gsok_nil : GsOk F gNil [] putNil := fun G c c' σ H xs ds Q r q e k => by
  cases q with
  | nil =>
    cases e
    exact ⟨rfl, k σ r fun vs _ => rfl⟩
  | cons _ _ => cases e
theorem gsok_cons {g : TG} {g2 : TGs} {is js : List Nat} {b : Dat → Cfg → Option Cfg} {r : List Dat → Cfg → Option Cfg} (k : GOk F g is b) (k2 : GsOk F g2 js r) : GsOk F (gCons g g2) (is ++ js) (putCons b r) := fun G c c' σ H xs ds Q rl q e z => by
  cases q with
  | nil => cases e
  | @cons v vs d ds q1 q2 =>
    simp only [putCons] at e
    cases e1 : b d c with
    | none => rw [e1] at e; cases e
    | some c1 =>
      rw [e1] at e
      refine ⟨v, vs, rfl, k G c c1 σ H v d _ rl q1 e1 fun σ1 r1 w1 => ?_⟩
      exact k2 G c1 c' σ1 H vs ds _ r1 q2 e fun σ2 r2 w2 => z σ2 r2 fun vs hv => (w2 vs fun i hi => hv i (List.mem_append_right _ hi)).trans (w1 vs fun i hi => hv i (List.mem_append_left _ hi))
theorem gok_tup {K : PySem.W.Frag} {g : TGs} {n : Nat} {is : List Nat} {r : List Dat → Cfg → Option Cfg} (hK : F.K = K) (z : GsOk F g is r) : GOk F (gTup K n g) is (putTup n r) := fun G c c' σ H x d Q rl q e k => by
  cases q with
  | tup h q =>
    simp only [putTup] at e
    split at e
    · rename_i hl
      exact ⟨_, _, rfl, hK ▸ sqT_mono rl.sub h, (dpAll_len q).trans hl, z G c c' σ H _ _ Q rl q e k⟩
    · cases e
  | _ => cases e
theorem tgs_nil : TgtS X F [] [] putNil := ⟨gNil, pgs_nil, gsok_nil⟩
theorem tgs_cons {t : Expr} {ts : List Expr} {is js : List Nat} {b : Dat → Cfg → Option Cfg} {r : List Dat → Cfg → Option Cfg} (h1 : Tgt X F t is b) (h2 : TgtS X F ts js r)
    (hs : (assignEach (t :: ts) X.env).map (·.2) = assign t X.env :: (assignEach ts X.env).map (·.2) := by rfl) : TgtS X F (t :: ts) (is ++ js) (putCons b r) := by
  obtain ⟨g, p, k⟩ := h1
  obtain ⟨g2, p2, k2⟩ := h2
  exact ⟨gCons g g2, pgs_cons p p2 hs, gsok_cons k k2⟩
theorem tg_tup {ts : List Expr} {k n : Nat} {pos : Pos} {is : List Nat} {r : List Dat → Cfg → Option Cfg} (hK : F.K = X.K) (hc : X.calm = true) (h : TgtS X F ts is r) (hn : (assignEach ts X.env).length = n := by rfl) (hst : (assignEach ts X.env).findIdx? (·.1) = none := by rfl) : Tgt X F (.Tuple ts k pos) is (putTup n r) := by
  obtain ⟨g, p, z⟩ := h
  exact ⟨gTup X.K n g, pg_tup hc p hn hst, gok_tup hK z⟩

/-! ### what is walked -/
def Src (K : PySem.W.Frag) (G : Hp) (J : It) (items : List Dat) : Prop := ∀ (F : Fr) (G' : Hp) (c : Cfg) (σ : L2.St) (H : Hp), F.K = K → Same G G' → Rel F G' c σ H →
  J.stop items.length H ∧ ∀ (i : Nat) (d : Dat), items[i]? = some d → J.go i H ∧ ∀ x H', J.yld i H x H' → ∃ G'', Rel F G'' c σ H' ∧ Same G' G'' ∧ Rp K G'' x d
theorem Src.up {K : PySem.W.Frag} {G G' : Hp} {J : It} {items : List Dat} (s : Same G G') (h : Src K G J items) : Src K G' J items := fun F G2 c σ H e s2 r => h F G2 c σ H e (s.trans s2) r
theorem src_list {K : PySem.W.Frag} {G : Hp} {a : Addr} {xs : List V} {items : List Dat} (h : G a = some (.lst xs)) (q : RpA K G xs items) : Src K G (Itl K a) items := fun F G' c σ H e s r => by
  have hq : SqL K H a xs := Evl.sq_of (r.sub _ _ (s _ _ h))
  refine ⟨⟨xs, hq, Nat.le_of_eq (dpAll_len q)⟩, fun i d ed => ?_⟩
  obtain ⟨v, ev, qv⟩ := dpAll_get q ed
  refine ⟨⟨xs, v, hq, ev⟩, fun x H' ⟨e1, e2⟩ => ?_⟩
  subst e1
  have := (e2 xs hq).symm.trans ev
  cases this
  exact ⟨G', r, Same.refl _, dp_mono s qv⟩
theorem src_tup {K : PySem.W.Frag} {G : Hp} {a : Addr} {xs : List V} {items : List Dat} (h : SqT K G a xs) (q : RpA K G xs items) : Src K G (Itt K a) items := fun F G' c σ H e s r => by
  have hq : SqT K H a xs := sqT_mono (s.trans r.sub) h
  refine ⟨⟨xs, hq, Nat.le_of_eq (dpAll_len q)⟩, fun i d ed => ?_⟩
  obtain ⟨v, ev, qv⟩ := dpAll_get q ed
  refine ⟨⟨xs, v, hq, ev⟩, fun x H' ⟨e1, e2⟩ => ?_⟩
  subst e1
  have := (e2 xs hq).symm.trans ev
  cases this
  exact ⟨G', r, Same.refl _, dp_mono s qv⟩
def numL (lo : Int) (n : Nat) : List Dat := (List.range n).map fun i : Nat => PyData.int (lo + (i : Int))
theorem numL_get {lo : Int} {n i : Nat} {d : Dat} (e : (numL lo n)[i]? = some d) : i < n ∧ d = .int (lo + i) := by
  unfold numL at e
  rw [List.getElem?_map] at e
  cases e2 : (List.range n)[i]? with
  | none => rw [e2] at e; cases e
  | some j =>
    rw [e2] at e
    cases e
    obtain ⟨h1, h2⟩ := List.getElem?_eq_some_iff.mp e2
    rw [List.getElem_range] at h2
    subst h2
    rw [List.length_range] at h1
    exact ⟨h1, rfl⟩
theorem src_range {K : PySem.W.Frag} {G : Hp} {lo : Int} {n : Nat} : Src K G (Itr lo n) (numL lo n) := fun F G' c σ H e s r => by
  refine ⟨by show n ≤ _; unfold numL; simp, fun i d ed => ?_⟩
  obtain ⟨h1, rfl⟩ := numL_get ed
  refine ⟨h1, fun x H' ⟨e1, e2⟩ => ?_⟩
  subst e1
  subst e2
  exact ⟨G', r, Same.refl _, .int _⟩
def RS (F : Fr) : L2.St → Hp → Hp → Cfg → It → List Dat → Prop := fun _ G _ _ J items => Src F.K G J items
abbrev I_ (F : Fr) (W : L2.WX) (m : M (List Dat)) : TI := Sx F W (RS F) m
theorem _root_.L2.PI.mono {X : Cx} {tg e : Expr} {t t' : TI} (h : PI X tg e t) (k : ∀ σ H Q, t' σ H Q → t σ H Q) : PI X tg e t' := ⟨fun pins s σ H Q I q => h.run pins s σ H Q I (k _ _ _ q)⟩
def itL : Dat → M (List Dat)
  | .list l => ret l
  | _ => bad
def itT : Dat → M (List Dat)
  | .tuple l => ret l
  | _ => bad
/-- a list that is a datum, walked -/
theorem i_list {tg e : Expr} {m : M Dat} (hK : F.K = X.K) (h : PE X e (E F W m)) : PI X tg e (I_ F W (M.bind m itL)) :=
  (pi_list h).mono fun σ H Q h => sx_mono (sx_bind (R1 := RD F) h) fun x H1 ⟨d, G1, c1, r1, q, p⟩ => by
    cases q with
    | lst h q => exact ⟨_, rfl, ⟨_, Evl.sq_of (r1.sub _ _ h)⟩, hK ▸ po_ret (v := Itl F.K _) r1 p (src_list h q)⟩
    | _ => exact p.elim
theorem i_tup {tg e : Expr} {m : M Dat} (hK : F.K = X.K) (h : PE X e (E F W m)) : PI X tg e (I_ F W (M.bind m itT)) :=
  (pi_tup h).mono fun σ H Q h => sx_mono (sx_bind (R1 := RD F) h) fun x H1 ⟨d, G1, c1, r1, q, p⟩ => by
    cases q with
    | tup h q => exact ⟨_, rfl, ⟨_, hK ▸ sqT_mono r1.sub h⟩, hK ▸ po_ret (v := Itt F.K _) r1 p (src_tup h q)⟩
    | _ => exact p.elim
def itR : List Dat → M (List Dat)
  | [.int j] => if -(2 ^ 62) ≤ j ∧ j < 2 ^ 62 then ret (numL 0 j.toNat) else bad
  | _ => bad
theorem i_range {tg a : Expr} {m : M Dat} {p pos : Pos} (hg : Gl X "range") (hm : X.mg "range" = none) (h : PE X a (E F W m)) (hs : starEach [a] X.env = [(false, eval a X.env)] := by rfl) : PI X tg (.Call (.Name "range" p) [a] [] pos) (I_ F W (M.bind (aCons m aNil) itR)) :=
  (pi_range1 hg hm (a_cons h a_nil hs) hs).mono fun σ H Q h => sx_mono (sx_bind (R1 := RA F) h) fun xs H1 ⟨ds, G1, c1, r1, q, p⟩ => by
    cases q with
    | nil => exact p.elim
    | @cons v vs d ds q1 q2 =>
      cases q2 with
      | cons _ _ => cases d <;> exact p.elim
      | nil =>
        cases q1 with
        | int j =>
          unfold itR at p
          by_cases hj : -(2 ^ 62) ≤ j ∧ j < 2 ^ 62
          · simp only [hj, and_self, if_true] at p
            exact ⟨j, rfl, hj.1, hj.2, po_ret (v := Itr 0 j.toNat) r1 p src_range⟩
          · simp only [hj, if_false] at p
            exact p.elim
        | _ => exact p.elim

/-! ### for -/
def forL (b : Dat → Cfg → Option Cfg) (body : M Ctl) : List Dat → M Ctl
  | [] => ret .nx
  | d :: ds => fun c => match b d c with
    | none => .bad
    | some c1 => match body c1 with
      | .ok .nx c2 => forL b body ds c2
      | .ok .ct c2 => forL b body ds c2
      | .ok .bk c2 => .ok .nx c2
      | r => r
theorem s_for {tg iter : Expr} {body : List Stmt} {mi : M (List Dat)} {is : List Nat} {b : Dat → Cfg → Option Cfg} {mb : M Ctl} {pos : Pos} (hp : PassesOwn (model X.prog X.w) X.A X.env X.xe) (hc : X.calm = true) (hi : PI X tg iter (I_ F W mi)) (ht : Tgt X F tg is b) (hb : PSs X body (T F W mb))
    (hs : ∀ x, foldedSetIterable iter X.env x = pure x := by intro _; rfl) : PS X (.For tg iter body [] pos) (T F W (M.bind mi fun items => forL b mb items)) := by
  obtain ⟨g, pg, kg⟩ := ht
  refine (ps_for hp hc hi pg hb hs).mono fun D σ H ⟨G, c, r, p⟩ => sx_mono (ps_bind (R1 := RS F) r p) fun J H1 ⟨items, G1, c1, r1, s1, src, p1⟩ => ?_
  refine ⟨fun i m σ H => m = items.length - i ∧ i ≤ items.length ∧ ∃ G' c', Same G1 G' ∧ Rel F G' c' σ H ∧ Ps F W D G' (forL b mb (items.drop i) c'), ⟨_, rfl, Nat.zero_le _, G1, c1, Same.refl _, r1, p1⟩, ?_⟩
  rintro i m σ H ⟨rfl, hi, G', c', s', r', p'⟩
  obtain ⟨k1, k2⟩ := src F G' c' σ H rfl s' r'
  by_cases hlt : i < items.length
  · obtain ⟨go, yl⟩ := k2 i items[i] (List.getElem?_eq_getElem hlt)
    refine .inr ⟨go, fun σ' H' => ∃ G2 c2, Same G1 G2 ∧ Rel F G2 c2 σ' H' ∧ Ps F W D G2 (forL b mb (items.drop (i + 1)) c2), fun σ' H' ⟨G2, c2, s2, r2, p2⟩ => ⟨items.length - (i + 1), by omega, rfl, hlt, G2, c2, s2, r2, p2⟩, fun x H' y => ?_⟩
    obtain ⟨G2, r2, s2, q2⟩ := yl x H' y
    rw [List.drop_eq_getElem_cons hlt] at p'
    unfold forL at p'
    cases eb : b items[i] c' with
    | none => simp only [eb] at p'; exact p'.elim
    | some c2 =>
      simp only [eb] at p'
      refine kg G2 c' c2 σ H' x _ _ r2 q2 eb fun σ2 r3 _ => ⟨G2, c2, r3, ?_⟩
      cases em : mb c2 with
      | ok a c3 =>
        simp only [em] at p'
        cases a with
        | nx => exact fun σ' G3 H3 r4 s4 => ⟨G3, c3, (s'.trans s2).trans s4, r4, p'.up (s2.trans s4)⟩
        | ct => exact fun σ' G3 H3 r4 s4 => ⟨G3, c3, (s'.trans s2).trans s4, r4, p'.up (s2.trans s4)⟩
        | bk => exact fun σ' G3 H3 r4 s4 => p' σ' G3 H3 r4 (s2.trans s4)
        | rt v => exact p'
      | exc k d c3 => simp only [em] at p'; exact p'
      | bad => simp only [em] at p'; exact p'.elim
  · have e : i = items.length := by omega
    subst e
    rw [List.drop_length] at p'
    exact .inl ⟨k1, p' σ G' H r' (Same.refl _)⟩

/-! ### comprehensions -/
def Fr.pn (F : Fr) (ps : List (Addr × HO)) : Fr := { F with pins := ps }
def clr : List Nat → List Sl → List Sl
  | [], r => r
  | v :: vs, r => (clr vs r).set v .no
theorem clr_len (r : List Sl) : ∀ vs : List Nat, (clr vs r).length = r.length
  | [] => rfl
  | v :: vs => by unfold clr; rw [List.length_set, clr_len r vs]
theorem clr_out {j : Nat} {r : List Sl} : ∀ {vs : List Nat}, j ∉ vs → (clr vs r)[j]? = r[j]?
  | [], _ => rfl
  | v :: vs, h => by
    unfold clr
    have hv : v ≠ j := fun e => h (by rw [e]; exact List.mem_cons_self)
    rw [List.getElem?_set_ne hv, clr_out fun m => h (List.mem_cons_of_mem _ m)]
theorem clr_in {j : Nat} {r : List Sl} {s : Sl} : ∀ {vs : List Nat}, j ∈ vs → (clr vs r)[j]? = some s → s = .no
  | [], h, _ => by cases h
  | v :: vs, h, e => by
    unfold clr at e
    rcases get_set e with ⟨_, rfl, _⟩ | ⟨n, e⟩
    · rfl
    · exact clr_in ((List.mem_cons.mp h).resolve_left fun z => n z.symm) e
theorem wipe_out {j : Nat} {σ : L2.St} : ∀ {vs : List Nat}, j ∉ vs → (wipe σ vs)[j]? = σ[j]?
  | [], _ => rfl
  | v :: vs, h => by
    unfold wipe
    have hv : v ≠ j := fun e => h (by rw [e]; exact List.mem_cons_self)
    rw [List.getElem?_set_ne hv, wipe_out fun m => h (List.mem_cons_of_mem _ m)]
theorem wipe_wipe (σ : L2.St) : ∀ vs ws : List Nat, (∀ v ∈ ws, v ∈ vs) → wipe (wipe σ ws) vs = wipe σ vs
  | vs, [], _ => rfl
  | vs, w :: ws, h => by
    show wipe ((wipe σ ws).set w none) vs = wipe σ vs
    rw [wipe_set (h w List.mem_cons_self), wipe_wipe σ vs ws fun v hv => h v (List.mem_cons_of_mem _ hv)]
/-- slots that are wiped -/
theorem Rel.wiped {G : Hp} {c : Cfg} (r : Rel F G c σ H) (vs : List Nat) : Rel F G { c with r := clr vs c.r } (wipe σ vs) H :=
  { sub := r.sub, g0 := r.g0, fresh := r.fresh, keep := r.keep, len := by rw [wipe_length, ← r.len]; exact clr_len _ _, mu0 := r.mu0, st0 := r.st0, dom := r.dom, st := r.st, pin := r.pin, tabs := r.tabs
    sl := fun j s e => by
      by_cases h : j ∈ vs
      · rw [clr_in h e]
        trivial
      · rw [clr_out h] at e
        rw [wipe_out h]
        exact r.sl j s e
    inj := fun j k l l' e1 e2 e3 => by
      have n1 : j ∉ vs := fun h => by have := clr_in h e1; cases this
      have n2 : k ∉ vs := fun h => by have := clr_in h e2; cases this
      rw [clr_out n1] at e1
      rw [clr_out n2] at e2
      rw [wipe_out n1, wipe_out n2] at e3
      exact r.inj j k l l' e1 e2 e3
    ioj := fun j k l l' e1 e2 => by
      have n1 : j ∉ vs := fun h => by have := clr_in h e1; cases this
      have n2 : k ∉ vs := fun h => by have := clr_in h e2; cases this
      rw [clr_out n1] at e1
      rw [clr_out n2] at e2
      exact r.ioj j k l l' e1 e2 }
theorem Lone.wiped {G : Hp} {c : Cfg} {p : Addr} {l : List Dat} (z : Lone F σ G H c p l) (vs : List Nat) : Lone F (wipe σ vs) G H { c with r := clr vs c.r } p l := by
  obtain ⟨xs, h1, h2, h3, h4, h5, h6⟩ := z
  refine ⟨xs, h1, h2, h3, h4, fun j l' e => ?_, h6⟩
  have n1 : j ∉ vs := fun h => by have := clr_in h e; cases this
  rw [wipe_out n1]
  exact h5 j l' ((clr_out n1).symm.trans e)
/-- a lone list is pinned meanwhile -/
theorem Rel.pinned {G : Hp} {c : Cfg} {p : Addr} {xs : List V} {l : List Dat} (r : Rel F G c σ H) (z : Lone F σ G H c p l) (hx : H p = some (.lst xs)) : Rel (F.pn ((p, .lst xs) :: F.pins)) G c σ H := by
  obtain ⟨ys, h1, h2, h3, h4, h5, h6⟩ := z
  exact { tabs := r.tabs, sub := r.sub, g0 := r.g0, fresh := r.fresh, keep := r.keep, len := r.len, mu0 := r.mu0, st0 := r.st0, dom := r.dom, st := r.st, inj := r.inj, ioj := r.ioj
          pin := fun q hq => by
            obtain rfl | hq := List.mem_cons.mp hq
            · exact ⟨hx, h3, h4⟩
            · exact r.pin q hq
          sl := fun j s e => by
            have k := r.sl j s e
            cases s with
            | no => trivial
            | sh d => exact k
            | own l' =>
              obtain ⟨a, zs, e1, e2, e3, e4, e5, e6⟩ := k
              refine ⟨a, zs, e1, e2, e3, e4, e5, fun q hq => ?_⟩
              obtain rfl | hq := List.mem_cons.mp hq
              · exact fun ea => h5 j l' e (e1.trans (congrArg (fun z => some (some (V.ref z))) ea))
              · exact e6 q hq
            | io l' => exact k
            | st => exact k }
theorem Rel.unpin {G : Hp} {c : Cfg} {p : Addr} {xs : List V} {l : List Dat} (r : Rel (F.pn ((p, .lst xs) :: F.pins)) G c σ H) (q : RpA F.K G xs l) (hp : ∀ q ∈ F.pins, p ≠ q.1) : Rel F G c σ H ∧ Lone F σ G H c p l ∧ H p = some (.lst xs) := by
  obtain ⟨h1, h2, h3⟩ := r.pin (p, .lst xs) List.mem_cons_self
  refine ⟨{ tabs := r.tabs, sub := r.sub, g0 := r.g0, fresh := r.fresh, keep := r.keep, len := r.len, mu0 := r.mu0, st0 := r.st0, dom := r.dom, st := r.st, inj := r.inj, ioj := r.ioj, pin := fun q hq => r.pin q (List.mem_cons_of_mem _ hq), sl := fun j s e => ?_ }, ⟨xs, h1, q, h2, h3, fun j l' e ea => ?_, hp⟩, h1⟩
  · have k := r.sl j s e
    cases s with
    | no => trivial
    | sh d => exact k
    | own l' =>
      obtain ⟨a, zs, e1, e2, e3, e4, e5, e6⟩ := k
      exact ⟨a, zs, e1, e2, e3, e4, e5, fun q hq => e6 q (List.mem_cons_of_mem _ hq)⟩
    | io l' => exact k
    | st => exact k
  · obtain ⟨a, zs, e1, e2, e3, e4, e5, e6⟩ := r.own_ne e
    rw [e1] at ea
    cases ea
    exact e6 (p, .lst xs) List.mem_cons_self rfl
/-- a lone list is written -/
theorem Rel.lwr {G : Hp} {c : Cfg} {p : Addr} {xs : List V} {l l' : List Dat} (r : Rel F G c σ H) (z : Lone F σ G H c p l) (q : RpA F.K G xs l') : Rel F G c σ (upd H p (.lst xs)) ∧ Lone F σ G (upd H p (.lst xs)) c p l' := by
  obtain ⟨ys, h1, h2, h3, h4, h5, h6⟩ := z
  have ne : ∀ (b : Addr) (o : HO), G b = some o → b ≠ p := fun b o e z => by rw [z, h3] at e; cases e
  refine ⟨{ sub := fun b o e => by rw [upd_ne (ne b o e)]; exact r.sub b o e, g0 := r.g0, fresh := r.fresh, len := r.len, mu0 := r.mu0, st0 := r.st0, inj := r.inj, ioj := r.ioj
            keep := fun b o e k1 k2 => by
              have : b ≠ p := fun z => by rw [z, h4] at e; cases e
              rw [upd_ne this]
              exact r.keep b o e k1 k2
            sl := fun i s e => (r.sl i s e).move (Same.refl _) (fun l2 a xs' e1 e2 q1 q2 _ => ?_) (fun l2 xs' _ q1 q2 m => ?_)
            st := fun hu => ?_
            dom := fun b e k => ?_
            pin := fun b hb => ?_
            tabs := r.tabs.move (fun b u e t => by
              have : b ≠ p := fun z => by rw [z, h1] at e; cases e; exact isT_lst t
              rw [upd_ne this]; exact e) (fun b u e _ g => g) }, xs, upd_same, q, h3, h4, h5, h6⟩
  · subst e1
    have : a ≠ p := fun z => h5 i l2 e (z ▸ e2)
    exact ⟨by rw [upd_ne this]; exact q1, q2⟩
  · have : F.ia i ≠ p := fun z => (r.mu0 _ m).1 (z ▸ h4)
    exact ⟨by rw [upd_ne this]; exact q1, q2⟩
  · obtain ⟨n1, n2, n3⟩ := r.sta_ne h4 hu
    obtain ⟨k1, k2, k3, k4⟩ := r.st hu
    exact ⟨by rw [upd_ne n1.symm]; exact k1, by rw [upd_ne n2.symm]; exact k2, by rw [upd_ne n3.symm]; exact k3, k4⟩
  · by_cases hb : b = p
    · rw [hb, upd_same] at k
      cases k
    · rw [upd_ne hb] at k
      exact r.dom b e k
  · obtain ⟨k1, k2, k3⟩ := r.pin b hb
    exact ⟨by rw [upd_ne (h6 b hb).symm]; exact k1, k2, k3⟩

def quiet : Option Sl → Bool
  | some (.own _) => false
  | some (.io _) => false
  | some .st => false
  | _ => true
/-- the slots at vs as they were -/
def back (vs : List Nat) (old new : List Sl) : List Sl := (List.range new.length).map fun j => if j ∈ vs then old.getD j .no else new.getD j .no
theorem back_get {vs : List Nat} {old new : List Sl} {j : Nat} {s : Sl} (e : (back vs old new)[j]? = some s) : j < new.length ∧ ((j ∈ vs ∧ s = old.getD j .no) ∨ (j ∉ vs ∧ new[j]? = some s)) := by
  unfold back at e
  rw [List.getElem?_map] at e
  cases e2 : (List.range new.length)[j]? with
  | none => rw [e2] at e; cases e
  | some k =>
    rw [e2] at e
    obtain ⟨h1, h2⟩ := List.getElem?_eq_some_iff.mp e2
    rw [List.getElem_range] at h2
    subst h2
    rw [List.length_range] at h1
    refine ⟨h1, ?_⟩
    have e : (if j ∈ vs then old.getD j Sl.no else new.getD j Sl.no) = s := Option.some.inj e
    by_cases h : j ∈ vs
    · rw [if_pos h] at e
      exact .inl ⟨h, e.symm⟩
    · rw [if_neg h, List.getD_eq_getElem?_getD, List.getElem?_eq_getElem h1] at e
      exact .inr ⟨h, by rw [List.getElem?_eq_getElem h1]; exact congrArg some e⟩
theorem Rel.back {G0 H0 G : Hp} {c0 c : Cfg} {vs : List Nat} (r0 : Rel F G0 c0 σ H0) (hq : ∀ v ∈ vs, quiet c0.r[v]? = true) (s : Same G0 G) (r : Rel F G c (wipe σ vs) H) : Rel F G { c with r := back vs c0.r c.r } σ H := by
  have old : ∀ (j : Nat) (x : Sl), j ∈ vs → x = c0.r.getD j .no → x = .no ∨ ∃ d, x = .sh d ∧ c0.r[j]? = some (.sh d) := fun j x hj e => by
    have q := hq j hj
    rw [List.getD_eq_getElem?_getD] at e
    cases e2 : c0.r[j]? with
    | none => rw [e2] at e; exact .inl e
    | some y =>
      rw [e2] at e q
      have e : x = y := e
      subst e
      cases x with
      | no => exact .inl rfl
      | sh d => exact .inr ⟨d, rfl, rfl⟩
      | own l => cases q
      | io l => cases q
      | st => cases q
  refine { tabs := r.tabs, sub := r.sub, g0 := r.g0, fresh := r.fresh, keep := r.keep, mu0 := r.mu0, st0 := r.st0, dom := r.dom, st := r.st, pin := r.pin, len := ?_, sl := fun j x e => ?_, inj := fun j k l l' e1 e2 e3 => ?_, ioj := fun j k l l' e1 e2 => ?_ }
  · show (Pn.back vs c0.r c.r).length = σ.length
    have := r.len
    rw [wipe_length] at this
    unfold Pn.back
    (simp only [List.length_map, List.length_range])
    exact this
  · obtain ⟨_, ⟨hj, e⟩ | ⟨hj, e⟩⟩ := back_get e
    · rcases old j x hj e with rfl | ⟨d, rfl, e2⟩
      · trivial
      · obtain ⟨v, e3, q3⟩ := r0.sl j _ e2
        exact ⟨v, e3, dp_mono s q3⟩
    · have := r.sl j x e
      rw [wipe_out hj] at this
      exact this
  · obtain ⟨_, ⟨hj, e1⟩ | ⟨hj, e1⟩⟩ := back_get e1
    · rcases old j _ hj e1 with z | ⟨d, z, _⟩ <;> cases z
    · obtain ⟨_, ⟨hk, e2⟩ | ⟨hk, e2⟩⟩ := back_get e2
      · rcases old k _ hk e2 with z | ⟨d, z, _⟩ <;> cases z
      · exact r.inj j k l l' e1 e2 (by rw [wipe_out hj, wipe_out hk]; exact e3)
  · obtain ⟨_, ⟨hj, e1⟩ | ⟨hj, e1⟩⟩ := back_get e1
    · rcases old j _ hj e1 with z | ⟨d, z, _⟩ <;> cases z
    · obtain ⟨_, ⟨hk, e2⟩ | ⟨hk, e2⟩⟩ := back_get e2
      · rcases old k _ hk e2 with z | ⟨d, z, _⟩ <;> cases z
      · exact r.ioj j k l l' e1 e2
theorem Lone.back {G : Hp} {c0 c : Cfg} {vs : List Nat} {p : Addr} {l : List Dat} (hq : ∀ v ∈ vs, quiet c0.r[v]? = true) (z : Lone F (wipe σ vs) G H c p l) : Lone F σ G H { c with r := back vs c0.r c.r } p l := by
  obtain ⟨xs, h1, h2, h3, h4, h5, h6⟩ := z
  refine ⟨xs, h1, h2, h3, h4, fun j l' e => ?_, h6⟩
  obtain ⟨_, ⟨hj, e⟩ | ⟨hj, e⟩⟩ := back_get e
  · exfalso
    have q := hq j hj
    rw [List.getD_eq_getElem?_getD] at e
    cases e2 : c0.r[j]? with
    | none => rw [e2] at e; cases e
    | some y =>
      rw [e2] at e q
      have e : Sl.own l' = y := e
      subst e
      cases q
  · rw [← wipe_out hj]
    exact h5 j l' e
def lcL (b : Dat → Cfg → Option Cfg) (mt : M Bool) (me : M Dat) (vs : List Nat) : List Dat → List Dat → M (List Dat)
  | [], acc => ret acc
  | d :: ds, acc => fun c => match b d c with
    | none => .bad
    | some c1 => match mt c1 with
      | .ok true c2 => match me c2 with
        | .ok y c3 => if acc.length < 100000 then lcL b mt me vs ds (acc ++ [y]) { c3 with r := clr vs c3.r } else .bad
        | _ => .bad
      | .ok false c2 => lcL b mt me vs ds acc { c2 with r := clr vs c2.r }
      | _ => .bad
def lcM (vs : List Nat) (b : Dat → Cfg → Option Cfg) (mt : M Bool) (me : M Dat) (items : List Dat) : M RV := fun c =>
  if vs.all (fun v => quiet c.r[v]?) then match lcL b mt me vs items [] { c with r := clr vs c.r } with
    | .ok l c' => .ok (.fr l) { c' with r := back vs c.r c'.r }
    | _ => .bad
  else .bad
def W0 : L2.WX := fun _ _ _ _ => False
theorem asx_mono {m : M Dat} {σ : L2.St} {H : Hp} {Q : VK} (h : EX F W (asx m) σ H Q) : E F W m σ H Q := sx_mono (sx_bind h) fun x H1 ⟨a, G1, c1, r1, q, p⟩ => po_ret r1 p q
theorem frz_mono {m : M RV} {σ : L2.St} {H : Hp} {Q : VK} (h : E F W (frz m) σ H Q) : EX F W m σ H Q := sx_mono (sx_bind h) fun x H1 ⟨a, G1, c1, r1, q, p⟩ => by
  cases a with
  | sh d => exact po_ret r1 p q
  | fr l =>
    obtain ⟨p1, rfl, z⟩ := q
    obtain ⟨G', r', s', d'⟩ := r1.freeze z
    exact p _ G' H1 r' s' d'
theorem lc_mono {vs is : List Nat} {mi : M (List Dat)} {g : TG} {b : Dat → Cfg → Option Cfg} {mt : M Bool} {me : M Dat} {tt : TT} (hgk : ∀ ps, GOk (F.pn ps) g is b) (his : ∀ i ∈ is, i ∈ vs) (htt : ∀ ps σ H Q, B (F.pn ps) W0 mt σ H Q → tt σ H Q) {σ : L2.St} {H : Hp} {Q : VK}
    (h : EX F W (M.bind mi (lcM vs b mt me)) σ H Q) : tLc (I_ F W mi) g tt (fun σ H Q => ∃ ps, E (F.pn ps) W0 me σ H Q) vs σ H Q := by
  refine sx_mono (sx_bind (R1 := RS F) h) fun J H1 ⟨items, G1, c1, r1, src, p⟩ D hD => ?_
  unfold lcM at p
  by_cases hq : vs.all (fun v => quiet c1.r[v]?) = true
  · rw [if_pos hq] at p
    have hq' : ∀ v ∈ vs, quiet c1.r[v]? = true := List.all_eq_true.mp hq
    have rw0 := r1.wiped vs
    obtain ⟨rl, zl⟩ := rw0.lone (xs := []) (l := []) hD .nil
    generalize hR0 : lcL b mt me vs items [] { c1 with r := clr vs c1.r } = R0 at p
    refine ⟨fun i m H => m = items.length - i ∧ i ≤ items.length ∧ ∃ G' c' acc, Same G1 G' ∧ Rel F G' c' (wipe σ vs) H ∧ Lone F (wipe σ vs) G' H c' D acc ∧ lcL b mt me vs (items.drop i) acc c' = R0, ⟨_, rfl, Nat.zero_le _, G1, _, [], Same.refl _, rl, zl, hR0⟩, ?_⟩
    rintro i m H ⟨rfl, hi, G', c', acc, s', r', z', el⟩
    by_cases hlt : i < items.length
    · obtain ⟨xs, hx, qx, gx, n0, nown, npin⟩ := id z'
      have rp := r'.pinned z' hx
      obtain ⟨go, yl⟩ := (src (F.pn ((D, .lst xs) :: F.pins)) G' c' _ H rfl s' rp).2 i items[i] (List.getElem?_eq_getElem hlt)
      refine .inr ⟨go, fun H' => ∃ G2 c2 acc2, Same G1 G2 ∧ Rel F G2 c2 (wipe σ vs) H' ∧ Lone F (wipe σ vs) G2 H' c2 D acc2 ∧ lcL b mt me vs (items.drop (i + 1)) acc2 c2 = R0, fun H' ⟨G2, c2, acc2, s2, r2, z2, e2⟩ => ⟨items.length - (i + 1), by omega, rfl, hlt, G2, c2, acc2, s2, r2, z2, e2⟩, fun x H' y => ?_⟩
      obtain ⟨G2, r2, s2, q2⟩ := yl x H' y
      rw [List.drop_eq_getElem_cons hlt] at el
      unfold lcL at el
      cases eb : b items[i] c' with
      | none =>
        simp only [eb] at el
        rw [← el] at p
        exact p.elim
      | some c2 =>
        simp only [eb] at el
        refine hgk ((D, .lst xs) :: F.pins) G2 c' c2 (wipe σ vs) H' x _ _ r2 q2 eb fun σ2 r3 w2 => ?_
        have hw : wipe σ2 vs = wipe σ vs := (w2 vs his).trans (wipe_wipe σ vs vs fun v h => h)
        refine ⟨hw, htt ((D, .lst xs) :: F.pins) σ2 H' _ ⟨G2, c2, r3, ?_⟩⟩
        cases em : mt c2 with
        | ok k c3 =>
          intro v G3 H3 r4 s4 ev
          have ev : v = k := ev
          subst ev
          cases v with
          | false =>
            simp only [em] at el
            rw [if_neg (show ¬(false = true) by decide)]
            obtain ⟨r5, z5, _⟩ := r4.unpin (dpAll_mono (s2.trans s4) qx) npin
            have r6 := r5.wiped vs
            have z6 := z5.wiped vs
            rw [hw] at r6 z6
            exact ⟨G3, _, acc, (s'.trans s2).trans s4, r6, z6, el⟩
          | true =>
            simp only [em] at el
            rw [if_pos rfl]
            refine ⟨(D, .lst xs) :: F.pins, G3, c3, r4, ?_⟩
            cases ee : me c3 with
            | ok y c4 =>
              simp only [ee] at el
              intro v G4 H4 r5 s5 qv
              obtain ⟨r6, z6, hx4⟩ := r5.unpin (dpAll_mono ((s2.trans s4).trans s5) qx) npin
              by_cases hl : acc.length < 100000
              · rw [if_pos hl] at el
                refine ⟨xs, hx4, by rw [dpAll_len qx]; exact Evl.sz_lt hl, ?_⟩
                obtain ⟨r7, z7⟩ := r6.lwr z6 (dpAll_app (dpAll_mono ((s2.trans s4).trans s5) qx) (.cons qv .nil))
                have r8 := r7.wiped vs
                have z8 := z7.wiped vs
                rw [hw] at r8 z8
                exact ⟨G4, _, acc ++ [y], ((s'.trans s2).trans s4).trans s5, r8, z8, el⟩
              · rw [if_neg hl] at el
                rw [← el] at p
                exact p.elim
            | exc k d c4 =>
              simp only [ee] at el
              rw [← el] at p
              exact p.elim
            | bad =>
              simp only [ee] at el
              rw [← el] at p
              exact p.elim
        | exc k d c3 =>
          simp only [em] at el
          rw [← el] at p
          exact p.elim
        | bad =>
          simp only [em] at el
          rw [← el] at p
          exact p.elim
    · have e : i = items.length := by omega
      subst e
      rw [List.drop_length] at el
      have k1 := (src F G' c' (wipe σ vs) H rfl s' r').1
      rw [← el] at p
      exact .inl ⟨k1, p (.ref D) G' H (r1.back hq' s' r') s' ⟨D, rfl, z'.back hq'⟩⟩
  · rw [if_neg hq] at p
    exact p.elim
theorem e_lc {elt tg iter : Expr} {ifs : List Expr} {scope : Scope} {own : List (Str × Nat)} {pos : Pos} {mi : M (List Dat)} {is : List Nat} {g : TG} {b : Dat → Cfg → Option Cfg} {mt : M Bool} {me : M Dat} {tt : TT} (hc : X.calm = true) (hN : X.N.Nodup) (hi : PI X tg iter (I_ F W mi)) (ok : BlkOk X.N X.env.scope scope own)
    (hg : ∀ (s : Shared) (H : Hp) (C : Addr) (cl : List (Str × Addr)) (fp : List Addr), PG (X.blk s H scope (compEnvC scope cl C X.env) fp) tg g) (hgk : ∀ ps, GOk (F.pn ps) g is b) (his : ∀ i ∈ is, i ∈ own.map (·.2))
    (ht : ∀ (s : Shared) (H : Hp) (C : Addr) (cl : List (Str × Addr)) (fp : List Addr), PTs (X.blk s H scope (compEnvC scope cl C X.env) fp) ifs tt) (htt : ∀ ps σ H Q, B (F.pn ps) W0 mt σ H Q → tt σ H Q)
    (he : ∀ (s : Shared) (H : Hp) (C : Addr) (cl : List (Str × Addr)) (fp : List Addr) (ps : List (Addr × HO)), PE (X.blk s H scope (compEnvC scope cl C X.env) fp) elt (E (F.pn ps) W0 me)) (hs : ∀ x, foldedSetIterable iter X.env x = pure x := by intro _; rfl) :
    PE X (.ListComp elt [⟨tg, iter, ifs, 0⟩] scope pos) (EX F W (M.bind mi (lcM (own.map (·.2)) b mt me))) := by
  exact (pe_lc (te := fun σ H Q => ∃ ps, E (F.pn ps) W0 me σ H Q) hc hN hi ok hg ht (fun s H C cl fp => ⟨fun pins s σ H Q I ⟨ps, h⟩ => (he _ _ _ _ _ ps).run pins s σ H Q I h⟩) hs).mono fun σ H Q h => lc_mono hgk his htt h
/-- name = [..] on one line -/
theorem s_asgLc {i : Nat} {y : Str} {py spos : Pos} {elt tg iter : Expr} {ifs : List Expr} {scope : Scope} {own : List (Str × Nat)} {pos : Pos} {mi : M (List Dat)} {is : List Nat} {g : TG} {b : Dat → Cfg → Option Cfg} {mt : M Bool} {me : M Dat} {tt : TT} (hc : X.calm = true) (hN : X.N.Nodup) (hy : X.N[i]? = some y) (hyl : X.env.scope.names.lookup y = some .local)
    (hsw : swapsWith (.ListComp elt [⟨tg, iter, ifs, 0⟩] scope pos) (some (.Name y py)) spos.line X.env = pure true) (hi : PI X tg iter (I_ F W mi)) (ok : BlkOk X.N X.env.scope scope own)
    (hg : ∀ (s : Shared) (H : Hp) (C : Addr) (cl : List (Str × Addr)) (fp : List Addr), PG (X.blk s H scope (compEnvC scope cl C X.env) fp) tg g) (hgk : ∀ ps, GOk (F.pn ps) g is b) (his : ∀ i ∈ is, i ∈ own.map (·.2))
    (ht : ∀ (s : Shared) (H : Hp) (C : Addr) (cl : List (Str × Addr)) (fp : List Addr), PTs (X.blk s H scope (compEnvC scope cl C X.env) fp) ifs tt) (htt : ∀ ps σ H Q, B (F.pn ps) W0 mt σ H Q → tt σ H Q)
    (he : ∀ (s : Shared) (H : Hp) (C : Addr) (cl : List (Str × Addr)) (fp : List Addr) (ps : List (Addr × HO)), PE (X.blk s H scope (compEnvC scope cl C X.env) fp) elt (E (F.pn ps) W0 me)) (hs : ∀ x, foldedSetIterable iter X.env x = pure x := by intro _; rfl) :
    PS X (.Assign [.Name y py] (.ListComp elt [⟨tg, iter, ifs, 0⟩] scope pos) spos) (T F W (M.bind (M.bind mi (lcM (own.map (·.2)) b mt me)) (asg i))) :=
  (ps_setLc (te := fun σ H Q => ∃ ps, E (F.pn ps) W0 me σ H Q) hc hN hy hyl hsw hi ok hg ht (fun s H C cl fp => ⟨fun pins s σ H Q I ⟨ps, h⟩ => (he _ _ _ _ _ ps).run pins s σ H Q I h⟩) hs).mono fun D σ H ⟨G, c, r, p⟩ =>
    lc_mono hgk his htt (sx_mono (ps_bind (R1 := RX F) r p) fun x H1 ⟨a, G1, c1, r1, s1, q, p1⟩ => ps_asg_ok r1 q p1)
/-- .. what is made is still from then on -/
theorem s_asgLcF {i : Nat} {y : Str} {py spos : Pos} {elt tg iter : Expr} {ifs : List Expr} {scope : Scope} {own : List (Str × Nat)} {pos : Pos} {mi : M (List Dat)} {is : List Nat} {g : TG} {b : Dat → Cfg → Option Cfg} {mt : M Bool} {me : M Dat} {tt : TT} (hc : X.calm = true) (hN : X.N.Nodup) (hy : X.N[i]? = some y) (hyl : X.env.scope.names.lookup y = some .local)
    (hsw : swapsWith (.ListComp elt [⟨tg, iter, ifs, 0⟩] scope pos) (some (.Name y py)) spos.line X.env = pure true) (hi : PI X tg iter (I_ F W mi)) (ok : BlkOk X.N X.env.scope scope own)
    (hg : ∀ (s : Shared) (H : Hp) (C : Addr) (cl : List (Str × Addr)) (fp : List Addr), PG (X.blk s H scope (compEnvC scope cl C X.env) fp) tg g) (hgk : ∀ ps, GOk (F.pn ps) g is b) (his : ∀ i ∈ is, i ∈ own.map (·.2))
    (ht : ∀ (s : Shared) (H : Hp) (C : Addr) (cl : List (Str × Addr)) (fp : List Addr), PTs (X.blk s H scope (compEnvC scope cl C X.env) fp) ifs tt) (htt : ∀ ps σ H Q, B (F.pn ps) W0 mt σ H Q → tt σ H Q)
    (he : ∀ (s : Shared) (H : Hp) (C : Addr) (cl : List (Str × Addr)) (fp : List Addr) (ps : List (Addr × HO)), PE (X.blk s H scope (compEnvC scope cl C X.env) fp) elt (E (F.pn ps) W0 me)) (hs : ∀ x, foldedSetIterable iter X.env x = pure x := by intro _; rfl) :
    PS X (.Assign [.Name y py] (.ListComp elt [⟨tg, iter, ifs, 0⟩] scope pos) spos) (T F W (M.bind (asx (frz (M.bind mi (lcM (own.map (·.2)) b mt me)))) (asg i))) :=
  (ps_setLc (te := fun σ H Q => ∃ ps, E (F.pn ps) W0 me σ H Q) hc hN hy hyl hsw hi ok hg ht (fun s H C cl fp => ⟨fun pins s σ H Q I ⟨ps, h⟩ => (he _ _ _ _ _ ps).run pins s σ H Q I h⟩) hs).mono fun D σ H ⟨G, c, r, p⟩ =>
    lc_mono hgk his htt (frz_mono (asx_mono (sx_mono (ps_bind (R1 := RX F) r p) fun x H1 ⟨a, G1, c1, r1, s1, q, p1⟩ => ps_asg_ok r1 q p1)))
theorem noif (ps : List (Addr × HO)) (σ : L2.St) (H : Hp) (Q : Bool → Hp → Prop) (h : B (F.pn ps) W0 (ret true) σ H Q) : tYes σ H Q := by
  obtain ⟨G, c, r, p⟩ := h
  exact po_ret r p rfl
end
end Pn

set_option maxHeartbeats 1000001
namespace Pn
open L2 PyProof.Rows PySem.Spec PySem
section
variable {F : Fr} {W : L2.WX} {σ : L2.St} {H : Hp} {X : Cx} {D : Ends}

/-! ### in, not in, of flat things -/
def vOf : Dat → V
  | .bool b => .bl b
  | .int i => .int i
  | .str x => .str x
  | _ => .non
def flatD : Dat → Bool
  | .none => true | .bool _ => true | .int _ => true | .str _ => true | _ => false
theorem flat_v {K : PySem.W.Frag} {G : Hp} {v : V} {d : Dat} (q : Rp K G v d) (h : flatD d = true) : v = vOf d ∧ flatV v = true := by
  cases q with
  | lst _ _ => cases h
  | tup _ _ => cases h
  | _ => exact ⟨rfl, rfl⟩
theorem flat_vs {K : PySem.W.Frag} {G : Hp} : ∀ {vs : List V} {l : List Dat}, RpA K G vs l → l.all flatD = true → vs = l.map vOf ∧ vs.all flatV = true
  | _, _, .nil, _ => ⟨rfl, rfl⟩
  | _, _, .cons q t, h => by
    rw [List.all_cons, Bool.and_eq_true_iff] at h
    obtain ⟨e1, f1⟩ := flat_v q h.1
    obtain ⟨e2, f2⟩ := flat_vs t h.2
    refine ⟨by rw [List.map_cons, ← e1, ← e2], ?_⟩
    rw [List.all_cons, f1, f2]
    rfl
def inF (d : Dat) (l : List Dat) : Bool := inV (vOf d) (l.map vOf)
def inR (neg : Bool) (d : Dat) (r : Row) : M Dat := if flatD d && r.2.all flatD then ret (.bool (if neg then !inF d r.2 else inF d r.2)) else bad
theorem hf_in {neg : Bool} (hK : F.K = X.K) {G : Hp} {c : Cfg} {x y : V} {d : Dat} {k : Row} {Q : VK} (r : Rel F G c σ H) (h1 : Rp F.K G x d) (h2 : RR F σ G H c y k) (p : Po F W σ (RD F) Q G (inR neg d k c)) : rIn X.K neg x y H Q := by
  obtain ⟨a, xs, rfl, h, q⟩ := h2
  unfold inR at p
  by_cases o : (flatD d && k.2.all flatD) = true
  · rw [if_pos o] at p
    rw [Bool.and_eq_true] at o
    obtain ⟨rfl, f1⟩ := flat_v h1 o.1
    obtain ⟨rfl, f2⟩ := flat_vs q o.2
    exact ⟨a, _, rfl, rr_or hK r.sub h, f1, f2, po_ret r p (.bl _)⟩
  · rw [if_neg o] at p
    exact p.elim
theorem rr_mono {G G' : Hp} {c c' : Cfg} {v : V} {d : Dat} {H' : Hp} (r : Rel F G c σ H) (q : Rp F.K G v d) : ∀ k, rowOf d c = .ok k c → RR F σ G H c v k := fun k e => (rowOf_at r q e).2
def inM (neg : Bool) (a : M Dat) (b : M Row) : M Dat := M.bind a fun x => M.bind b fun k => inR neg x k
theorem e_in {op : CmpOp} {neg : Bool} {a b : Expr} {ma : M Dat} {mb : M Row} {pos : Pos} (hK : F.K = X.K) (ho : OpR X (compareOp op) (rIn X.K neg)) (ha : PE X a (E F W ma)) (hb : PE X b (R_ F W mb)) (hm : behindInMarks op b = false := by rfl) : PE X (.Compare a [op] [b] pos) (E F W (inM neg ma mb)) :=
  (pe_cmpR ho ha hb hm).mono fun σ H Q h => sx_mono (sx_bind (R1 := RD F) h) fun x H1 ⟨d, G1, c1, r1, q, p⟩ => sx_mono (po_bind (R1 := RR F) r1 p) fun y H2 ⟨k, G2, c2, r2, s2, q2, p2⟩ => hf_in hK r2 (dp_mono s2 q) q2 p2

/-! ### globals: constants of the modules -/
/-- a module's name and the datum that it holds -/
def GloD (K : PySem.W.Frag) (mg : Str → Option Value) (x : Str) (d : Dat) : Prop := ∃ v u, mg x = some u ∧ RelV v u ∧ Rp K (fun _ => none) v d
theorem e_glo {x : Str} {d : Dat} {pos : Pos} (hK : F.K = X.K) (hg : Gl X x) (h : GloD X.K X.mg x d) (hd : (x == ("__debug__" : Str)) = false := by decide) : PE X (.Name x pos) (E F W (ret d)) := by
  obtain ⟨v, u, h1, h2, h3⟩ := h
  exact (pe_glob hg h1 h2 hd).mono fun σ H Q ⟨G, c, r, p⟩ => po_ret r p (by
    have z : Rp X.K G v d := dp_mono (fun b o e => by cases e) h3
    rw [← hK] at z
    exact z)

/-! ### + of data -/
def catD : Dat → Dat → M RV
  | .int i, .int j => ret (.sh (.int (i + j)))
  | .tuple a, .tuple b => if many a && many b then ret (.sh (.tuple (a ++ b))) else bad
  | .list a, .list b => if many a && many b then ret (.fr (a ++ b)) else bad
  | _, _ => bad
theorem many2 {K : PySem.W.Frag} {G : Hp} {xs ys : List V} {a b : List Dat} (h : (many a && many b) = true) (q : RpA K G xs a) (q2 : RpA K G ys b) : xs.length + ys.length ≤ sizeLine := by
  rw [Bool.and_eq_true] at h
  rw [dpAll_len q, dpAll_len q2]
  have h1 : a.length ≤ 100000 := of_decide_eq_true h.1
  have h2 : b.length ≤ 100000 := of_decide_eq_true h.2
  have : sizeLine = 16777216 := sizeLine_eq
  omega
theorem e_cat {a b : Expr} {ma mb : M Dat} {pos : Pos} (hK : F.K = X.K) (ha : PE X a (E F W ma)) (hb : PE X b (E F W mb)) : PE X (.BinOp a .Add b pos) (EX F W (M.bind ma fun x => M.bind mb fun y => catD x y)) := by
  have ho : OpR X (binaryOp .Add) (fun x y H Q => rI0 (fun i j => .int (i + j)) x y H Q ∨ rCatA X.K x y H Q ∨ rCat x y H Q) := fun pins s σ H x y v u Q I rx ry h => by
    rcases h with h | h | h
    · exact op_add pins s σ H x y v u Q I rx ry h
    · exact op_catA pins s σ H x y v u Q I rx ry h
    · exact op_cat pins s σ H x y v u Q I rx ry h
  refine (pe_op ho ha hb).mono fun σ H Q h => sx_mono (sx_bind2 h) fun x H1 hh => sx_mono hh fun y H2 ⟨d, e, G2, c2, r2, q1, q2, p⟩ => ?_
  cases q1 with
  | int i =>
    cases q2 with
    | int j => exact .inl ⟨i, j, rfl, rfl, po_ret (v := V.int (i + j)) r2 p (.int _)⟩
    | _ => exact p.elim
  | @tup a1 xs l1 t1 k1 =>
    cases q2 with
    | @tup a2 ys l2 t2 k2 =>
      unfold catD at p
      by_cases o : (many l1 && many l2) = true
      · simp only [o, if_true] at p
        refine .inr (.inl ⟨a1, a2, xs, ys, rfl, rfl, hK ▸ sqT_mono r2.sub t1, hK ▸ sqT_mono r2.sub t2, many2 o k1 k2, fun e => ?_, fun _ e => ?_, fun _ _ z hz => ?_⟩)
        · subst e
          cases k1
          exact po_ret r2 p (.tup t2 k2)
        · subst e
          cases k2
          rw [List.append_nil] at p
          exact po_ret r2 p (.tup t1 k1)
        · obtain ⟨r3, s3⟩ := r2.laid (o := .tup (xs ++ ys)) hz
          exact p _ _ _ r3 s3 (.tup (Evl.st_of upd_same) (dpAll_mono s3 (dpAll_app k1 k2)))
      · simp only [o] at p
        exact p.elim
    | _ => exact p.elim
  | @lst a1 xs l1 t1 k1 =>
    cases q2 with
    | @lst a2 ys l2 t2 k2 =>
      unfold catD at p
      by_cases o : (many l1 && many l2) = true
      · simp only [o, if_true] at p
        refine .inr (.inr ⟨a1, a2, xs, ys, rfl, rfl, r2.sub _ _ t1, r2.sub _ _ t2, many2 o k1 k2, fun z hz => ?_⟩)
        obtain ⟨r3, z3⟩ := r2.lone hz (dpAll_app k1 k2)
        exact p _ _ _ r3 (Same.refl _) ⟨z, rfl, z3⟩
      · simp only [o] at p
        exact p.elim
    | _ => exact p.elim
  | _ => exact p.elim

/-! ### slices of data -/
abbrev O_ (F : Fr) (W : L2.WX) (m : M (Option Int)) : TO := Sx F W (fun _ _ _ _ o a => o = a) m
def partO (m : M Dat) : M (Option Int) := M.bind m fun d => match d with
  | .int i => ret (some i)
  | _ => bad
theorem o_none : PO X none (O_ F W (ret none)) := ⟨fun pins s σ H Q I h => po_none.run pins s σ H Q I (by
  obtain ⟨G, c, r, p⟩ := h
  exact po_ret r p rfl)⟩
theorem o_some {e : Expr} {m : M Dat} (h : PE X e (E F W m)) : PO X (some e) (O_ F W (partO m)) := ⟨fun pins s σ H Q I h2 => (po_some h).run pins s σ H Q I (sx_mono (sx_bind (R1 := RD F) h2) fun x H1 ⟨d, G1, c1, r1, q, p⟩ => by
  cases q with
  | int i => exact ⟨i, rfl, po_ret r1 p rfl⟩
  | _ => exact p.elim)⟩
def slD (d : Dat) (lo hi : Option Int) : M RV := match d with
  | .tuple l => ret (.sh (.tuple (cutL l lo hi)))
  | .list l => ret (.fr (cutL l lo hi))
  | _ => bad
theorem cut_whole {xs : List Dat} {lo hi : Option Int} (h : HT.sIx xs.length 0 lo = 0 ∧ HT.sIx xs.length xs.length hi = xs.length) : cutL xs lo hi = xs := by
  unfold cutL
  rw [h.1, h.2, List.drop_zero, Nat.sub_zero, List.take_length]
theorem e_slice {a : Expr} {lo hi : Option Expr} {ma : M Dat} {ml mh : M (Option Int)} {pos p2 : Pos} (hK : F.K = X.K) (ha : PE X a (E F W ma)) (hl : PO X lo (O_ F W ml)) (hh : PO X hi (O_ F W mh)) :
    PE X (.Subscript a (.Slice lo hi none p2) pos) (EX F W (M.bind ma fun d => M.bind ml fun i => M.bind mh fun j => slD d i j)) :=
  (pe_slice (sl_tupA.or sl_list) ha hl hh).mono fun σ H Q h => sx_mono (sx_bind (R1 := RD F) h) fun x H1 ⟨d, G1, c1, r1, q, p⟩ =>
    sx_mono (po_bind (R1 := fun _ _ _ _ o a => o = a) r1 p) fun l H2 ⟨i, G2, c2, r2, s2, e2, p2⟩ => sx_mono (po_bind (R1 := fun _ _ _ _ o a => o = a) r2 p2) fun u H3 ⟨j, G3, c3, r3, s3, e3, p3⟩ => by
      subst e2
      subst e3
      cases dp_mono (s2.trans s3) q with
      | tup h k =>
        refine .inl ⟨_, _, rfl, hK ▸ sqT_mono r3.sub h, fun w => ?_, fun _ z hz => ?_⟩
        · rw [dpAll_len k] at w
          have p3 : Po F W σ (RX F) Q G3 (.ok (.sh (.tuple (cutL _ l u))) c3) := p3
          rw [cut_whole w] at p3
          exact po_ret r3 p3 (.tup h k)
        · obtain ⟨r4, s4⟩ := r3.laid (o := .tup (cutV _ l u)) hz
          exact p3 _ _ _ r4 s4 (.tup (Evl.st_of upd_same) (dpAll_mono s4 (cut_dp l u k)))
      | lst h k =>
        refine .inr ⟨_, _, rfl, Evl.sq_of (r3.sub _ _ h), fun z hz => ?_⟩
        obtain ⟨r4, z4⟩ := r3.lone hz (cut_dp l u k)
        exact p3 _ _ _ r4 (Same.refl _) ⟨z, rfl, z4⟩
      | _ => exact p3.elim
end
end Pn

set_option maxHeartbeats 1000001
namespace Pn
open L2 PyProof.Rows PySem.Spec PySem
section
variable {F : Fr} {W : L2.WX} {σ : L2.St} {H : Hp} {X : Cx} {D : Ends}

/-! ### lists that change -/
def held (i : Nat) (c : Cfg) : Option (List Dat) := match c.r[i]? with
  | some (.own l) => some l
  | some (.io l) => some l
  | _ => none
def wr (i : Nat) (l : List Dat) (c : Cfg) : Cfg := match c.r[i]? with
  | some (.own _) => { c with r := c.r.set i (.own l) }
  | some (.io _) => { c with r := c.r.set i (.io l) }
  | _ => c
theorem Rel.wr {G : Hp} {c : Cfg} {i : Nat} {l : List Dat} (r : Rel F G c σ H) (e : held i c = some l) : ∃ a xs, σ[i]? = some (some (.ref a)) ∧ H a = some (.lst xs) ∧ RpA F.K G xs l ∧
    ∀ (xs' : List V) (l' : List Dat), RpA F.K G xs' l' → Rel F G (Pn.wr i l' c) σ (upd H a (.lst xs')) := by
  have core : ∀ (a : Addr) (s s' : Sl) (xs' : List V), c.r[i]? = some s → G a = none → (F.H0 a = none ∨ a ∈ F.mu) → (∃ ys, H a = some (.lst ys)) → (∀ j l2, j ≠ i → c.r[j]? = some (.own l2) → σ[j]? ≠ some (some (.ref a))) → (∀ j l2, j ≠ i → c.r[j]? = some (.io l2) → F.ia j ≠ a) → (∀ q ∈ F.pins, a ≠ q.1) →
      SlOk F G (upd H a (.lst xs')) i s' (σ[i]?) → ((∃ l1 l2, s = .own l1 ∧ s' = .own l2) ∨ ∃ l1 l2, s = .io l1 ∧ s' = .io l2) → Rel F G { c with r := c.r.set i s' } σ (upd H a (.lst xs')) := by
    intro a s s' xs' es ga h0 ha ho hi hp hs hk
    have ne : ∀ (b : Addr) (o : HO), G b = some o → b ≠ a := fun b o e z => by rw [z, ga] at e; cases e
    have nsta : a ∉ F.sta := fun m => by
      rcases h0 with h0 | h0
      · exact r.st0 a m h0
      · exact (r.mu0 a h0).2 m
    have nst : F.us = true → a ≠ F.sa ∧ a ≠ F.sc ∧ a ≠ F.sl := fun hu => by
      unfold Fr.sta at nsta
      rw [if_pos hu] at nsta
      simp only [List.mem_cons, List.not_mem_nil, or_false, not_or] at nsta
      exact nsta
    refine { sub := fun b o e => by rw [upd_ne (ne b o e)]; exact r.sub b o e, g0 := r.g0, fresh := r.fresh, len := by rw [← r.len]; exact List.length_set, mu0 := r.mu0, st0 := r.st0
             keep := fun b o e k1 k2 => ?_, sl := fun j x e => ?_, inj := fun j k l1 l2 e1 e2 e3 => ?_, ioj := fun j k l1 l2 e1 e2 e3 => ?_, st := fun hu => ?_, dom := fun b e k => ?_, pin := fun b hb => ?_
             tabs := r.tabs.move (fun b u e t => by
               have : b ≠ a := fun z => by
                 obtain ⟨ys, hy⟩ := ha
                 rw [z, hy] at e; cases e; exact isT_lst t
               rw [upd_ne this]; exact e) (fun b u e _ g => g) }
    · have : b ≠ a := fun z => by
        rcases h0 with h0 | h0
        · rw [z, h0] at e; cases e
        · exact k1 (z ▸ h0)
      rw [upd_ne this]
      exact r.keep b o e k1 k2
    · rcases get_set e with ⟨rfl, rfl, _⟩ | ⟨hj, e⟩
      · exact hs
      · refine (r.sl j x e).move (Same.refl _) (fun l2 b ys e1 e2 q1 q2 _ => ?_) (fun l2 ys e1 q1 q2 m => ?_)
        · subst e1
          have : b ≠ a := fun z => ho j l2 (fun w => hj w.symm) e (z ▸ e2)
          exact ⟨by rw [upd_ne this]; exact q1, q2⟩
        · subst e1
          have : F.ia j ≠ a := hi j l2 (fun w => hj w.symm) e
          exact ⟨by rw [upd_ne this]; exact q1, q2⟩
    · have f : ∀ (j : Nat) (l : List Dat), (c.r.set i s')[j]? = some (.own l) → ∃ l', c.r[j]? = some (.own l') := fun j l e => by
        rcases get_set e with ⟨rfl, z, _⟩ | ⟨_, e⟩
        · rcases hk with ⟨l1, l2, rfl, z2⟩ | ⟨l1, l2, rfl, z2⟩
          · exact ⟨l1, es⟩
          · rw [z2] at z
            cases z
        · exact ⟨l, e⟩
      obtain ⟨_, e1⟩ := f j l1 e1
      obtain ⟨_, e2⟩ := f k l2 e2
      exact r.inj j k _ _ e1 e2 e3
    · have f : ∀ (j : Nat) (l : List Dat), (c.r.set i s')[j]? = some (.io l) → ∃ l', c.r[j]? = some (.io l') := fun j l e => by
        rcases get_set e with ⟨rfl, z, _⟩ | ⟨_, e⟩
        · rcases hk with ⟨l1, l2, rfl, z2⟩ | ⟨l1, l2, rfl, z2⟩
          · rw [z2] at z
            cases z
          · exact ⟨l1, es⟩
        · exact ⟨l, e⟩
      obtain ⟨_, e1⟩ := f j l1 e1
      obtain ⟨_, e2⟩ := f k l2 e2
      exact r.ioj j k _ _ e1 e2 e3
    · obtain ⟨n1, n2, n3⟩ := nst hu
      obtain ⟨k1, k2, k3, k4⟩ := r.st hu
      exact ⟨by rw [upd_ne n1.symm]; exact k1, by rw [upd_ne n2.symm]; exact k2, by rw [upd_ne n3.symm]; exact k3, k4⟩
    · by_cases hb : b = a
      · rw [hb, upd_same] at k
        cases k
      · rw [upd_ne hb] at k
        exact r.dom b e k
    · obtain ⟨k1, k2, k3⟩ := r.pin b hb
      exact ⟨by rw [upd_ne (hp b hb).symm]; exact k1, k2, k3⟩
  unfold held at e
  cases es : c.r[i]? with
  | none => rw [es] at e; cases e
  | some s =>
    rw [es] at e
    cases s with
    | no => cases e
    | sh d => cases e
    | st => cases e
    | own l0 =>
      cases e
      obtain ⟨a, xs, e1, e2, e3, e4, e5, e6⟩ := r.sl i _ es
      refine ⟨a, xs, e1, e2, e4, fun xs' l' q => ?_⟩
      unfold Pn.wr
      rw [es]
      exact core a _ (.own l') xs' es e3 (.inl e5) ⟨_, e2⟩ (fun j l2 hj ej z => hj (r.inj j i l2 l ej es (z.trans e1.symm))) (fun j l2 hj ej z => by
        have k := r.sl j _ ej
        obtain ⟨_, _, _, _, _, m⟩ := k
        exact (r.mu0 _ m).1 (z ▸ e5)) e6 ⟨a, xs', e1, upd_same, e3, q, e5, e6⟩ (.inl ⟨l, l', rfl, rfl⟩)
    | io l0 =>
      cases e
      obtain ⟨xs, e1, e2, e3, e4, e5⟩ := r.sl i _ es
      refine ⟨F.ia i, xs, e1, e2, e4, fun xs' l' q => ?_⟩
      unfold Pn.wr
      rw [es]
      exact core _ _ (.io l') xs' es e3 (.inr e5) ⟨_, e2⟩ (fun j l2 hj ej z => by
        obtain ⟨b, ys, f1, f2, f3, f4, f5⟩ := r.own_ne ej
        rw [f1] at z
        cases z
        exact (r.mu0 _ e5).1 f5.1) (fun j l2 hj ej z => hj (r.ioj j i l2 l ej es z)) (fun q hq z => (r.mu0 _ e5).1 (z ▸ (r.pin q hq).2.2)) ⟨xs', e1, upd_same, e3, q, e5⟩ (.inr ⟨l, l', rfl, rfl⟩)
theorem tyL {K : PySem.W.Frag} {a : Addr} {xs : List V} (h : H a = some (.lst xs)) : tyV K "list" (.ref a) H := .inl ⟨rfl, xs, Evl.sq_of h⟩
def heldM (i : Nat) : M (List Dat) := fun c => match held i c with
  | some l => .ok l c
  | none => .bad
theorem po_held {γ δ : Type} {R : L2.St → Hp → Hp → Cfg → δ → γ → Prop} {Q : δ → Hp → Prop} {G : Hp} {c : Cfg} {i : Nat} {f : List Dat → M γ} (r : Rel F G c σ H) (p : Po F W σ R Q G (M.bind (heldM i) f c)) :
    ∃ l a xs, held i c = some l ∧ σ[i]? = some (some (.ref a)) ∧ H a = some (.lst xs) ∧ RpA F.K G xs l ∧ Po F W σ R Q G (f l c) := by
  unfold M.bind heldM at p
  cases e : held i c with
  | none => rw [e] at p; exact p.elim
  | some l =>
    rw [e] at p
    obtain ⟨a, xs, e2, h2, q, _⟩ := r.wr e
    exact ⟨l, a, xs, rfl, e2, h2, q, p⟩
def wrM (i : Nat) (l : List Dat) : M Dat := fun c => .ok .none (wr i l c)
def appV (i : Nat) (m : M Dat) : M Dat := M.bind (heldM i) fun _ => M.bind m fun d => M.bind (heldM i) fun l => if l.length < 100000 then wrM i (l ++ [d]) else bad
theorem e_app {i : Nat} {x : Str} {e : Expr} {m : M Dat} {p apos cpos : Pos} (hN : X.N[i]? = some x) (hv : Vis X.env.scope x) (hd : (x == ("__debug__" : Str)) = false) (hcd : (x == ("__classdict__" : Str)) = false) (h : PE X e (E F W m))
    (hbase : attributeBase (.Name x p) "append" X.env (eval (.Name x p) X.env) = eval (.Name x p) X.env := by rfl)
    (hfew : ((backTo cpos (starEach [e] X.env)).all (fun x => !x.1) && (backToKw cpos (keywordEach [] X.env)).all (fun x => x.1.isSome) && decide (([e] : List Expr).length + ([] : List Keyword).length + (if ([] : List Keyword).isEmpty then 0 else 1) < 30)) = true := by rfl)
    (hLn : (apos.endLine == cpos.line) = true := by rfl)
    (hSt : starEach [e] X.env = (false, eval e X.env) :: starEach [] X.env := by rfl)
    (hPl : (backTo cpos (starEach [] X.env)).any (·.1) = false := by rfl) :
    PE X (.Call (.Attribute (.Name x p) "append" apos) [e] [] cpos) (E F W (appV i m)) :=
  (pe_bm PySem.F.plainAttrs_list PySem.F.slot_list_append PySem.F.type_list_append mt_append (pe_var hN hv hd hcd) (pa_cons h pa_nil hSt) hbase hfew hLn hSt hPl).mono fun σ H Q ⟨G, c, r, p⟩ => by
    obtain ⟨l, a, xs, _, e1, h1, q1, p⟩ := po_held r p
    refine ⟨.ref a, e1, tyL h1, sx_mono (po_bind (R1 := RD F) r p) fun y H2 ⟨d, G2, c2, r2, s2, q2, p2⟩ => ?_⟩
    obtain ⟨l2, a2, xs2, e0, e2, h2, q3, p3⟩ := po_held r2 p2
    rw [e1] at e2
    cases e2
    by_cases hl : l2.length < 100000
    · rw [if_pos hl] at p3
      refine ⟨a, xs2, y, rfl, rfl, h2, by rw [dpAll_len q3]; exact Evl.sz_lt hl, ?_⟩
      obtain ⟨a3, xs3, f1, f2, f3, f4⟩ := r2.wr e0
      rw [e1] at f1
      cases f1
      rw [h2] at f2
      cases f2
      exact p3 .non G2 _ (f4 _ _ (dpAll_app q3 (.cons q2 .nil))) (Same.refl _) .non
    · rw [if_neg hl] at p3
      exact p3.elim
def extV (i : Nat) (m : M Row) : M Dat := M.bind (heldM i) fun _ => M.bind m fun k => M.bind (heldM i) fun l => if k.1 = false ∧ l.length < 100000 ∧ k.2.length < 100000 then wrM i (l ++ k.2) else bad
theorem e_ext {i : Nat} {x : Str} {e : Expr} {m : M Row} {p apos cpos : Pos} (hN : X.N[i]? = some x) (hv : Vis X.env.scope x) (hd : (x == ("__debug__" : Str)) = false) (hcd : (x == ("__classdict__" : Str)) = false) (h : PE X e (R_ F W m))
    (hbase : attributeBase (.Name x p) "extend" X.env (eval (.Name x p) X.env) = eval (.Name x p) X.env := by rfl)
    (hfew : ((backTo cpos (starEach [e] X.env)).all (fun x => !x.1) && (backToKw cpos (keywordEach [] X.env)).all (fun x => x.1.isSome) && decide (([e] : List Expr).length + ([] : List Keyword).length + (if ([] : List Keyword).isEmpty then 0 else 1) < 30)) = true := by rfl)
    (hLn : (apos.endLine == cpos.line) = true := by rfl)
    (hSt : starEach [e] X.env = (false, eval e X.env) :: starEach [] X.env := by rfl)
    (hPl : (backTo cpos (starEach [] X.env)).any (·.1) = false := by rfl) :
    PE X (.Call (.Attribute (.Name x p) "extend" apos) [e] [] cpos) (E F W (extV i m)) :=
  (pe_bm PySem.F.plainAttrs_list PySem.F.slot_list_extend PySem.F.type_list_extend mt_extend (pe_var hN hv hd hcd) (pa_cons h pa_nil hSt) hbase hfew hLn hSt hPl).mono fun σ H Q ⟨G, c, r, p⟩ => by
    obtain ⟨l, a, xs, _, e1, h1, q1, p⟩ := po_held r p
    refine ⟨.ref a, e1, tyL h1, sx_mono (po_bind (R1 := RR F) r p) fun y H2 ⟨k, G2, c2, r2, s2, ⟨b, zs, ey, hb, qb⟩, p2⟩ => ?_⟩
    subst ey
    obtain ⟨l2, a2, xs2, e0, e2, h2, q3, p3⟩ := po_held r2 p2
    rw [e1] at e2
    cases e2
    by_cases hl : k.1 = false ∧ l2.length < 100000 ∧ k.2.length < 100000
    · rw [if_pos hl] at p3
      obtain ⟨hk, h5, h6⟩ := hl
      rw [hk, if_neg Bool.false_ne_true] at hb
      refine ⟨a, b, xs2, zs, rfl, rfl, h2, hb, by
        rw [dpAll_len q3, dpAll_len qb]
        have : sizeLine = 16777216 := sizeLine_eq
        omega, ?_⟩
      obtain ⟨a3, xs3, f1, f2, f3, f4⟩ := r2.wr e0
      rw [e1] at f1
      cases f1
      exact p3 .non G2 _ (f4 _ _ (dpAll_app q3 qb)) (Same.refl _) .non
    · rw [if_neg hl] at p3
      exact p3.elim
def popV (i : Nat) : M Dat := M.bind (heldM i) fun l => match l.getLast? with
  | some d => M.bind (wrM i l.dropLast) fun _ => ret d
  | none => bad
theorem dpAll_dropLast {K : PySem.W.Frag} {G : Hp} {xs : List V} {l : List Dat} (q : RpA K G xs l) : RpA K G xs.dropLast l.dropLast := by
  rw [List.dropLast_eq_take, List.dropLast_eq_take, dpAll_len q]
  exact dpAll_take _ q
theorem e_pop {i : Nat} {x : Str} {p apos cpos : Pos} (hN : X.N[i]? = some x) (hv : Vis X.env.scope x) (hd : (x == ("__debug__" : Str)) = false) (hcd : (x == ("__classdict__" : Str)) = false)
    (hbase : attributeBase (.Name x p) "pop" X.env (eval (.Name x p) X.env) = eval (.Name x p) X.env := by rfl) (hLn : (apos.endLine == cpos.line) = true := by rfl) :
    PE X (.Call (.Attribute (.Name x p) "pop" apos) [] [] cpos) (E F W (popV i)) :=
  (pe_bm0 PySem.F.plainAttrs_list PySem.F.slot_list_pop PySem.F.type_list_pop mt_pop (pe_var hN hv hd hcd) hbase hLn).mono fun σ H Q ⟨G, c, r, p⟩ => by
    obtain ⟨l, a, xs, e0, e1, h1, q1, p⟩ := po_held r p
    cases el : l.getLast? with
    | none => rw [el] at p; exact p.elim
    | some d =>
      rw [el] at p
      rw [List.getLast?_eq_getElem?] at el
      obtain ⟨v, ev, qv⟩ := dpAll_get q1 el
      rw [← dpAll_len q1] at ev
      refine ⟨.ref a, e1, tyL h1, a, xs, v, rfl, rfl, h1, ev, ?_⟩
      obtain ⟨a3, xs3, f1, f2, f3, f4⟩ := r.wr e0
      rw [e1] at f1
      cases f1
      exact p v G _ (f4 _ _ (dpAll_dropLast q1)) (Same.refl _) qv
def revV (i : Nat) : M Dat := M.bind (heldM i) fun l => wrM i l.reverse
theorem dpAll_rev {K : PySem.W.Frag} {G : Hp} : ∀ {xs : List V} {l : List Dat}, RpA K G xs l → RpA K G xs.reverse l.reverse
  | _, _, .nil => .nil
  | _, _, .cons h t => by
    simp only [List.reverse_cons]
    exact dpAll_app (dpAll_rev t) (.cons h .nil)
theorem e_rev {i : Nat} {x : Str} {p apos cpos : Pos} (hN : X.N[i]? = some x) (hv : Vis X.env.scope x) (hd : (x == ("__debug__" : Str)) = false) (hcd : (x == ("__classdict__" : Str)) = false)
    (hbase : attributeBase (.Name x p) "reverse" X.env (eval (.Name x p) X.env) = eval (.Name x p) X.env := by rfl) (hLn : (apos.endLine == cpos.line) = true := by rfl) :
    PE X (.Call (.Attribute (.Name x p) "reverse" apos) [] [] cpos) (E F W (revV i)) :=
  (pe_bm0 PySem.F.plainAttrs_list PySem.F.slot_list_reverse PySem.F.type_list_reverse mt_reverse (pe_var hN hv hd hcd) hbase hLn).mono fun σ H Q ⟨G, c, r, p⟩ => by
    obtain ⟨l, a, xs, e0, e1, h1, q1, p⟩ := po_held r p
    refine ⟨.ref a, e1, tyL h1, a, xs, rfl, rfl, h1, ?_⟩
    obtain ⟨a3, xs3, f1, f2, f3, f4⟩ := r.wr e0
    rw [e1] at f1
    cases f1
    exact p .non G _ (f4 _ _ (dpAll_rev q1)) (Same.refl _) .non

/-! ### truth of rows -/
def truR (r : Row) : M Bool := ret (!r.2.isEmpty)
theorem empty_dp {K : PySem.W.Frag} {G : Hp} {xs : List V} {l : List Dat} (q : RpA K G xs l) : xs.isEmpty = l.isEmpty := by
  cases q <;> rfl
theorem tru_rr (hK : F.K = X.K) {G : Hp} {c : Cfg} {v : V} {k : Row} (r : Rel F G c σ H) (q : RR F σ G H c v k) : TruV X.K v H (!k.2.isEmpty) := by
  obtain ⟨a, xs, rfl, h, q⟩ := q
  rw [← empty_dp q]
  rcases rr_or hK r.sub h with h | h
  · exact .inl ⟨xs, h, rfl⟩
  · exact .inr (.inl ⟨xs, h, rfl⟩)
theorem t_row {a : Expr} {m : M Row} (hK : F.K = X.K) (h : PE X a (R_ F W m)) (he : ∀ whole, isTrue a X.env whole = (do let v ← whole; standAt a.pos; holding [v] (truthy v)) := by intro _; rfl) : PT X a (B F W (M.bind m truR)) :=
  (pt_truth h he).mono fun σ H Q h => sx_mono (sx_bind (R1 := RR F) h) fun x H1 ⟨k, G1, c1, r1, q, p⟩ => ⟨_, tru_rr hK r1 q, po_ret r1 p rfl⟩
def nrowV (m : M Row) : M Dat := M.bind m fun r => ret (.bool r.2.isEmpty)
theorem e_nrow {a : Expr} {m : M Row} {pos : Pos} (hK : F.K = X.K) (h : PE X a (R_ F W m)) : PE X (.UnaryOp .Not a pos) (E F W (nrowV m)) :=
  (pe_notT h).mono fun σ H Q h => sx_mono (sx_bind (R1 := RR F) h) fun x H1 ⟨k, G1, c1, r1, q, p⟩ => ⟨_, tru_rr hK r1 q, by
    rw [Bool.not_not]
    exact po_ret r1 p (.bl _)⟩

/-! ### a datum parted into slots, while -/
def tgtM (b : Dat → Cfg → Option Cfg) (d : Dat) : M Ctl := fun c => match b d c with
  | some c' => .ok .nx c'
  | none => .bad
theorem s_asgT {tg e : Expr} {m : M Dat} {is : List Nat} {b : Dat → Cfg → Option Cfg} {pos : Pos} (h : PE X e (E F W m)) (ht : Tgt X F tg is b) (hs : swapsWithSole [tg] e pos.line X.env = pure false := by rfl) (hw : swappedStores [tg] e X.env = pure none := by rfl) (h1 : (assignEach [tg] X.env).map (·.2) = [assign tg X.env] := by rfl) :
    PS X (.Assign [tg] e pos) (T F W (M.bind m (tgtM b))) := by
  obtain ⟨g, pg, kg⟩ := ht
  exact (ps_asg h pg hs hw h1).mono fun D σ H ⟨G, c, r, p⟩ => sx_mono (ps_bind (R1 := RD F) r p) fun x H1 ⟨d, G1, c1, r1, s1, q, p1⟩ => by
    unfold tgtM at p1
    cases e : b d c1 with
    | none => rw [e] at p1; exact p1.elim
    | some c' =>
      rw [e] at p1
      exact kg G1 c1 c' σ H1 x d _ r1 q e fun σ2 r2 _ => p1 σ2 G1 H1 r2 (Same.refl _)
theorem Rel.drops {G : Hp} {c : Cfg} (r : Rel F G c σ H) : ∀ vs : List Nat, Rel F G { c with r := clr vs c.r } σ H
  | [] => r
  | v :: vs => (Rel.drops r vs).drop (i := v)
/-- a loop: behind each turn what the turn has put into its slots is forgotten -/
def whileL (vs : List Nat) (t : M Bool) (b : M Ctl) : Nat → M Ctl
  | 0 => bad
  | n + 1 => M.bind t fun k => if k = true then fun c => match b c with
    | .ok .nx c2 => whileL vs t b n { c2 with r := clr vs c2.r }
    | .ok .ct c2 => whileL vs t b n { c2 with r := clr vs c2.r }
    | .ok .bk c2 => .ok .nx c2
    | r => r
    else ret .nx
theorem s_while (vs : List Nat) (n : Nat) {c : Expr} {body : List Stmt} {mt : M Bool} {mb : M Ctl} {pos : Pos} (hp : PassesOwn (model X.prog X.w) X.A X.env X.xe) (hc : PT X c (B F W mt)) (hb : PSs X body (T F W mb)) : PS X (.While c body [] pos) (T F W (whileL vs mt mb n)) :=
  (ps_while hp hc hb).mono fun D σ H ⟨G, c, r, p⟩ => by
    refine ⟨fun m σ H => ∃ G' c', Same G G' ∧ Rel F G' c' σ H ∧ Ps F W D G' (whileL vs mt mb m c'), ⟨n, G, c, Same.refl _, r, p⟩, ?_⟩
    rintro m σ H ⟨G', c', s', r', p'⟩
    cases m with
    | zero => exact p'.elim
    | succ m =>
      refine sx_mono (ps_bind (R1 := RB) r' p') fun k H1 ⟨k', G1, c1, r1, s1, q, p1⟩ => ?_
      cases q
      cases k with
      | true =>
        rw [if_pos rfl]
        have p1 : Ps F W D G1 (match mb c1 with
          | .ok .nx c2 => whileL vs mt mb m { c2 with r := clr vs c2.r }
          | .ok .ct c2 => whileL vs mt mb m { c2 with r := clr vs c2.r }
          | .ok .bk c2 => .ok .nx c2
          | r => r) := p1
        refine ⟨fun σ' H' => ∃ G2 c2, Same G G2 ∧ Rel F G2 c2 σ' H' ∧ Ps F W D G2 (whileL vs mt mb m c2), fun σ' H' z => ⟨m, Nat.lt_succ_self _, z⟩, G1, c1, r1, ?_⟩
        cases em : mb c1 with
        | ok a c3 =>
          simp only [em] at p1
          cases a with
          | nx => exact fun σ' G3 H3 r4 s4 => ⟨G3, _, (s'.trans s1).trans s4, r4.drops vs, p1.up s4⟩
          | ct => exact fun σ' G3 H3 r4 s4 => ⟨G3, _, (s'.trans s1).trans s4, r4.drops vs, p1.up s4⟩
          | bk => exact fun σ' G3 H3 r4 s4 => p1 σ' G3 H3 r4 s4
          | rt v => exact p1
        | exc k d c3 => simp only [em] at p1; exact p1
        | bad => simp only [em] at p1; exact p1.elim
      | false =>
        rw [if_neg (show ¬(false = true) by decide)]
        exact p1 σ G1 H1 r1 (Same.refl _)
end
end Pn

set_option maxHeartbeats 1000001
namespace Pn
open L2 PyProof.Rows PySem.Spec PySem

/-! ### errors with one field -/
def spEx (Ca : Addr) (f : Str) : Sp := fun vs H Q _ => ∃ a v, vs = [.ref a, v] ∧ H a = some (exo a Ca none) ∧ ∀ dx, H dx = none → dx ≠ a → Q .non (upd (upd H dx (exd dx [(f, v)])) a (exo a Ca (some dx)))
theorem ok_exInit {P : Program} {w : World} {K : PySem.W.Frag} {mg : Str → Option Value} {base : Heap} {qual : Str} {st : Stmt} {fI Ca : Addr} {fd : FuncData} {f x : Str} (Fn : Fun K "__init__" qual st fI fd) (S : FnScope ["self", x] ["self", x] (defScope st))
    (hb : ∃ p1 p2 p3 p4, defBody st = [.Assign [.Attribute (.Name "self" p1) f p2] (.Name x p3) p4]) (hx : (x == ("__debug__" : Str)) = false) (hx2 : (x == ("__classdict__" : Str)) = false) (hv0 : Vis (defScope st) "self") (hv1 : Vis (defScope st) x) (T : OexC K Ca) (hno : PySem.W.findIn K (.ref Ca) f = some none) :
    FnOk P w K mg base CX0 1 fI fd ["self", x] (spEx Ca f) := by
  refine Fn.ok S (fun vs H Q E h => ?_) (fun cdv A outer s H vs Q E hr h => ?_)
  · obtain ⟨a, v, rfl, _⟩ := h
    rfl
  · obtain ⟨a, v, rfl, ha, k⟩ := h
    obtain ⟨p1, p2, p3, p4, eb⟩ := hb
    rw [eb]
    refine ⟨_, pss_one (ps_ost (pe_var (i := 0) rfl hv0 (by decide) (by decide)) (pe_var (i := 1) rfl hv1 hx hx2)), ?_⟩
    exact ⟨v, rfl, .ref a, rfl, a, Ca, rfl, T, hno, .inl ⟨ha, k⟩⟩
/-- an error's class of the text, the k-th -/
structure ErrX (P : Program) (w : World) (K : PySem.W.Frag) (mg : Str → Option Value) (base : Heap) (C : Cls) (k : Nat) (x : Str) : Prop where
  ex : ∃ (Ca fI : Addr) (fd : FuncData) (ps : List Str), C.at_ k = .ref Ca ∧ OexC K Ca ∧ PySem.W.findIn K (.ref Ca) "__init__" = some (some (.ref fI)) ∧ PySem.W.typeIn K (.ref fI) = some (.type "function") ∧
    FnOk P w K mg base CX0 1 fI fd ps (spEx Ca (C.fld k)) ∧ Binds K fd ps [] ∧ mg x = some (.ref Ca)
section
variable {F : Fr} {W : L2.WX} {σ : L2.St} {H : Hp} {X : Cx} {D : Ends}
/-- another object is laid -/
theorem Rel.other {G : Hp} {c : Cfg} {p : Addr} {o : HO} (r : Rel F G c σ H) (hp : H p = none) : Rel F G c σ (upd H p o) := by
  have sH : Same H (upd H p o) := fun b u e => by
    rw [upd_ne (ne_of_none e hp)]
    exact e
  exact { tabs := r.tabs.move (fun b u e _ => sH _ _ e) (fun b u e _ g => g), sub := r.sub.trans sH, g0 := r.g0, fresh := r.fresh, keep := fun b u e h1 h2 => sH _ _ (r.keep b u e h1 h2), len := r.len, inj := r.inj, ioj := r.ioj, mu0 := r.mu0, st0 := r.st0
          sl := fun i s e => (r.sl i s e).move (Same.refl _) (fun l a xs _ _ q1 q2 _ => ⟨sH _ _ q1, q2⟩) (fun l xs _ q1 q2 _ => ⟨sH _ _ q1, q2⟩)
          st := fun hu => by
            obtain ⟨h1, h2, h3, k⟩ := r.st hu
            exact ⟨sH _ _ h1, sH _ _ h2, sH _ _ h3, k⟩
          pin := fun b hb => by
            obtain ⟨h1, k⟩ := r.pin b hb
            exact ⟨sH _ _ h1, k⟩
          dom := fun b e z => by
            by_cases hb : b = p
            · exact e (hb ▸ r.old hp)
            · rw [upd_ne hb] at z
              exact r.dom b e z }
def excM {α : Type} (k : Nat) (d : Dat) : M α := fun c => .exc k d c
theorem s_raise {k : Nat} {x : Str} {e : Expr} {m : M Dat} {p pos pos' : Pos} (hK : F.K = X.K) (hc : X.calm = true) (tk : Takes X W) (Z : ErrX X.prog X.w X.K X.mg X.base F.C k x) (hr : Room 2 X.A) (hg : Gl X x) (h : PE X e (E F W m)) (hdb : (x == ("__debug__" : Str)) = false := by decide)
    (he : starEach [e] X.env = (false, eval e X.env) :: starEach [] X.env := by rfl) : PS X (.Raise (some (.Call (.Name x p) [e] [] pos)) none pos') (T F W (M.bind m fun d => excM k d)) := by
  obtain ⟨Ca, fI, fd, ps, eC, TC, iC, tI, F1, hb, hm⟩ := Z.ex
  refine (ps_raise hc tk (pmk_oex TC iC tI F1 hr hb .nil pass0 hg hm (pa_cons h pa_nil he) hdb he)).mono fun D σ H ⟨G, c, r, p⟩ => sx_mono (ps_bind (R1 := RD F) r p) fun v H1 ⟨d, G1, c1, r1, s1, q, p1⟩ => ?_
  refine ⟨by show 1 ≤ 1000; decide, fun a ha => ⟨a, v, rfl, upd_same, fun dx hd ne => ⟨rfl, dx, [(F.C.fld k, v)], upd_same, ?_, ?_, ?_⟩⟩⟩
  · rw [upd_ne ne, upd_same]
  · rw [upd_ne ne] at hd
    exact hd
  · have hd1 : H1 dx = none := by
      rw [upd_ne ne] at hd
      exact hd
    have eh : upd (del (upd (upd (upd H1 a (exo a Ca none)) dx (exd dx [(F.C.fld k, v)])) a (exo a Ca (some dx))) a) dx (.xd [(F.C.fld k, v)]) = upd H1 dx (.xd [(F.C.fld k, v)]) := by
      funext b
      by_cases h1 : b = dx
      · rw [h1, upd_same, upd_same]
      · rw [upd_ne h1, upd_ne h1]
        by_cases h2 : b = a
        · rw [h2, del_same]
          exact ha.symm
        · rw [del_ne h2, upd_ne h2, upd_ne h1, upd_ne h2]
    rw [eh, ← eC]
    exact p1 dx v σ G1 _ (r1.other hd1) upd_same q

/-! ### defs at hand -/
structure Has (P : Program) (w : World) (K : PySem.W.Frag) (mg : Str → Option Value) (base : Heap) (C : Cls) (x : Str) (k n : Nat) (g : List Dat → PR) : Prop where
  ex : ∃ (f : Addr) (fd : FuncData) (ps : List Str), ps.length = n ∧ FnOk P w K mg base (L2.CX P w) k f fd ps (spP K C n g) ∧ mg x = some (.ref f) ∧ PySem.W.keepIn K (.ref f) = true ∧ Binds K fd ps []
def callN (n : Nat) (g : List Dat → PR) (ms : M (List Dat)) : M RV := M.bind ms fun ds => if ds.length = n then callP g ds else bad
theorem e_callH {k n j : Nat} {g : List Dat → PR} {x : Str} {p pos : Pos} {e : Expr} {es : List Expr} {ms : M (List Dat)} (hK : F.K = X.K) (Z : Has X.prog X.w X.K X.mg X.base F.C x k n g) (hr : Room j X.A) (hkj : k ≤ j) (hg : Gl X x) (tk : Takes X W) (ha : PA X (e :: es) (A F W ms)) (hlen : (e :: es).length = n)
    (hdb : (x == ("__debug__" : Str)) = false := by decide) (he : starEach (e :: es) X.env = (false, eval e X.env) :: starEach es X.env := by rfl) (hpl : (backTo pos (starEach es X.env)).any (·.1) = false := by rfl) : PE X (.Call (.Name x p) (e :: es) [] pos) (EX F W (callN n g ms)) := by
  obtain ⟨f, fd, ps, h1, h2, h3, h4, h5⟩ := Z.ex
  exact e_call hK h1 h2 (hr.mono hkj) hg h3 h4 h5 tk ha hlen hdb he hpl
theorem Has.up {P : Program} {w : World} {K : PySem.W.Frag} {mg : Str → Option Value} {base : Heap} {C : Cls} {x : Str} {k k' n : Nat} {g : List Dat → PR} (Z : Has P w K mg base C x k n g) (h : k ≤ k') : Has P w K mg base C x k' n g := by
  obtain ⟨f, fd, ps, h1, h2, h3⟩ := Z.ex
  exact ⟨f, fd, ps, h1, h2.mono h, h3⟩
/-- where the body hangs on what it has not got, nothing is promised -/
theorem fn_none {P : Program} {w : World} {K : PySem.W.Frag} {mg : Str → Option Value} {base : Heap} {f : Addr} {fd : FuncData} {ps : List Str} {k n : Nat} {C : Cls} {CX : CXT} : FnOk P w K mg base CX k f fd ps (spP K C n fun _ => .bad) :=
  ⟨fun vs H Q E ⟨_, _, _, _, _, z⟩ => z.elim, fun _ _ _ _ _ _ _ _ _ _ _ _ _ ⟨_, _, _, _, _, z⟩ => z.elim⟩
end
end Pn

set_option maxHeartbeats 2000001
/-! enumerate of a tuple. -/
namespace PnEn
open L2 PyProof.Rows PySem.Spec PySem
open AutoSeq1
theorem newT (t : Addr) (its : Array Value) (n : Nat) (dct : Option Addr) (sl : Array (Option Value)) :
    Meets (Builtin.«enumerate.__new__» ⟨[.type "enumerate", .ref t], []⟩) (fun _ R s => s.heap.get? t = some { cls := .type "tuple", dict := dct, data := .seq its n, slots := sl } ∧
      R (.ok (.ret (.ref (s.heap.push { cls := .type "tuple_iterator", data := .fields #[.ref t, .int 0 0] }).objs.size)))
        { s with heap := (s.heap.push { cls := .type "tuple_iterator", data := .fields #[.ref t, .int 0 0] }).push { cls := .type "enumerate", data := .fields #[.none, .bool false, .ref s.heap.objs.size, rawInt 0, .none, .none] } }) :=
  .of_wp fun P w A R s ⟨e, q⟩ => by
    have sub := sub_enumerate
    obtain ⟨h, g, d, tk, os⟩ := s
    have isT : Heap.IsTuple (Shared.heap ⟨h, g, d, tk, os⟩) t its := ⟨_, e, rfl, n, rfl⟩
    wp_walk using wpAny_loadPart' e
    apply wpAny_stack_any
    intro st
    apply wpAny_pure
    split
    · rename_i c _ _ _ _ _
      cases (c == Value.type "enumerate") <;> (wp_walk using wpAny_loadPart' e, wpAny_pyIter_tuple isT; exact ⟨_, rfl, q⟩)
    · wp_walk using wpAny_loadPart' e, wpAny_pyIter_tuple isT
      exact ⟨_, rfl, q⟩
section
variable {P : Program} {w : World} {A : Around} {s : Shared}
variable {E : Value → Shared → Prop}
theorem callT {t : Addr} {its : Array Value} {Q : Value → Shared → Prop} (isT : s.heap.IsTuple t its)
    (q : ∀ h', IsEnum h' (s.heap.objs.size + 1) s.heap.objs.size 0 .none → h'.IsTupleIter s.heap.objs.size t 0 → (∀ b o, s.heap.get? b = some o → h'.get? b = some o) → Q (.ref (s.heap.objs.size + 1)) { s with heap := h' }) :
    wpAny (model P w) A (call (.type "enumerate") [.ref t]) Q E s := by
  obtain ⟨⟨c, dct, dt, sl⟩, e, hc, n, hd⟩ := isT
  obtain rfl : c = .type "tuple" := hc
  obtain rfl : dt = .seq its n := hd
  refine callType_new F.called_enumerate (by decide) (F.typeCall_enumerate_1 _) (F.newCall_enumerate_1 _) (fun ob => F.args_object_init_2 ob _) F.entry_enumerate_new (newT t its n dct sl) ⟨e, ?_⟩
  let h1 := s.heap.push { cls := .type "tuple_iterator", data := .fields #[.ref t, .int 0 0] }
  have z : h1.objs.size = s.heap.objs.size + 1 := Heap.size_push ..
  have en : IsEnum (h1.push { cls := .type "enumerate", data := .fields #[.none, .bool false, .ref s.heap.objs.size, rawInt 0, .none, .none] }) (s.heap.objs.size + 1) s.heap.objs.size 0 .none := by
    have k := Heap.get?_push_size h1 (o := { cls := .type "enumerate", data := .fields #[.none, .bool false, .ref s.heap.objs.size, rawInt 0, .none, .none] }) rfl
    rwa [z] at k
  have z' : (s.heap.push { cls := .type "tuple_iterator", data := .fields #[.ref t, .int 0 0] }).objs.size = s.heap.objs.size + 1 := z
  show _ ∧ _
  rw [z']
  exact ⟨⟨_, en, rfl⟩, q _ en ⟨_, Heap.get?_push_of_some _ (Heap.get?_push_size _ rfl), rfl, rfl⟩ fun b o x => Heap.get?_push_of_some _ (Heap.get?_push_of_some _ x)⟩
end
theorem of_two {P : Nat → Prop} {b e it : Nat} (hb : b ∈ [e, it]) (h1 : P e) (h2 : P it) : P b := by
  simp only [or_false, List.mem_cons, List.not_mem_nil] at hb
  rcases hb with h | h <;> subst h <;> assumption
/-- the tuple at a, each item in a new pair with its place -/
def IteT (K : PySem.W.Frag) (a : Addr) : It :=
  ⟨fun i H => ∃ (xs : List V) (x : V), SqT K H a xs ∧ xs[i]? = some x, fun i H v H' => ∃ T x, v = .ref T ∧ H T = none ∧ H' = upd H T (.tup [.int (i : Nat), x]) ∧ ∀ xs, SqT K H a xs → xs[i]? = some x, fun i H => ∃ xs : List V, SqT K H a xs ∧ xs.length = i⟩
/-- where an enumerate of a tuple stands before its turn i -/
def AtE (a e it : Addr) (i : Nat) (h : Heap) : Prop := (∃ old, IsEnum h e it ((i : Nat) : Int) old) ∧ h.IsTupleIter it a i ∧ e ≠ it ∧ a ≠ it ∧ e ≠ a
theorem turnT {P : Program} {w : World} {K : PySem.W.Frag} {elts : List Expr} {kk : Nat} {tpos : Pos} (a e it : Addr) :
    Turn P w K (.Tuple elts kk tpos) (IteT K a) [e, it] e (AtE a e it) where
  mem := List.mem_cons_self
  obj := by
    rintro i h ⟨⟨old, he⟩, ⟨o, ho, hc, hd⟩, _⟩ b hb
    refine of_two (P := fun b => ∃ o, h.get? b = some o ∧ ∀ v, o.data ≠ .cell v) hb ⟨_, he, ?_⟩ ⟨o, ho, ?_⟩
    · intro v z
      cases z
    · intro v z
      rw [hd] at z
      cases z
  keep := fun i h h' ⟨⟨old, he⟩, hi, hne⟩ k => ⟨⟨old, k e List.mem_cons_self _ he⟩, hi.at fun o q => k it (List.mem_cons_of_mem _ List.mem_cons_self) o q, hne⟩
  item := by
    rintro X rfl rfl rfl hc i pins s σ H E I hf ⟨⟨old, he⟩, hit, n1, n2, n3⟩ ⟨xs, x, hq, hx⟩
    obtain ⟨its, rv, isT, hz⟩ := I.tuple hq
    obtain ⟨y, hu, ru⟩ := rv.get hx
    have le : e < s.heap.objs.size := Heap.lt_size he
    have li : it < s.heap.objs.size := hit.elim fun _ q => Heap.lt_size q.1
    have hlt : i < its.toArray.size := by
      have := (List.getElem?_eq_some_iff.mp hu).1
      simpa using this
    have hd : X.A.in1.handled = none := I.ok.hd hc
    refine wpAny_pyNext_enum_itemD (Draws.tuple (prog := X.prog) (w := X.w) (A := X.A.in1) hd it a n2 its.toArray) he ⟨hit, isT⟩ hlt n1 (by simp [n1, n3]) fun y' h' tk hy ho hit' hT hsz hk => ?_
    obtain rfl : y' = y := by
      have e1 : its.toArray[i]? = some y' := hy
      rw [List.getElem?_toArray, hu] at e1
      exact (Option.some.inj e1).symm
    refine ⟨_, rfl, wpAny_letOwnedTupleGo_enum (s := { s with heap := h', toks := tk + 1 }) ho fun h'' he' sb => ?_⟩
    have cell := (sb.2 _ (Nat.ne_of_gt le)).trans hT
    have ok : ObjOk X.prog X.w (upd H s.heap.objs.size (.tup [.int (i : Nat), x])) h'' s.heap.objs.size (.tup [.int (i : Nat), x]) :=
      ⟨by show 2 ≤ sizeLine; decide, [.int i tk, y'], .cons ⟨_, rfl⟩ (.cons ru .nil), ⟨_, cell, rfl, _, rfl⟩⟩
    have same : ∀ b ob, b ∉ [e, it] → s.heap.get? b = some ob → h''.get? b = some ob := by
      intro b ob hb q
      have b1 : b ≠ e := fun z => hb (z ▸ List.mem_cons_self)
      have b2 : b ≠ it := fun z => hb (z ▸ List.mem_cons_of_mem _ List.mem_cons_self)
      exact (sb.2 b b1).trans (hk b ob b1 b2 q)
    refine ⟨.ref s.heap.objs.size, _, I.turnedNew (ch := [e, it]) (h' := h'') (t' := tk + 1) same hf (Nat.le_refl _) ok, rfl, ⟨_, x, rfl, I.hok.fresh (Nat.le_refl _), rfl, fun ys hy => by rw [I.tuple_inj hy hq]; exact hx⟩, ⟨⟨y', ?_⟩, hit'.1.at fun o q => (sb.2 it (Ne.symm n1)).trans q, n1, n2, n3⟩, fun b hb => ?_⟩
    · rw [Int.natCast_succ]
      exact he'
    · have lt : b < s.heap.objs.size := of_two (P := fun b => b < s.heap.objs.size) hb le li
      exact (upd_ne (Nat.ne_of_lt lt)).trans (hf b hb).1
  done := by
    rintro X rfl rfl rfl hc i pins s σ H E I hf ⟨⟨old, he⟩, hit, n1, n2, n3⟩ ⟨xs, hq, hx⟩
    obtain ⟨its, rv, isT, hz⟩ := I.tuple hq
    obtain ⟨w0, w1, w2, w3, w4, w5⟩ := hf it (List.mem_cons_of_mem _ List.mem_cons_self)
    obtain rfl : i = its.toArray.size := by rw [List.size_toArray, ← rv.length, hx]
    have hd : X.A.in1.handled = none := I.ok.hd hc
    exact wpAny_pyNext_enum_endD (Draws.tuple (prog := X.prog) (w := X.w) (A := X.A.in1) hd it a n2 its.toArray) he ⟨hit, isT⟩ fun h' eb => ⟨rfl, I.turned (t' := s.toks) (fun b o hb q => eb b o hb q) w0 w1 w3 w4 w5⟩
  self := fun A i s Q E k h => k.1.elim fun _ he => wpAny_pyIter_enum he h
def iEnumT (K : PySem.W.Frag) (ta : TA) : TI := fun σ H R => ta σ H fun vs H1 => ∃ a xs, vs = [.ref a] ∧ SqT K H1 a xs ∧ R (IteT K a) H1
theorem pi_enumT {X : Cx} {e : Expr} {ta : TA} {p pos tpos : Pos} {elts : List Expr} {kk : Nat} (hg : Gl X "enumerate") (hm : X.mg "enumerate" = none) (ha : PA X [e] ta) (hs : starEach [e] X.env = [(false, eval e X.env)] := by rfl) :
    PI X (.Tuple elts kk tpos) (.Call (.Name "enumerate" p) [e] [] pos) (iEnumT X.K ta) where
  run := by
    intro pins s σ H R I h
    refine Call_ (ld_blt I hg hm boot_enumerate (PyProof.Rows.callWith_type1 (thn (ha.run pos pins s σ H _ I h) fun us s1 => ?_) hs rfl))
    rintro ⟨vs, H1, I1, r1, a, xs, rfl, hq, q⟩
    cases r1 with
    | cons r rr =>
      cases rr
      cases r
      obtain ⟨its, rv, isT, hz⟩ := I1.tuple hq
      have la : a < s1.heap.objs.size := isT.elim fun _ z => Heap.lt_size z.1
      refine callT isT fun h' he hit hk => wpAny_pyIter_enum he ?_
      refine ⟨s1.heap.objs.size + 1, [s1.heap.objs.size + 1, s1.heap.objs.size], _, _, H1, rfl, I1.kept (h' := h') (t' := s1.toks) hk, turnT a (s1.heap.objs.size + 1) s1.heap.objs.size, ⟨⟨.none, he⟩, hit, Nat.succ_ne_self _, Nat.ne_of_lt la, Nat.ne_of_gt (Nat.lt_succ_of_lt la)⟩, fun b hb => ?_, q⟩
      have up : s1.heap.objs.size ≤ b := of_two (P := fun b => s1.heap.objs.size ≤ b) hb (Nat.le_succ _) (Nat.le_refl _)
      exact I1.fpOk up (I1.hok.fresh up)
end PnEn
namespace Pn
open L2 PyProof.Rows PySem.Spec PySem
/-- pairs of the places and the items -/
def pairsF : Nat → List Dat → List Dat
  | _, [] => []
  | i, d :: ds => .tuple [.int (i : Int), d] :: pairsF (i + 1) ds
theorem pairsF_len : ∀ (ds : List Dat) (i : Nat), (pairsF i ds).length = ds.length
  | [], _ => rfl
  | _ :: ds, i => congrArg (· + 1) (pairsF_len ds (i + 1))
theorem pairsF_get : ∀ {ds : List Dat} {k i : Nat} {d : Dat}, (pairsF k ds)[i]? = some d → ∃ x, ds[i]? = some x ∧ d = .tuple [.int ((k + i : Nat) : Int), x]
  | [], _, _, _, e => by simp [pairsF] at e
  | x :: ds, k, 0, d, e => by
    simp only [pairsF, List.getElem?_cons_zero, Option.some.injEq] at e
    exact ⟨x, rfl, e.symm⟩
  | x :: ds, k, i + 1, d, e => by
    simp only [pairsF, List.getElem?_cons_succ] at e
    obtain ⟨y, h1, h2⟩ := pairsF_get e
    exact ⟨y, by simpa using h1, by rw [h2, show k + 1 + i = k + (i + 1) by omega]⟩
section
variable {F : Fr} {W : L2.WX} {σ : L2.St} {H : Hp} {X : Cx} {D : Ends}
theorem src_enumL {K : PySem.W.Frag} {G : Hp} {a : Addr} {xs : List V} {items : List Dat} (h : G a = some (.lst xs)) (q : RpA K G xs items) : Src K G (Ite K a) (pairsF 0 items) := fun F G' c σ H e s r => by
  have hq : SqL K H a xs := Evl.sq_of (r.sub _ _ (s _ _ h))
  refine ⟨⟨xs, hq, by rw [pairsF_len]; exact Nat.le_of_eq (dpAll_len q)⟩, fun i d ed => ?_⟩
  obtain ⟨x, ex, rfl⟩ := pairsF_get ed
  obtain ⟨v, ev, qv⟩ := dpAll_get q ex
  refine ⟨⟨xs, v, hq, ev⟩, fun y H' ⟨T, z, e1, e2, e3, e4⟩ => ?_⟩
  subst e1
  subst e3
  cases (e4 xs hq).symm.trans ev
  obtain ⟨r2, s2⟩ := r.laid (o := .tup [.int (i : Nat), v]) e2
  refine ⟨_, r2, s2, .tup (Evl.st_of upd_same) (.cons ?_ (.cons (dp_mono (s.trans s2) qv) .nil))⟩
  rw [Nat.zero_add]
  exact .int _
theorem src_enumT {K : PySem.W.Frag} {G : Hp} {a : Addr} {xs : List V} {items : List Dat} (h : SqT K G a xs) (q : RpA K G xs items) : Src K G (PnEn.IteT K a) (pairsF 0 items) := fun F G' c σ H e s r => by
  have hq : SqT K H a xs := sqT_mono (s.trans r.sub) h
  refine ⟨⟨xs, hq, by rw [pairsF_len]; exact dpAll_len q⟩, fun i d ed => ?_⟩
  obtain ⟨x, ex, rfl⟩ := pairsF_get ed
  obtain ⟨v, ev, qv⟩ := dpAll_get q ex
  refine ⟨⟨xs, v, hq, ev⟩, fun y H' ⟨T, z, e1, e2, e3, e4⟩ => ?_⟩
  subst e1
  subst e3
  cases (e4 xs hq).symm.trans ev
  obtain ⟨r2, s2⟩ := r.laid (o := .tup [.int (i : Nat), v]) e2
  refine ⟨_, r2, s2, .tup (Evl.st_of upd_same) (.cons ?_ (.cons (dp_mono (s.trans s2) qv) .nil))⟩
  rw [Nat.zero_add]
  exact .int _
def enL : Dat → M (List Dat)
  | .list l => ret (pairsF 0 l)
  | _ => bad
def enT : Dat → M (List Dat)
  | .tuple l => ret (pairsF 0 l)
  | _ => bad
theorem i_enumL {e : Expr} {m : M Dat} {p pos tpos : Pos} {elts : List Expr} {kk : Nat} (hK : F.K = X.K) (hg : Gl X "enumerate") (hm : X.mg "enumerate" = none) (h : PE X e (E F W m)) (hs : starEach [e] X.env = [(false, eval e X.env)] := by rfl) :
    PI X (.Tuple elts kk tpos) (.Call (.Name "enumerate" p) [e] [] pos) (I_ F W (M.bind m enL)) :=
  (pi_enum hg hm (pa_cons h pa_nil hs) hs).mono fun σ H Q h => sx_mono (sx_bind (R1 := RD F) h) fun x H1 ⟨d, G1, c1, r1, q, p⟩ => by
    cases q with
    | lst h q => exact ⟨_, _, rfl, Evl.sq_of (r1.sub _ _ h), hK ▸ po_ret (v := Ite F.K _) r1 p (src_enumL h q)⟩
    | _ => exact p.elim
theorem i_enumT {e : Expr} {m : M Dat} {p pos tpos : Pos} {elts : List Expr} {kk : Nat} (hK : F.K = X.K) (hg : Gl X "enumerate") (hm : X.mg "enumerate" = none) (h : PE X e (E F W m)) (hs : starEach [e] X.env = [(false, eval e X.env)] := by rfl) :
    PI X (.Tuple elts kk tpos) (.Call (.Name "enumerate" p) [e] [] pos) (I_ F W (M.bind m enT)) :=
  (PnEn.pi_enumT hg hm (pa_cons h pa_nil hs) hs).mono fun σ H Q h => sx_mono (sx_bind (R1 := RD F) h) fun x H1 ⟨d, G1, c1, r1, q, p⟩ => by
    cases q with
    | tup h q => exact ⟨_, _, rfl, hK ▸ sqT_mono r1.sub h, hK ▸ po_ret (v := PnEn.IteT F.K _) r1 p (src_enumT h q)⟩
    | _ => exact p.elim
end
end Pn

set_option maxHeartbeats 4000001
/-! a set of a list or a tuple of integers, as a thing of its own in the heap -/
namespace PnSet
open L2 PyProof.Rows PySem.Spec PySem
abbrev mt (w : World) : Obj := { cls := .type "set", dict := none, data := .set #[] 0 (.fresh 0 0 (!w.params.followText "set-order")) }
section
variable {Pr : Program} {w : World} {A : Around} {s : Shared}
variable {E : Value → Shared → Prop}
/-- a set is made of x, if x is walked so -/
theorem made {l : Addr} {its : Array Value} (ns : List Int) {Q : Value → Shared → Prop} (hh : A.handled = none) (hl : s.heap.IsList l its) (hi : IntsAre its.toList ns) (hb : ns.length + 1 < scanBound)
    (fin : ∀ (g : Heap) (tk c : Nat), SetR w g s.heap.objs.size (fun j => decide (j ∈ ns)) c → c ≤ ns.length → (∀ b o, s.heap.get? b = some o → g.get? b = some o) → Q (.ref s.heap.objs.size) { s with heap := g, toks := tk }) : wpAny (model Pr w) A (call (.type "set") [.ref l]) Q E s := by
  have many : its.size = ns.length := (Array.length_toList (xs := its)).symm.trans (IntsAre.length hi)
  obtain ⟨c, rest, order⟩ := F.called_set.mro
  have k0 := F.called_set.made
  have k1 := F.called_set.sub
  have k2 := F.called_set.notType
  have k3 := F.called_set.canCreate
  have k4 := F.typeCall_set_1 (.ref l)
  refine wpAny_call (codeAny_of_tree (show wpAny _ _ (callAny (.type "set") _) _ _ _ from ?_))
  refine wpAny_pure ⟨Code.quiet_builtin _ (by decide +kernel), ?_⟩
  refine codeAny_builtin F.entry_type_call (Around.under_plain (weight_type_call_type "set" [.ref l] []) rfl ▸ ?_)
  repeat any_goals first | assumption | wp_step
  refine codeAny_mono (code_set_led1 (.ref l) (E := E) (Q₁ := fun ob s1 => ob = .ref s.heap.objs.size ∧ s1 = { s with heap := s.heap.push (mt w) }) ⟨rfl, rfl⟩) ?_
  rintro (e | r) s1 hr
  · exact hr
  · cases r with
    | ret ob =>
      obtain ⟨rfl, rfl⟩ := hr
      have at0 : (s.heap.push (mt w)).get? s.heap.objs.size = some (mt w) := Heap.get?_push_size _ rfl
      have is0 : Shared.TypeIs { s with heap := s.heap.push (mt w) } (.ref s.heap.objs.size) "set" := ⟨_, at0, rfl⟩
      have k5 := F.called_set.init.lookup
      have k6 := F.called_set.init.bind (.ref s.heap.objs.size)
      repeat any_goals first | assumption | wp_step
      refine codeAny_mono (codeAny_call_builtin (R := wants (fun r s2 => r = .none ∧ ∃ h' tk c, s2 = { s with heap := h', toks := tk } ∧ SetR w h' s.heap.objs.size (fun j => decide (j ∈ ns)) c ∧ c ≤ ns.length ∧ (∀ b o, s.heap.get? b = some o → h'.get? b = some o)) E)
        F.called_set.init.plain F.entry_set_init (check_set_init_1 is0 ?_)) ?_
      · obtain ⟨⟨c1, dct, dt, sl⟩, ol, hc, nl, hd⟩ := hl
        obtain rfl : c1 = .type "list" := hc
        obtain rfl : dt = .seq its nl := hd
        have ol1 : (s.heap.push (mt w)).get? l = some { cls := .type "list", dict := dct, data := .seq its nl, slots := sl } := Heap.get?_push_of_some _ ol
        have isL : (s.heap.push (mt w)).IsList l its := ⟨_, ol1, rfl, nl, rfl⟩
        have z1 := F.sub_list_set
        have z2 := F.sub_list_frozenset
        have z3 : (Value.type "list" == Value.type "dict") = false := by decide
        unfold Builtin.«set.__init__»
        unfold noKeywords Builtin.Frozenset.updateFrom
        generalize hPI : pyIter = PI
        wp_walk
        subst hPI
        refine wpAny_pyIter_list isL (wpAny_bind (wpAny_runValue ?_))
        have lS : l < s.heap.objs.size := Heap.lt_size ol
        have hno : A.in1.in1.in1.handled = none := by simp [hh]
        have hp : (s.heap.push (mt w)).objs.size = s.heap.objs.size + 1 := Heap.size_push ..
        have lI : l ≠ (s.heap.push (mt w)).objs.size := hp ▸ Nat.ne_of_lt (Nat.lt_succ_of_lt lS)
        have out : s.heap.objs.size ∉ [(s.heap.push (mt w)).objs.size, l] := by
          rw [hp]
          intro m
          rcases List.mem_cons.mp m with z | z
          · exact Nat.ne_of_lt (Nat.lt_succ_self _) z
          · exact Nat.ne_of_gt lS (List.mem_singleton.mp z)
        have val : ∀ (i : Nat) (v : Value), its[i]? = some v → ∃ k t, ns[i]? = some k ∧ v = .int k t := by
          intro i v hv
          have li : i < ns.length := many ▸ (Array.getElem?_eq_some_iff.mp hv).1
          have ge : ns[i]? = some ns[i] := List.getElem?_eq_getElem li
          obtain ⟨t, e⟩ := PyProof.Rows.IntsAre.int_at hi i v (Array.getElem?_toList.trans hv)
          exact ⟨ns[i], t, ge, by rw [e, List.getD_eq_getElem?_getD, ge]; rfl⟩
        refine set_update_ints (Walks.list hno _ l lI its).toS s.heap.objs.size out ns many hb val (its.size - 0) 0 _ (by omega) (Nat.zero_le _) ⟨⟨_, Heap.get?_push_size _ rfl, rfl, rfl⟩, isL.push _⟩ ⟨0, Nat.le_refl 0, setR_new_at (Heap.get?_push_of_some _ at0)⟩ ?_
        rintro ⟨h', g', d', tk', os'⟩ c' hm hc' hS'
        obtain rfl : g' = s.gens := hm.gens
        obtain rfl : d' = s.drawn := hm.drawn
        obtain rfl : os' = s.os := hm.os
        show wpAny _ _ _ _ _ _
        refine wpAny_pure (show wpAny _ _ (ret Value.none) _ _ _ from ?_)
        refine wpAny_pure ⟨rfl, h', tk', c', rfl, hS', many ▸ hc', fun b o e => ?_⟩
        have bl : b < s.heap.objs.size := Heap.lt_size e
        refine hm.heap b o (fun m => ?_) (Heap.get?_push_of_some _ (Heap.get?_push_of_some _ e))
        rcases List.mem_cons.mp m with z | z
        · exact Nat.ne_of_lt bl z
        · exact Nat.ne_of_lt (Nat.lt_succ_of_lt bl) ((List.mem_singleton.mp z).trans hp)
      · rintro (e | r2) s2 hr2
        · exact hr2
        · cases r2 with
          | ret r =>
            obtain ⟨rfl, h', tk, c', rfl, hS', hc', hk'⟩ := hr2
            repeat any_goals first | assumption | wp_step
            exact fin _ _ _ hS' hc' hk'
          | _ => exact hr2.elim
    | _ => exact hr.elim
end
section
variable {X : Cx}
/-- set(x), x a list or a tuple of integers -/
def tSet (K : PySem.W.Frag) (w : World) (te : TE) : TE := fun σ H Q => te σ H fun v H1 => ∃ (a : Addr) (ns : List Int), v = .ref a ∧ (SqL K H1 a (ns.map V.int) ∨ SqT K H1 a (ns.map V.int)) ∧ ns.length ≤ 1000 ∧ ∀ p c, H1 p = none → c ≤ ns.length → Q (.ref p) (upd H1 p (SetO w p (fun j => decide (j ∈ ns)) c))
theorem pe_set {e : Expr} {te : TE} {p pos : Pos} (hc : X.calm = true) (hg : Gl X "set") (hm : X.mg "set" = none) (he : PE X e te) (hs : starEach [e] X.env = (false, eval e X.env) :: starEach [] X.env := by rfl) :
    PE X (.Call (.Name "set" p) [e] [] pos) (tSet X.K X.w te) where
  run := by
    intro pins s σ H Q I h
    refine Call_ (ld_blt I hg hm PyProof.Rows.boot_set (PyProof.Rows.callWith_type1 (args_cons (thn (he.run pins s σ H _ I h) fun u s1 => ?_) hs) hs rfl))
    rintro ⟨v, H1, I1, r1, a, ns, rfl, hq, hn, q⟩
    refine args_nil ?_
    cases (show u = Value.ref a from r1)
    have hd := I1.ok.hd hc
    have fin : ∀ (h' : Heap) (tk c : Nat), SetR X.w h' s1.heap.objs.size (fun j => decide (j ∈ ns)) c → c ≤ ns.length → (∀ b o, s1.heap.get? b = some o → h'.get? b = some o) → EP X pins σ Q (Value.ref s1.heap.objs.size) { s1 with heap := h', toks := tk } := by
      intro h' tk c R hc' k
      exact ⟨.ref s1.heap.objs.size, _, I1.laid (t' := tk) k (Nat.le_refl _) (setO_new R), rfl, q _ c (I1.hok.fresh (Nat.le_refl _)) hc'⟩
    rcases hq with hq | hq
    · obtain ⟨its, rv, pt, hz⟩ := I1.list hq
      exact made ns hd pt.isList (ints_of_vals rv) (by unfold scanBound; omega) fin
    · obtain ⟨its, rv, pt, hz⟩ := I1.tuple hq
      exact call_set_tupI ns hd (show s1.heap.IsTuple a its.toArray from pt) (ints_of_vals rv) (by unfold scanBound; omega) fin
end
end PnSet

set_option maxHeartbeats 1000001
namespace Pn
open L2 PyProof.Rows PySem.Spec PySem
section
variable {F : Fr} {W : L2.WX} {σ : L2.St} {H : Hp} {X : Cx} {D : Ends}

/-! ### from the back -/
theorem rev_at {α : Type} {l : List α} {i : Nat} {d : α} (e : l.reverse[i]? = some d) : i < l.length ∧ l[l.length - 1 - i]? = some d := by
  have hi : i < l.length := by
    have := (List.getElem?_eq_some_iff.mp e).1
    simpa using this
  exact ⟨hi, (List.getElem?_reverse hi).symm.trans e⟩
theorem src_revL {K : PySem.W.Frag} {G : Hp} {a : Addr} {xs : List V} {ds : List Dat} (h : G a = some (.lst xs)) (q : RpA K G xs ds) : Src K G (Itv K a xs.length) ds.reverse := by
  intro F G' c σ H e s r
  have hq : SqL K H a xs := Evl.sq_of (r.sub _ _ (s _ _ h))
  have n := dpAll_len q
  refine ⟨by show xs.length ≤ ds.reverse.length; rw [List.length_reverse, n]; exact Nat.le_refl _, fun i d ed => ?_⟩
  obtain ⟨hi, hd⟩ := rev_at ed
  obtain ⟨v, ev, qv⟩ := dpAll_get q hd
  rw [← n] at hi ev
  refine ⟨⟨hi, xs, v, hq, ev⟩, ?_⟩
  rintro x H' ⟨rfl, k⟩
  cases (k xs hq).symm.trans ev
  exact ⟨G', r, Same.refl _, dp_mono s qv⟩
theorem src_revT {K : PySem.W.Frag} {G : Hp} {a : Addr} {xs : List V} {ds : List Dat} (h : SqT K G a xs) (q : RpA K G xs ds) : Src K G (RT.ItvT K a xs.length) ds.reverse := by
  intro F G' c σ H e s r
  have hq : SqT K H a xs := sqT_mono (s.trans r.sub) h
  have n := dpAll_len q
  refine ⟨by show xs.length ≤ ds.reverse.length; rw [List.length_reverse, n]; exact Nat.le_refl _, fun i d ed => ?_⟩
  obtain ⟨hi, hd⟩ := rev_at ed
  obtain ⟨v, ev, qv⟩ := dpAll_get q hd
  rw [← n] at hi ev
  refine ⟨⟨hi, xs, v, hq, ev⟩, ?_⟩
  rintro x H' ⟨rfl, k⟩
  cases (k xs hq).symm.trans ev
  exact ⟨G', r, Same.refl _, dp_mono s qv⟩
def itBack : Dat → M (List Dat)
  | .list l => ret l.reverse
  | .tuple l => ret l.reverse
  | _ => bad
theorem i_rev {tg e : Expr} {m : M Dat} {p pos : Pos} (hK : F.K = X.K) (hg : Gl X "reversed") (hm : X.mg "reversed" = none) (h : PE X e (E F W m)) (hs : starEach [e] X.env = (false, eval e X.env) :: starEach [] X.env := by rfl) :
    PI X tg (.Call (.Name "reversed" p) [e] [] pos) (I_ F W (M.bind m itBack)) :=
  (RT.pi_revA hg hm h hs).mono fun σ H Q h => sx_mono (sx_bind (R1 := RD F) h) fun x H1 ⟨d, G1, c1, r1, q, p⟩ => by
    cases q with
    | lst h q => exact ⟨_, _, rfl, .inl ⟨Evl.sq_of (r1.sub _ _ h), hK ▸ po_ret (v := Itv F.K _ _) r1 p (src_revL h q)⟩⟩
    | tup h q => exact ⟨_, _, rfl, .inr ⟨hK ▸ sqT_mono r1.sub h, hK ▸ po_ret (v := RT.ItvT F.K _ _) r1 p (src_revT h q)⟩⟩
    | _ => exact p.elim

/-! ### integers in a row -/
def intL : List Dat → Option (List Int)
  | [] => some []
  | .int i :: r => (intL r).map (i :: ·)
  | _ => none
theorem intL_map : ∀ ns : List Int, intL (ns.map PyData.int) = some ns
  | [] => rfl
  | n :: ns => by
    show (intL (ns.map PyData.int)).map (n :: ·) = _
    rw [intL_map ns]
    rfl
theorem intL_dp {K : PySem.W.Frag} {G : Hp} : ∀ {l : List Dat} {xs : List V} {ns : List Int}, RpA K G xs l → intL l = some ns → xs = ns.map V.int
  | [], _, _, .nil, e => by cases e; rfl
  | d :: l, _, ns, .cons h t, e => by
    cases h with
    | int i =>
      unfold intL at e
      cases e2 : intL l with
      | none => rw [e2] at e; cases e
      | some js =>
        rw [e2] at e
        cases e
        rw [intL_dp t e2]
        rfl
    | _ => simp [intL] at e
theorem intR_dp {K : PySem.W.Frag} {G : Hp} : ∀ ns : List Int, RpA K G (ns.map V.int) (ns.map PyData.int)
  | [] => .nil
  | n :: ns => .cons (.int n) (intR_dp ns)
/-- the greatest -/
def topI : List Int → Int
  | [] => 0
  | a :: r => r.foldl max a
theorem foldl_max_ge : ∀ (r : List Int) (a : Int), a ≤ r.foldl max a ∧ ∀ x ∈ r, x ≤ r.foldl max a
  | [], a => ⟨Int.le_refl _, fun _ h => nomatch h⟩
  | b :: r, a => by
    obtain ⟨h1, h2⟩ := foldl_max_ge r (max a b)
    refine ⟨Int.le_trans (Int.le_max_left a b) h1, fun x hx => ?_⟩
    (rcases List.mem_cons.mp hx with rfl | hx)
    · exact Int.le_trans (Int.le_max_right a _) h1
    · exact h2 x hx
theorem foldl_max_mem : ∀ (r : List Int) (a : Int), r.foldl max a = a ∨ r.foldl max a ∈ r
  | [], a => .inl rfl
  | b :: r, a => by
    show r.foldl max (max a b) = a ∨ r.foldl max (max a b) ∈ b :: r
    rcases foldl_max_mem r (max a b) with h | h
    · rw [h]
      by_cases g : a ≤ b
      · rw [Int.max_eq_right g]; exact .inr List.mem_cons_self
      · rw [Int.max_eq_left (by omega)]; exact .inl rfl
    · exact .inr (List.mem_cons_of_mem _ h)
theorem topI_only {ns : List Int} {m : Int} (h1 : m ∈ ns) (h2 : ∀ y, y ∈ ns → y ≤ m) : m = topI ns := by
  cases ns with
  | nil => cases h1
  | cons a r =>
    obtain ⟨g1, g2⟩ := foldl_max_ge r a
    have up : m ≤ topI (a :: r) := by
      rcases List.mem_cons.mp h1 with rfl | h
      · exact g1
      · exact g2 m h
    have dn : topI (a :: r) ≤ m := by
      show r.foldl max a ≤ m
      rcases foldl_max_mem r a with h | h
      · rw [h]; exact h2 a List.mem_cons_self
      · exact h2 _ (List.mem_cons_of_mem _ h)
    omega
def maxR (r : Row) : M Dat := match r.1, intL r.2 with
  | false, some (n :: ns) => ret (.int (topI (n :: ns)))
  | _, _ => bad
theorem e_max {m : M Row} {a : Expr} {p pos : Pos} (hK : F.K = X.K) (hc : X.calm = true) (hg : Gl X "max") (hm : X.mg "max" = none) (ha : PE X a (R_ F W m)) (he : starEach [a] X.env = (false, eval a X.env) :: starEach [] X.env := by rfl) : PE X (.Call (.Name "max" p) [a] [] pos) (E F W (M.bind m maxR)) :=
  b_call1 (δ := V) (cr_max hc) hg hm (by decide +kernel) (fun {G H c v d Q σ} r ⟨a, xs, e, h, q⟩ p => by
    obtain ⟨k, l⟩ := d
    unfold maxR at p
    cases k with
    | true => exact p.elim
    | false =>
      cases eb : intL l with
      | none => simp only [eb] at p; exact p.elim
      | some ns =>
        cases ns with
        | nil => simp only [eb] at p; exact p.elim
        | cons n ns =>
          simp only [eb] at p
          refine ⟨a, n :: ns, by rw [e], by rw [← intL_dp q eb]; exact Evl.sq_of h, Nat.succ_pos _, fun m h1 h2 => ?_⟩
          rw [topI_only h1 h2]
          exact po_ret r p (.int _)) ha (by decide) (by decide) he
/-- max(xs, default=d) of a list of integers -/
def rMaxDf (K : PySem.W.Frag) : List V → List V → Hp → VK → Prop := fun vs zs H Q => ∃ (a : Addr) (ns : List Int) (z : V), vs = [.ref a] ∧ zs = [z] ∧ SqL K H a (ns.map V.int) ∧ (ns = [] → Q z H) ∧ (ns ≠ [] → Q (.int (topI ns)) H)
theorem fold_lt (r : List Int) (a : Int) : r.foldl (fun x y => if decide (x < y) = true then y else x) a = r.foldl max a := by
  congr 1
  funext x y
  by_cases h : x < y
  · rw [if_pos (decide_eq_true h), Int.max_eq_right (Int.le_of_lt h)]
  · rw [if_neg (by simpa using h), Int.max_eq_left (by omega)]
theorem cr_maxDf (hc : X.calm = true) (hu : X.A.units + 2 < cLine) : CallRK X (.builtin "max") [Str.ofString "default"] (rMaxDf X.K) := by
  (intro pins s σ H vs zs us ws Q I r rz h)
  obtain ⟨a, ns, z, rfl, rfl, hs, h0, h1⟩ := h
  (obtain ⟨its, rv, hl, _⟩ := I.list hs)
  obtain ⟨u, rfl, ru⟩ := rz.one
  rw [Vals.ref1 r]
  have hi : IntsAre (its.toArray.toList) ns := ints_of_vals rv
  refine PySem.W.max_list_datum_default (α := Int) (xs := ns) (I.ok.hd hc) hl.isList (PySem.W.HoldAll.of_ints hi) (by show X.A.units + 1 + 0 < cLine; omega) (fun e h' tk k => ⟨z, H, I.kept k, ru, h0 e⟩) ?_
  intro y ys i v h' tk e hv ho k
  obtain ⟨t, rfl⟩ := PySem.W.int_of_holds ho
  subst e
  refine ⟨.int _, H, I.kept k, ⟨t, rfl⟩, ?_⟩
  have q := h1 (by simp)
  have e2 : topI (y :: ys) = PySem.W.maxOf y ys := (fold_lt ys y).symm
  rw [← e2]
  exact q
def maxDfR (i : Int) (r : Row) : M Dat := match r.1, intL r.2 with
  | false, some [] => ret (.int i)
  | false, some (n :: ns) => ret (.int (topI (n :: ns)))
  | _, _ => bad
/-- the default is a number that stands there -/
theorem e_maxDf {i : Int} {j : Nat} {m : M Row} {a : Expr} {p pos pos2 kpos : Pos} (hK : F.K = X.K) (hc : X.calm = true) (hr : X.A.units + 2 < cLine) (hg : Gl X "max") (hm : X.mg "max" = none) (ha : PE X a (R_ F W m))
    (h1 : backTo pos (starEach [a] X.env) = (false, eval a X.env) :: backTo pos (starEach [] X.env) := by rfl) (h2 : (backTo pos (starEach [a] X.env)).any (·.1) = false := by rfl) (h0 : starEach [a] X.env = (false, eval a X.env) :: starEach [] X.env := by rfl)
    (h3 : (backToKw pos (keywordEach [⟨some (Str.ofString "default"), .Constant (.int i) j pos2, kpos⟩] X.env)).all (·.1.isSome) = true := by rfl)
    (h4 : (backToKw pos (keywordEach [⟨some (Str.ofString "default"), .Constant (.int i) j pos2, kpos⟩] X.env)).any (·.1.isNone) = false := by rfl)
    (h5 : (backToKw pos (keywordEach [⟨some (Str.ofString "default"), .Constant (.int i) j pos2, kpos⟩] X.env)).filterMap (·.1) = [Str.ofString "default"] := by rfl) :
    PE X (.Call (.Name "max" p) [a] [⟨some (Str.ofString "default"), .Constant (.int i) j pos2, kpos⟩] pos) (E F W (M.bind m (maxDfR i))) :=
  (pe_callBK (cr_maxDf hc hr) hg hm (by decide +kernel) (pa_cons ha pa_nil h0) (pk_cons pe_int pk_nil) (by decide) (by decide) h1 h2 h3 h4 h5).mono fun σ H Q h => sx_mono (sx_bind (R1 := RR F) h) fun x H1 ⟨⟨k, l⟩, G1, c1, r1, ⟨a0, xs, e1, q1, q2⟩, p⟩ => by
    cases k with
    | true => exact p.elim
    | false =>
      unfold maxDfR at p
      cases eb : intL l with
      | none => simp only [eb] at p; exact p.elim
      | some ns =>
        have hq : SqL X.K H1 a0 (ns.map V.int) := by rw [← intL_dp q2 eb]; exact Evl.sq_of q1
        refine ⟨a0, ns, .int i, by rw [e1], rfl, hq, fun z => ?_, fun z => ?_⟩
        · subst z
          simp only [eb] at p
          exact po_ret r1 p (.int _)
        · cases ns with
          | nil => exact absurd rfl z
          | cons n ns =>
            simp only [eb] at p
            exact po_ret r1 p (.int _)

/-! ### min and max of two, powers -/
def minI2 := int2 fun i j => .int (if j < i then j else i)
theorem e_min2 {a b : Expr} {ma mb : M Dat} {p pos : Pos} (hc : X.calm = true) (hg : Gl X "min") (hm : X.mg "min" = none) (ha : PE X a (E F W ma)) (hb : PE X b (E F W mb)) (h1 : starEach [a, b] X.env = (false, eval a X.env) :: starEach [b] X.env := by rfl) (h2 : starEach [b] X.env = (false, eval b X.env) :: starEach [] X.env := by rfl)
    (h3 : (backTo pos (starEach [b] X.env)).any (·.1) = false := by rfl) : PE X (.Call (.Name "min" p) [a, b] [] pos) (E F W (m2 minI2 ma mb)) :=
  (pe_callB (call_min2 hc) hg hm (by decide +kernel) (pa_cons ha (pa_cons hb pa_nil h2) h1) (by decide) (by decide) h1 h3).mono fun σ H Q h => sx_mono (sx_bind2 h) fun x H1 h1 => sx_mono h1 fun y H2 ⟨d, e, G2, c2, r2, q1, q2, p⟩ => by
    cases q1 with
    | int i =>
      cases q2 with
      | int j => exact ⟨i, j, rfl, po_ret r2 p (.int _)⟩
      | _ => exact p.elim
    | _ => exact p.elim
def powI := int2c (fun i j => decide (0 ≤ j ∧ j ≤ 1000000 ∧ i.natAbs < 2 ^ 64)) fun i j => .int (i ^ j.toNat)
theorem e_pow {a b : Expr} {ma mb : M Dat} {pos : Pos} (ha : PE X a (E F W ma)) (hb : PE X b (E F W mb)) : PE X (.BinOp a .Pow b pos) (E F W (m2 powI ma mb)) :=
  e_op2 op_pow (hf_int (fun i j h => of_decide_eq_true h) fun i j => .int _) ha hb

/-! ### sets of integers that are sorted or counted at once -/
/-- the integers, ascending, each once -/
def insI (x : Int)
  : List Int → List Int
  | [] => [x]
  | y :: r => if x < y then x :: y :: r else if x = y then y :: r else y :: insI x r
def upI : List Int → List Int
  | [] => []
  | x :: r => insI x (upI r)
theorem insI_mem {x y : Int} : ∀ {l : List Int}, y ∈ insI x l ↔ y = x ∨ y ∈ l
  | [] => by simp [insI]
  | z :: r => by
    unfold insI
    by_cases h1 : x < z
    · rw [if_pos h1]; simp
    · rw [if_neg h1]
      by_cases h2 : x = z
      · rw [if_pos h2]; subst h2; simp
      · rw [if_neg h2]
        simp only [List.mem_cons, insI_mem (l := r)]
        constructor
        · rintro (h | h | h)
          · exact .inr (.inl h)
          · exact .inl h
          · exact .inr (.inr h)
        · rintro (h | h | h)
          · exact .inr (.inl h)
          · exact .inl h
          · exact .inr (.inr h)
theorem insI_up {x : Int} : ∀ {l : List Int}, l.Pairwise (· < ·) → (insI x l).Pairwise (· < ·)
  | [], _ => by simp [insI]
  | z :: r, h => by
    (obtain ⟨h1, h2⟩ := List.pairwise_cons.mp h)
    unfold insI
    by_cases g : x < z
    · rw [if_pos g]
      exact List.pairwise_cons.mpr ⟨fun y hy => by
        (rcases List.mem_cons.mp hy with rfl | hy)
        · exact g
        · exact Int.lt_trans g (h1 y hy), h⟩
    · rw [if_neg g]
      by_cases g2 : x = z
      · rw [if_pos g2]; exact h
      · rw [if_neg g2]
        refine List.pairwise_cons.mpr ⟨fun y hy => ?_, insI_up h2⟩
        rcases insI_mem.mp hy with rfl | hy
        · omega
        · exact h1 y hy
theorem upI_mem {y : Int} : ∀ {l : List Int}, y ∈ upI l ↔ y ∈ l
  | [] => Iff.rfl
  | x :: r => by
    unfold upI
    rw [insI_mem, List.mem_cons, upI_mem (l := r)]
theorem upI_up : ∀ l : List Int, (upI l).Pairwise (· < ·)
  | [] => .nil
  | x :: r => insI_up (upI_up r)
theorem up_only : ∀ {l m : List Int}, l.Pairwise (· < ·) → m.Pairwise (· < ·) → (∀ x, x ∈ l ↔ x ∈ m) → l = m
  | [], [], _, _, _ => rfl
  | [], y :: m, _, _, h => nomatch (h y).mpr List.mem_cons_self
  | x :: l, [], _, _, h => nomatch (h x).mp List.mem_cons_self
  | x :: l, y :: m, h1, h2, h => by
    obtain ⟨a1, b1⟩ := List.pairwise_cons.mp h1
    obtain ⟨a2, b2⟩ := List.pairwise_cons.mp h2
    have e : x = y := by
      rcases List.mem_cons.mp ((h x).mp List.mem_cons_self) with e | q
      · exact e
      · rcases List.mem_cons.mp ((h y).mpr List.mem_cons_self) with e | q2
        · exact e.symm
        · have := a1 y q2
          have := a2 x q
          omega
    subst e
    refine congrArg (x :: ·) (up_only b1 b2 fun z => ⟨fun hz => ?_, fun hz => ?_⟩)
    · rcases List.mem_cons.mp ((h z).mp (List.mem_cons_of_mem _ hz)) with e | q
      · have := a1 z hz; omega
      · exact q
    · rcases List.mem_cons.mp ((h z).mpr (List.mem_cons_of_mem _ hz)) with e | q
      · have := a2 z hz; omega
      · exact q
def setSortR (r : Row) : M RV := match intL r.2 with
  | some ns => if ns.length < 64 then ret (.fr ((upI ns).map PyData.int)) else bad
  | none => bad
theorem e_setSort {m : M Row} {a : Expr} {p p2 pos pos2 : Pos} (hK : F.K = X.K) (hc : X.calm = true) (hg : Gl X "sorted") (hm : X.mg "sorted" = none) (hg2 : Gl X "set") (hm2 : X.mg "set" = none) (ha : PE X a (R_ F W m))
    (he : starEach [a] X.env = (false, eval a X.env) :: starEach [] X.env := by rfl) (he2 : starEach [.Call (.Name "set" p2) [a] [] pos2] X.env = (false, eval (.Call (.Name "set" p2) [a] [] pos2) X.env) :: starEach [] X.env := by rfl)
    (hpl : (backTo pos (starEach [] X.env)).any (·.1) = false := by rfl) :
    PE X (.Call (.Name "sorted" p) [.Call (.Name "set" p2) [a] [] pos2] [] pos) (EX F W (M.bind m setSortR)) :=
  (pe_callB (cr_sortedSet hc) hg hm (by decide +kernel) (pa_cons (PnSet.pe_set hc hg2 hm2 ha he) pa_nil he2) (by decide) (by decide) he2 hpl).mono fun σ H Q h => sx_mono (sx_bind (R1 := RR F) h) fun x H1 ⟨⟨k, l⟩, G1, c1, r1, ⟨a0, xs, e1, q1, q2⟩, p⟩ => by
    unfold setSortR at p
    cases eb : intL l with
    | none => simp only [eb] at p; exact p.elim
    | some ns =>
      simp only [eb] at p
      by_cases hn : ns.length < 64
      · rw [if_pos hn] at p
        have ex := intL_dp q2 eb
        refine ⟨a0, ns, e1, by rw [← ex]; exact rr_or hK r1.sub q1, by omega, fun s c hs hcn => ?_⟩
        refine ⟨s, _, c, rfl, upd_same, by omega, fun ms q u1 u2 u3 u4 => ?_⟩
        have em : ms = upI ns := up_only u1 (upI_up ns) fun y => by rw [u2, upI_mem, decide_eq_true_eq]
        subst em
        have r2 := r1.other (o := SetO X.w s (fun j => decide (j ∈ ns)) c) hs
        obtain ⟨r3, z3⟩ := r2.lone u4 (intR_dp (upI ns))
        exact p _ _ _ r3 (Same.refl _) ⟨q, rfl, z3⟩
      · rw [if_neg hn] at p
        exact p.elim
/-- len of a set of integers -/
def rLenSet (w : World) : List V → Hp → VK → Prop := fun vs H Q => ∃ (a : Addr) (S : Int → Bool) (n : Nat) (L : List Int), vs = [.ref a] ∧ H a = some (SetO w a S n) ∧ L.Nodup ∧ (∀ k, S k = true ↔ k ∈ L) ∧ Q (.int (L.length : Nat)) H
theorem cr_lenSet : CallR X (.builtin "len") (rLenSet X.w) := by
  (intro pins s σ H vs us Q I r h)
  obtain ⟨a, S, n, L, rfl, ha, hL, hS, q⟩ := h
  obtain ⟨o, es, ep, t, ho, hex, hdt, g, nd, hm, hb, hf, hn, hr, hl⟩ := setO_get I ha
  rw [Vals.ref1 r]
  have e : es.size = L.length := by
    have pm : (es.toList.map keyOf).Perm L := (List.perm_ext_iff_of_nodup nd hL).mpr fun k => (hm k).symm.trans (hS k)
    have := pm.length_eq
    simpa using this
  have big : (es.size : Int) < 2 ^ 63 := by unfold scanBound at hb; omega
  refine call_len_set ho hex hdt hf big ?_
  rw [e]
  exact ⟨.int _, H, I.tok _, ⟨_, rfl⟩, q⟩
def setLenR (r : Row) : M Dat := match intL r.2 with
  | some ns => if ns.length ≤ 1000 then ret (.int ((upI ns).length : Nat)) else bad
  | none => bad
theorem e_setLen {m : M Row} {a : Expr} {p p2 pos pos2 : Pos} (hK : F.K = X.K) (hc : X.calm = true) (hg : Gl X "len") (hm : X.mg "len" = none) (hg2 : Gl X "set") (hm2 : X.mg "set" = none) (ha : PE X a (R_ F W m))
    (he : starEach [a] X.env = (false, eval a X.env) :: starEach [] X.env := by rfl) (he2 : starEach [.Call (.Name "set" p2) [a] [] pos2] X.env = (false, eval (.Call (.Name "set" p2) [a] [] pos2) X.env) :: starEach [] X.env := by rfl)
    (hpl : (backTo pos (starEach [] X.env)).any (·.1) = false := by rfl) :
    PE X (.Call (.Name "len" p) [.Call (.Name "set" p2) [a] [] pos2] [] pos) (E F W (M.bind m setLenR)) :=
  (pe_callB cr_lenSet hg hm boot_len (pa_cons (PnSet.pe_set hc hg2 hm2 ha he) pa_nil he2) (by decide) (by decide) he2 hpl).mono fun σ H Q h => sx_mono (sx_bind (R1 := RR F) h) fun x H1 ⟨⟨k, l⟩, G1, c1, r1, ⟨a0, xs, e1, q1, q2⟩, p⟩ => by
    unfold setLenR at p
    cases eb : intL l with
    | none => simp only [eb] at p; exact p.elim
    | some ns =>
      simp only [eb] at p
      by_cases hn : ns.length ≤ 1000
      · rw [if_pos hn] at p
        have ex := intL_dp q2 eb
        refine ⟨a0, ns, e1, by rw [← ex]; exact rr_or hK r1.sub q1, hn, fun s c hs hcn => ?_⟩
        have nd : (upI ns).Nodup := (upI_up ns).imp fun h => Int.ne_of_lt h
        refine ⟨s, _, c, upI ns, rfl, upd_same, nd, fun y => by rw [upI_mem, decide_eq_true_eq], ?_⟩
        exact po_ret (r1.other (o := SetO X.w s (fun j => decide (j ∈ ns)) c) hs) p (.int _)
      · rw [if_neg hn] at p
        exact p.elim
end
end Pn

set_option maxHeartbeats 1000001
namespace Pn
open L2 PyProof.Rows PySem.Spec PySem

/-! ### defs that change a list or the law's state -/
structure AfterT (T : List Addr) (G H G' H' : Hp) : Prop where
  g : Same G G'
  sub : Same G' H'
  h : ∀ b o, H b = some o → b ∉ T → H' b = some o
  new : ∀ b, G' b ≠ none → G b ≠ none ∨ H b = none
  dom : ∀ b, H b ≠ none → H' b ≠ none
theorem AfterT.no {T : List Addr} {G H G' H' : Hp} (a : AfterT T G H G' H') {b : Addr} {o : HO} (e1 : H b = some o) (e2 : G b = none) : G' b = none := by
  cases e : G' b with
  | none => rfl
  | some u =>
    rcases a.new b (by rw [e]; simp) with z | z
    · exact absurd e2 z
    · rw [z] at e1
      cases e1
/-- what comes back: a value, the list as it is now, the state as it is now -/
inductive GR where
  | ok (v : RV) (l : List Dat) (s : DS) | exc (k : Nat) (d : Dat) (l : List Dat) (s : DS) | bad
def onS (us : Bool) (sa sc sl : Addr) : List Addr := if us then [sa, sc, sl] else []
def onI (io : Bool) (ia : Addr) : List Addr := if io then [ia] else []
def onM (io : Bool) (ia : Addr) (tb : List (Addr × Str)) : List Addr := onI io ia ++ tb.map (·.1)
def preV (us : Bool) (sa : Addr) : List V := if us then [.ref sa] else []
def posV (io : Bool) (ia : Addr) : List V := if io then [.ref ia] else []
/-- the list in hand -/
def IoOk (K : PySem.W.Frag) (io : Bool) (ia : Addr) (G H : Hp) (l : List Dat) : Prop := io = true → ∃ xs, H ia = some (.lst xs) ∧ G ia = none ∧ RpA K G xs l
def SsOk (us : Bool) (sa sc sl : Addr) (G H : Hp) (s : DS) : Prop := us = true → StOk sa sc sl G H s
/-- tables at hand -/
def TsOk (tb : List (Addr × Str)) (G H : Hp) : Prop := ∀ p ∈ tb, LamX.TabS H p.1 p.2 ∧ G p.1 = none
abbrev Tbs := List (Addr × Str)
def spG (K : PySem.W.Frag) (C : Cls) (us io : Bool) (okT : Tbs → Prop) (n : Nat) (g : List Dat → List Dat → DS → GR) : Sp := fun vs H Q E => ∃ (G : Hp) (vs' : List V) (ds l : List Dat) (s : DS) (sa sc sl ia : Addr) (tb : Tbs), okT tb ∧ TsOk tb G H ∧ Same G H ∧ RpA K G vs' ds ∧ ds.length = n ∧ vs = preV us sa ++ vs' ++ posV io ia ∧ SsOk us sa sc sl G H s ∧ IoOk K io ia G H l ∧ (us = true → io = true → ia ∉ [sa, sc, sl]) ∧
  match g ds l s with
  | .ok v l' s' => ∀ x G' H', AfterT (onS us sa sc sl ++ onM io ia tb) G H G' H' → TsOk tb G' H' → SsOk us sa sc sl G' H' s' → IoOk K io ia G' H' l' → Ret K H G' H' x v → Q x H'
  | .exc k d l' s' => ∀ ad v G' H', AfterT (onS us sa sc sl ++ onM io ia tb) G H G' H' → TsOk tb G' H' → SsOk us sa sc sl G' H' s' → IoOk K io ia G' H' l' → H' ad = some (.xd [(C.fld k, v)]) → Rp K G' v d → E (C.at_ k) (some ad) H'
  | .bad => False
def initG (us io : Bool) (N : Nat) (ds l : List Dat) : List Sl := (if us then [Sl.st] else []) ++ ds.map Sl.sh ++ (if io then [Sl.io l] else []) ++ List.replicate (N - ((if us then 1 else 0) + ds.length + (if io then 1 else 0))) Sl.no
def ioAt (j : Nat) (c : Cfg) : Option (List Dat) := match c.r[j]? with
  | some (.io l) => some l
  | _ => none
def endG (us io : Bool) (n : Nat) (c : Cfg) (k : List Dat → GR) : GR := if io then (match ioAt ((if us then 1 else 0) + n) c with
  | some l => k l
  | none => .bad) else k []
def runG (us io : Bool) (N : Nat) (m : M Ctl) (ds l : List Dat) (s : DS) : GR := match m ⟨initG us io N ds l, s⟩ with
  | .ok .nx c => endG us io ds.length c fun l' => .ok (.sh .none) l' c.s
  | .ok (.rt v) c => endG us io ds.length c fun l' => .ok v l' c.s
  | .ok _ _ => .bad
  | .exc k d c => endG us io ds.length c fun l' => .exc k d l' c.s
  | .bad => .bad
def frG (K : PySem.W.Frag) (C : Cls) (us io : Bool) (sa sc sl ia : Addr) (tb : Tbs) (G H : Hp) : Fr := ⟨K, C, sa, sc, sl, us, fun _ => ia, onM io ia tb, G, H, [], tb⟩

section
variable {F : Fr} {W : L2.WX} {σ : L2.St} {H : Hp} {X : Cx} {D : Ends}
theorem Rel.tbMu {G : Hp} {c : Cfg} (r : Rel F G c σ H) {b : Addr} (m : b ∈ F.tb.map (·.1)) : b ∈ F.mu := by
  obtain ⟨p, hp, rfl⟩ := List.mem_map.mp m
  exact (r.tabs p hp).2.2
theorem Rel.tbNe {G : Hp} {c : Cfg} (r : Rel F G c σ H) {b : Addr} {xs : List V} (h : H b = some (.lst xs)) (m : b ∈ F.tb.map (·.1)) : False := by
  obtain ⟨p, hp, rfl⟩ := List.mem_map.mp m
  obtain ⟨⟨ps, e, _⟩, _⟩ := r.tabs p hp
  rw [h] at e
  cases e
theorem Rel.ts {G : Hp} {c : Cfg} (r : Rel F G c σ H) : TsOk F.tb G H := fun p hp => ⟨(r.tabs p hp).1, (r.tabs p hp).2.1⟩
/-- the state is another one -/
theorem Rel.afterS {G : Hp} {c : Cfg} {G' H' : Hp} {s' : DS} (r : Rel F G c σ H) (hu : F.us = true) (a : AfterT ([F.sa, F.sc, F.sl] ++ F.tb.map (·.1)) G H G' H') (zt : TsOk F.tb G' H') (z : StOk F.sa F.sc F.sl G' H' s') : Rel F G' { c with s := s' } σ H' := by
  have esta : F.sta = [F.sa, F.sc, F.sl] := by unfold Fr.sta; rw [if_pos hu]
  have off : ∀ {b : Addr}, F.H0 b = none → b ∉ [F.sa, F.sc, F.sl] ++ F.tb.map (·.1) := fun {b} e m => by
    rcases List.mem_append.mp m with m | m
    · exact r.st0 b (esta ▸ m) e
    · exact (r.mu0 b (r.tbMu m)).1 e
  have off2 : ∀ {b : Addr} {xs : List V}, b ∈ F.mu → H b = some (.lst xs) → b ∉ [F.sa, F.sc, F.sl] ++ F.tb.map (·.1) := fun {b xs} e h m => by
    rcases List.mem_append.mp m with m | m
    · exact (r.mu0 b e).2 (esta ▸ m)
    · exact r.tbNe h m
  exact { sub := a.sub, g0 := r.g0.trans a.g, len := r.len, inj := r.inj, ioj := r.ioj, mu0 := r.mu0, st0 := r.st0
          fresh := fun b e => (a.new b e).elim (r.fresh b) fun z => .inr (r.old z)
          keep := fun b o e h1 h2 => a.h _ _ (r.keep b o e h1 h2) fun m => (List.mem_append.mp m).elim (esta ▸ h2) fun m => h1 (r.tbMu m)
          tabs := fun p hp => ⟨(zt p hp).1, (zt p hp).2, (r.tabs p hp).2.2⟩
          sl := fun i s e => (r.sl i s e).move a.g (fun l b xs _ _ q1 q2 q3 => ⟨a.h _ _ q1 (off q3), a.no q1 q2⟩) (fun l xs _ q1 q2 q3 => ⟨a.h _ _ q1 (off2 q3 q1), a.no q1 q2⟩)
          st := fun _ => z
          pin := fun b hb => by
            obtain ⟨k1, k2, k3⟩ := r.pin b hb
            exact ⟨a.h _ _ k1 (off k3), a.no k1 k2, k3⟩
          dom := fun b e => a.dom b (r.dom b e) }
/-- the list that the slot i holds is another one -/
theorem Rel.afterI {G : Hp} {c : Cfg} {G' H' : Hp} {i : Nat} {l l' : List Dat} {p : Addr} {xs' : List V} (r : Rel F G c σ H) (e : held i c = some l) (ep : σ[i]? = some (some (.ref p))) (a : AfterT ([p] ++ F.tb.map (·.1)) G H G' H') (zt : TsOk F.tb G' H') (z1 : H' p = some (.lst xs')) (z2 : G' p = none) (z3 : RpA F.K G' xs' l') :
    Rel F G' (Pn.wr i l' c) σ H' := by
  have one : ∀ {b : Addr}, b ≠ p → b ∉ F.tb.map (·.1) → b ∉ [p] ++ F.tb.map (·.1) := fun hb h2 m => (List.mem_append.mp m).elim (fun m => hb (List.mem_singleton.mp m)) h2
  have offT : ∀ {b : Addr}, F.H0 b = none → b ∉ F.tb.map (·.1) := fun {b} e m => (r.mu0 b (r.tbMu m)).1 e
  have core : ∀ (s s' : Sl), c.r[i]? = some s → ((∃ l1, s = .own l1 ∧ s' = .own l') ∨ ∃ l1, s = .io l1 ∧ s' = .io l') → (F.H0 p = none ∨ p ∈ F.mu) → (∀ j l2, j ≠ i → c.r[j]? = some (.own l2) → σ[j]? ≠ some (some (.ref p))) →
      (∀ j l2, j ≠ i → c.r[j]? = some (.io l2) → F.ia j ≠ p) → (∀ q ∈ F.pins, p ≠ q.1) → SlOk F G' H' i s' (σ[i]?) → Rel F G' { c with r := c.r.set i s' } σ H' := by
    intro s s' es hk hp n1 n2 n3 hs
    have nst : F.us = true → p ≠ F.sa ∧ p ≠ F.sc ∧ p ≠ F.sl := fun hu => by
      have esta : F.sta = [F.sa, F.sc, F.sl] := by unfold Fr.sta; rw [if_pos hu]
      have : p ∉ [F.sa, F.sc, F.sl] := by
        rcases hp with hp | hp
        · exact fun m => r.st0 p (esta ▸ m) hp
        · exact fun m => (r.mu0 p hp).2 (esta ▸ m)
      simp only [List.mem_cons, not_or] at this
      exact ⟨this.1, this.2.1, this.2.2.1⟩
    have back : ∀ {j : Nat} {t : Sl}, (c.r.set i s')[j]? = some t → j ≠ i → c.r[j]? = some t := fun {j t} e hj => by
      rw [List.getElem?_set_ne (Ne.symm hj)] at e
      exact e
    refine { sub := a.sub, g0 := r.g0.trans a.g, len := ?_, inj := ?_, ioj := ?_, mu0 := r.mu0, st0 := r.st0, fresh := fun b e => (a.new b e).elim (r.fresh b) fun z => .inr (r.old z), keep := ?_, sl := ?_, st := ?_, pin := ?_, dom := fun b e => a.dom b (r.dom b e), tabs := fun p hp => ⟨(zt p hp).1, (zt p hp).2, (r.tabs p hp).2.2⟩ }
    · intro b o eb h1 h2
      refine a.h _ _ (r.keep b o eb h1 h2) (one (fun z => ?_) fun m => h1 (r.tbMu m))
      subst z
      rcases hp with hp | hp
      · rw [hp] at eb; cases eb
      · exact h1 hp
    · show (c.r.set i s').length = _
      rw [List.length_set, r.len]
    · intro j t et
      by_cases hj : j = i
      · subst hj
        rcases get_set et with ⟨_, z, _⟩ | ⟨n, _⟩
        · rw [z]; exact hs
        · exact absurd rfl n
      · have et := back et hj
        refine (r.sl j t et).move a.g (fun l2 b xs es2 eb q1 q2 _ => ⟨a.h _ _ q1 (one (fun zb => ?_) fun m => r.tbNe q1 m), a.no q1 q2⟩) (fun l2 xs es2 q1 q2 _ => ⟨a.h _ _ q1 (one (fun zb => ?_) fun m => r.tbNe q1 m), a.no q1 q2⟩)
        · subst zb
          exact n1 j l2 hj (es2 ▸ et) eb
        · exact n2 j l2 hj (es2 ▸ et) zb
    · intro j k l1 l2 e1 e2 e3
      have f : ∀ (j : Nat) (l : List Dat), (c.r.set i s')[j]? = some (.own l) → ∃ l', c.r[j]? = some (.own l') := fun j l e => by
        rcases get_set e with ⟨rfl, z, _⟩ | ⟨_, e⟩
        · rcases hk with ⟨l1, e5, _⟩ | ⟨l1, _, z2⟩
          · exact ⟨l1, e5 ▸ es⟩
          · rw [z2] at z; cases z
        · exact ⟨l, e⟩
      obtain ⟨_, e1⟩ := f j l1 e1
      obtain ⟨_, e2⟩ := f k l2 e2
      exact r.inj j k _ _ e1 e2 e3
    · intro j k l1 l2 e1 e2 e3
      have f : ∀ (j : Nat) (l : List Dat), (c.r.set i s')[j]? = some (.io l) → ∃ l', c.r[j]? = some (.io l') := fun j l e => by
        rcases get_set e with ⟨rfl, z, _⟩ | ⟨_, e⟩
        · rcases hk with ⟨l1, _, z2⟩ | ⟨l1, e5, _⟩
          · rw [z2] at z; cases z
          · exact ⟨l1, e5 ▸ es⟩
        · exact ⟨l, e⟩
      obtain ⟨_, e1⟩ := f j l1 e1
      obtain ⟨_, e2⟩ := f k l2 e2
      exact r.ioj j k _ _ e1 e2 e3
    · intro hu
      obtain ⟨h1, h2, h3, g1, g2, g3, h4⟩ := r.st hu
      obtain ⟨k1, k2, k3⟩ := nst hu
      exact ⟨a.h _ _ h1 (one k1.symm fun m => by
        (obtain ⟨q, hq, e⟩ := List.mem_map.mp m)
        obtain ⟨⟨ps, e2, _⟩, _⟩ := r.tabs q hq
        rw [e, h1] at e2
        cases e2), a.h _ _ h2 (one k2.symm fun m => r.tbNe h2 m), a.h _ _ h3 (one k3.symm fun m => r.tbNe h3 m), a.no h1 g1, a.no h2 g2, a.no h3 g3, h4⟩
    · intro b hb
      obtain ⟨k1, k2, k3⟩ := r.pin b hb
      exact ⟨a.h _ _ k1 (one (n3 b hb).symm (offT k3)), a.no k1 k2, k3⟩
  unfold held at e
  cases es : c.r[i]? with
  | none => rw [es] at e; cases e
  | some s =>
    rw [es] at e
    cases s with
    | no => cases e
    | sh d => cases e
    | st => cases e
    | own l0 =>
      obtain ⟨b, xs, e1, e2, e3, e4, e5, e6⟩ := r.sl i _ es
      rw [ep] at e1
      cases e1
      unfold Pn.wr
      rw [es]
      exact core _ (.own l') es (.inl ⟨l0, rfl, rfl⟩) (.inl e5) (fun j l2 hj ej z => hj (r.inj j i l2 l0 ej es (z.trans ep.symm))) (fun j l2 hj ej z => by
        obtain ⟨_, _, _, _, _, m⟩ := r.sl j _ ej
        exact (r.mu0 _ m).1 (z ▸ e5)) e6 ⟨p, xs', ep, z1, z2, z3, e5, e6⟩
    | io l0 =>
      obtain ⟨xs, e1, e2, e3, e4, e5⟩ := r.sl i _ es
      rw [ep] at e1
      have e1 : p = F.ia i := by cases e1; rfl
      unfold Pn.wr
      rw [es]
      exact core _ (.io l') es (.inr ⟨l0, rfl, rfl⟩) (.inr (e1 ▸ e5)) (fun j l2 hj ej z => by
        obtain ⟨b, ys, f1, f2, f3, f4, f5⟩ := r.own_ne ej
        rw [f1] at z
        cases z
        exact (r.mu0 _ e5).1 (e1 ▸ f5.1)) (fun j l2 hj ej z => hj (r.ioj j i l2 l0 ej es (z.trans e1))) (fun q hq z => (r.mu0 _ e5).1 (e1 ▸ z ▸ (r.pin q hq).2.2)) ⟨xs', by rw [ep, e1], e1 ▸ z1, e1 ▸ z2, z3, e5⟩
/-! ### arguments: the state ahead, a list behind -/
/-- the state's name, then data -/
def stArg (i : Nat) (ms : M (List Dat)) : M (List Dat) := fun c => match c.r[i]? with
  | some .st => ms c
  | _ => .bad
def RAS (F : Fr) : L2.St → Hp → Hp → Cfg → List V → List Dat → Prop := fun _ G _ _ vs ds => F.us = true ∧ ∃ vs', vs = .ref F.sa :: vs' ∧ RpA F.K G vs' ds
theorem a_st {i : Nat} {x : Str} {p : Pos} {es : List Expr} {ms : M (List Dat)} (hN : X.N[i]? = some x) (hv : Vis X.env.scope x) (hd : (x == ("__debug__" : Str)) = false) (hcd : (x == ("__classdict__" : Str)) = false) (hs : PA X es (A F W ms)) (h2 : starEach (.Name x p :: es) X.env = (false, eval (.Name x p) X.env) :: starEach es X.env := by rfl) :
    PA X (.Name x p :: es) (Sx F W (RAS F) (stArg i ms)) :=
  (pa_cons (pe_var hN hv hd hcd) hs h2).mono fun σ H Q ⟨G, c, r, p⟩ => by
    unfold stArg at p
    cases e : c.r[i]? with
    | none => rw [e] at p; exact p.elim
    | some s =>
      rw [e] at p
      cases s with
      | st =>
        obtain ⟨e2, hu⟩ := r.sl i _ e
        refine ⟨_, e2, G, c, r, ?_⟩
        cases em : ms c with
        | ok a c' =>
          simp only [em] at p
          exact fun vs G' H' r' s' q => p _ G' H' r' s' ⟨hu, vs, rfl, q⟩
        | exc k d c' => simp only [em] at p; exact p
        | bad => simp only [em] at p; exact p.elim
      | _ => exact p.elim
/-- data, then a list's name -/
def RAI (F : Fr) (i : Nat) : L2.St → Hp → Hp → Cfg → List V → List Dat → Prop := fun σ G _ _ vs ds => ∃ vs' p, vs = vs' ++ [.ref p] ∧ RpA F.K G vs' ds ∧ σ[i]? = some (some (.ref p))
def ioArg (i : Nat) : M (List Dat) := M.bind (heldM i) fun _ => ret []
theorem a_io {i : Nat} {x : Str} {p : Pos} (hN : X.N[i]? = some x) (hv : Vis X.env.scope x) (hd : (x == ("__debug__" : Str)) = false) (hcd : (x == ("__classdict__" : Str)) = false) (h2 : starEach [.Name x p] X.env = (false, eval (.Name x p) X.env) :: starEach [] X.env := by rfl) :
    PA X [.Name x p] (Sx F W (RAI F i) (ioArg i)) :=
  (pa_cons (pe_var hN hv hd hcd) pa_nil h2).mono fun σ H Q ⟨G, c, r, p⟩ => by
    obtain ⟨l, a, xs, e0, e1, e2, e3, p⟩ := po_held r p
    exact ⟨_, e1, po_ret r p ⟨[], a, rfl, .nil, e1⟩⟩
theorem a_consI {i : Nat} {e : Expr} {es : List Expr} {m : M Dat} {ms : M (List Dat)} (h : PE X e (E F W m)) (hs : PA X es (Sx F W (RAI F i) ms)) (h2 : starEach (e :: es) X.env = (false, eval e X.env) :: starEach es X.env := by rfl) : PA X (e :: es) (Sx F W (RAI F i) (aCons m ms)) :=
  (pa_cons h hs h2).mono fun σ H Q h => sx_mono (sx_bind (R1 := RD F) h) fun x H1 ⟨a, G1, c1, r1, q, p⟩ => sx_mono (po_bind (R1 := RAI F i) r1 p) fun xs H2 ⟨as, G2, c2, r2, s2, ⟨vs, b, e1, q2, e2⟩, p2⟩ =>
    po_ret r2 p2 ⟨x :: vs, b, by rw [e1]; rfl, .cons (dp_mono s2 q) q2, e2⟩

/-! ### calls -/
def callS (g : List Dat → List Dat → DS → GR) (ds : List Dat) : M RV := fun c => match g ds [] c.s with
  | .ok v _ s => .ok v { c with s := s }
  | .exc k d _ s => .exc k d { c with s := s }
  | .bad => .bad
def callI (i : Nat) (g : List Dat → List Dat → DS → GR) (ds : List Dat) : M RV := fun c => match held i c with
  | none => .bad
  | some l => match g ds l ⟨[], [], 0⟩ with
    | .ok v l' _ => .ok v (wr i l' c)
    | .exc k d l' _ => .exc k d (wr i l' c)
    | .bad => .bad
structure HasG (P : Program) (w : World) (K : PySem.W.Frag) (mg : Str → Option Value) (base : Heap) (C : Cls) (us io : Bool) (x : Str) (k n : Nat) (g : List Dat → List Dat → DS → GR) : Prop where
  ex : ∃ (f : Addr) (fd : FuncData) (ps : List Str), FnOk P w K mg base (L2.CX P w) k f fd ps (spG K C us io (fun _ => True) n g) ∧ mg x = some (.ref f) ∧ PySem.W.keepIn K (.ref f) = true ∧ Binds K fd ps []
theorem HasG.up {P : Program} {w : World} {K : PySem.W.Frag} {mg : Str → Option Value} {base : Heap} {C : Cls} {us io : Bool} {x : Str} {k k' n : Nat} {g : List Dat → List Dat → DS → GR} (Z : HasG P w K mg base C us io x k n g) (h : k ≤ k') : HasG P w K mg base C us io x k' n g := by
  obtain ⟨f, fd, ps, h2, h3⟩ := Z.ex
  exact ⟨f, fd, ps, h2.mono h, h3⟩
theorem after_rx {T : List Addr} {G : Hp} {c c' : Cfg} {G' H' : Hp} {x : V} {v : RV} (r : Rel F G c σ H) (hc : ∀ (i : Nat) (l1 : List Dat), c'.r[i]? = some (Sl.own l1) → ∃ l2 : List Dat, c.r[i]? = some (Sl.own l2)) (q : Ret F.K H G' H' x v) : RX F σ G' H' c' x v := by
  cases v with
  | sh d => exact q
  | fr l =>
    obtain ⟨p, xs, e, h1, h2, h3, h4⟩ := q
    refine ⟨p, e, xs, h1, h2, h3, r.old h4, fun i l' e5 e6 => ?_, fun b hb z => ?_⟩
    · obtain ⟨l2, e5⟩ := hc i l' e5
      obtain ⟨b, ys, e7, e8, _⟩ := r.own_ne e5
      rw [e7] at e6
      cases e6
      rw [h4] at e8
      cases e8
    · have k1 := (r.pin b hb).1
      rw [← z, h4] at k1
      cases k1
theorem wr_own {i : Nat} {l : List Dat} {c : Cfg} : ∀ (j : Nat) (l1 : List Dat), (wr i l c).r[j]? = some (Sl.own l1) → ∃ l2 : List Dat, c.r[j]? = some (Sl.own l2) := by
  intro j l' e
  unfold wr at e
  cases es : c.r[i]? with
  | none => rw [es] at e; exact ⟨_, e⟩
  | some s =>
    rw [es] at e
    cases s with
    | own l0 =>
      rcases get_set e with ⟨rfl, _, _⟩ | ⟨_, e⟩
      · exact ⟨_, es⟩
      · exact ⟨_, e⟩
    | io l0 =>
      rcases get_set e with ⟨_, z, _⟩ | ⟨_, e⟩
      · cases z
      · exact ⟨_, e⟩
    | _ => exact ⟨_, e⟩
theorem e_callS {k n j : Nat} {g : List Dat → List Dat → DS → GR} {x : Str} {p pos : Pos} {e : Expr} {es : List Expr} {ms : M (List Dat)} (hK : F.K = X.K) (Z : HasG X.prog X.w X.K X.mg X.base F.C true false x k n g) (hr : Room j X.A) (hkj : k ≤ j) (hg : Gl X x) (tk : Takes X W) (ha : PA X (e :: es) (Sx F W (RAS F) ms))
    (hdb : (x == ("__debug__" : Str)) = false := by decide) (he : starEach (e :: es) X.env = (false, eval e X.env) :: starEach es X.env := by rfl) (hpl : (backTo pos (starEach es X.env)).any (·.1) = false := by rfl) : PE X (.Call (.Name x p) (e :: es) [] pos) (EX F W (M.bind ms fun ds => if ds.length = n then callS g ds else bad)) := by
  obtain ⟨f, fd, ps, h2, h3, h4, h5⟩ := Z.ex
  refine (pe_callS h2 (hr.mono hkj) hg h3 h4 h5 (fun σ => passAt tk σ) ha hdb he hpl).mono fun σ H Q h => sx_mono (sx_bind (R1 := RAS F) h) fun vs H1 ⟨ds, G1, c1, r1, ⟨hu, vs', e1, q⟩, p⟩ => ?_
  by_cases hl : ds.length = n
  · rw [if_pos hl] at p
    refine ⟨G1, vs', ds, [], c1.s, F.sa, F.sc, F.sl, 0, F.tb, trivial, r1.ts, r1.sub, hK ▸ q, hl, by rw [e1]; simp [preV, posV], fun _ => r1.st hu, (fun z => nomatch z), (fun _ z => nomatch z), ?_⟩
    unfold callS at p
    cases e : g ds [] c1.s with
    | ok v l s =>
      rw [e] at p
      intro x G' H' a zt z1 _ z2
      have r2 := r1.afterS hu (by simpa [onS, onI, onM] using a) zt (z1 rfl)
      exact p x G' H' r2 a.g (after_rx (T := []) r1 (fun i l' e => ⟨l', e⟩) (hK ▸ z2))
    | exc k d l s =>
      rw [e] at p
      intro ad v G' H' a zt z1 _ z2 z3
      have r2 := r1.afterS hu (by simpa [onS, onI, onM] using a) zt (z1 rfl)
      exact p ad v G' H' r2 a.g z2 (hK ▸ z3)
    | bad =>
      rw [e] at p
      exact p
  · rw [if_neg hl] at p
    exact p.elim
theorem e_callI {k n j i : Nat} {g : List Dat → List Dat → DS → GR} {x : Str} {p pos : Pos} {e : Expr} {es : List Expr} {ms : M (List Dat)} (hK : F.K = X.K) (Z : HasG X.prog X.w X.K X.mg X.base F.C false true x k n g) (hr : Room j X.A) (hkj : k ≤ j) (hg : Gl X x) (tk : Takes X W) (ha : PA X (e :: es) (Sx F W (RAI F i) ms))
    (hdb : (x == ("__debug__" : Str)) = false := by decide) (he : starEach (e :: es) X.env = (false, eval e X.env) :: starEach es X.env := by rfl) (hpl : (backTo pos (starEach es X.env)).any (·.1) = false := by rfl) : PE X (.Call (.Name x p) (e :: es) [] pos) (EX F W (M.bind ms fun ds => if ds.length = n then callI i g ds else bad)) := by
  obtain ⟨f, fd, ps, h2, h3, h4, h5⟩ := Z.ex
  refine (pe_callS h2 (hr.mono hkj) hg h3 h4 h5 (fun σ => passAt tk σ) ha hdb he hpl).mono fun σ H Q h => sx_mono (sx_bind (R1 := RAI F i) h) fun vs H1 ⟨ds, G1, c1, r1, ⟨vs', b, e1, q, eb⟩, p⟩ => ?_
  by_cases hl : ds.length = n
  · rw [if_pos hl] at p
    unfold callI at p
    cases eh : held i c1 with
    | none => simp only [eh] at p; exact p.elim
    | some l =>
      simp only [eh] at p
      obtain ⟨b2, xs, f1, f2, f3, f4⟩ := r1.wr eh
      rw [eb] at f1
      cases f1
      have gb : G1 b = none := by
        unfold held at eh
        cases es : c1.r[i]? with
        | none => rw [es] at eh; cases eh
        | some s =>
          rw [es] at eh
          cases s with
          | own l0 =>
            obtain ⟨_, _, g1, _, g2, _⟩ := r1.sl i _ es
            rw [eb] at g1
            cases g1
            exact g2
          | io l0 =>
            obtain ⟨_, g1, _, g2, _⟩ := r1.sl i _ es
            rw [eb] at g1
            have : b = F.ia i := by cases g1; rfl
            rw [this]
            exact g2
          | _ => cases eh
      refine ⟨G1, vs', ds, l, ⟨[], [], 0⟩, 0, 0, 0, b, F.tb, trivial, r1.ts, r1.sub, hK ▸ q, hl, by rw [e1]; simp [preV, posV], (fun z => nomatch z), (fun _ => ⟨xs, f2, gb, hK ▸ f3⟩), (fun z => nomatch z), ?_⟩
      cases e : g ds l ⟨[], [], 0⟩ with
      | ok v l' s =>
        rw [e] at p
        intro x G' H' a zt _ z1 z2
        obtain ⟨xs', y1, y2, y3⟩ := z1 rfl
        have r2 := r1.afterI eh eb (by simpa [onS, onI, onM] using a) zt y1 y2 (hK ▸ y3)
        exact p x G' H' r2 a.g (after_rx (T := []) r1 wr_own (hK ▸ z2))
      | exc k d l' s =>
        rw [e] at p
        intro ad v G' H' a zt _ z1 z2 z3
        obtain ⟨xs', y1, y2, y3⟩ := z1 rfl
        have r2 := r1.afterI eh eb (by simpa [onS, onI, onM] using a) zt y1 y2 (hK ▸ y3)
        exact p ad v G' H' r2 a.g z2 (hK ▸ z3)
      | bad =>
        rw [e] at p
        exact p
  · rw [if_neg hl] at p
    exact p.elim
end

/-! ### a body that changes a list or the state -/
section
variable {K : PySem.W.Frag} {C : Cls} {us io : Bool} {sa sc sl ia : Addr} {G H : Hp} {vs : List V} {ds l : List Dat} {s : DS}
theorem listAt {α : Type} {a b : List α} {i : Nat} {x : α} (e : (a ++ b)[i]? = some x) : (i < a.length ∧ a[i]? = some x) ∨ (a.length ≤ i ∧ b[i - a.length]? = some x) := by
  by_cases h : i < a.length
  · rw [List.getElem?_append_left h] at e
    exact .inl ⟨h, e⟩
  · rw [List.getElem?_append_right (by omega)] at e
    exact .inr ⟨by omega, e⟩
/-- the slots at the entry: the state's, the data's, the list's, the others' -/
theorem initG_at {N i : Nat} {x : Sl} (e : (initG us io N ds l)[i]? = some x) :
    (us = true ∧ i = 0 ∧ x = .st) ∨ (∃ j d, i = (if us then 1 else 0) + j ∧ ds[j]? = some d ∧ x = .sh d) ∨ (io = true ∧ i = (if us then 1 else 0) + ds.length ∧ x = .io l) ∨ x = .no := by
  unfold initG at e
  rcases listAt e with ⟨_, e⟩ | ⟨_, e⟩
  · rcases listAt e with ⟨_, e⟩ | ⟨g2, e⟩
    · rcases listAt e with ⟨_, e⟩ | ⟨g1, e⟩
      · cases us with
        | false => cases e
        | true =>
          cases i with
          | zero => cases e; exact .inl ⟨rfl, rfl, rfl⟩
          | succ i => cases e
      · rw [List.getElem?_map] at e
        cases e2 : ds[i - (if us then [Sl.st] else []).length]? with
        | none => rw [e2] at e; cases e
        | some d =>
          rw [e2] at e
          cases e
          have z : (if us then [Sl.st] else []).length = (if us then 1 else 0) := by cases us <;> rfl
          rw [z] at e2 g1
          exact .inr (.inl ⟨_, d, by omega, e2, rfl⟩)
    · cases io with
      | false => cases e
      | true =>
        have z : ((if us then [Sl.st] else []) ++ ds.map Sl.sh).length = (if us then 1 else 0) + ds.length := by
          rw [List.length_append, List.length_map]
          cases us <;> rfl
        rw [z] at e g2
        cases ej : i - ((if us then 1 else 0) + ds.length) with
        | zero =>
          rw [ej] at e
          cases e
          exact .inr (.inr (.inl ⟨rfl, by omega, rfl⟩))
        | succ j => rw [ej] at e; cases e
  · obtain ⟨h1, h2⟩ := List.getElem?_eq_some_iff.mp e
    rw [List.getElem_replicate] at h2
    exact .inr (.inr (.inr h2.symm))
theorem argAt {N : List Str} {vs' : List V} (ev : vs = preV us sa ++ vs' ++ posV io ia) (hl : vs'.length = ds.length) :
    (us = true → (L2.start N vs)[0]? = some (some (.ref sa))) ∧ (∀ (j : Nat) (v : V), vs'[j]? = some v → (L2.start N vs)[(if us then 1 else 0) + j]? = some (some v)) ∧ (io = true → (L2.start N vs)[(if us then 1 else 0) + ds.length]? = some (some (.ref ia))) := by
  have go : ∀ (i : Nat) (v : V), vs[i]? = some v → (L2.start N vs)[i]? = some (some v) := fun i v e => by
    show (vs.map some ++ _)[i]? = _
    rw [List.getElem?_append_left (by rw [List.length_map]; exact (List.getElem?_eq_some_iff.mp e).1), List.getElem?_map, e]
    rfl
  have z : (preV us sa).length = (if us then 1 else 0) := by cases us <;> rfl
  refine ⟨fun h => go _ _ ?_, fun j v e => go _ _ ?_, fun h => go _ _ ?_⟩
  · subst h
    rw [ev]
    rfl
  · rw [ev, List.append_assoc, List.getElem?_append_right (by omega), z, Nat.add_sub_cancel_left, List.getElem?_append_left (List.getElem?_eq_some_iff.mp e).1]
    exact e
  · subst h
    rw [ev, List.getElem?_append_right (by rw [List.length_append, z, hl]; exact Nat.le_refl _), List.length_append, z, hl, Nat.sub_self]
    rfl
theorem relG_init {N : List Str} {vs' : List V} (hs : Same G H) (q : RpA K G vs' ds) (ev : vs = preV us sa ++ vs' ++ posV io ia) (hl : (if us then 1 else 0) + ds.length + (if io then 1 else 0) ≤ N.length) (h1 : SsOk us sa sc sl G H s) (h2 : IoOk K io ia G H l) (h3 : us = true → io = true → ia ∉ [sa, sc, sl]) {tb : Tbs} (ht : TsOk tb G H) :
    Rel (frG K C us io sa sc sl ia tb G H) G ⟨initG us io N.length ds l, s⟩ (L2.start N vs) H := by
  have hln := dpAll_len q
  obtain ⟨k1, k2, k3⟩ := argAt (N := N) ev hln
  have own : ∀ {i : Nat} {l1 : List Dat}, (initG us io N.length ds l)[i]? = some (.own l1) → False := fun {i l1} e => by
    rcases initG_at e with ⟨_, _, z⟩ | ⟨_, _, _, _, z⟩ | ⟨_, _, z⟩ | z <;> cases z
  have esta : (frG K C us io sa sc sl ia tb G H).sta = onS us sa sc sl := rfl
  exact
  { sub := hs, g0 := Same.refl _, fresh := fun b e => .inl e, keep := fun b o e _ _ => e
    len := by
      show (initG us io N.length ds l).length = (vs.map some ++ List.replicate (N.length - vs.length) none).length
      have z : vs.length = (if us then 1 else 0) + ds.length + (if io then 1 else 0) := by
        rw [ev, List.length_append, List.length_append, hln]
        cases us <;> cases io <;> rfl
      unfold initG
      simp only [List.length_append, List.length_map, List.length_replicate, z]
      cases us <;> cases io <;> rfl
    sl := fun i x e => by
      rcases initG_at e with ⟨hu, rfl, rfl⟩ | ⟨j, d, rfl, ed, rfl⟩ | ⟨hi, rfl, rfl⟩ | rfl
      · exact ⟨k1 hu, hu⟩
      · obtain ⟨v, e2, q2⟩ := dpAll_get q ed
        exact ⟨v, k2 j v e2, q2⟩
      · obtain ⟨xs, y1, y2, y3⟩ := h2 hi
        exact ⟨xs, k3 hi, y1, y2, y3, by show ia ∈ onM io ia tb; rw [hi]; exact List.mem_append_left _ (List.mem_singleton.mpr rfl)⟩
      · trivial
    inj := fun i j l1 l2 e1 _ _ => (own e1).elim
    ioj := fun i j l1 l2 e1 e2 _ => by
      rcases initG_at e1 with ⟨_, _, z⟩ | ⟨_, _, _, _, z⟩ | ⟨_, r1, _⟩ | z
      · cases z
      · cases z
      · rcases initG_at e2 with ⟨_, _, z⟩ | ⟨_, _, _, _, z⟩ | ⟨_, r2, _⟩ | z
        · cases z
        · cases z
        · exact r1.trans r2.symm
        · cases z
      · cases z
    st := fun z => h1 z
    mu0 := fun b m => by
      have m : b ∈ onI io ia ++ tb.map (·.1) := m
      rcases List.mem_append.mp m with m | m
      case inr =>
        obtain ⟨p, hp, rfl⟩ := List.mem_map.mp m
        obtain ⟨⟨ps, e, _⟩, _⟩ := ht p hp
        refine ⟨by show H p.1 ≠ none; rw [e]; simp, fun z => ?_⟩
        rw [esta] at z
        cases us with
        | false => cases z
        | true =>
          obtain ⟨y1, y2, y3, _⟩ := h1 rfl
          simp only [onS, if_true, List.mem_cons, List.not_mem_nil, or_false] at z
          rcases z with z | z | z
          · rw [z, y1] at e; cases e
          · rw [z, y2] at e; cases e
          · rw [z, y3] at e; cases e
      cases io with
      | false => cases m
      | true =>
        obtain ⟨xs, y1, _⟩ := h2 rfl
        have e : b = ia := List.mem_singleton.mp m
        rw [e]
        refine ⟨by show H ia ≠ none; rw [y1]; simp, fun z => ?_⟩
        rw [esta] at z
        cases us with
        | false => cases z
        | true => exact h3 rfl rfl z
    st0 := fun b z => by
      rw [esta] at z
      cases us with
      | false => cases z
      | true =>
        obtain ⟨y1, y2, y3, _⟩ := h1 rfl
        show H b ≠ none
        simp only [onS, if_true, List.mem_cons, List.not_mem_nil, or_false] at z
        rcases z with z | z | z
        · rw [z, y1]; simp
        · rw [z, y2]; simp
        · rw [z, y3]; simp
    dom := fun b e => e
    pin := fun b z => nomatch z
    tabs := fun p hp => ⟨(ht p hp).1, (ht p hp).2, List.mem_append_right _ (List.mem_map.mpr ⟨p, hp, rfl⟩)⟩ }
theorem Rel.aftG {G0 H0 : Hp} {c : Cfg} {σ : L2.St} {tb : Tbs} (r : Rel (frG K C us io sa sc sl ia tb G0 H0) G c σ H) : AfterT (onS us sa sc sl ++ onM io ia tb) G0 H0 G H :=
  ⟨r.g0, r.sub, fun b o e m => r.keep b o e (fun z => m (List.mem_append_right _ z)) (fun z => m (List.mem_append_left _ z)), r.fresh, r.dom⟩
theorem Rel.ioG {G0 H0 : Hp} {c : Cfg} {σ : L2.St} {n : Nat} {k : List Dat → GR} {Z : GR → Prop} {tb : Tbs} (r : Rel (frG K C us io sa sc sl ia tb G0 H0) G c σ H) (hb : ¬ Z .bad) (z : Z (endG us io n c k)) : ∃ l', Z (k l') ∧ IoOk K io ia G H l' := by
  unfold endG at z
  cases io with
  | false => exact ⟨[], z, fun e => nomatch e⟩
  | true =>
    simp only [if_true] at z
    unfold ioAt at z
    cases e : c.r[(if us then 1 else 0) + n]? with
    | none => simp only [e] at z; exact (hb z).elim
    | some x =>
      cases x with
      | io l' =>
        simp only [e] at z
        obtain ⟨xs, _, y1, y2, y3, _⟩ := r.sl _ _ e
        exact ⟨l', z, fun _ => ⟨xs, y1, y2, y3⟩⟩
      | _ => simp only [e] at z; exact (hb z).elim
theorem fn_gen {P : Program} {w : World} {mg : Str → Option Value} {base : Heap} {x qual : Str} {st : Stmt} {f : Addr} {fd : FuncData} {N ps : List Str} {k n : Nat} {m : M Ctl} (Fn : Fun K x qual st f fd) (S : FnScope N ps (defScope st)) (hn : (if us then 1 else 0) + n + (if io then 1 else 0) = ps.length) (hps : ps.length ≤ N.length)
    {okT : Tbs → Prop} (hb : ∀ (sa sc sl ia : Addr) (tb : Tbs) (G0 H0 : Hp) (cdv : Value) (A : Around) (outer : List Env) (s : Shared) (E : XK), okT tb → Room k (A.deeper (envOfC qual (defScope st) s.heap.objs.size f cdv)) →
      PSs (cxOf (L2.CX P w) P w K mg base N qual (defScope st) f cdv A outer s H0 E) (defBody st) (T (frG K C us io sa sc sl ia tb G0 H0) (fun cls d _ H => E cls d H) m)) :
    FnOk P w K mg base (L2.CX P w) (k + 1) f fd ps (spG K C us io okT n (runG us io N.length m)) := by
  refine Fn.okX S (fun vs H Q E h => ?_) (fun cdv A outer s H vs Q E hr h => ?_)
  · obtain ⟨G, vs', ds, l, s, sa, sc, sl, ia, tb, _, _, _, q, hl, ev, _⟩ := h
    rw [ev, ← hn, List.length_append, List.length_append, dpAll_len q, hl]
    cases us <;> cases io <;> rfl
  · obtain ⟨G, vs', ds, l, s0, sa, sc, sl, ia, tb, okt, ts, hs, q, hl, ev, h1, h2, h3, z⟩ := h
    refine ⟨_, hb sa sc sl ia tb G H cdv A outer s E okt hr, G, ⟨initG us io N.length ds l, s0⟩, relG_init hs q ev (by rw [hl, hn]; exact hps) h1 h2 h3 ts, ?_⟩
    unfold runG at z
    cases e : m ⟨initG us io N.length ds l, s0⟩ with
    | ok a c =>
      rw [e] at z
      cases a with
      | nx =>
        intro σ' G' H' r' _
        obtain ⟨l', z2, io2⟩ := r'.ioG (Z := fun g => match g with
          | .ok v l' s' => ∀ x G' H', AfterT (onS us sa sc sl ++ onM io ia tb) G H G' H' → TsOk tb G' H' → SsOk us sa sc sl G' H' s' → IoOk K io ia G' H' l' → Ret K H G' H' x v → Q x H'
          | .exc k d l' s' => ∀ ad v G' H', AfterT (onS us sa sc sl ++ onM io ia tb) G H G' H' → TsOk tb G' H' → SsOk us sa sc sl G' H' s' → IoOk K io ia G' H' l' → H' ad = some (.xd [(C.fld k, v)]) → Rp K G' v d → E (C.at_ k) (some ad) H'
          | .bad => False) id z
        exact z2 .non G' H' r'.aftG r'.ts (fun hu => r'.st hu) io2 .non
      | rt v =>
        intro x σ' G' H' r' q'
        obtain ⟨l', z2, io2⟩ := r'.ioG (Z := fun g => match g with
          | .ok v l' s' => ∀ x G' H', AfterT (onS us sa sc sl ++ onM io ia tb) G H G' H' → TsOk tb G' H' → SsOk us sa sc sl G' H' s' → IoOk K io ia G' H' l' → Ret K H G' H' x v → Q x H'
          | .exc k d l' s' => ∀ ad v G' H', AfterT (onS us sa sc sl ++ onM io ia tb) G H G' H' → TsOk tb G' H' → SsOk us sa sc sl G' H' s' → IoOk K io ia G' H' l' → H' ad = some (.xd [(C.fld k, v)]) → Rp K G' v d → E (C.at_ k) (some ad) H'
          | .bad => False) id z
        refine z2 x G' H' r'.aftG r'.ts (fun hu => r'.st hu) io2 ?_
        cases v with
        | sh d => exact q'
        | fr l =>
          obtain ⟨p, e1, xs, y1, y2, y3, y4, _⟩ := q'
          exact ⟨p, xs, e1, y1, y2, y3, y4⟩
      | bk => exact z.elim
      | ct => exact z.elim
    | exc j d c =>
      rw [e] at z
      intro ad v σ' G' H' r' y1 y2
      obtain ⟨l', z2, io2⟩ := r'.ioG (Z := fun g => match g with
          | .ok v l' s' => ∀ x G' H', AfterT (onS us sa sc sl ++ onM io ia tb) G H G' H' → TsOk tb G' H' → SsOk us sa sc sl G' H' s' → IoOk K io ia G' H' l' → Ret K H G' H' x v → Q x H'
          | .exc k d l' s' => ∀ ad v G' H', AfterT (onS us sa sc sl ++ onM io ia tb) G H G' H' → TsOk tb G' H' → SsOk us sa sc sl G' H' s' → IoOk K io ia G' H' l' → H' ad = some (.xd [(C.fld k, v)]) → Rp K G' v d → E (C.at_ k) (some ad) H'
          | .bad => False) id z
      exact z2 ad v G' H' r'.aftG r'.ts (fun hu => r'.st hu) io2 y1 y2
    | bad =>
      rw [e] at z
      exact z
end
end Pn

set_option maxHeartbeats 1000001
namespace Pn
open L2 PyProof.Rows PySem.Spec PySem
section
variable {F : Fr} {W : L2.WX} {σ : L2.St} {H : Hp} {X : Cx} {D : Ends}

/-! ### the law's state -/
def onSt {γ : Type} (i : Nat) (m : M γ) : M γ := fun c => match c.r[i]? with
  | some .st => m c
  | _ => .bad
theorem po_st {γ δ : Type} {R : L2.St → Hp → Hp → Cfg → δ → γ → Prop} {Q : δ → Hp → Prop} {G : Hp} {c : Cfg} {i : Nat} {m : M γ} (r : Rel F G c σ H) (p : Po F W σ R Q G (onSt i m c)) : σ[i]? = some (some (.ref F.sa)) ∧ F.us = true ∧ StOk F.sa F.sc F.sl G H c.s ∧ Po F W σ R Q G (m c) := by
  unfold onSt at p
  cases e : c.r[i]? with
  | none => simp only [e] at p; exact p.elim
  | some s =>
    cases s with
    | st =>
      simp only [e] at p
      obtain ⟨e2, hu⟩ := r.sl i _ e
      exact ⟨e2, hu, r.st hu, p⟩
    | _ => simp only [e] at p; exact p.elim
def key3 : Bool → Str
  | true => "cells"
  | false => "lefts"
theorem dget_at {G : Hp} {s : DS} (z : StOk F.sa F.sc F.sl G H s) : DGet H F.sa (.str "at") (some (.int s.at_)) := DGet.k (kvs := stKv F.sc F.sl s.at_) (k := Sum.inr "at") z.1
theorem dget_row {G : Hp} {s : DS} (z : StOk F.sa F.sc F.sl G H s) : ∀ b : Bool, DGet H F.sa (.str (key3 b)) (some (.ref (if b then F.sc else F.sl)))
  | true => DGet.k (kvs := stKv F.sc F.sl s.at_) (k := Sum.inr "cells") z.1
  | false => DGet.k (kvs := stKv F.sc F.sl s.at_) (k := Sum.inr "lefts") z.1
def stAt (i : Nat) : M Dat := onSt i fun c => .ok (.int c.s.at_) c
theorem e_stAt {i j : Nat} {x : Str} {p p2 pos : Pos} (hu : X.A.units + 1 < cLine) (hN : X.N[i]? = some x) (hv : Vis X.env.scope x) (hd : (x == ("__debug__" : Str)) = false) (hcd : (x == ("__classdict__" : Str)) = false) (hs : NoSl (.Constant (.str "at") j p2) := by intro _ _; rfl) :
    PE X (.Subscript (.Name x p) (.Constant (.str "at") j p2) pos) (E F W (stAt i)) :=
  (pe_dget hu (pe_var hN hv hd hcd) pe_str hs).mono fun σ H Q ⟨G, c, r, p⟩ => by
    obtain ⟨e2, hus, z, p⟩ := po_st r p
    exact ⟨_, e2, _, _, rfl, dget_at z, po_ret r p (.int _)⟩
def rowSel (b : Bool) (s : DS) : List Int := if b then s.cells else s.lefts
/-- state["cells"], state["lefts"] as rows -/
def stRow (b : Bool) (i : Nat) : M Row := onSt i fun c => .ok (false, (rowSel b c.s).map PyData.int) c
theorem r_st (b : Bool) {i j : Nat} {x : Str} {p p2 pos : Pos} (hu : X.A.units + 1 < cLine) (hN : X.N[i]? = some x) (hv : Vis X.env.scope x) (hd : (x == ("__debug__" : Str)) = false) (hcd : (x == ("__classdict__" : Str)) = false) (hs : NoSl (.Constant (.str (key3 b)) j p2) := by intro _ _; rfl) :
    PE X (.Subscript (.Name x p) (.Constant (.str (key3 b)) j p2) pos) (R_ F W (stRow b i)) :=
  (pe_dget hu (pe_var hN hv hd hcd) pe_str hs).mono fun σ H Q ⟨G, c, r, p⟩ => by
    obtain ⟨e2, hus, z, p⟩ := po_st r p
    refine ⟨_, e2, _, _, rfl, dget_row z b, po_ret r p ⟨_, (rowSel b c.s).map V.int, rfl, ?_, intR_dp _⟩⟩
    obtain ⟨_, z2, z3, _⟩ := z
    cases b
    · exact z3
    · exact z2
/-- state["cells"][k], state["lefts"][k] -/
def stIx (b : Bool) (i : Nat) (m : M Dat) : M Dat := onSt i (M.bind m fun d => onSt i fun c => match d with
  | .int k => (match atI (rowSel b c.s) k with
    | some n => .ok (.int n) c
    | none => .bad)
  | _ => .bad)
theorem atI_map {α β : Type} (f : α → β) (xs : List α) (i : Int) : atI (xs.map f) i = (atI xs i).map f := by
  unfold atI
  rw [List.length_map]
  cases ixN xs.length i with
  | none => rfl
  | some j => exact List.getElem?_map
theorem e_stIx (b : Bool) {i j : Nat} {x : Str} {e : Expr} {m : M Dat} {p p2 pos pos2 : Pos} (hK : F.K = X.K) (hu : X.A.units + 1 < cLine) (hN : X.N[i]? = some x) (hv : Vis X.env.scope x) (hd : (x == ("__debug__" : Str)) = false) (hcd : (x == ("__classdict__" : Str)) = false) (he : PE X e (E F W m)) (hs : NoSl (.Constant (.str (key3 b)) j p2) := by intro _ _; rfl) (hs2 : PlainIx e := by intro _ _; rfl) :
    PE X (.Subscript (.Subscript (.Name x p) (.Constant (.str (key3 b)) j p2) pos2) e pos) (E F W (stIx b i m)) :=
  (pe_ix ix_list (pe_dget hu (pe_var hN hv hd hcd) pe_str hs) he hs2).mono fun σ H Q ⟨G, c, r, p⟩ => by
    obtain ⟨e2, hus, z, p⟩ := po_st r p
    refine ⟨_, e2, _, _, rfl, dget_row z b, sx_mono (po_bind (R1 := RD F) r p) fun y H2 ⟨d, G2, c2, r2, s2, q2, p2⟩ => ?_⟩
    obtain ⟨_, _, z2, p2⟩ := po_st r2 p2
    cases q2 with
    | int k =>
      cases ek : atI (rowSel b c2.s) k with
      | none => simp only [ek] at p2; exact p2.elim
      | some n =>
        simp only [ek] at p2
        refine ⟨_, (rowSel b c2.s).map V.int, k, .int n, rfl, rfl, Evl.sq_of ?_, by rw [atI_map, ek]; rfl, po_ret r2 p2 (.int _)⟩
        obtain ⟨_, z3, z4, _⟩ := z2
        cases b
        · exact z4
        · exact z3
    | _ => exact p2.elim

/-! ### the state written -/
theorem Rel.stW {G : Hp} {c : Cfg} {b : Addr} {o : HO} {s' : DS} (r : Rel F G c σ H) (hu : F.us = true) (hb : b ∈ [F.sa, F.sc, F.sl]) (z : StOk F.sa F.sc F.sl G (upd H b o) s') : Rel F G { c with s := s' } σ (upd H b o) := by
  obtain ⟨_, _, _, g1, g2, g3, _⟩ := id z
  have gb : G b = none := by
    (simp only [List.mem_cons, List.not_mem_nil, or_false] at hb)
    rcases hb with rfl | rfl | rfl <;> assumption
  have noT : ∀ o : HO, H b = some o → ¬ IsT o := fun o e t => by
    obtain ⟨h1, h2, h3, _⟩ := r.st hu
    (simp only [List.mem_cons, List.not_mem_nil, or_false] at hb)
    (rcases hb with rfl | rfl | rfl)
    · rw [h1] at e; cases e; exact isT_dK t
    · rw [h2] at e; cases e; exact isT_lst t
    · rw [h3] at e; cases e; exact isT_lst t
  refine r.afterS hu ⟨Same.refl _, fun x u e => ?_, fun x u e hx => ?_, fun x e => .inl e, fun x e => ?_⟩ (fun p hp => ⟨tabS_move (r.ts p hp).1 fun x u e t => ?_, (r.ts p hp).2⟩) z
  · have : x ≠ b := fun h => by rw [h, gb] at e; cases e
    rw [upd_ne this]
    exact r.sub x u e
  · have : x ≠ b := fun h => hx (List.mem_append_left _ (h ▸ hb))
    rw [upd_ne this]
    exact e
  · by_cases h : x = b
    · rw [h, upd_same]; simp
    · rw [upd_ne h]; exact e
  · have : x ≠ b := fun h => noT u (h ▸ e) t
    rw [upd_ne this]
    exact e
theorem stOk_at {G : Hp} {s : DS} {n : Int} (z : StOk F.sa F.sc F.sl G H s) : StOk F.sa F.sc F.sl G (upd H F.sa (.dK (putK (stKv F.sc F.sl s.at_) (Sum.inr "at") (.int n)))) { s with at_ := n } := by
  obtain ⟨h1, h2, h3, g1, g2, g3, h4⟩ := z
  have n1 : F.sc ≠ F.sa := fun e => by rw [e, h1] at h2; cases h2
  have n2 : F.sl ≠ F.sa := fun e => by rw [e, h1] at h3; cases h3
  refine ⟨?_, by rw [upd_ne n1]; exact h2, by rw [upd_ne n2]; exact h3, g1, g2, g3, h4⟩
  rw [upd_same]
  rfl
theorem stOk_left {G : Hp} {s : DS} {j : Nat} {n : Int} (z : StOk F.sa F.sc F.sl G H s) : StOk F.sa F.sc F.sl G (upd H F.sl (.lst ((s.lefts.map V.int).set j (.int n)))) { s with lefts := s.lefts.set j n } := by
  obtain ⟨h1, h2, h3, g1, g2, g3, h4⟩ := z
  have n2 : F.sa ≠ F.sl := fun e => by rw [← e, h1] at h3; cases h3
  refine ⟨by rw [upd_ne n2]; exact h1, by rw [upd_ne h4]; exact h2, ?_, g1, g2, g3, h4⟩
  rw [upd_same, List.map_set]
/-- state["at"] = a number -/
def putAt (i : Nat) (m : M Dat) : M Ctl := M.bind m fun d => onSt i fun c => match d with
  | .int n => .ok .nx { c with s := { c.s with at_ := n } }
  | _ => .bad
theorem ps_onSt {G : Hp} {c : Cfg} {i : Nat} {m : M Ctl} (r : Rel F G c σ H) (p : Ps F W D G (onSt i m c)) : σ[i]? = some (some (.ref F.sa)) ∧ F.us = true ∧ StOk F.sa F.sc F.sl G H c.s ∧ Ps F W D G (m c) := by
  unfold onSt at p
  cases e : c.r[i]? with
  | none => simp only [e] at p; exact p.elim
  | some s =>
    cases s with
    | st =>
      simp only [e] at p
      obtain ⟨e2, hu⟩ := r.sl i _ e
      exact ⟨e2, hu, r.st hu, p⟩
    | _ => simp only [e] at p; exact p.elim
theorem s_stAt {i j : Nat} {x : Str} {e : Expr} {m : M Dat} {p p2 pos pos2 : Pos} (hu : X.A.units + 1 < cLine) (hN : X.N[i]? = some x) (hv : Vis X.env.scope x) (hd : (x == ("__debug__" : Str)) = false) (hcd : (x == ("__classdict__" : Str)) = false) (he : PE X e (E F W m))
    (ha : ∀ v, assign (.Subscript (.Name x p) (.Constant (.str "at") j p2) pos2) X.env v = (do
      let ov ← holding [v] (eval (.Name x p) X.env)
      let iv ← holding [v, ov] (eval (.Constant (.str "at") j p2) X.env)
      standAt pos2
      holding [v, ov, iv] (setItem ov iv (v))
      release [v, ov, iv] []) := by intro _; rfl)
    (hs : swapsWithSole [.Subscript (.Name x p) (.Constant (.str "at") j p2) pos2] e pos.line X.env = pure false := by rfl) (hw : swappedStores [.Subscript (.Name x p) (.Constant (.str "at") j p2) pos2] e X.env = pure none := by rfl) (h1 : (assignEach [.Subscript (.Name x p) (.Constant (.str "at") j p2) pos2] X.env).map (·.2) = [assign (.Subscript (.Name x p) (.Constant (.str "at") j p2) pos2) X.env] := by rfl) :
    PS X (.Assign [.Subscript (.Name x p) (.Constant (.str "at") j p2) pos2] e pos) (T F W (putAt i m)) :=
  (ps_asg he (pg_sub (pe_var hN hv hd hcd) pe_str (set_dict hu) ha) hs hw h1).mono fun D σ H ⟨G, c, r, p⟩ => sx_mono (ps_bind (R1 := RD F) r p) fun x H1 ⟨d, G1, c1, r1, s1, q, p1⟩ => by
    obtain ⟨e2, hus, z, p1⟩ := ps_onSt r1 p1
    cases q with
    | int n =>
      refine ⟨_, e2, F.sa, _, rfl, DPut.k (kvs := stKv F.sc F.sl c1.s.at_) (k := Sum.inr "at") z.1 (by show 3 < sizeLine; rw [sizeLine_eq]; decide), ?_⟩
      exact p1 σ G1 _ (r1.stW hus (by simp) (stOk_at z)) (Same.refl _)
    | _ => exact p1.elim
/-- state["lefts"][k] = a number -/
def putLeft (i : Nat) (m mk : M Dat) : M Ctl := M.bind m fun d => match d with
  | .int n => onSt i (M.bind mk fun k => onSt i fun c => match k with
    | .int k => (match ixN c.s.lefts.length k with
      | some j => .ok .nx { c with s := { c.s with lefts := c.s.lefts.set j n } }
      | none => .bad)
    | _ => .bad)
  | _ => bad
theorem s_stLeft {i j : Nat} {x : Str} {e k : Expr} {m mk : M Dat} {p p2 pos pos2 pos3 : Pos} (hu : X.A.units + 1 < cLine) (hN : X.N[i]? = some x) (hv : Vis X.env.scope x) (hd : (x == ("__debug__" : Str)) = false) (hcd : (x == ("__classdict__" : Str)) = false) (he : PE X e (E F W m)) (hk : PE X k (E F W mk)) (hns : NoSl (.Constant (.str "lefts") j p2) := by intro _ _; rfl)
    (ha : ∀ v, assign (.Subscript (.Subscript (.Name x p) (.Constant (.str "lefts") j p2) pos3) k pos2) X.env v = (do
      let ov ← holding [v] (eval (.Subscript (.Name x p) (.Constant (.str "lefts") j p2) pos3) X.env)
      let iv ← holding [v, ov] (eval k X.env)
      standAt pos2
      holding [v, ov, iv] (setItem ov iv (v))
      release [v, ov, iv] []) := by intro _; rfl)
    (hs : swapsWithSole [.Subscript (.Subscript (.Name x p) (.Constant (.str "lefts") j p2) pos3) k pos2] e pos.line X.env = pure false := by rfl) (hw : swappedStores [.Subscript (.Subscript (.Name x p) (.Constant (.str "lefts") j p2) pos3) k pos2] e X.env = pure none := by rfl)
    (h1 : (assignEach [.Subscript (.Subscript (.Name x p) (.Constant (.str "lefts") j p2) pos3) k pos2] X.env).map (·.2) = [assign (.Subscript (.Subscript (.Name x p) (.Constant (.str "lefts") j p2) pos3) k pos2) X.env] := by rfl) :
    PS X (.Assign [.Subscript (.Subscript (.Name x p) (.Constant (.str "lefts") j p2) pos3) k pos2] e pos) (T F W (putLeft i m mk)) :=
  (ps_asg he (pg_sub (pe_dget hu (pe_var hN hv hd hcd) pe_str hns) hk set_list ha) hs hw h1).mono fun D σ H ⟨G, c, r, p⟩ => sx_mono (ps_bind (R1 := RD F) r p) fun x H1 ⟨d, G1, c1, r1, s1, q, p1⟩ => by
    cases q with
    | int n =>
      obtain ⟨e2, hus, z, p1⟩ := ps_onSt r1 p1
      refine ⟨_, e2, _, _, rfl, dget_row z false, sx_mono (ps_bind (R1 := RD F) r1 p1) fun y H2 ⟨d2, G2, c2, r2, s2, q2, p2⟩ => ?_⟩
      obtain ⟨_, _, z2, p2⟩ := ps_onSt r2 p2
      cases q2 with
      | int k =>
        cases ek : ixN c2.s.lefts.length k with
        | none => simp only [ek] at p2; exact p2.elim
        | some j =>
          simp only [ek] at p2
          refine ⟨F.sl, c2.s.lefts.map V.int, k, j, rfl, rfl, z2.2.2.1, by rw [List.length_map]; exact ek, ?_⟩
          exact p2 σ G2 _ (r2.stW hus (by simp) (stOk_left z2)) (Same.refl _)
      | _ => exact p2.elim
    | _ => exact p1.elim
end
end Pn

set_option maxHeartbeats 1000001
/-! several except clauses, each with a name for what is caught -/
namespace PnTry
open L2 PyProof.Rows PySem.Spec PySem
abbrev Suite := Addr → Value → Option Addr → TS
structure Way where
  i : Nat
  c : Value
  ts : Suite
/-- the name goes behind the suite -/
def gone (i : Nat) (D : Ends) : Ends where
  rt := D.rt
  nx := fun s h => D.nx (s.set i none) h
  ct := fun s h => D.ct (s.set i none) h
  bk := fun s h => D.bk (s.set i none) h
def wWays (K : PySem.W.Frag) (Wout : WX) (D : Ends) : List Way → WX
  | [] => Wout
  | q :: l => fun cls d σ H => ∃ b, PySem.W.exmOne K cls q.c = some b ∧ (b = true → ∀ a, H a = none → q.ts a cls d (gone q.i D) (σ.set q.i (some (.ref a))) H) ∧ (b = false → wWays K Wout D l cls d σ H)
structure WayOk (X : Cx) (h : ExceptHandler) (q : Way) : Prop where
  ex : ∃ (x n : Str) (b₀ : Stmt) (suite : List Stmt) (np pos : Pos), h = .ExceptHandler (some (.Name x np)) (some n) (b₀ :: suite) pos ∧ X.N[q.i]? = some n ∧ X.env.kindOf n = some .local ∧ Names X x q.c ∧
    ∀ (a : Addr) (ob : Obj) (cls : Value) (d : Option Addr) (pn : List (Addr × Obj)), Zc cls d ob → (∃ vs, ob.data = .fields vs) → PSs (X.suite a ((a, ob) :: pn)) (b₀ :: suite) (q.ts a cls d)
inductive WaysOk (X : Cx) : List ExceptHandler → List Way → Prop
  | nil : WaysOk X [] []
  | cons {h : ExceptHandler} {hs : List ExceptHandler} {q : Way} {l : List Way} : WayOk X h q → WaysOk X hs l → WaysOk X (h :: hs) (q :: l)
section
variable {X : Cx} {body : List Stmt} {h₀ : ExceptHandler} {hs : List ExceptHandler} {l : List Way} {pos : Pos} {tb : WX → TS} {Wout : WX}
theorem ps_ways (hst : X.stack = X.env :: X.outer) (hfr : X.env.frame = some X.env.locals) (hN : X.N.Nodup) (tk : Takes X Wout)
    (hb : ∀ (W : WX) (pn : List (Addr × Obj)) (xe : Value → Shared → Prop), Takes (X.tr pn xe) W → PassesOwn (model X.prog X.w) X.A X.env xe → PSs (X.tr pn xe) body (tb W)) (hw : WaysOk X (h₀ :: hs) l) :
    PS X (.Try body (h₀ :: hs) [] [] pos) (fun D σ H => tb (wWays X.K Wout D l) D σ H) where
  run := by
    intro pins s σ H D I h
    have ok := I.ok
    have frs0 : X.A.frames = some (X.env :: X.outer) := hst ▸ ok.frames
    let caught : Value → Shared → Prop := fun e s1 => wpAny (model X.prog X.w) X.A (noteFrame e X.env) (fun _ s2 => wpAny (model X.prog X.w) X.A (setFlight e none) (fun _ s3 => wpAny (model X.prog X.w) X.A (handleBy e X.env (h₀ :: hs)) (SP X pins D) X.xe s3) X.xe s2) X.xe s1
    have catches : Takes (X.tr (X.pn ++ pins) caught) (wWays X.K Wout D l) := by
      rintro u s' ⟨a, B, s0, pins', σ', H', cls, d, rfl, I', nb, up, sky, fresh, os, ag, w⟩
      have J : Inv X pins σ' H' s0 := I'.ofTry ok
      have sk : Sky B (X.env :: X.outer) a (Zc cls d) X.env.locals s'.heap := hst ▸ sky
      (show wpAny (model X.prog X.w) X.A (noteFrame (.ref a) X.env) _ _ _)
      refine Sky.land Zc.steady frs0 hfr sk fun h1 in1 up1 => ?_
      have J1 : Inv X pins σ' H' { s' with heap := h1 } := J.landed nb in1.1 (up.trans up1) os ag
      obtain ⟨ob, fs, at1, z1, dt1⟩ := in1.there
      have off : a ∉ frs (X.env :: X.outer) := fun m => by
        obtain ⟨_, ob', e', no⟩ := in1.2.2.1.mem m
        cases at1.symm.trans e'
        exact no fs dt1
      have offL : a ≠ X.env.locals := fun e => off (List.mem_filterMap.mpr ⟨X.env, List.mem_cons_self, e ▸ hfr⟩)
      have offF : a ∉ X.fs := fun m => by
        obtain ⟨f, mf, ef⟩ := List.mem_filterMap.mp m
        exact off (List.mem_filterMap.mpr ⟨f, List.mem_cons_of_mem _ mf, ef⟩)
      have S1 := J1.suite at1 dt1 fresh offL offF
      have ways : ∀ {hs' : List ExceptHandler} {l' : List Way}, WaysOk X hs' l' → wWays X.K Wout D l' cls d σ' H' → wpAny (model X.prog X.w) X.A (handleBy (.ref a) X.env hs') (SP X pins D) X.xe { s' with heap := h1 } := by
        intro hs' l' k
        induction k with
        | nil =>
          intro w
          refine wpAny_handleBy_nil ?_
          obtain ⟨_, _, _, ob2, vs2, T, _, _, e2, _, d2, f2, _⟩ := id in1
          unfold PySem.passOn
          refine wpAny_bind (wpAny_field e2 d2 f2 ?_)
          rw [if_neg (show ¬((Value.ref T == Value.none) = true) by simp)]
          have out : wpAny (model X.prog X.w) X.A (setFlight (.ref a) X.env.frame) (fun _ s4 => wpAny (model X.prog X.w) X.A (throw (.ref a) : Sem Flow) (SP X pins D) X.xe s4) X.xe { s' with heap := h1 } := by
            rw [hfr]
            refine HandSPX.setFlight_upZ in1 fun h2 sk2 up2 => wpAny_throw (tk _ _ ?_)
            exact ⟨a, B, s0, pins, σ', H', cls, d, rfl, J, nb, (up.trans up1).trans up2, .inr (.inr (hst.symm ▸ sk2)), fresh, os, ag, w⟩
          first
            | exact wpAny_bind (wpAny_pure (wpAny_bind out))
            | exact wpAny_bind out
        | @cons hd tl q lq hq _ ih =>
          rintro ⟨b, one, yes, no⟩
          obtain ⟨x, n, b₀, suite, np, pos1, rfl, hi, loc, nm, run⟩ := hq.ex
          refine wpAny_handleBy_cons (codeAny_handlers_test ?_) (by intro z; cases z)
          have seen : PySem.W.Looks (model X.prog X.w) h1 (typeOf (.ref a)) cls := fun A Q E s k z => wpAny_typeOf_ref (k _ _ at1) (z1.1.symm ▸ z)
          have fits := PySem.W.exm_one (M := model X.prog X.w) S1.kIn seen one
          have named : ∀ {Q E : Value → Shared → Prop}, Q q.c { s' with heap := h1 } → wpAny (model X.prog X.w) (X.A.mark (some (.ref a))) (eval (.Name x np) X.env) Q E { s' with heap := h1 } := by
            intro Q E z
            obtain ⟨g, dbg, m | ⟨m, v, nn⟩⟩ := nm
            · exact ld_glob (X := X.suite a ((a, ob) :: (X.pn ++ pins))) S1 g m z dbg
            · exact ld_blt (X := X.suite a ((a, ob) :: (X.pn ++ pins))) S1 g m v z nn dbg
          refine named (fits.here ?_)
          cases b with
          | false => exact ih (no rfl)
          | true =>
            refine codeAny_handlers_suite_as (HandSPX.lands_againZ in1 fun h2 in2 up2 => ?_)
            have J2 : Inv X pins σ' H' { s' with heap := h2 } := J.landed nb in2.1 ((up.trans up1).trans up2) os ag
            obtain ⟨ob2, fs2, at2, z2, dt2⟩ := in2.there
            refine store_ok (X := X.suite a ((a, ob2) :: (X.pn ++ pins))) (v := .ref a) (J2.suite at2 dt2 fresh offL offF) hN hi (.inl loc) rfl (fun s5 S5 => ?_) (.inr loc)
            refine wpAny_mono ((run a ob2 cls d (X.pn ++ pins) z2 ⟨_, dt2⟩).run [] s5 _ H' _ S5 (yes rfl a fresh)) (fun f s6 sp => ?_) (fun _ _ z => z.elim)
            have fin : ∀ {σ6 : L2.St} {H6 : Hp} {Q : Shared → Prop}, Inv (X.suite a ((a, ob2) :: (X.pn ++ pins))) [] σ6 H6 s6 → (∀ s7, Inv X pins (σ6.set q.i none) H6 s7 → Q s7) →
                wpAny (model X.prog X.w) X.A (do bindName X.env n .none; unbindBehindTheSuite X.env n pos1) (fun _ s7 => Q s7) X.xe s6 := fun S6 z => gone_ok (S6.unsuite ok) hN hi loc z
            cases f with
            | ret u =>
              obtain ⟨v6, σ6, H6, S6, r6, q6⟩ := sp
              exact fin S6 fun s7 J7 => ⟨_, _, _, J7, r6, q6⟩
            | next =>
              obtain ⟨σ6, H6, S6, q6⟩ := sp
              exact fin S6 fun s7 J7 => ⟨_, _, J7, q6⟩
            | brk =>
              obtain ⟨σ6, H6, S6, q6⟩ := sp
              exact fin S6 fun s7 J7 => ⟨_, _, J7, q6⟩
            | cont =>
              obtain ⟨σ6, H6, S6, q6⟩ := sp
              exact fin S6 fun s7 J7 => ⟨_, _, J7, q6⟩
      exact ways hw w
    refine wpAny_Try_except (wpAny_mono ((hb _ (X.pn ++ pins) caught catches PassesOwn.looking).run [] s σ H D (I.toTry _) h) (fun f s1 sp => ?_) (fun e s1 he => he))
    cases f with
    | ret u =>
      obtain ⟨v, σ', H', J', r, z⟩ := sp
      exact ⟨v, σ', H', J'.ofTry ok, r, z⟩
    | next =>
      obtain ⟨σ', H', J', z⟩ := sp
      exact wpAny_execs_nil ⟨σ', H', J'.ofTry ok, z⟩
    | brk =>
      obtain ⟨σ', H', J', z⟩ := sp
      exact ⟨σ', H', J'.ofTry ok, z⟩
    | cont =>
      obtain ⟨σ', H', J', z⟩ := sp
      exact ⟨σ', H', J'.ofTry ok, z⟩
end
end PnTry

set_option maxHeartbeats 1000001
/-! defs whose promise holds while no text of a thing is being made around them; repr of data -/
namespace Pn
open L2 PyProof.Rows PySem.Spec PySem
/-- a promise as FnOk, for calls with no guard around -/
structure FnG (P : Program) (w : World) (K : PySem.W.Frag) (mg : Str → Option Value) (base : Heap) (CX : CXT) (k : Nat) (f : Addr) (fd : FuncData) (ps : List Str) (sp : Sp) : Prop where
  (len : ∀ vs
  H Q E, sp vs H Q E → vs.length = ps.length)
  run : ∀ (A : Around) (outer : List Env) (s : Shared) (H : Hp) (args : Args) (us : List Value) (vs : List V) (Q : VK) (E : XK), A.guards = some [] → Room k A → Env0 P w K mg base A outer s H → BindsTo s fd args (ps.zip us) → Vals vs us → sp vs H Q E →
    codeAny (model P w) A (.call (.ref f) args) (CR CX outer P w H s Q (E)) s
section
variable {P : Program} {w : World} {K : PySem.W.Frag} {mg : Str → Option Value} {base : Heap} {CX : CXT} {k : Nat} {f : Addr} {fd : FuncData} {ps : List Str} {sp : Sp}
theorem FnG.of (F : FnOk P w K mg base CX k f fd ps sp) : FnG P w K mg base CX k f fd ps sp := ⟨F.len, fun A outer s H args us vs Q E _ => F.run A outer s H args us vs Q E⟩
theorem FnG.mono {j : Nat} (F : FnG P w K mg base CX j f fd ps sp) (h : j ≤ k) : FnG P w K mg base CX k f fd ps sp := ⟨F.len, fun A outer s H args us vs Q E hg hr => F.run A outer s H args us vs Q E hg (hr.mono h)⟩
/-- a def's body, its code object's value known -/
theorem fnG_core {x qual : Str} {st : Stmt} {N : List Str} {oc : Value} {od an : Option Addr} {osl : Array (Option Value)} {kV doc pm cdv ct : Value} (lk : K.lookup f = some ⟨oc, od, .func (PySem.W.fnOf x qual (defArgs st) (defBody st) (defScope st) .none kV doc pm an cdv ct), osl⟩) (hcd : PySem.W.codeIn K cdv qual = true) (S : FnScope N ps (defScope st)) (len : ∀ vs H Q E, sp vs H Q E → vs.length = ps.length)
    (hb : ∀ (A : Around) (outer : List Env) (s : Shared) (H : Hp) (vs : List V) (Q : VK) (E : XK), A.guards = some [] → Room k (A.deeper (envOfC qual (defScope st) s.heap.objs.size f cdv)) → sp vs H Q E →
      ∃ t, PSs (cxOf CX P w K mg base N qual (defScope st) f cdv A outer s H E) (defBody st) t ∧ t { nx := fun _ H' => Q .non H', rt := Q } (start N vs) H) : FnG P w K mg base CX (k + 1) f (PySem.W.fnOf x qual (defArgs st) (defBody st) (defScope st) .none kV doc pm an cdv ct) ps sp := by
  refine ⟨len, ?_⟩
  intro A outer s H args us vs Q E hg hr e0 bind r hsp
  have n := len _ _ _ _ hsp
  have kin : K.In s.heap := e0.mod.kin.keeps fun b o e => (e0.bs b o e).1
  have few : s.heap.NoLimit := e0.mod.nolimit.keeps fun b o e => (e0.bs b o e).1
  have where_ : ∀ y ∈ ps.zip us, (defScope st).names.lookup y.1 = some .local ∨ ((defScope st).names.lookup y.1 = some .cell ∧ ((cellsFrom (s.heap.objs.size + 1) (defScope st).names []).lookup y.1).isSome = true) := by
    rintro ⟨m, v⟩ hy
    exact (S.par m (List.of_mem_zip hy).1).imp id fun q => ⟨q, PySem.W.cellsFrom_some _ _ _ (.inl q)⟩
  refine codeAny_call_function hr.depth (kin _ _ lk) rfl S.co S.gen rfl (PySem.W.codeRec_of kin hcd) (bind _ _ _ _ ?_)
  refine wpAny_newFunctionEnv_cells S.kind where_ ?_
  rintro env rfl s1 x
  refine ⟨few.keeps x.toInCall.keep, codeAny_func ?_⟩
  obtain ⟨t, ht, hq⟩ := hb A outer s H vs Q E hg (hr.deeper _) hsp
  have I : Inv (cxOf CX P w K mg base N qual (defScope st) f cdv A outer s H E) [] (start N vs) H s1 := inv_start S hr.hd e0 n r x
  refine wpAny_mono (ht.run [] s1 (start N vs) H _ I hq) ?_ fun e s' z => z
  rintro fl s' hs
  have fin : ∀ {σ' : L2.St} {H' : Hp} {v : V} {u : Value}, Inv (cxOf CX P w K mg base N qual (defScope st) f cdv A outer s H E) [] σ' H' s' → RelV v u → Q v H' → CE outer P w H s Q u s' :=
    fun J rv q => ⟨_, _, J.os, J.bare, J.base, J.hok, rv, q⟩
  cases fl with
  | next => exact hs.elim fun σ' z => z.elim fun H' z => fin (v := V.non) (u := Value.none) z.1 rfl z.2
  | ret u =>
    (obtain ⟨v, σ', H', J, rv, q⟩ := hs)
    exact fin J rv q
  | brk =>
    exact (hs.elim fun _ z => z.elim fun _ z => z.2 : False).elim
  | cont =>
    exact (hs.elim fun _ z => z.elim fun _ z => z.2 : False).elim
theorem fnG_body {x qual : Str} {st : Stmt} {N : List Str} (Fn : Fun K x qual st f fd) (S : FnScope N ps (defScope st)) (len : ∀ vs H Q E, sp vs H Q E → vs.length = ps.length)
    (hb : ∀ (cdv : Value) (A : Around) (outer : List Env) (s : Shared) (H : Hp) (vs : List V) (Q : VK) (E : XK), A.guards = some [] → Room k (A.deeper (envOfC qual (defScope st) s.heap.objs.size f cdv)) → sp vs H Q E →
      ∃ t, PSs (cxOf CX P w K mg base N qual (defScope st) f cdv A outer s H E) (defBody st) t ∧ t { nx := fun _ H' => Q .non H', rt := Q } (start N vs) H) : FnG P w K mg base CX (k + 1) f fd ps sp := by
  obtain ⟨oc, od, kV, doc, pm, an, cdv, ct, osl, rfl, lk, hcd⟩ := Fn.ex
  exact fnG_core lk hcd S len fun A outer s H vs Q E => hb cdv A outer s H vs Q E
end
theorem fn_genG {K : PySem.W.Frag} {C : Cls} {us io : Bool} {P : Program} {w : World} {mg : Str → Option Value} {base : Heap} {x qual : Str} {st : Stmt} {f : Addr} {fd : FuncData} {N ps : List Str} {k n : Nat} {m : M Ctl} (Fn : Fun K x qual st f fd) (S : FnScope N ps (defScope st)) (hn : (if us then 1 else 0) + n + (if io then 1 else 0) = ps.length) (hps : ps.length ≤ N.length)
    {okT : Tbs → Prop} (hb : ∀ (sa sc sl ia : Addr) (tb : Tbs) (G0 H0 : Hp) (cdv : Value) (A : Around) (outer : List Env) (s : Shared) (E : XK), A.guards = some [] → okT tb → Room k (A.deeper (envOfC qual (defScope st) s.heap.objs.size f cdv)) →
      PSs (cxOf (L2.CX P w) P w K mg base N qual (defScope st) f cdv A outer s H0 E) (defBody st) (T (frG K C us io sa sc sl ia tb G0 H0) (fun cls d _ H => E cls d H) m)) :
    FnG P w K mg base (L2.CX P w) (k + 1) f fd ps (spG K C us io okT n (runG us io N.length m)) := by
  refine fnG_body Fn S (fun vs H Q E h => ?_) (fun cdv A outer s H vs Q E hg hr h => ?_)
  · obtain ⟨G, vs', ds, l, s, sa, sc, sl, ia, tb, _, _, _, q, hl, ev, _⟩ := h
    rw [ev, ← hn, List.length_append, List.length_append, dpAll_len q, hl]
    cases us <;> cases io <;> rfl
  · obtain ⟨G, vs', ds, l, s0, sa, sc, sl, ia, tb, okt, ts, hs, q, hl, ev, h1, h2, h3, z⟩ := h
    refine ⟨_, hb sa sc sl ia tb G H cdv A outer s E hg okt hr, G, ⟨initG us io N.length ds l, s0⟩, relG_init hs q ev (by rw [hl, hn]; exact hps) h1 h2 h3 ts, ?_⟩
    unfold runG at z
    cases e : m ⟨initG us io N.length ds l, s0⟩ with
    | ok a c =>
      rw [e] at z
      cases a with
      | nx =>
        intro σ' G' H' r' _
        obtain ⟨l', z2, io2⟩ := r'.ioG (Z := fun g => match g with
          | .ok v l' s' => ∀ x G' H', AfterT (onS us sa sc sl ++ onM io ia tb) G H G' H' → TsOk tb G' H' → SsOk us sa sc sl G' H' s' → IoOk K io ia G' H' l' → Ret K H G' H' x v → Q x H'
          | .exc k d l' s' => ∀ ad v G' H', AfterT (onS us sa sc sl ++ onM io ia tb) G H G' H' → TsOk tb G' H' → SsOk us sa sc sl G' H' s' → IoOk K io ia G' H' l' → H' ad = some (.xd [(C.fld k, v)]) → Rp K G' v d → E (C.at_ k) (some ad) H'
          | .bad => False) id z
        exact z2 .non G' H' r'.aftG r'.ts (fun hu => r'.st hu) io2 .non
      | rt v =>
        intro x σ' G' H' r' q'
        obtain ⟨l', z2, io2⟩ := r'.ioG (Z := fun g => match g with
          | .ok v l' s' => ∀ x G' H', AfterT (onS us sa sc sl ++ onM io ia tb) G H G' H' → TsOk tb G' H' → SsOk us sa sc sl G' H' s' → IoOk K io ia G' H' l' → Ret K H G' H' x v → Q x H'
          | .exc k d l' s' => ∀ ad v G' H', AfterT (onS us sa sc sl ++ onM io ia tb) G H G' H' → TsOk tb G' H' → SsOk us sa sc sl G' H' s' → IoOk K io ia G' H' l' → H' ad = some (.xd [(C.fld k, v)]) → Rp K G' v d → E (C.at_ k) (some ad) H'
          | .bad => False) id z
        refine z2 x G' H' r'.aftG r'.ts (fun hu => r'.st hu) io2 ?_
        cases v with
        | sh d => exact q'
        | fr l =>
          obtain ⟨p, e1, xs, y1, y2, y3, y4, _⟩ := q'
          exact ⟨p, xs, e1, y1, y2, y3, y4⟩
      | bk => exact z.elim
      | ct => exact z.elim
    | exc j d c =>
      rw [e] at z
      intro ad v σ' G' H' r' y1 y2
      obtain ⟨l', z2, io2⟩ := r'.ioG (Z := fun g => match g with
          | .ok v l' s' => ∀ x G' H', AfterT (onS us sa sc sl ++ onM io ia tb) G H G' H' → TsOk tb G' H' → SsOk us sa sc sl G' H' s' → IoOk K io ia G' H' l' → Ret K H G' H' x v → Q x H'
          | .exc k d l' s' => ∀ ad v G' H', AfterT (onS us sa sc sl ++ onM io ia tb) G H G' H' → TsOk tb G' H' → SsOk us sa sc sl G' H' s' → IoOk K io ia G' H' l' → H' ad = some (.xd [(C.fld k, v)]) → Rp K G' v d → E (C.at_ k) (some ad) H'
          | .bad => False) id z
      exact z2 ad v G' H' r'.aftG r'.ts (fun hu => r'.st hu) io2 y1 y2
    | bad =>
      rw [e] at z
      exact z

theorem fn_genC {K : PySem.W.Frag} {C : Cls} {us io : Bool} {P : Program} {w : World} {mg : Str → Option Value} {base : Heap} {x qual : Str} {st : Stmt} {f : Addr} {N ps : List Str} {k n : Nat} {m : M Ctl} {oc : Value} {od an : Option Addr} {osl : Array (Option Value)} {kV doc pm cdv ct : Value} (lk : K.lookup f = some ⟨oc, od, .func (PySem.W.fnOf x qual (defArgs st) (defBody st) (defScope st) .none kV doc pm an cdv ct), osl⟩) (hcd : PySem.W.codeIn K cdv qual = true) (S : FnScope N ps (defScope st)) (hn : (if us then 1 else 0) + n + (if io then 1 else 0) = ps.length) (hps : ps.length ≤ N.length)
    {okT : Tbs → Prop} (hb : ∀ (sa sc sl ia : Addr) (tb : Tbs) (G0 H0 : Hp) (A : Around) (outer : List Env) (s : Shared) (E : XK), A.guards = some [] → okT tb → Room k (A.deeper (envOfC qual (defScope st) s.heap.objs.size f cdv)) →
      PSs (cxOf (L2.CX P w) P w K mg base N qual (defScope st) f cdv A outer s H0 E) (defBody st) (T (frG K C us io sa sc sl ia tb G0 H0) (fun cls d _ H => E cls d H) m)) :
    FnG P w K mg base (L2.CX P w) (k + 1) f (PySem.W.fnOf x qual (defArgs st) (defBody st) (defScope st) .none kV doc pm an cdv ct) ps (spG K C us io okT n (runG us io N.length m)) := by
  refine fnG_core lk hcd S (fun vs H Q E h => ?_) (fun A outer s H vs Q E hg hr h => ?_)
  · obtain ⟨G, vs', ds, l, s, sa, sc, sl, ia, tb, _, _, _, q, hl, ev, _⟩ := h
    rw [ev, ← hn, List.length_append, List.length_append, dpAll_len q, hl]
    cases us <;> cases io <;> rfl
  · obtain ⟨G, vs', ds, l, s0, sa, sc, sl, ia, tb, okt, ts, hs, q, hl, ev, h1, h2, h3, z⟩ := h
    refine ⟨_, hb sa sc sl ia tb G H A outer s E hg okt hr, G, ⟨initG us io N.length ds l, s0⟩, relG_init hs q ev (by rw [hl, hn]; exact hps) h1 h2 h3 ts, ?_⟩
    unfold runG at z
    cases e : m ⟨initG us io N.length ds l, s0⟩ with
    | ok a c =>
      rw [e] at z
      cases a with
      | nx =>
        intro σ' G' H' r' _
        obtain ⟨l', z2, io2⟩ := r'.ioG (Z := fun g => match g with
          | .ok v l' s' => ∀ x G' H', AfterT (onS us sa sc sl ++ onM io ia tb) G H G' H' → TsOk tb G' H' → SsOk us sa sc sl G' H' s' → IoOk K io ia G' H' l' → Ret K H G' H' x v → Q x H'
          | .exc k d l' s' => ∀ ad v G' H', AfterT (onS us sa sc sl ++ onM io ia tb) G H G' H' → TsOk tb G' H' → SsOk us sa sc sl G' H' s' → IoOk K io ia G' H' l' → H' ad = some (.xd [(C.fld k, v)]) → Rp K G' v d → E (C.at_ k) (some ad) H'
          | .bad => False) id z
        exact z2 .non G' H' r'.aftG r'.ts (fun hu => r'.st hu) io2 .non
      | rt v =>
        intro x σ' G' H' r' q'
        obtain ⟨l', z2, io2⟩ := r'.ioG (Z := fun g => match g with
          | .ok v l' s' => ∀ x G' H', AfterT (onS us sa sc sl ++ onM io ia tb) G H G' H' → TsOk tb G' H' → SsOk us sa sc sl G' H' s' → IoOk K io ia G' H' l' → Ret K H G' H' x v → Q x H'
          | .exc k d l' s' => ∀ ad v G' H', AfterT (onS us sa sc sl ++ onM io ia tb) G H G' H' → TsOk tb G' H' → SsOk us sa sc sl G' H' s' → IoOk K io ia G' H' l' → H' ad = some (.xd [(C.fld k, v)]) → Rp K G' v d → E (C.at_ k) (some ad) H'
          | .bad => False) id z
        refine z2 x G' H' r'.aftG r'.ts (fun hu => r'.st hu) io2 ?_
        cases v with
        | sh d => exact q'
        | fr l =>
          obtain ⟨p, e1, xs, y1, y2, y3, y4, _⟩ := q'
          exact ⟨p, xs, e1, y1, y2, y3, y4⟩
      | bk => exact z.elim
      | ct => exact z.elim
    | exc j d c =>
      rw [e] at z
      intro ad v σ' G' H' r' y1 y2
      obtain ⟨l', z2, io2⟩ := r'.ioG (Z := fun g => match g with
          | .ok v l' s' => ∀ x G' H', AfterT (onS us sa sc sl ++ onM io ia tb) G H G' H' → TsOk tb G' H' → SsOk us sa sc sl G' H' s' → IoOk K io ia G' H' l' → Ret K H G' H' x v → Q x H'
          | .exc k d l' s' => ∀ ad v G' H', AfterT (onS us sa sc sl ++ onM io ia tb) G H G' H' → TsOk tb G' H' → SsOk us sa sc sl G' H' s' → IoOk K io ia G' H' l' → H' ad = some (.xd [(C.fld k, v)]) → Rp K G' v d → E (C.at_ k) (some ad) H'
          | .bad => False) id z
      exact z2 ad v G' H' r'.aftG r'.ts (fun hu => r'.st hu) io2 y1 y2
    | bad =>
      rw [e] at z
      exact z

section
variable {F : Fr} {W : L2.WX} {σ : L2.St} {H : Hp} {X : Cx} {D : Ends}
theorem fnG_run {CX : CXT} {k : Nat} {f : Addr} {fd : FuncData} {ps : List Str} {sp : Sp} {E : L2.St → XK} {pins : List (Addr × Obj)} {s : Shared} {Q : VK} {us : List Value} {vs : List V} (Fk : FnG X.prog X.w X.K X.mg X.base CX k f fd ps sp) (hg : X.A.guards = some []) (hr : Room k X.A) (hb : Binds X.K fd ps []) (hx : PassesAt CX X σ (E σ))
    (I : Inv X pins σ H s)
    (r : Vals vs us) (h : sp vs H Q (E σ)) : wpAny (model X.prog X.w) X.A (call (.ref f) us) (EP X pins σ Q) X.xe s := by
  have n : us.length = ps.length := r.length ▸ Fk.len _ _ _ _ h
  have b : BindsTo s fd ⟨us, []⟩ (ps.zip us) := by
    have := hb s us I.kIn (by rw [List.append_nil, n])
    rwa [List.append_nil] at this
  refine wpAny_call (codeAny_mono (Fk.run X.A X.stack s H ⟨us, []⟩ us vs Q (E σ) hg hr I.env0 b r h) ?_)
  rintro (e | fl) s' hq
  · exact hx pins H s e s' I hq
  · cases fl with
    | ret u => exact I.after hq
    | next => exact hq.elim
    | brk => exact hq.elim
    | cont => exact hq.elim
theorem pe_callFG {CX : CXT} {k : Nat} {f : Addr} {fd : FuncData} {ps : List Str} {sp : Sp} {E : L2.St → XK} {x : Str} {p pos : Pos} {e : Expr} {es : List Expr} {t : TA} (Fk : FnG X.prog X.w X.K X.mg X.base CX k f fd ps sp) (hgd : X.A.guards = some []) (hr : Room k X.A) (hg : Gl X x) (hm : X.mg x = some (.ref f)) (hk : PySem.W.keepIn X.K (.ref f) = true) (hb : Binds X.K fd ps []) (hx : ∀ σ, PassesAt CX X σ (E σ))
    (ha : PA X (e :: es) t) (hdb : (x == ("__debug__" : Str)) = false) (he : starEach (e :: es) X.env = (false, eval e X.env) :: starEach es X.env) (hpl : (backTo pos (starEach es X.env)).any (·.1) = false) :
    PE X (.Call (.Name x p) (e :: es) [] pos) (tCallS sp E t) where
  run := by
    intro pins s σ H Q I h
    refine wpAny_Call_Name_kw (ld_glob I hg hm (PySem.W.callWith_K (h₀ := X.base) I.ok.mod.kin hk (thn (ha.run pos pins s σ H _ I h) fun us s1 z => ?_) he hpl) hdb)
    obtain ⟨vs, H1, I1, r, q⟩ := z
    exact ⟨I1.kIn, fnG_run Fk hgd hr hb (hx σ) I1 r q⟩
structure HasQ (P : Program) (w : World) (K : PySem.W.Frag) (mg : Str → Option Value) (base : Heap) (C : Cls) (us : Bool) (okT : Tbs → Prop) (x : Str) (k n : Nat) (g : List Dat → List Dat → DS → GR) : Prop where
  ex : ∃ (f : Addr) (fd : FuncData) (ps : List Str), FnG P w K mg base (L2.CX P w) k f fd ps (spG K C us false okT n g) ∧ mg x = some (.ref f) ∧ PySem.W.keepIn K (.ref f) = true ∧ Binds K fd ps []
/-- the state is handed on, among no guards -/
theorem e_callQ {okT : Tbs → Prop} {k n j : Nat} {g : List Dat → List Dat → DS → GR} {x : Str} {p pos : Pos} {e : Expr} {es : List Expr} {ms : M (List Dat)} (hK : F.K = X.K) (hgd : X.A.guards = some []) (Z : HasQ X.prog X.w X.K X.mg X.base F.C true okT x k n g) (hok : okT F.tb) (hr : Room j X.A) (hkj : k ≤ j) (hg : Gl X x) (tk : Takes X W) (ha : PA X (e :: es) (Sx F W (RAS F) ms))
    (hdb : (x == ("__debug__" : Str)) = false := by decide) (he : starEach (e :: es) X.env = (false, eval e X.env) :: starEach es X.env := by rfl) (hpl : (backTo pos (starEach es X.env)).any (·.1) = false := by rfl) : PE X (.Call (.Name x p) (e :: es) [] pos) (EX F W (M.bind ms fun ds => if ds.length = n then callS g ds else bad)) := by
  obtain ⟨f, fd, ps, h2, h3, h4, h5⟩ := Z.ex
  refine (pe_callFG h2 hgd (hr.mono hkj) hg h3 h4 h5 (fun σ => passAt tk σ) ha hdb he hpl).mono fun σ H Q h => sx_mono (sx_bind (R1 := RAS F) h) fun vs H1 ⟨ds, G1, c1, r1, ⟨hu, vs', e1, q⟩, p⟩ => ?_
  by_cases hl : ds.length = n
  · rw [if_pos hl] at p
    refine ⟨G1, vs', ds, [], c1.s, F.sa, F.sc, F.sl, 0, F.tb, hok, r1.ts, r1.sub, hK ▸ q, hl, by rw [e1]; simp [preV, posV], fun _ => r1.st hu, (fun z => nomatch z), (fun _ z => nomatch z), ?_⟩
    unfold callS at p
    cases e : g ds [] c1.s with
    | ok v l s =>
      rw [e] at p
      intro x G' H' a zt z1 _ z2
      have r2 := r1.afterS hu (by simpa [onS, onI, onM] using a) zt (z1 rfl)
      exact p x G' H' r2 a.g (after_rx (T := []) r1 (fun i l' e => ⟨l', e⟩) (hK ▸ z2))
    | exc k d l s =>
      rw [e] at p
      intro ad v G' H' a zt z1 _ z2 z3
      have r2 := r1.afterS hu (by simpa [onS, onI, onM] using a) zt (z1 rfl)
      exact p ad v G' H' r2 a.g z2 (hK ▸ z3)
    | bad =>
      rw [e] at p
      exact p
  · rw [if_neg hl] at p
    exact p.elim
def callQ (g : List Dat → List Dat → DS → GR) (ds : List Dat) : M RV := fun c => match g ds [] ⟨[], [], 0⟩ with
  | .ok v _ _ => .ok v c
  | .exc k d _ _ => .exc k d c
  | .bad => .bad
theorem AfterT.nil {G H G' H' : Hp} (a : AfterT [] G H G' H') : After G H G' H' := ⟨a.g, a.sub, fun b o e => a.h b o e (by simp), a.new⟩
/-- data alone are handed on, among no guards -/
theorem e_callP {k n j : Nat} {g : List Dat → List Dat → DS → GR} {x : Str} {p pos : Pos} {e : Expr} {es : List Expr} {ms : M (List Dat)} (hK : F.K = X.K) (hgd : X.A.guards = some []) (Z : HasQ X.prog X.w X.K X.mg X.base F.C false (fun _ => True) x k n g) (hr : Room j X.A) (hkj : k ≤ j) (hg : Gl X x) (tk : Takes X W) (ha : PA X (e :: es) (A F W ms))
    (hdb : (x == ("__debug__" : Str)) = false := by decide) (he : starEach (e :: es) X.env = (false, eval e X.env) :: starEach es X.env := by rfl) (hpl : (backTo pos (starEach es X.env)).any (·.1) = false := by rfl) : PE X (.Call (.Name x p) (e :: es) [] pos) (EX F W (M.bind ms fun ds => if ds.length = n then callQ g ds else bad)) := by
  obtain ⟨f, fd, ps, h2, h3, h4, h5⟩ := Z.ex
  refine (pe_callFG h2 hgd (hr.mono hkj) hg h3 h4 h5 (fun σ => passAt tk σ) ha hdb he hpl).mono fun σ H Q h => sx_mono (sx_bind (R1 := RA F) h) fun vs H1 ⟨ds, G1, c1, r1, q, p⟩ => ?_
  by_cases hl : ds.length = n
  · rw [if_pos hl] at p
    refine ⟨G1, vs, ds, [], ⟨[], [], 0⟩, 0, 0, 0, 0, [], trivial, (fun _ z => nomatch z), r1.sub, hK ▸ q, hl, by simp [preV, posV], (fun z => nomatch z), (fun z => nomatch z), (fun z => nomatch z), ?_⟩
    unfold callQ at p
    cases e : g ds [] ⟨[], [], 0⟩ with
    | ok v l s =>
      rw [e] at p
      intro x G' H' a _ _ _ z2
      have a := AfterT.nil (by simpa [onS, onI, onM] using a)
      exact p x G' H' (r1.after a) a.g (Ret.rx r1 a (hK ▸ z2))
    | exc k d l s =>
      rw [e] at p
      intro ad v G' H' a _ _ _ z2 z3
      have a := AfterT.nil (by simpa [onS, onI, onM] using a)
      exact p ad v G' H' (r1.after a) a.g z2 (hK ▸ z3)
    | bad =>
      rw [e] at p
      exact p
  · rw [if_neg hl] at p
    exact p.elim
end

/-! ### repr -/
section
variable {F : Fr} {W : L2.WX} {σ : L2.St} {H : Hp} {X : Cx} {D : Ends}
/-- what the text of a datum asks -/
def reprOk (d : Dat) : Bool := d.showable && SeqAt.shaped d && decide (d.shown.length ≤ 16777216)
def rRepr (K : PySem.W.Frag) : List V → Hp → VK → Prop := fun vs H Q => ∃ (v : V) (d : Dat), vs = [v] ∧ Dp K H v d ∧ reprOk d = true ∧ (match d with
  | .bool _ => True
  | .int _ => True
  | .list _ => True
  | .tuple _ => True
  | _ => False) ∧ Q (.str d.shown) H
theorem no_dict : (d : Dat) → d.canLay0 = true → d.hasDict = false := by
  suffices h : ∀ n, ∀ d : Dat, sizeOf d < n → d.canLay0 = true → d.hasDict = false from fun d => h _ d (Nat.lt_succ_self _)
  intro n
  induction n with
  | zero => intro d h; omega
  | succ n ih =>
    intro d hs h
    have go : ∀ xs : List Dat, sizeOf xs ≤ n → PyData.canLayAll0 xs = true → PyData.hasDictAll xs = false := by
      intro xs
      induction xs with
      | nil => intro _ _; simp [PyData.hasDictAll]
      | cons x xs ih2 =>
        intro hz hc
        rw [PyData.canLayAll0, Bool.and_eq_true_iff] at hc
        have z : sizeOf (x :: xs) = 1 + sizeOf x + sizeOf xs := rfl
        rw [PyData.hasDictAll, ih x (by omega) hc.1, ih2 (by omega) hc.2]
        rfl
    cases d with
    | dict kvs => simp [PyData.canLay0] at h
    | list xs =>
      rw [PyData.canLay0] at h
      rw [PyData.hasDict]
      have z : sizeOf (PyData.list xs) = 1 + sizeOf xs := by simp only [PyData.list.sizeOf_spec]
      exact go xs (by omega) h
    | tuple xs =>
      rw [PyData.canLay0] at h
      rw [PyData.hasDict]
      have z : sizeOf (PyData.tuple xs) = 1 + sizeOf xs := by simp only [PyData.tuple.sizeOf_spec]
      exact go xs (by omega) h
    | _ => simp [PyData.hasDict]
theorem cr_repr (hgd : X.A.guards = some []) (hu : X.A.units + 66 < cLine) : CallR X (.builtin "repr") (rRepr X.K) := by
  (intro pins s σ H vs us Q I r h)
  obtain ⟨v, d, rfl, hd, ok, hk, q⟩ := h
  (obtain ⟨u, rfl, ru⟩ := vals1 r)
  unfold reprOk at ok
  obtain ⟨ok, hl⟩ := Bool.and_eq_true_iff.mp ok
  obtain ⟨hs, hsh⟩ := Bool.and_eq_true_iff.mp ok
  have hl : d.shown.length ≤ sizeLine := by rw [sizeLine_eq]; exact of_decide_eq_true hl
  have hdep := SeqAt.depth_of_shaped hsh
  have hno := no_dict d (SeqAt.canLay_of_shaped hsh)
  have box : ∀ (a : Addr) (as : List Addr), u = .ref a → Reads s.heap (.ref a) d as → wpAny (model X.prog X.w) X.A (call (.builtin "repr") [u]) (EP X pins σ Q) X.xe s := by
    rintro a as rfl rd
    exact repr_of_reads' rd hs (fun z => absurd z (by rw [hno]; decide)) hgd (by omega) (fun _ _ e => e) (fun h' u tk k => ⟨.str d.shown, H, I.kept k, ⟨u, rfl⟩, q⟩) hl
  obtain ⟨as, rd⟩ := Dp.reads I d v u hd ru
  cases hd with
  | bl b =>
    cases ru
    refine PySem.P.repr_of_bool ⟨.str _, H, I.tok _, ⟨_, rfl⟩, ?_⟩
    rw [PyData.shown_bool] at q
    exact q
  | int i =>
    obtain ⟨t, rfl⟩ := ru
    rw [PyData.shown_int] at q
    have hz : i.natAbs.log2 < 1920 := by
      rw [PyData.showable] at hs
      exact of_decide_eq_true hs
    (exact PySem.P.repr_of_int hz ⟨.str _, H, I.tok _, ⟨_, rfl⟩, q⟩)
  | lst _ _ => exact box _ as ru (ru ▸ rd)
  | tup _ _ => exact box _ as ru (ru ▸ rd)
  | non => exact hk.elim
  | str _ => exact hk.elim
def reprR (d : Dat) : M Dat := if reprOk d = true then (match d with
  | .bool _ => ret (.str d.shown)
  | .int _ => ret (.str d.shown)
  | .list _ => ret (.str d.shown)
  | .tuple _ => ret (.str d.shown)
  | _ => bad) else bad
theorem e_repr {m : M Dat} {a : Expr} {p pos : Pos} (hK : F.K = X.K) (hgd : X.A.guards = some []) (hu : X.A.units + 66 < cLine) (hg : Gl X "repr") (hm : X.mg "repr" = none) (ha : PE X a (E F W m)) (he : starEach [a] X.env = (false, eval a X.env) :: starEach [] X.env := by rfl) : PE X (.Call (.Name "repr" p) [a] [] pos) (E F W (M.bind m reprR)) :=
  b_call1 (δ := V) (cr_repr hgd hu) hg hm (by decide +kernel) (fun {G H c v d Q σ} r q p => by
    unfold reprR at p
    by_cases ok : reprOk d = true
    · rw [if_pos ok] at p
      have dp : Dp X.K H v d := hK ▸ (dp_mono r.sub q).dp
      cases d with
      | bool b => exact ⟨v, _, rfl, dp, ok, True.intro, po_ret r p (.str _)⟩
      | int b => exact ⟨v, _, rfl, dp, ok, True.intro, po_ret r p (.str _)⟩
      | list b => exact ⟨v, _, rfl, dp, ok, True.intro, po_ret r p (.str _)⟩
      | tuple b => exact ⟨v, _, rfl, dp, ok, True.intro, po_ret r p (.str _)⟩
      | _ => exact p.elim
    · rw [if_neg ok] at p
      exact p.elim) ha (by decide) (by decide) he
def eqS : Dat → Dat → M Dat := fun x y => match x, y with
  | .str a, .str b => ret (.bool (decide (a = b)))
  | _, _ => bad
theorem e_eqS {a b : Expr} {ma mb : M Dat} {pos : Pos} (ha : PE X a (E F W ma)) (hb : PE X b (E F W mb)) : PE X (.Compare a [.Eq] [b] pos) (E F W (m2 eqS ma mb)) :=
  e_cmp op_eq (fun {G H c x y d e Q σ} r h1 h2 p => by
    cases h1 with
    | str a =>
      cases h2 with
      | str b =>
        refine ⟨rfl, ?_⟩
        have z : decide (V.str a = V.str b) = decide (a = b) := by
          (rw [Bool.eq_iff_iff, decide_eq_true_eq, decide_eq_true_eq])
          exact ⟨fun z => by cases z; rfl, fun z => by rw [z]⟩
        rw [z]
        exact po_ret r p (.bl _)
      | _ => exact p.elim
    | _ => exact p.elim) (nomark _) ha hb
end
end Pn

set_option maxHeartbeats 1000001
/-! what an except clause tells of an own error: a word, its field, that it is of a class -/
namespace PnCt
open L2 PyProof.Rows PySem.Spec PySem
/-- of an error's class at C: its field f is the object's own, it is beneath the class at B -/
structure ErrF (K : PySem.W.Frag) (C B : Addr) (f : Str) : Prop where
  xf : XfC K C
  own : PySem.W.findIn K (.ref C) f = some none
  cl : (PySem.W.clsIn K C).isSome = true
  (ca : PySem.W.findIn K (.ref C) "__class__" = some (some (.builtin "object.__class__")))
  gt : PySem.W.specialIn K (.builtin "object.__class__") "__get__" = some (some (.builtin "getset_descriptor.__get__"))
  tk : PySem.W.takesIn K (.builtin "object.__class__") = some true
  mo : PySem.W.mroIn K C (.type "object") = some true
  is : PySem.W.kitOne K (.ref C) (.ref B) = some true
section
variable {X : Cx} {a C B dd : Addr} {ob : Obj} {pn : List (Addr × Obj)} {f : Str}
/-- isinstance(e, B) of an error whose dict stands at dd -/
def rIsX (a B dd : Addr) (f : Str) : List V → Hp → VK → Prop := fun xs H Q => ∃ v, xs = [.ref a, .ref B] ∧ H dd = some (.xd [(f, v)]) ∧ Q (.bl true) H
theorem cr_isX (Z : ErrF X.K C B f) (hz : Zc (.ref C) (some dd) ob) (hf : ∃ vs, ob.data = .fields vs) : CallR (X.suite a ((a, ob) :: pn)) (.builtin "isinstance") (rIsX a B dd f) := by
  (intro pins s σ H xs us Q I r h)
  obtain ⟨v, rfl, hd, q⟩ := h
  cases r with
  | cons rx rr =>
    cases rr with
    | cons rt rr =>
      cases rr
      cases rx
      cases rt
      obtain ⟨at_, _⟩ := I.pin (a, ob) (List.mem_append_left _ List.mem_cons_self)
      obtain ⟨vs, hv⟩ := hf
      have hx : ObjOk X.prog X.w H s.heap dd (.xd [(f, v)]) := I.hok dd _ hd
      obtain ⟨mA, hns, _⟩ := hx
      obtain ⟨od, ho, _⟩ := lookIn_ns hns
      have J : PySem.W.InstAt s.heap a ob C (some od) := ⟨at_, hz.1, by unfold PySem.W.notCls; rw [hv] <;> rfl, by rw [hz.2]; exact ho⟩
      have kx := PySem.W.kitx_exc (K := X.K) (x := a) (ox := ob) (od := some od) Z.cl Z.xf.ga Z.xf.gg Z.xf.exC Z.ca Z.gt Z.tk Z.mo
      exact PySem.W.kia_one kx I.kIn J Z.is (fun z => nomatch z) fun tk => ⟨.bl true, H, I.kept (t' := tk) fun _ _ z => z, rfl, q⟩
end
section
variable {X : Cx} {a C B : Addr} {ob : Obj} {pn : List (Addr × Obj)} {f : Str}
/-- t = (w, e.f, isinstance(e, B)) -/
def toldS (C : Addr) (f w : Str) (it ie : Nat) (a : Addr) (cls : Value) (d : Option Addr) : TS := fun D σ H => σ[ie]? = some (some (.ref a)) ∧ cls = .ref C ∧ ∃ dd v, d = some dd ∧ H dd = some (.xd [(f, v)]) ∧ ∀ p, H p = none → D.nx (σ.set it (some (.ref p))) (upd H p (.tup [.str w, v, .bl true]))
theorem told_suite {it ie j kk : Nat} {t e b w : Str} {cls : Value} {d : Option Addr} {tp wp ep ap ip ep2 bp cp tpp pos : Pos} (Z : ErrF X.K C B f) (hz : Zc cls d ob) (hf : ∃ vs, ob.data = .fields vs)
    (hN : X.N.Nodup) (ht : X.N[it]? = some t) (hxt : Loc X.env.scope t) (hlt : X.env.scope.names.lookup t = some .local) (he : X.N[ie]? = some e) (hve : Vis X.env.scope e) (hde : (e == ("__debug__" : Str)) = false) (hce : (e == ("__classdict__" : Str)) = false)
    (hgi : Gl X "isinstance") (hmi : X.mg "isinstance" = none) (hgb : Gl X b) (hmb : X.mg b = some (.ref B)) (hdb : (b == ("__debug__" : Str)) = false)
    (ha : attributeBase (.Name e ep) f X.env (eval (.Name e ep) X.env) = eval (.Name e ep) X.env := by rfl)
    (h1 : starEach [.Name e ep2, .Name b bp] X.env = (false, eval (.Name e ep2) X.env) :: starEach [.Name b bp] X.env := by rfl) (h2 : starEach [.Name b bp] X.env = (false, eval (.Name b bp) X.env) :: starEach [] X.env := by rfl) (h3 : (backTo cp (starEach [.Name b bp] X.env)).any (·.1) = false := by rfl)
    (k1 : starEach [.Constant (.str w) j wp, .Attribute (.Name e ep) f ap, .Call (.Name "isinstance" ip) [.Name e ep2, .Name b bp] [] cp] X.env = (false, eval (.Constant (.str w) j wp) X.env) :: starEach [.Attribute (.Name e ep) f ap, .Call (.Name "isinstance" ip) [.Name e ep2, .Name b bp] [] cp] X.env := by rfl)
    (k2 : starEach [.Attribute (.Name e ep) f ap, .Call (.Name "isinstance" ip) [.Name e ep2, .Name b bp] [] cp] X.env = (false, eval (.Attribute (.Name e ep) f ap) X.env) :: starEach [.Call (.Name "isinstance" ip) [.Name e ep2, .Name b bp] [] cp] X.env := by rfl)
    (k3 : starEach [.Call (.Name "isinstance" ip) [.Name e ep2, .Name b bp] [] cp] X.env = (false, eval (.Call (.Name "isinstance" ip) [.Name e ep2, .Name b bp] [] cp) X.env) :: starEach [] X.env := by rfl)
    (hs : swapsWith (.Tuple [.Constant (.str w) j wp, .Attribute (.Name e ep) f ap, .Call (.Name "isinstance" ip) [.Name e ep2, .Name b bp] [] cp] kk tpp) (some (.Name t tp)) pos.line X.env = pure false := by rfl) :
    PSs (X.suite a ((a, ob) :: pn)) [.Assign [.Name t tp] (.Tuple [.Constant (.str w) j wp, .Attribute (.Name e ep) f ap, .Call (.Name "isinstance" ip) [.Name e ep2, .Name b bp] [] cp] kk tpp) pos] (toldS C f w it ie a cls d) := by
  (refine ⟨fun pins s σ H D I h => ?_⟩)
  obtain ⟨hσ, rfl, dd, v, rfl, hdd, q⟩ := h
  have ex : PE (X.suite a ((a, ob) :: pn)) (.Name e ep) _ := pe_var (i := ie) he hve hde hce
  have fld := pe_xf (a := a) (pn := pn) (pos := ap) Z.xf Z.own hz hf ex ha
  have isx := pe_callB (X := X.suite a ((a, ob) :: pn)) (p := ip) (pos := cp) (cr_isX (a := a) (pn := pn) Z hz hf) hgi hmi (by decide +kernel) (pa_cons (pe_var (pos := ep2) (i := ie) he hve hde hce) (pa_cons (pe_glob (v := .ref B) (pos := bp) hgb hmb rfl hdb) pa_nil h2) h1) (by decide) (by decide) h1 h3
  have tup := pe_tup (x1 := kk) (pos := tpp) (pa_cons (pe_str (X := X.suite a ((a, ob) :: pn)) (x := w) (j := j) (pos := wp)) (pa_cons fld (pa_cons isx pa_nil k3) k2) k1)
  have all := pss_one (ps_set (X := X.suite a ((a, ob) :: pn)) (pos' := tp) (pos := pos) hN ht hxt tup hs (.inr hlt))
  refine all.run pins s σ H D I ?_
  refine ⟨.ref a, hσ, rfl, rfl, dd, [(f, v)], v, rfl, hdd, by simp, ?_⟩
  refine ⟨.ref a, hσ, v, rfl, hdd, ?_⟩
  exact ⟨by show 3 ≤ sizeLine; rw [sizeLine_eq]; decide, fun p hp => q p hp⟩
end

/-! ### a def that calls what it gets and tells what came -/
/-- a clause: the class, its field, the word -/
structure Tell where
  C : Addr
  f : Str
  w : Str
def tellS (K : PySem.W.Frag) : List Tell → VK → XK
  | [], _ => fun _ _ _ => False
  | q :: l, Q => fun cls d H => ∃ b, PySem.W.exmOne K cls (.ref q.C) = some b ∧ (b = true → cls = .ref q.C ∧ ∃ dd v, d = some dd ∧ H dd = some (.xd [(q.f, v)]) ∧ ∀ p, H p = none → Q (.ref p) (upd H p (.tup [.str q.w, v, .bl true]))) ∧ (b = false → tellS K l Q cls d H)
def wayOf (q : Tell) : PnTry.Way := ⟨2, .ref q.C, fun a cls d => toldS q.C q.f q.w 1 2 a cls d⟩
def TCt (K : PySem.W.Frag) (l : List Tell) (w : Str) : (XK → Hp → VK → Prop) → Hp → VK → Prop := fun tl H Q => ∀ Z : VK, (∀ v H1, (∀ p, H1 p = none → Q (.ref p) (upd H1 p (.tup [.str w, v]))) → Z v H1) → tl (tellS K l Q) H Z
theorem takes_len {X : Cx} {W : WX} (t : Takes X W) : Takes X (fun cls d σ H => σ.length = X.N.length → W cls d σ H) := by
  rintro u s' ⟨a, B, s0, pins, σ, H, cls, d, e, I, nb, up, sky, na, os, ag, w⟩
  exact t u s' ⟨a, B, s0, pins, σ, H, cls, d, e, I, nb, up, sky, na, os, ag, w I.len⟩
theorem tell_ways {K : PySem.W.Frag} {Q : VK} {D : Ends} (hD : ∀ (σ : L2.St) (p : Addr) (H : Hp), σ.length = 3 → σ[1]? = some (some (.ref p)) → Q (.ref p) H → D.nx σ H) : ∀ (l : List Tell) (cls : Value) (d : Option Addr) (σ : L2.St) (H : Hp), σ.length = 3 → tellS K l Q cls d H →
    PnTry.wWays K (fun _ _ _ _ => False) D (l.map wayOf) cls d σ H
  | [], _, _, _, _, _, h => h
  | q :: l, cls, d, σ, H, hl, ⟨b, e, yes, no⟩ => by
    refine ⟨b, e, fun hb a ha => ?_, fun hb => tell_ways hD l cls d σ H hl (no hb)⟩
    obtain ⟨e2, dd, v, e3, e4, k⟩ := yes hb
    refine ⟨by show (σ.set 2 _)[2]? = _; rw [List.getElem?_set_self (by omega)], e2, dd, v, e3, e4, fun p hp => ?_⟩
    refine hD _ p _ ?_ ?_ (k p hp)
    · show (((σ.set 2 _).set 1 _).set 2 none).length = 3
      simp only [List.length_set, hl]
    · show (((σ.set 2 (some (V.ref a))).set 1 (some (V.ref p))).set 2 none)[1]? = _
      rw [List.getElem?_set_ne (by decide), List.getElem?_set_self (by simp only [List.length_set]; omega)]
theorem caught_gives {X : Cx} {Ng : List Str} {x a q w : Str} {sg : Scope} {g : Addr} {cdg : Value} {h₀ : ExceptHandler} {hs : List ExceptHandler} {l : List Tell} {j kk : Nat} {p1 p2 tp wp tpp ap rp rp2 pos : Pos}
    (hNg : Ng = [a, "told", "e"]) (hnd : Ng.Nodup) (hlo : Loc sg "told") (hlt : sg.names.lookup ("told" : Str) = some .local) (hvt : Vis sg "told")
    (hw : ∀ (s : Shared) (H : Hp), PnTry.WaysOk (cxOf C8.CX0 X.prog X.w X.K X.mg X.base Ng x sg g cdg X.A X.stack s H C8.E0).nox (h₀ :: hs) (l.map wayOf))
    (k1 : ∀ (s : Shared) (H : Hp), starEach [.Constant (.str w) j wp, .Call (.Name a p1) [] [] p2] (cxOf C8.CX0 X.prog X.w X.K X.mg X.base Ng x sg g cdg X.A X.stack s H C8.E0).env = (false, eval (.Constant (.str w) j wp) (cxOf C8.CX0 X.prog X.w X.K X.mg X.base Ng x sg g cdg X.A X.stack s H C8.E0).env) :: starEach [.Call (.Name a p1) [] [] p2] (cxOf C8.CX0 X.prog X.w X.K X.mg X.base Ng x sg g cdg X.A X.stack s H C8.E0).env := by intro _ _; rfl)
    (k2 : ∀ (s : Shared) (H : Hp), starEach [.Call (.Name a p1) [] [] p2] (cxOf C8.CX0 X.prog X.w X.K X.mg X.base Ng x sg g cdg X.A X.stack s H C8.E0).env = (false, eval (.Call (.Name a p1) [] [] p2) (cxOf C8.CX0 X.prog X.w X.K X.mg X.base Ng x sg g cdg X.A X.stack s H C8.E0).env) :: starEach [] (cxOf C8.CX0 X.prog X.w X.K X.mg X.base Ng x sg g cdg X.A X.stack s H C8.E0).env := by intro _ _; rfl)
    (k3 : ∀ (s : Shared) (H : Hp), swapsWith (.Tuple [.Constant (.str w) j wp, .Call (.Name a p1) [] [] p2] kk tpp) (some (.Name "told" tp)) ap.line (cxOf C8.CX0 X.prog X.w X.K X.mg X.base Ng x sg g cdg X.A X.stack s H C8.E0).env = pure false := by intro _ _; rfl) :
    LamX.GivesTo X Ng x sg g cdg [.Try [.Assign [.Name "told" tp] (.Tuple [.Constant (.str w) j wp, .Call (.Name a p1) [] [] p2] kk tpp) ap] (h₀ :: hs) [] [] pos, .Return (some (.Name "told" rp)) rp2] a q (TCt X.K l w) := by
  intro f c' s H Q tl act hc h
  subst hNg
  let Y : Cx := (cxOf C8.CX0 X.prog X.w X.K X.mg X.base [a, "told", "e"] x sg g cdg X.A X.stack s H C8.E0).nox
  have body : ∀ (W : WX) (pn : List (Addr × Obj)) (xe : Value → Shared → Prop), Takes (Y.tr pn xe) W → PassesOwn (model Y.prog Y.w) Y.A Y.env xe → PSs (Y.tr pn xe) [.Assign [.Name "told" tp] (.Tuple [.Constant (.str w) j wp, .Call (.Name a p1) [] [] p2] kk tpp) ap]
      (fun D σ H => ∃ Ech : XK, (∀ cls d σ' H', Ech cls d H' → σ'.length = 3 → W cls d σ' H') ∧ σ[0]? = some (some (.ref f)) ∧ H c' = some (LamX.CodeO c' q) ∧ tl Ech H fun v H1 => [V.str w, v].length ≤ sizeLine ∧ ∀ p, H1 p = none → D.nx (σ.set 1 (some (.ref p))) (upd H1 p (.tup [.str w, v]))) := by
    intro W pn xe tk _
    refine ⟨fun pins s' σ H' D I h' => ?_⟩
    obtain ⟨Ech, hW, e0, e1, e2⟩ := h'
    have hp := act (fun cls d σ H => σ.length = 3 → W cls d σ H) pn xe Ech p1 p2 (takes_len (X := Y.tr pn xe) tk) hW
    have tup := pe_tup (x1 := kk) (pos := tpp) (pa_cons (pe_str (X := Y.tr pn xe) (x := w) (j := j) (pos := wp)) (pa_cons hp pa_nil (k2 s H)) (k1 s H))
    have all := pss_one (ps_set (X := Y.tr pn xe) (i := 1) (pos' := tp) (pos := ap) hnd rfl hlo tup (k3 s H) (.inr hlt))
    exact all.run pins s' σ H' D I ⟨e0, e1, e2⟩
  have try_ := PnTry.ps_ways (X := Y) (pos := pos) (l := l.map wayOf) rfl rfl hnd L2.takes0 body (hw s H)
  have ret_ := ps_ret (pos := rp2) (pe_var (X := Y) (pos := rp) (i := 1) (x := "told") rfl hvt (by decide) (by decide))
  refine ⟨_, pss_cons try_ (pss_one ret_), ?_⟩
  refine ⟨tellS X.K l Q, fun cls d σ' H' z hl => tell_ways (fun σ p H hl e z => ?_) l cls d σ' H' hl z, rfl, hc, h _ fun v H1 z => ⟨by show 2 ≤ sizeLine; rw [sizeLine_eq]; decide, fun p hp => ?_⟩⟩
  · exact ⟨_, e, z⟩
  · exact ⟨_, rfl, z p hp⟩
end PnCt

set_option maxHeartbeats 1000001
/-! a lambda without parameters that is handed to a def: only its maker's table changes -/
namespace PnLam
open L2 PyProof.Rows PySem.Spec PySem LamX
/-- all stays but what stands at P -/
def OffP (P : Addr) (H H' : Hp) : Prop := ∀ b o, b ≠ P → H b = some o → H' b = some o
theorem tabs_kept {T : List (Addr × Str)} {P : Addr} {H H' : Hp} (hT : Tabs T H) (e : OffP P H H') (hP : ∃ ps, H P = some (.tbl ps)) (hm : ∀ p ∈ T, p.1 = P → TabS H' P p.2) : Tabs T H' := by
  obtain ⟨qs, eP⟩ := hP
  intro p hp
  by_cases z : p.1 = P
  · rw [z]
    exact hm p hp z
  · obtain ⟨ps, a1, a2, a3⟩ := hT p hp
    refine ⟨ps, e _ _ z a1, a2, fun at_ cv h => ?_⟩
    obtain ⟨c, e1, e2⟩ := a3 at_ cv h
    refine ⟨c, e1, e _ _ (fun y => ?_) e2⟩
    rw [y, eP] at e2
    exact codeO_ne qs (Option.some.inj e2).symm
section
variable {X : Cx}
variable {pins : List (Addr × Obj)} {σ : L2.St} {H : Hp} {s : Shared}
theorem made {T : List (Addr × Str)} {c P : Addr} {params : Arguments} {body : Expr} {scope : Scope} {pos : Pos} {E : Value → Shared → Prop} {Q : Value → Shared → Prop} (I : Inv X pins σ H s) (TB : TabB X.base X.mg c P) (hcode : X.env.code = .ref c)
    (hm : (P, X.env.qual ++ "<lambda>") ∈ T)
    (hu : ∀ p ∈ T, p.1 = P → p.2 = X.env.qual ++ "<lambda>") (hT : Tabs T H) (hdef : defaultsOf params X.env = ([], [])) (hfree : ∀ y ∈ scope.names, y.2 = .free → ∃ c, X.env.cells.lookup y.1 = some c)
    (go : ∀ (f c' : Addr) (pm ctv : Value) (H1 : Hp) (s' : Shared), Inv X pins σ H1 s' → OffP P H H1 → Tabs T H1 →
      s'.heap.get? f = some (PySem.W.kla_obj "<lambda>" (X.env.qual ++ "<lambda>") params body scope
      (cloFrom X.env.cells scope.names []) pm c' ctv) → H1 f = none → f ∉ frs X.stack → H1 c' = some (CodeO c' (X.env.qual ++ "<lambda>")) → Q (.ref f) s') :
    wpAny (model X.prog X.w) (X.A) (eval (.Lambda params body scope pos) X.env) Q E s := by
  obtain ⟨ps, hP, ok, known⟩ := hT _ hm
  have bi : s.heap.BuiltinsAt X.mg P := TB.bm.keeps I.bk
  have atP : s.heap.get? P = some { cls := .none, data := .fields ps } := I.hok P _ hP
  have nofr : ∀ f, s.heap.objs.size ≤ f → f ∉ frs X.stack := by
    intro f hf z
    (rcases List.mem_cons.mp (I.stkSub _ z) with e | e)
    · exact absurd I.lt (Nat.not_lt.mpr (e ▸ hf))
    · exact I.nofs hf e
  (refine PySem.W.kla_eval hdef ?_)
  cases hc : codeAmong pos (ps.toList) with
  | some cv =>
    obtain ⟨c', rfl, hco⟩ := known pos cv hc
    refine PySem.W.kla_makeFunctionHit (mg := X.mg) (c := c) (P := P) (ps := ps) (closure_ok hfree) I.ok.glob (I.mod.glob.keeps I.bk) hcode (TB.code.keeps I.bk) atP ok hc bi ?_
    intro ctv h' tk hx hsz
    refine go h'.objs.size c' ((X.mg "__name__").getD .none) ctv H _ (I.kept (t' := tk) fun b o e => Heap.get?_push_of_some _ (hx b o e)) (fun b o _ e => e) hT (Heap.get?_push_size _ rfl) (I.hok.fresh hsz) (nofr _ hsz) hco
  | none =>
    refine PySem.W.kla_makeFunction (mg := X.mg) (c := c) (P := P) (ps := ps) (closure_ok hfree) I.ok.glob (I.mod.glob.keeps I.bk) hcode (TB.code.keeps I.bk) atP ok hc TB.gP bi ?_
    rintro c' ctv h' tk hx hge hlt ⟨c2, oc, vs, t, e2, hoc, hd, hv⟩ htb
    cases e2
    have big : s.heap.objs.size ≤ h'.objs.size := Nat.le_trans hge (Nat.le_of_lt hlt)
    have nC : (H c' = none) := I.hok.fresh hge
    let row : Array Value := #[rawInt pos.line, rawInt pos.col, .ref c']
    let H1 : Hp := upd (upd H P (.tbl (ps ++ row))) c' (CodeO c' (X.env.qual ++ "<lambda>"))
    have I1 : Inv X pins σ H1 { s with heap := h'.push (PySem.W.kla_obj "<lambda>" (X.env.qual ++ "<lambda>") params body scope (cloFrom X.env.cells scope.names []) ((X.mg "__name__").getD .none) c' ctv), toks := tk } :=
      inv_table I hP (fun b o hb e => Heap.get?_push_of_some _ (hx b o hb e)) (Heap.get?_push_of_some _ htb) hge ⟨oc, vs, t, Heap.get?_push_of_some _ hoc, hd, hv⟩
    have off : OffP P H H1 := fun b o hb e => by
      show upd (upd H P _) c' _ b = _
      rw [upd_ne (ne_of_none e nC), upd_ne hb, e]
    have tabP : TabS H1 P (X.env.qual ++ "<lambda>") := by
      have eL : (ps ++ row).toList = ps.toList ++ [rawInt pos.line, rawInt pos.col, .ref c'] := Array.toList_append
      refine ⟨ps ++ row, ?_, ?_, fun p' cv z => ?_⟩
      · show upd (upd H P _) c' _ P = _
        rw [upd_ne (ne_of_none hP nC), upd_same]
      · rw [eL]
        exact PySem.TriplesOk_snoc _ _ _ _ ok
      · rw [eL] at z
        rcases among_app _ ok z with z | z
        · obtain ⟨c0, e1, e2⟩ := known p' cv z
          refine ⟨c0, e1, off _ _ (fun y => ?_) e2⟩
          rw [y, hP] at e2
          exact codeO_ne ps (Option.some.inj e2).symm
        · exact ⟨c', z, upd_same⟩
    refine go h'.objs.size c' ((X.mg "__name__").getD .none) ctv H1 _ I1 off (tabs_kept hT off ⟨ps, hP⟩ fun p hp z => hu p hp z ▸ tabP) (Heap.get?_push_size _ rfl) ?_ (nofr _ big) upd_same
    show upd (upd H P _) c' _ _ = none
    rw [upd_ne (Nat.ne_of_gt hlt), upd_ne (Nat.ne_of_gt (Nat.lt_of_lt_of_le (Heap.lt_size atP) big))]
    exact I.hok.fresh big
end
def tLamP (T : List (Addr × Str)) (P : Addr) (TT : (XK → Hp → VK → Prop) → Hp → VK → Prop) (t : XK → TE) : TE := fun σ H Q => Tabs T H ∧ ∀ H1, OffP P H H1 → Tabs T H1 → TT (fun E H' Q' => t E σ H' Q') H1 Q
section
variable {X : Cx}
/-- x(lambda: body) -/
theorem pe_lam {T : List (Addr × Str)} {TT : (XK → Hp → VK → Prop) → Hp → VK → Prop} {x a : Str} {g c P : Addr} {k : Nat} {pg : Arguments} {bg : List Stmt} {sg : Scope} {dV kV doc pm cdv ct oc : Value} {an od : Option Addr} {osl : Array (Option Value)} {Ng : List Str}
    {params : Arguments}
    {body : Expr} {scope : Scope} {t : XK → TE} {p lpos pos : Pos} (hg : Gl X x) (hm : X.mg x = some (.ref g)) (hk : PySem.W.keepIn X.K (.ref g) = true)
    (lk : X.K.lookup g = some ⟨oc, od, .func (PySem.W.fnOf x x pg bg sg dV kV doc pm an cdv ct), osl⟩)
    (hcg : PySem.W.codeIn X.K cdv x = true) (hb : L2.Binds X.K (PySem.W.fnOf x x pg bg sg dV kV doc pm an cdv ct) [a] []) (Sg : FnScope Ng [a] sg) (hNg : Ng[0]? = some a) (hva : Vis sg a)
    (hG : GivesTo X Ng x sg g cdv bg a (X.env.qual ++ "<lambda>") TT) (TB : TabB X.base X.mg c P) (hcode : X.env.code = .ref c) (hmT : (P, X.env.qual ++ "<lambda>") ∈ T) (hu : ∀ p ∈ T, p.1 = P → p.2 = X.env.qual ++ "<lambda>") (hr : Room (k + 2) X.A) (L : LamS X.env.scope scope) (hdef : defaultsOf params X.env = ([], []))
    (hbind : ∀
    (q : Str) (cl : List (Str × Addr)) (pm cv ctv : Value), bindArgs (PySem.W.kla_fn "<lambda>" q params body scope cl pm cv ctv) ⟨[], []⟩ = pure [])
    (hbody : ∀
    (A : Around) (outer : List Env) (s : Shared) (H : Hp) (E : XK) (f c' : Addr), Room k (A.deeper (lamEnv X scope s.heap.objs.size f c')) → PE (lamCx X A outer s H E scope f c') body (t E))
    (hdb : (x == ("__debug__" : Str)) = false := by decide)
    (hd : (a == ("__debug__" : Str)) = false := by decide) (hcd : (a == ("__classdict__" : Str)) = false := by decide) :
    PE X (.Call (.Name x p) [.Lambda params body scope lpos] [] pos) (tLamP T P TT t) where
  run := by
    rintro pins s σ H Q I ⟨hT, h⟩
    (refine wpAny_Call_Name_kw (ld_glob I hg hm ?_ hdb))
    (refine PySem.W.callWith_K (h₀ := X.base) I.ok.mod.kin hk ?_ (by rfl) (by rfl))
    (show wpAny _ _ (spliced ((false, eval (.Lambda params body scope lpos) X.env) :: backTo pos (starEach [] X.env))) _ _ s)
    refine Calls.spliced_cons (made I TB hcode hmT hu hT hdef (L.has I.ok) fun f c' pm' ctv H1 s' I1 eN T1 hf hfn hfr hco => Calls.spliced_nil ⟨I1.kIn, ?_⟩)
    refine wpAny_call (codeAny_mono (run_ofS (N := Ng) (ps := [a]) (us := [.ref f]) (vs := [.ref f]) (CX := C8.CX0) (E := C8.E0) (Q := Q) lk hcg Sg hr I1.env0 (hb s' [.ref f] I1.kIn rfl) (.cons rfl .nil) rfl fun hr' => ?_) fun r s2 hq => ?_)
    · obtain ⟨t', ht', hq'⟩ := hG f c' s' H1 Q (fun E H' Q' => t E σ H' Q') (fun W pn xe E p1 p2 tk hW => pe_act (i := 0) I1 L hf hfn hfr (hbind _ _ _ _ _) tk hW hr' (fun A outer s H hr2 => hbody A outer s H E f c' hr2) hNg hva hd hcd) hco (h H1 eN T1)
      exact ⟨t', ht'.nox, hq'⟩
    · rcases r with e | fl
      · exact (show False from hq).elim
      · cases fl with
        | ret u => exact I1.after hq
        | next => exact hq.elim
        | brk => exact hq.elim
        | cont => exact hq.elim
end
end PnLam
namespace Pn
open L2 PyProof.Rows PySem.Spec PySem
section
variable {F : Fr} {W : L2.WX} {σ : L2.St} {H : Hp} {X : Cx} {D : Ends}
/-- only a table that the frame knows has changed -/
theorem Rel.offP {G : Hp} {c : Cfg} {P : Addr} {q : Str} {H1 : Hp} (r : Rel F G c σ H) (hm : (P, q) ∈ F.tb) (e : PnLam.OffP P H H1) (t : LamX.Tabs F.tb H1) : Rel F G c σ H1 := by
  obtain ⟨⟨ps, hP, _⟩, gP, mP⟩ := r.tabs (P, q) hm
  have ne : ∀ {b : Addr} {o : HO}, H b = some o → (∀ ps, o ≠ .tbl ps) → b ≠ P := fun {b o} h n z => by
    rw [z, hP] at h
    exact n ps (Option.some.inj h).symm
  exact { g0 := r.g0, fresh := r.fresh, len := r.len, inj := r.inj, ioj := r.ioj, mu0 := r.mu0, st0 := r.st0
          sub := fun b o h => e b o (fun z => by rw [z, gP] at h; cases h) (r.sub b o h)
          keep := fun b o h h1 h2 => e b o (fun z => h1 (z ▸ mP)) (r.keep b o h h1 h2)
          sl := fun i s h => (r.sl i s h).move (Same.refl _) (fun l b xs _ _ q1 q2 _ => ⟨e _ _ (ne q1 fun ps z => by cases z) q1, q2⟩) (fun l xs _ q1 q2 _ => ⟨e _ _ (ne q1 fun ps z => by cases z) q1, q2⟩)
          st := fun hu => by
            obtain ⟨h1, h2, h3, k⟩ := r.st hu
            exact ⟨e _ _ (ne h1 fun ps z => by cases z) h1, e _ _ (ne h2 fun ps z => by cases z) h2, e _ _ (ne h3 fun ps z => by cases z) h3, k⟩
          pin := fun b hb => by
            obtain ⟨k1, k2, k3⟩ := r.pin b hb
            exact ⟨e _ _ (fun z => (r.mu0 P mP).1 (z ▸ k3)) k1, k2, k3⟩
          dom := fun b h z => by
            by_cases hb : b = P
            · obtain ⟨qs, y, _⟩ := t (P, q) hm
              rw [hb] at z
              have y : H1 P = some (.tbl qs) := y
              rw [z] at y
              cases y
            · cases eb : H b with
              | none => exact r.dom b h eb
              | some o =>
                rw [e b o hb eb] at z
                cases z
          tabs := fun p hp => ⟨t p hp, (r.tabs p hp).2⟩ }
/-- what a def of clauses tells of what its lambda did -/
structure Clause where
  k : Nat
  w : Str
def findK (k : Nat) : List Clause → Option Str
  | [] => none
  | q :: l => if q.k = k then some q.w else findK k l
def caughtM (l : List Clause) (w : Str) (m : M RV) : M Dat := fun c => match m c with
  | .ok v c' => .ok (.tuple [.str w, v.dat]) c'
  | .exc k d c' => (match findK k l with
    | some u => .ok (.tuple [.str u, d, .bool true]) c'
    | none => .bad)
  | .bad => .bad
/-- the clauses' classes and fields; of two of them none is beneath the other -/
inductive Tells (K : PySem.W.Frag) (C : Cls) : List Clause → List PnCt.Tell → Prop
  | nil : Tells K C [] []
  | cons {q : Clause} {l : List Clause} {t : PnCt.Tell} {ts : List PnCt.Tell} : t.w = q.w → C.at_ q.k = .ref t.C → C.fld q.k = t.f → PySem.W.exmOne K (C.at_ q.k) (.ref t.C) = some true → (∀ r ∈ l, PySem.W.exmOne K (C.at_ r.k) (.ref t.C) = some false ∧ r.k ≠ q.k) → Tells K C l ts → Tells K C (q :: l) (t :: ts)
theorem findK_mem {k : Nat} {u : Str} : ∀ {l : List Clause}, findK k l = some u → ∃ r ∈ l, r.k = k
  | [], h => nomatch h
  | q :: l, h => by
    unfold findK at h
    by_cases e : q.k = k
    · exact ⟨q, List.mem_cons_self, e⟩
    · rw [if_neg e] at h
      obtain ⟨r, m, z⟩ := findK_mem h
      exact ⟨r, List.mem_cons_of_mem _ m, z⟩
theorem tell_of {K : PySem.W.Frag} {C : Cls} {k : Nat} {u : Str} {Q : VK} {H : Hp} {ad : Addr} {v : V} (hd : H ad = some (.xd [(C.fld k, v)])) (hQ : ∀ p, H p = none → Q (.ref p) (upd H p (.tup [.str u, v, .bl true]))) :
    ∀ {l : List Clause} {ts : List PnCt.Tell}, Tells K C l ts → findK k l = some u → PnCt.tellS K ts Q (C.at_ k) (some ad) H
  | _, _, .nil, h => nomatch h
  | q :: l, t :: ts, .cons hw hC hf yes no r, h => by
    unfold findK at h
    by_cases e : q.k = k
    · rw [if_pos e] at h
      cases h
      subst e
      refine ⟨true, yes, fun _ => ⟨hC, ad, v, rfl, by rw [← hf]; exact hd, fun p hp => ?_⟩, fun z => ?_⟩
      · rw [hw]
        exact hQ p hp
      · cases z
    · rw [if_neg e] at h
      obtain ⟨c, m, z⟩ := findK_mem h
      have one : PySem.W.exmOne K (C.at_ k) (.ref t.C) = some false := by rw [← z]; exact (no c m).1
      refine ⟨false, one, fun y => ?_, fun _ => tell_of hd hQ r h⟩
      cases y
theorem e_caught {l : List Clause} {ts : List PnCt.Tell} {w x a : Str} {g c P : Addr} {k : Nat} {pg : Arguments} {bg : List Stmt} {sg : Scope} {dV kV doc pm cdv ct oc : Value} {an od : Option Addr} {osl : Array (Option Value)} {Ng : List Str}
    {params : Arguments} {body : Expr} {scope : Scope} {m : M RV} {p lpos pos : Pos} (hK : F.K = X.K) (hts : Tells X.K F.C l ts) (hg : Gl X x) (hm : X.mg x = some (.ref g)) (hk : PySem.W.keepIn X.K (.ref g) = true)
    (lk : X.K.lookup g = some ⟨oc, od, .func (PySem.W.fnOf x x pg bg sg dV kV doc pm an cdv ct), osl⟩)
    (hcg : PySem.W.codeIn X.K cdv x = true) (hb : L2.Binds X.K (PySem.W.fnOf x x pg bg sg dV kV doc pm an cdv ct) [a] []) (Sg : FnScope Ng [a] sg) (hNg : Ng[0]? = some a) (hva : Vis sg a)
    (hG : LamX.GivesTo X Ng x sg g cdv bg a (X.env.qual ++ "<lambda>") (PnCt.TCt X.K ts w)) (TB : LamX.TabB X.base X.mg c P) (hcode : X.env.code = .ref c) (hmT : (P, X.env.qual ++ "<lambda>") ∈ F.tb) (hu : ∀ p ∈ F.tb, p.1 = P → p.2 = X.env.qual ++ "<lambda>") (hr : Room (k + 2) X.A) (L : LamX.LamS X.env.scope scope) (hdef : defaultsOf params X.env = ([], []))
    (hbind : ∀
    (q : Str) (cl : List (Str × Addr)) (pm cv ctv : Value), bindArgs (PySem.W.kla_fn "<lambda>" q params body scope cl pm cv ctv) ⟨[], []⟩ = pure [])
    (hbody : ∀ (A : Around) (outer : List Env) (s : Shared) (H : Hp) (E : XK) (f c' : Addr), Room k (A.deeper (LamX.lamEnv X scope s.heap.objs.size f c')) → PE (LamX.lamCx X A outer s H E scope f c') body (EX F (fun cls d _ H' => E cls d H') m))
    (hdb : (x == ("__debug__" : Str)) = false := by decide)
    (hd : (a == ("__debug__" : Str)) = false := by decide) (hcd : (a == ("__classdict__" : Str)) = false := by decide) :
    PE X (.Call (.Name x p) [.Lambda params body scope lpos] [] pos) (E F W (caughtM l w m)) :=
  (PnLam.pe_lam (t := fun E => EX F (fun cls d _ H' => E cls d H') m) hg hm hk lk hcg hb Sg hNg hva hG TB hcode hmT hu hr L hdef hbind hbody hdb hd hcd).mono fun σ H Q ⟨G, c, r, p⟩ => by
    refine ⟨fun q hq => (r.tabs q hq).1, fun H1 off T1 Z hZ => ⟨G, c, r.offP hmT off T1, ?_⟩⟩
    unfold caughtM at p
    cases em : m c with
    | ok v c' =>
      rw [em] at p
      intro x G' H' r' s' q
      refine hZ _ _ fun pa hp => ?_
      have fin : ∀ (G2 : Hp) (d : Dat), Rel F G2 c' σ H' → Same G' G2 → Rp F.K G2 x d → v.dat = d → Q (.ref pa) (upd H' pa (.tup [.str w, x])) := fun G2 d r2 s2 q2 e => by
        obtain ⟨r3, s3⟩ := r2.laid (o := .tup [.str w, x]) hp
        exact p _ _ _ r3 ((s'.trans s2).trans s3) (.tup (Evl.st_of upd_same) (.cons (.str w) (.cons (e ▸ dp_mono s3 q2) .nil)))
      cases v with
      | sh d => exact fin G' d r' (Same.refl _) q rfl
      | fr l =>
        obtain ⟨b, rfl, z⟩ := q
        obtain ⟨G2, r2, s2, q2⟩ := r'.freeze z
        exact fin G2 _ r2 s2 q2 rfl
    | exc k d c' =>
      rw [em] at p
      intro ad v G' H' r' s' hx q
      cases ef : findK k l with
      | none => simp only [ef] at p; exact p.elim
      | some u =>
        simp only [ef] at p
        refine tell_of hx (fun pa hp => ?_) hts ef
        obtain ⟨r3, s3⟩ := r'.laid (o := .tup [.str u, v, .bl true]) hp
        exact p _ _ _ r3 (s'.trans s3) (.tup (Evl.st_of upd_same) (.cons (.str u) (.cons (dp_mono s3 q) (.cons (.bl true) .nil))))
    | bad =>
      rw [em] at p
      exact p
end
end Pn

set_option maxHeartbeats 1000001
/-! the rules again, with what a text gives by itself found by itself -/
namespace Pn
open L2 PyProof.Rows PySem.Spec PySem
section
variable {P : Program} {w : World} {K : PySem.W.Frag} {mg : Str → Option Value} {base : Heap} {N : List Str} {qual : Str} {scope : Scope} {f : Addr} {cd : Value} {A : Around} {outer : List Env} {s : Shared} {H : Hp} {E : XK}
theorem tkC : Takes (cxOf (L2.CX P w) P w K mg base N qual scope f cd A outer s H E) (fun cls d _ H => E cls d H) := takes_of rfl rfl rfl rfl
theorem poC : PassesOwn (model P w) (cxOf (L2.CX P w) P w K mg base N qual scope f cd A outer s H E).A (cxOf (L2.CX P w) P w K mg base N qual scope f cd A outer s H E).env (cxOf (L2.CX P w) P w K mg base N qual scope f cd A outer s H E).xe := passes_of rfl
end
section
variable {F : Fr} {W : L2.WX} {σ : L2.St} {H : Hp} {X : Cx} {D : Ends}
theorem v_ (i : Nat) {x : Str} {pos : Pos} (hN : X.N[i]? = some x := by rfl) (hv : Vis X.env.scope x := by first | exact Or.inl rfl | exact Or.inr (Or.inl rfl) | exact Or.inr (Or.inr rfl)) (hd : (x == ("__debug__" : Str)) = false := by decide) (hcd : (x == ("__classdict__" : Str)) = false := by decide) : PE X (.Name x pos) (Pn.E F W (rd i)) := e_var hN hv hd hcd
theorem rv_ (i : Nat) {x : Str} {pos : Pos} (hN : X.N[i]? = some x := by rfl) (hv : Vis X.env.scope x := by first | exact Or.inl rfl | exact Or.inr (Or.inl rfl) | exact Or.inr (Or.inr rfl)) (hd : (x == ("__debug__" : Str)) = false := by decide) (hcd : (x == ("__classdict__" : Str)) = false := by decide) : PE X (.Name x pos) (R_ F W (rowVar i)) := r_var hN hv hd hcd
theorem out_ (i : Nat) {x : Str} {pos : Pos} (hN : X.N[i]? = some x := by rfl) (hv : Vis X.env.scope x := by first | exact Or.inl rfl | exact Or.inr (Or.inl rfl)) (hd : (x == ("__debug__" : Str)) = false := by decide) (hcd : (x == ("__classdict__" : Str)) = false := by decide) : PE X (.Name x pos) (EX F W (outV i)) := e_out hN hv hd hcd
theorem g_ {x : Str} {d : Dat} {pos : Pos} (h : GloD X.K X.mg x d) (hK : F.K = X.K := by rfl) (hg : Gl X x := by rfl) (hd : (x == ("__debug__" : Str)) = false := by decide) : PE X (.Name x pos) (Pn.E F W (ret d)) := e_glo hK hg h hd
theorem len_ {m : M Row} {a : Expr} {p pos : Pos} (hm : X.mg "len" = none) (ha : PE X a (R_ F W m)) (hK : F.K = X.K := by rfl) (hg : Gl X "len" := by rfl) (he : starEach [a] X.env = (false, eval a X.env) :: starEach [] X.env := by rfl) : PE X (.Call (.Name "len" p) [a] [] pos) (Pn.E F W (M.bind m lenR)) := e_len hK hg hm ha he
theorem tuple_ {m : M Row} {a : Expr} {p pos : Pos} (hm : X.mg "tuple" = none) (ha : PE X a (R_ F W m)) (hK : F.K = X.K := by rfl) (hg : Gl X "tuple" := by rfl) (he : starEach [a] X.env = (false, eval a X.env) :: starEach [] X.env := by rfl) : PE X (.Call (.Name "tuple" p) [a] [] pos) (Pn.E F W (M.bind m tupR)) := e_tuple hK hg hm ha he
theorem list_ {m : M Row} {a : Expr} {p pos : Pos} (hm : X.mg "list" = none) (ha : PE X a (R_ F W m)) (hK : F.K = X.K := by rfl) (hg : Gl X "list" := by rfl) (he : starEach [a] X.env = (false, eval a X.env) :: starEach [] X.env := by rfl) : PE X (.Call (.Name "list" p) [a] [] pos) (EX F W (M.bind m lstR)) := e_list hK hg hm ha he
theorem int_ {m : M Dat} {a : Expr} {p pos : Pos} (hm : X.mg "int" = none) (ha : PE X a (Pn.E F W m)) (hg : Gl X "int" := by rfl) (he : starEach [a] X.env = (false, eval a X.env) :: starEach [] X.env := by rfl) : PE X (.Call (.Name "int" p) [a] [] pos) (Pn.E F W (M.bind m intR)) := e_intC hg hm ha he
theorem all_ {m : M Row} {a : Expr} {p pos : Pos} (hm : X.mg "all" = none) (ha : PE X a (R_ F W m)) (hK : F.K = X.K := by rfl) (hc : X.calm = true := by rfl) (hg : Gl X "all" := by rfl) (he : starEach [a] X.env = (false, eval a X.env) :: starEach [] X.env := by rfl) : PE X (.Call (.Name "all" p) [a] [] pos) (Pn.E F W (M.bind m allR)) := e_all hK hc hg hm ha he
theorem isi_ {m : M Dat} {a : Expr} {T : Str} (T' : String) {p p2 pos : Pos} (hm : X.mg "isinstance" = none) (hmT : X.mg T = none) (ha : PE X a (Pn.E F W m)) (hvT : bootBuiltins T = some (.type T') := by decide +kernel) (hT : T' ∈ (["bool", "int", "str", "list", "tuple"] : List String) := by decide) (hnT : T ≠ "__name__" := by decide) (hdT : (T == ("__debug__" : Str)) = false := by decide) (hK : F.K = X.K := by rfl) (hg : Gl X "isinstance" := by rfl) (hgT : Gl X T := by rfl)
    (h1 : starEach [a, .Name T p2] X.env = (false, eval a X.env) :: starEach [.Name T p2] X.env := by rfl) (h2 : starEach [.Name T p2] X.env = (false, eval (.Name T p2) X.env) :: starEach [] X.env := by rfl) : PE X (.Call (.Name "isinstance" p) [a, .Name T p2] [] pos) (Pn.E F W (M.bind m (isiR T'))) := e_isi hK hg hm hgT hmT hvT hT hnT hdT ha h1 h2
theorem eq_ {a b : Expr} {ma mb : M Dat} {pos : Pos} (hu : X.A.units + 64 < cLine) (ha : PE X a (Pn.E F W ma)) (hb : PE X b (Pn.E F W mb)) (hK : F.K = X.K := by rfl) : PE X (.Compare a [.Eq] [b] pos) (Pn.E F W (m2 eqD ma mb)) := e_eq hK hu ha hb
theorem ne_ {a b : Expr} {ma mb : M Dat} {pos : Pos} (hu : X.A.units + 64 < cLine) (ha : PE X a (Pn.E F W ma)) (hb : PE X b (Pn.E F W mb)) (hK : F.K = X.K := by rfl) : PE X (.Compare a [.NotEq] [b] pos) (Pn.E F W (m2 neD ma mb)) := e_ne hK hu ha hb
theorem in_ {a b : Expr} {ma : M Dat} {mb : M Row} {pos : Pos} (ha : PE X a (Pn.E F W ma)) (hb : PE X b (R_ F W mb)) (hK : F.K = X.K := by rfl) (hm : behindInMarks .In b = false := by rfl) : PE X (.Compare a [.In] [b] pos) (Pn.E F W (inM false ma mb)) := e_in hK op_in_seq ha hb hm
theorem nin_ {a b : Expr} {ma : M Dat} {mb : M Row} {pos : Pos} (ha : PE X a (Pn.E F W ma)) (hb : PE X b (R_ F W mb)) (hK : F.K = X.K := by rfl) (hm : behindInMarks .NotIn b = false := by rfl) : PE X (.Compare a [.NotIn] [b] pos) (Pn.E F W (inM true ma mb)) := e_in hK op_notIn_seq ha hb hm
theorem ix_ {a b : Expr} {ma mb : M Dat} {pos : Pos} (ha : PE X a (Pn.E F W ma)) (hb : PE X b (Pn.E F W mb)) (hK : F.K = X.K := by rfl) (hs : PlainIx b := by intro _ _; rfl) : PE X (.Subscript a b pos) (Pn.E F W (ixD ma mb)) := e_ix hK ha hb hs
theorem cat_ {a b : Expr} {ma mb : M Dat} {pos : Pos} (ha : PE X a (Pn.E F W ma)) (hb : PE X b (Pn.E F W mb)) (hK : F.K = X.K := by rfl) : PE X (.BinOp a .Add b pos) (EX F W (M.bind ma fun x => M.bind mb fun y => catD x y)) := e_cat hK ha hb
theorem nrow_ {a : Expr} {m : M Row} {pos : Pos} (h : PE X a (R_ F W m)) (hK : F.K = X.K := by rfl) : PE X (.UnaryOp .Not a pos) (Pn.E F W (nrowV m)) := e_nrow hK h
theorem trow_ {a : Expr} {m : M Row} (h : PE X a (R_ F W m)) (hK : F.K = X.K := by rfl) (he : ∀ whole, isTrue a X.env whole = (do let v ← whole; standAt a.pos; holding [v] (truthy v)) := by intro _; rfl) : PT X a (B F W (M.bind m truR)) := t_row hK h he
theorem call_ {k n j : Nat} {g : List Dat → PR} {x : Str} {p pos : Pos} {e : Expr} {es : List Expr} {ms : M (List Dat)} (Z : Has X.prog X.w X.K X.mg X.base F.C x k n g) (hr : Room j X.A) (tk : Takes X W) (ha : PA X (e :: es) (Pn.A F W ms)) (hkj : k ≤ j := by decide) (hlen : (e :: es).length = n := by rfl) (hK : F.K = X.K := by rfl) (hg : Gl X x := by rfl)
    (hdb : (x == ("__debug__" : Str)) = false := by decide) (he : starEach (e :: es) X.env = (false, eval e X.env) :: starEach es X.env := by rfl) (hpl : (backTo pos (starEach es X.env)).any (·.1) = false := by rfl) : PE X (.Call (.Name x p) (e :: es) [] pos) (EX F W (callN n g ms)) := e_callH hK Z hr hkj hg tk ha hlen hdb he hpl
theorem as_ (i : Nat) {x : Str} {e : Expr} {m : M RV} {pos pos' : Pos} (hN : X.N.Nodup) (h : PE X e (EX F W m)) (hi : X.N[i]? = some x := by rfl) (hx : Loc X.env.scope x := by first | exact Or.inl rfl | exact Or.inr rfl) (hs : swapsWith e (some (.Name x pos')) pos.line X.env = pure false := by rfl)
    (hf : X.fn x = true ∨ X.env.scope.names.lookup x = some .local := by first | exact .inl rfl | exact .inr rfl) : PS X (.Assign [.Name x pos'] e pos) (T F W (M.bind m (asg i))) := s_asg hN hi hx h hs hf
theorem tn_ (i : Nat) {x : Str} {pos : Pos} (hN : X.N.Nodup) (hi : X.N[i]? = some x := by rfl) (hx : Loc X.env.scope x := by first | exact Or.inl rfl | exact Or.inr rfl) (hf : X.fn x = true ∨ X.env.scope.names.lookup x = some .local := by first | exact .inl rfl | exact .inr rfl) : Tgt X F (.Name x pos) [i] (put i) := tg_name hN hi hx hf
/-- a comprehension over one name, without a test -/
theorem lc1_ (N' : List Str) (sc' : Scope) (hN : X.N.Nodup) (i : Nat) {x : Str} {elt iter : Expr} {scope : Scope} {pos np : Pos} {mi : M (List Dat)} {me : M Dat} (hi : PI X (.Name x np) iter (I_ F W mi)) (he : ∀ (s : Shared) (H : Hp) (C : Addr) (cl : List (Str × Addr)) (fp : List Addr) (ps : List (Addr × HO)), PE (X.blk s H scope (compEnvC scope cl C X.env) fp) elt (Pn.E (F.pn ps) W0 me))
    (ok : BlkOk N' sc' scope [(x, i)] := by exact ⟨rfl, by decide +kernel, by decide +kernel, by decide +kernel, by decide +kernel⟩) (eN : X.N = N' := by rfl) (eS : X.env.scope = sc' := by rfl) (hc : X.calm = true := by rfl) (hx : X.N[i]? = some x := by rfl) (hl : ∀ (s : Shared) (H : Hp) (C : Addr) (cl : List (Str × Addr)) (fp : List Addr), (X.blk s H scope (compEnvC scope cl C X.env) fp).env.scope.names.lookup x = some .local := by intro _ _ _ _ _; rfl) (hs : ∀ x, foldedSetIterable iter X.env x = pure x := by intro _; rfl) : PE X (.ListComp elt [⟨.Name x np, iter, [], 0⟩] scope pos) (EX F W (M.bind mi (lcM [i] (put i) (ret true) me))) :=
  e_lc (own := [(x, i)]) hc hN hi (eN ▸ eS ▸ ok) (fun s H C cl fp => pg_name (X := X.blk s H scope (compEnvC scope cl C X.env) fp) hN hx (.inl (hl s H C cl fp)) (.inr (hl s H C cl fp))) (fun ps => gok_name) (fun j hj => by simpa using hj) (fun s H C cl fp => pts_nil) (fun ps σ H Q h => noif ps σ H Q h) he hs
/-- .. over several names -/
theorem lcT_ (N' : List Str) (sc' : Scope) (own : List (Str × Nat)) (hN : X.N.Nodup) {elt tg iter : Expr} {ifs : List Expr} {scope : Scope} {pos : Pos} {mi : M (List Dat)} {is : List Nat} {g : TG} {b : Dat → Cfg → Option Cfg} {mt : M Bool} {me : M Dat} {tt : TT} (hi : PI X tg iter (I_ F W mi))
    (hg : ∀ (s : Shared) (H : Hp) (C : Addr) (cl : List (Str × Addr)) (fp : List Addr), PG (X.blk s H scope (compEnvC scope cl C X.env) fp) tg g) (hgk : ∀ ps, GOk (F.pn ps) g is b)
    (ht : ∀ (s : Shared) (H : Hp) (C : Addr) (cl : List (Str × Addr)) (fp : List Addr), PTs (X.blk s H scope (compEnvC scope cl C X.env) fp) ifs tt) (htt : ∀ ps σ H Q, B (F.pn ps) W0 mt σ H Q → tt σ H Q)
    (he : ∀ (s : Shared) (H : Hp) (C : Addr) (cl : List (Str × Addr)) (fp : List Addr) (ps : List (Addr × HO)), PE (X.blk s H scope (compEnvC scope cl C X.env) fp) elt (Pn.E (F.pn ps) W0 me))
    (his : ∀ i ∈ is, i ∈ own.map (·.2) := by decide) (ok : BlkOk N' sc' scope own := by exact ⟨rfl, by decide +kernel, by decide +kernel, by decide +kernel, by decide +kernel⟩) (eN : X.N = N' := by rfl) (eS : X.env.scope = sc' := by rfl) (hc : X.calm = true := by rfl) (hs : ∀ x, foldedSetIterable iter X.env x = pure x := by intro _; rfl) :
    PE X (.ListComp elt [⟨tg, iter, ifs, 0⟩] scope pos) (EX F W (M.bind mi (lcM (own.map (·.2)) b mt me))) := e_lc hc hN hi (eN ▸ eS ▸ ok) hg hgk his ht htt he hs
/-- .. with one test -/
theorem lcI_ (N' : List Str) (sc' : Scope) (own : List (Str × Nat)) (hN : X.N.Nodup) {elt tg iter tst : Expr} {scope : Scope} {pos : Pos} {mi : M (List Dat)} {is : List Nat} {g : TG} {b : Dat → Cfg → Option Cfg} {mt : M Bool} {me : M Dat} (hi : PI X tg iter (I_ F W mi))
    (hg : ∀ (s : Shared) (H : Hp) (C : Addr) (cl : List (Str × Addr)) (fp : List Addr), PG (X.blk s H scope (compEnvC scope cl C X.env) fp) tg g) (hgk : ∀ ps, GOk (F.pn ps) g is b)
    (ht : ∀ (s : Shared) (H : Hp) (C : Addr) (cl : List (Str × Addr)) (fp : List Addr) (ps : List (Addr × HO)), PT (X.blk s H scope (compEnvC scope cl C X.env) fp) tst (B (F.pn ps) W0 mt))
    (he : ∀ (s : Shared) (H : Hp) (C : Addr) (cl : List (Str × Addr)) (fp : List Addr) (ps : List (Addr × HO)), PE (X.blk s H scope (compEnvC scope cl C X.env) fp) elt (Pn.E (F.pn ps) W0 me))
    (his : ∀ i ∈ is, i ∈ own.map (·.2) := by decide) (ok : BlkOk N' sc' scope own := by exact ⟨rfl, by decide +kernel, by decide +kernel, by decide +kernel, by decide +kernel⟩) (eN : X.N = N' := by rfl) (eS : X.env.scope = sc' := by rfl) (hc : X.calm = true := by rfl) (hs : ∀ x, foldedSetIterable iter X.env x = pure x := by intro _; rfl) :
    PE X (.ListComp elt [⟨tg, iter, [tst], 0⟩] scope pos) (EX F W (M.bind mi (lcM (own.map (·.2)) b mt me))) :=
  e_lc (tt := fun σ H Q => ∃ ps, B (F.pn ps) W0 mt σ H Q) hc hN hi (eN ▸ eS ▸ ok) hg hgk his (fun s H C cl fp => pts_one ⟨fun pins s2 σ H2 Q I ⟨ps, z⟩ => (ht s H C cl fp ps).run pins s2 σ H2 Q I z⟩) (fun ps σ H Q z => ⟨ps, z⟩) he hs
theorem asLco_ (N' : List Str) (sc' : Scope) (own : List (Str × Nat)) (hN : X.N.Nodup) (i : Nat) {y : Str} {py spos : Pos} {elt tg iter : Expr} {scope : Scope} {pos : Pos} {mi : M (List Dat)} {is : List Nat} {g : TG} {b : Dat → Cfg → Option Cfg} {me : M Dat} (hi : PI X tg iter (I_ F W mi))
    (hg : ∀ (s : Shared) (H : Hp) (C : Addr) (cl : List (Str × Addr)) (fp : List Addr), PG (X.blk s H scope (compEnvC scope cl C X.env) fp) tg g) (hgk : ∀ ps, GOk (F.pn ps) g is b)
    (he : ∀ (s : Shared) (H : Hp) (C : Addr) (cl : List (Str × Addr)) (fp : List Addr) (ps : List (Addr × HO)), PE (X.blk s H scope (compEnvC scope cl C X.env) fp) elt (Pn.E (F.pn ps) W0 me))
    (his : ∀ i ∈ is, i ∈ own.map (·.2) := by decide) (ok : BlkOk N' sc' scope own := by exact ⟨rfl, by decide +kernel, by decide +kernel, by decide +kernel, by decide +kernel⟩) (eN : X.N = N' := by rfl) (eS : X.env.scope = sc' := by rfl) (hc : X.calm = true := by rfl) (hy : X.N[i]? = some y := by rfl) (hyl : X.env.scope.names.lookup y = some .local := by rfl)
    (hsw : swapsWith (.ListComp elt [⟨tg, iter, [], 0⟩] scope pos) (some (.Name y py)) spos.line X.env = pure true := by exact sw_true rfl rfl rfl rfl) (hs : ∀ x, foldedSetIterable iter X.env x = pure x := by intro _; rfl) :
    PS X (.Assign [.Name y py] (.ListComp elt [⟨tg, iter, [], 0⟩] scope pos) spos) (T F W (M.bind (M.bind mi (lcM (own.map (·.2)) b (ret true) me)) (asg i))) :=
  s_asgLc hc hN hy hyl hsw hi (eN ▸ eS ▸ ok) hg hgk his (fun s H C cl fp => pts_nil) (fun ps σ H Q h => noif ps σ H Q h) he hs
theorem asLcIo_ (N' : List Str) (sc' : Scope) (own : List (Str × Nat)) (hN : X.N.Nodup) (i : Nat) {y : Str} {py spos : Pos} {elt tg iter tst : Expr} {scope : Scope} {pos : Pos} {mi : M (List Dat)} {is : List Nat} {g : TG} {b : Dat → Cfg → Option Cfg} {mt : M Bool} {me : M Dat} (hi : PI X tg iter (I_ F W mi))
    (hg : ∀ (s : Shared) (H : Hp) (C : Addr) (cl : List (Str × Addr)) (fp : List Addr), PG (X.blk s H scope (compEnvC scope cl C X.env) fp) tg g) (hgk : ∀ ps, GOk (F.pn ps) g is b)
    (ht : ∀ (s : Shared) (H : Hp) (C : Addr) (cl : List (Str × Addr)) (fp : List Addr) (ps : List (Addr × HO)), PT (X.blk s H scope (compEnvC scope cl C X.env) fp) tst (B (F.pn ps) W0 mt))
    (he : ∀ (s : Shared) (H : Hp) (C : Addr) (cl : List (Str × Addr)) (fp : List Addr) (ps : List (Addr × HO)), PE (X.blk s H scope (compEnvC scope cl C X.env) fp) elt (Pn.E (F.pn ps) W0 me))
    (his : ∀ i ∈ is, i ∈ own.map (·.2) := by decide) (ok : BlkOk N' sc' scope own := by exact ⟨rfl, by decide +kernel, by decide +kernel, by decide +kernel, by decide +kernel⟩) (eN : X.N = N' := by rfl) (eS : X.env.scope = sc' := by rfl) (hc : X.calm = true := by rfl) (hy : X.N[i]? = some y := by rfl) (hyl : X.env.scope.names.lookup y = some .local := by rfl)
    (hsw : swapsWith (.ListComp elt [⟨tg, iter, [tst], 0⟩] scope pos) (some (.Name y py)) spos.line X.env = pure true := by exact sw_true rfl rfl rfl rfl) (hs : ∀ x, foldedSetIterable iter X.env x = pure x := by intro _; rfl) :
    PS X (.Assign [.Name y py] (.ListComp elt [⟨tg, iter, [tst], 0⟩] scope pos) spos) (T F W (M.bind (M.bind mi (lcM (own.map (·.2)) b mt me)) (asg i))) :=
  s_asgLc (tt := fun σ H Q => ∃ ps, B (F.pn ps) W0 mt σ H Q) hc hN hy hyl hsw hi (eN ▸ eS ▸ ok) hg hgk his (fun s H C cl fp => pts_one ⟨fun pins s2 σ H2 Q I ⟨ps, z⟩ => (ht s H C cl fp ps).run pins s2 σ H2 Q I z⟩) (fun ps σ H Q z => ⟨ps, z⟩) he hs
theorem asLcf_ (N' : List Str) (sc' : Scope) (own : List (Str × Nat)) (hN : X.N.Nodup) (i : Nat) {y : Str} {py spos : Pos} {elt tg iter : Expr} {scope : Scope} {pos : Pos} {mi : M (List Dat)} {is : List Nat} {g : TG} {b : Dat → Cfg → Option Cfg} {me : M Dat} (hi : PI X tg iter (I_ F W mi))
    (hg : ∀ (s : Shared) (H : Hp) (C : Addr) (cl : List (Str × Addr)) (fp : List Addr), PG (X.blk s H scope (compEnvC scope cl C X.env) fp) tg g) (hgk : ∀ ps, GOk (F.pn ps) g is b)
    (he : ∀ (s : Shared) (H : Hp) (C : Addr) (cl : List (Str × Addr)) (fp : List Addr) (ps : List (Addr × HO)), PE (X.blk s H scope (compEnvC scope cl C X.env) fp) elt (Pn.E (F.pn ps) W0 me))
    (his : ∀ i ∈ is, i ∈ own.map (·.2) := by decide) (ok : BlkOk N' sc' scope own := by exact ⟨rfl, by decide +kernel, by decide +kernel, by decide +kernel, by decide +kernel⟩) (eN : X.N = N' := by rfl) (eS : X.env.scope = sc' := by rfl) (hc : X.calm = true := by rfl) (hy : X.N[i]? = some y := by rfl) (hyl : X.env.scope.names.lookup y = some .local := by rfl)
    (hsw : swapsWith (.ListComp elt [⟨tg, iter, [], 0⟩] scope pos) (some (.Name y py)) spos.line X.env = pure true := by exact sw_true rfl rfl rfl rfl) (hs : ∀ x, foldedSetIterable iter X.env x = pure x := by intro _; rfl) :
    PS X (.Assign [.Name y py] (.ListComp elt [⟨tg, iter, [], 0⟩] scope pos) spos) (T F W (M.bind (asx (frz (M.bind mi (lcM (own.map (·.2)) b (ret true) me)))) (asg i))) :=
  s_asgLcF hc hN hy hyl hsw hi (eN ▸ eS ▸ ok) hg hgk his (fun s H C cl fp => pts_nil) (fun ps σ H Q h => noif ps σ H Q h) he hs
theorem asLcIf_ (N' : List Str) (sc' : Scope) (own : List (Str × Nat)) (hN : X.N.Nodup) (i : Nat) {y : Str} {py spos : Pos} {elt tg iter tst : Expr} {scope : Scope} {pos : Pos} {mi : M (List Dat)} {is : List Nat} {g : TG} {b : Dat → Cfg → Option Cfg} {mt : M Bool} {me : M Dat} (hi : PI X tg iter (I_ F W mi))
    (hg : ∀ (s : Shared) (H : Hp) (C : Addr) (cl : List (Str × Addr)) (fp : List Addr), PG (X.blk s H scope (compEnvC scope cl C X.env) fp) tg g) (hgk : ∀ ps, GOk (F.pn ps) g is b)
    (ht : ∀ (s : Shared) (H : Hp) (C : Addr) (cl : List (Str × Addr)) (fp : List Addr) (ps : List (Addr × HO)), PT (X.blk s H scope (compEnvC scope cl C X.env) fp) tst (B (F.pn ps) W0 mt))
    (he : ∀ (s : Shared) (H : Hp) (C : Addr) (cl : List (Str × Addr)) (fp : List Addr) (ps : List (Addr × HO)), PE (X.blk s H scope (compEnvC scope cl C X.env) fp) elt (Pn.E (F.pn ps) W0 me))
    (his : ∀ i ∈ is, i ∈ own.map (·.2) := by decide) (ok : BlkOk N' sc' scope own := by exact ⟨rfl, by decide +kernel, by decide +kernel, by decide +kernel, by decide +kernel⟩) (eN : X.N = N' := by rfl) (eS : X.env.scope = sc' := by rfl) (hc : X.calm = true := by rfl) (hy : X.N[i]? = some y := by rfl) (hyl : X.env.scope.names.lookup y = some .local := by rfl)
    (hsw : swapsWith (.ListComp elt [⟨tg, iter, [tst], 0⟩] scope pos) (some (.Name y py)) spos.line X.env = pure true := by exact sw_true rfl rfl rfl rfl) (hs : ∀ x, foldedSetIterable iter X.env x = pure x := by intro _; rfl) :
    PS X (.Assign [.Name y py] (.ListComp elt [⟨tg, iter, [tst], 0⟩] scope pos) spos) (T F W (M.bind (asx (frz (M.bind mi (lcM (own.map (·.2)) b mt me)))) (asg i))) :=
  s_asgLcF (tt := fun σ H Q => ∃ ps, B (F.pn ps) W0 mt σ H Q) hc hN hy hyl hsw hi (eN ▸ eS ▸ ok) hg hgk his (fun s H C cl fp => pts_one ⟨fun pins s2 σ H2 Q I ⟨ps, z⟩ => (ht s H C cl fp ps).run pins s2 σ H2 Q I z⟩) (fun ps σ H Q z => ⟨ps, z⟩) he hs
/-- a name of a comprehension's own -/
theorem pgn_ (i : Nat) {x : Str} {pos : Pos} (hN : X.N.Nodup) (hi : X.N[i]? = some x := by rfl) (hl : X.env.scope.names.lookup x = some .local := by rfl) : PG X (.Name x pos) (gName i) := pg_name hN hi (.inl hl) (.inr hl)
/-! ### comparisons as tests -/
theorem asT {α : Type} {m : M Dat} {Q : Bool → Hp → Prop} (h : B F W (toB m) σ H Q) : Pn.E F W m σ H (fun x H' => ∃ k, x = .bl k ∧ Q k H') :=
  sx_mono (sx_bind (R1 := RD F) h) fun x H1 ⟨a, G1, c1, r1, q, p⟩ => by
    cases q with
    | bl b => exact ⟨b, rfl, po_ret r1 p rfl⟩
    | _ => exact p.elim
theorem t_cmp {op : CmpOp} {a b : Expr} {ma mb : M Dat} {pos : Pos} {r : R2} {f : Dat → Dat → M Dat} (ho : OpR X (compareOp op) r)
    (hf : ∀ {G H : Hp} {c : Cfg} {x y : V} {d e : Dat} {Q : VK} {σ : L2.St}, Rel F G c σ H → Rp F.K G x d → Rp F.K G y e → Po F W σ (RD F) Q G (f d e c) → r x y H Q)
    (hm : behindInMarks op b = false) (ha : PE X a (Pn.E F W ma)) (hb : PE X b (Pn.E F W mb)) : PT X (.Compare a [op] [b] pos) (B F W (toB (m2 f ma mb))) :=
  (pt_cmpR ho ha hb hm).mono fun σ H Q h => sx_mono (sx_bind2 (asT (α := Unit) h)) fun x H1 h1 => sx_mono h1 fun y H2 ⟨d, e, G2, c2, r2, q1, q2, p⟩ => hf r2 q1 q2 p
section
variable {a b : Expr} {ma mb : M Dat} {pos : Pos}
theorem t_lt (ha : PE X a (Pn.E F W ma)) (hb : PE X b (Pn.E F W mb)) : PT X (.Compare a [.Lt] [b] pos) (B F W (toB (m2 ltI ma mb))) := t_cmp op_lt (hf_int0 fun i j => .bl _) (nomark _) ha hb
theorem t_le (ha : PE X a (Pn.E F W ma)) (hb : PE X b (Pn.E F W mb)) : PT X (.Compare a [.LtE] [b] pos) (B F W (toB (m2 leI ma mb))) := t_cmp op_le (hf_int0 fun i j => .bl _) (nomark _) ha hb
theorem t_gt (ha : PE X a (Pn.E F W ma)) (hb : PE X b (Pn.E F W mb)) : PT X (.Compare a [.Gt] [b] pos) (B F W (toB (m2 gtI ma mb))) := t_cmp op_gt (hf_int0 fun i j => .bl _) (nomark _) ha hb
theorem t_ge (ha : PE X a (Pn.E F W ma)) (hb : PE X b (Pn.E F W mb)) : PT X (.Compare a [.GtE] [b] pos) (B F W (toB (m2 geI ma mb))) := t_cmp op_ge (hf_int0 fun i j => .bl _) (nomark _) ha hb
theorem teq_ (hu : X.A.units + 64 < cLine) (ha : PE X a (Pn.E F W ma)) (hb : PE X b (Pn.E F W mb)) (hK : F.K = X.K := by rfl) : PT X (.Compare a [.Eq] [b] pos) (B F W (toB (m2 eqD ma mb))) := t_cmp (op_eqD hu) (hf_eq hK) (nomark _) ha hb
theorem tne_ (hu : X.A.units + 64 < cLine) (ha : PE X a (Pn.E F W ma)) (hb : PE X b (Pn.E F W mb)) (hK : F.K = X.K := by rfl) : PT X (.Compare a [.NotEq] [b] pos) (B F W (toB (m2 neD ma mb))) := t_cmp (op_neD hu) (hf_ne hK) (nomark _) ha hb
theorem t_inG {op : CmpOp} {neg : Bool} {mb : M Row} (hK : F.K = X.K) (ho : OpR X (compareOp op) (rIn X.K neg)) (ha : PE X a (Pn.E F W ma)) (hb : PE X b (R_ F W mb)) (hm : behindInMarks op b = false) : PT X (.Compare a [op] [b] pos) (B F W (toB (inM neg ma mb))) :=
  (pt_cmpR ho ha hb hm).mono fun σ H Q h => sx_mono (sx_bind (R1 := RD F) (asT (α := Unit) h)) fun x H1 ⟨d, G1, c1, r1, q, p⟩ => sx_mono (po_bind (R1 := RR F) r1 p) fun y H2 ⟨k, G2, c2, r2, s2, q2, p2⟩ => hf_in hK r2 (dp_mono s2 q) q2 p2
theorem tin_ {mb : M Row} (ha : PE X a (Pn.E F W ma)) (hb : PE X b (R_ F W mb)) (hK : F.K = X.K := by rfl) (hm : behindInMarks .In b = false := by rfl) : PT X (.Compare a [.In] [b] pos) (B F W (toB (inM false ma mb))) := t_inG hK op_in_seq ha hb hm
theorem tnin_ {mb : M Row} (ha : PE X a (Pn.E F W ma)) (hb : PE X b (R_ F W mb)) (hK : F.K = X.K := by rfl) (hm : behindInMarks .NotIn b = false := by rfl) : PT X (.Compare a [.NotIn] [b] pos) (B F W (toB (inM true ma mb))) := t_inG hK op_notIn_seq ha hb hm
end
theorem pop_ (i : Nat) {x : Str} {p apos cpos : Pos} (hN : X.N[i]? = some x := by rfl) (hv : Vis X.env.scope x := by first | exact Or.inl rfl | exact Or.inr (Or.inl rfl)) (hd : (x == ("__debug__" : Str)) = false := by decide) (hcd : (x == ("__classdict__" : Str)) = false := by decide)
    (hb : attributeBase (.Name x p) "pop" X.env (eval (.Name x p) X.env) = eval (.Name x p) X.env := by rfl) (hl : (apos.endLine == cpos.line) = true := by rfl) : PE X (.Call (.Attribute (.Name x p) "pop" apos) [] [] cpos) (Pn.E F W (popV i)) := e_pop hN hv hd hcd hb hl
theorem raise_ {k n : Nat} {x : Str} {e : Expr} {m : M Dat} {p pos pos' : Pos} (Z : ErrX X.prog X.w X.K X.mg X.base F.C k x) (hr : Room n X.A) (tk : Takes X W) (h : PE X e (Pn.E F W m)) (h2 : 2 ≤ n := by decide) (hK : F.K = X.K := by rfl) (hc : X.calm = true := by rfl) (hg : Gl X x := by rfl) (hdb : (x == ("__debug__" : Str)) = false := by decide)
    (he : starEach [e] X.env = (false, eval e X.env) :: starEach [] X.env := by rfl) : PS X (.Raise (some (.Call (.Name x p) [e] [] pos)) none pos') (T F W (M.bind m fun d => excM k d)) := s_raise hK hc tk Z (hr.mono h2) hg h hdb he
theorem io_ (i : Nat) {x : Str} {p : Pos} (hN : X.N[i]? = some x := by rfl) (hv : Vis X.env.scope x := by first | exact Or.inl rfl | exact Or.inr (Or.inl rfl)) (hd : (x == ("__debug__" : Str)) = false := by decide) (hcd : (x == ("__classdict__" : Str)) = false := by decide) (h2 : starEach [.Name x p] X.env = (false, eval (.Name x p) X.env) :: starEach [] X.env := by rfl) :
    PA X [.Name x p] (Sx F W (RAI F i) (ioArg i)) := a_io hN hv hd hcd h2
def callIM (i n : Nat) (g : List Dat → List Dat → DS → GR) (ms : M (List Dat)) : M RV := M.bind ms fun ds => if ds.length = n then callI i g ds else bad
theorem callI_ (i : Nat) {k n j : Nat} {g : List Dat → List Dat → DS → GR} {x : Str} {p pos : Pos} {e : Expr} {es : List Expr} {ms : M (List Dat)} (Z : HasG X.prog X.w X.K X.mg X.base F.C false true x k n g) (hr : Room j X.A) (tk : Takes X W) (ha : PA X (e :: es) (Sx F W (RAI F i) ms)) (hkj : k ≤ j := by decide) (hK : F.K = X.K := by rfl) (hg : Gl X x := by rfl)
    (hdb : (x == ("__debug__" : Str)) = false := by decide) (he : starEach (e :: es) X.env = (false, eval e X.env) :: starEach es X.env := by rfl) (hpl : (backTo pos (starEach es X.env)).any (·.1) = false := by rfl) : PE X (.Call (.Name x p) (e :: es) [] pos) (EX F W (callIM i n g ms)) := e_callI hK Z hr hkj hg tk ha hdb he hpl
theorem room2 {k : Nat} {A : Around} (r : Room k A) : A.units + 2 < cLine := by have := r.units; omega
def slM (m : M Dat) (l h : M (Option Int)) : M RV := M.bind m fun d => M.bind l fun lo => M.bind h fun hi => slD d lo hi
theorem sl_ {a : Expr} {lo hi : Option Expr} {ma : M Dat} {ml mh : M (Option Int)} {pos p2 : Pos} (ha : PE X a (Pn.E F W ma)) (hl : PO X lo (O_ F W ml)) (hh : PO X hi (O_ F W mh)) (hK : F.K = X.K := by rfl) : PE X (.Subscript a (.Slice lo hi none p2) pos) (EX F W (slM ma ml mh)) := e_slice hK ha hl hh
theorem setSort_ {m : M Row} {a : Expr} {p p2 pos pos2 : Pos} (hm : X.mg "sorted" = none) (hm2 : X.mg "set" = none) (ha : PE X a (R_ F W m)) (hK : F.K = X.K := by rfl) (hc : X.calm = true := by rfl) (hg : Gl X "sorted" := by rfl) (hg2 : Gl X "set" := by rfl)
    (he : starEach [a] X.env = (false, eval a X.env) :: starEach [] X.env := by rfl) (he2 : starEach [.Call (.Name "set" p2) [a] [] pos2] X.env = (false, eval (.Call (.Name "set" p2) [a] [] pos2) X.env) :: starEach [] X.env := by rfl)
    (hpl : (backTo pos (starEach [] X.env)).any (·.1) = false := by rfl) : PE X (.Call (.Name "sorted" p) [.Call (.Name "set" p2) [a] [] pos2] [] pos) (EX F W (M.bind m setSortR)) := e_setSort hK hc hg hm hg2 hm2 ha he he2 hpl
theorem setLen_ {m : M Row} {a : Expr} {p p2 pos pos2 : Pos} (hm : X.mg "len" = none) (hm2 : X.mg "set" = none) (ha : PE X a (R_ F W m)) (hK : F.K = X.K := by rfl) (hc : X.calm = true := by rfl) (hg : Gl X "len" := by rfl) (hg2 : Gl X "set" := by rfl)
    (he : starEach [a] X.env = (false, eval a X.env) :: starEach [] X.env := by rfl) (he2 : starEach [.Call (.Name "set" p2) [a] [] pos2] X.env = (false, eval (.Call (.Name "set" p2) [a] [] pos2) X.env) :: starEach [] X.env := by rfl)
    (hpl : (backTo pos (starEach [] X.env)).any (·.1) = false := by rfl) : PE X (.Call (.Name "len" p) [.Call (.Name "set" p2) [a] [] pos2] [] pos) (Pn.E F W (M.bind m setLenR)) := e_setLen hK hc hg hm hg2 hm2 ha he he2 hpl
theorem app_ (i : Nat) {x : Str} {e : Expr} {m : M Dat} {p apos cpos : Pos} (h : PE X e (Pn.E F W m)) (hN : X.N[i]? = some x := by rfl) (hv : Vis X.env.scope x := by first | exact Or.inl rfl | exact Or.inr (Or.inl rfl)) (hd : (x == ("__debug__" : Str)) = false := by decide) (hcd : (x == ("__classdict__" : Str)) = false := by decide)
    (hb : attributeBase (.Name x p) "append" X.env (eval (.Name x p) X.env) = eval (.Name x p) X.env := by rfl)
    (hf : ((backTo cpos (starEach [e] X.env)).all (fun x => !x.1) && (backToKw cpos (keywordEach [] X.env)).all (fun x => x.1.isSome) && decide (([e] : List Expr).length + ([] : List Keyword).length + (if ([] : List Keyword).isEmpty then 0 else 1) < 30)) = true := by rfl)
    (hl : (apos.endLine == cpos.line) = true := by rfl) (hs : starEach [e] X.env = (false, eval e X.env) :: starEach [] X.env := by rfl) (hp : (backTo cpos (starEach [] X.env)).any (·.1) = false := by rfl) :
    PE X (.Call (.Attribute (.Name x p) "append" apos) [e] [] cpos) (Pn.E F W (appV i m)) := e_app hN hv hd hcd h hb hf hl hs hp
theorem ext_ (i : Nat) {x : Str} {e : Expr} {m : M Row} {p apos cpos : Pos} (h : PE X e (R_ F W m)) (hN : X.N[i]? = some x := by rfl) (hv : Vis X.env.scope x := by first | exact Or.inl rfl | exact Or.inr (Or.inl rfl)) (hd : (x == ("__debug__" : Str)) = false := by decide) (hcd : (x == ("__classdict__" : Str)) = false := by decide)
    (hb : attributeBase (.Name x p) "extend" X.env (eval (.Name x p) X.env) = eval (.Name x p) X.env := by rfl)
    (hf : ((backTo cpos (starEach [e] X.env)).all (fun x => !x.1) && (backToKw cpos (keywordEach [] X.env)).all (fun x => x.1.isSome) && decide (([e] : List Expr).length + ([] : List Keyword).length + (if ([] : List Keyword).isEmpty then 0 else 1) < 30)) = true := by rfl)
    (hl : (apos.endLine == cpos.line) = true := by rfl) (hs : starEach [e] X.env = (false, eval e X.env) :: starEach [] X.env := by rfl) (hp : (backTo cpos (starEach [] X.env)).any (·.1) = false := by rfl) :
    PE X (.Call (.Attribute (.Name x p) "extend" apos) [e] [] cpos) (Pn.E F W (extV i m)) := e_ext hN hv hd hcd h hb hf hl hs hp
end
/-- where a def stands and how it binds -/
structure At (K : PySem.W.Frag) (mg : Str → Option Value) (x : Str) (f : Addr) (fd : FuncData) (ps : List Str) : Prop where
  m : mg x = some (.ref f)
  k : PySem.W.keepIn K (.ref f) = true
  b : Binds K fd ps []
theorem At.has {P : Program} {w : World} {K : PySem.W.Frag} {mg : Str → Option Value} {base : Heap} {C : Cls} {x : Str} {f : Addr} {fd : FuncData} {ps : List Str} {k n : Nat} {g : List Dat → PR} (a : At K mg x f fd ps) (hn : ps.length = n) (F : FnOk P w K mg base (L2.CX P w) k f fd ps (spP K C n g)) : Has P w K mg base C x k n g :=
  ⟨f, fd, ps, hn, F, a.m, a.k, a.b⟩
end Pn

set_option maxHeartbeats 1000001
/-! the state's rules again, two names at once -/
namespace Pn
open L2 PyProof.Rows PySem.Spec PySem
section
variable {F : Fr} {W : L2.WX} {σ : L2.St} {H : Hp} {X : Cx} {D : Ends}
theorem stAt_ (i : Nat) {j : Nat} {x : Str} {p p2 pos : Pos} {k : Nat} (hr : Room k X.A) (hN : X.N[i]? = some x := by rfl) (hv : Vis X.env.scope x := by first | exact Or.inl rfl | exact Or.inr (Or.inl rfl) | exact Or.inr (Or.inr rfl)) (hd : (x == ("__debug__" : Str)) = false := by decide) (hcd : (x == ("__classdict__" : Str)) = false := by decide) (hs : NoSl (.Constant (.str "at") j p2) := by intro _ _; rfl) :
    PE X (.Subscript (.Name x p) (.Constant (.str "at") j p2) pos) (Pn.E F W (stAt i)) := e_stAt (hu_of hr) hN hv hd hcd hs
theorem rst_ (b : Bool) (i : Nat) {j : Nat} {x y : Str} {p p2 pos : Pos} {k : Nat} (hr : Room k X.A) (hy : y = key3 b := by rfl) (hN : X.N[i]? = some x := by rfl) (hv : Vis X.env.scope x := by first | exact Or.inl rfl | exact Or.inr (Or.inl rfl) | exact Or.inr (Or.inr rfl)) (hd : (x == ("__debug__" : Str)) = false := by decide) (hcd : (x == ("__classdict__" : Str)) = false := by decide) (hs : NoSl (.Constant (.str (key3 b)) j p2) := by intro _ _; rfl) :
    PE X (.Subscript (.Name x p) (.Constant (.str y) j p2) pos) (R_ F W (stRow b i)) := hy ▸ r_st b (hu_of hr) hN hv hd hcd hs
theorem stIx_ (b : Bool) (i : Nat) {j : Nat} {x y : Str} {e : Expr} {m : M Dat} {p p2 pos pos2 : Pos} {k : Nat} (hr : Room k X.A) (he : PE X e (Pn.E F W m)) (hy : y = key3 b := by rfl) (hK : F.K = X.K := by rfl) (hN : X.N[i]? = some x := by rfl) (hv : Vis X.env.scope x := by first | exact Or.inl rfl | exact Or.inr (Or.inl rfl) | exact Or.inr (Or.inr rfl)) (hd : (x == ("__debug__" : Str)) = false := by decide) (hcd : (x == ("__classdict__" : Str)) = false := by decide) (hs : NoSl (.Constant (.str (key3 b)) j p2) := by intro _ _; rfl) (hs2 : PlainIx e := by intro _ _; rfl) :
    PE X (.Subscript (.Subscript (.Name x p) (.Constant (.str y) j p2) pos2) e pos) (Pn.E F W (stIx b i m)) := hy ▸ e_stIx b hK (hu_of hr) hN hv hd hcd he hs hs2
theorem sAt_ (i : Nat) {j : Nat} {x : Str} {e : Expr} {m : M Dat} {p p2 pos pos2 : Pos} {k : Nat} (hr : Room k X.A) (he : PE X e (Pn.E F W m)) (hN : X.N[i]? = some x := by rfl) (hv : Vis X.env.scope x := by first | exact Or.inl rfl | exact Or.inr (Or.inl rfl)) (hd : (x == ("__debug__" : Str)) = false := by decide) (hcd : (x == ("__classdict__" : Str)) = false := by decide)
    (ha : ∀ v, assign (.Subscript (.Name x p) (.Constant (.str "at") j p2) pos2) X.env v = (do
      let ov ← holding [v] (eval (.Name x p) X.env)
      let iv ← holding [v, ov] (eval (.Constant (.str "at") j p2) X.env)
      standAt pos2
      holding [v, ov, iv] (setItem ov iv (v))
      release [v, ov, iv] []) := by intro _; rfl)
    (hs : swapsWithSole [.Subscript (.Name x p) (.Constant (.str "at") j p2) pos2] e pos.line X.env = pure false := by rfl) (hw : swappedStores [.Subscript (.Name x p) (.Constant (.str "at") j p2) pos2] e X.env = pure none := by rfl) (h1 : (assignEach [.Subscript (.Name x p) (.Constant (.str "at") j p2) pos2] X.env).map (·.2) = [assign (.Subscript (.Name x p) (.Constant (.str "at") j p2) pos2) X.env] := by rfl) :
    PS X (.Assign [.Subscript (.Name x p) (.Constant (.str "at") j p2) pos2] e pos) (T F W (putAt i m)) := s_stAt (hu_of hr) hN hv hd hcd he ha hs hw h1
theorem sLeft_ (i : Nat) {j : Nat} {x : Str} {e k : Expr} {m mk : M Dat} {p p2 pos pos2 pos3 : Pos} {n : Nat} (hr : Room n X.A) (he : PE X e (Pn.E F W m)) (hk : PE X k (Pn.E F W mk)) (hN : X.N[i]? = some x := by rfl) (hv : Vis X.env.scope x := by first | exact Or.inl rfl | exact Or.inr (Or.inl rfl)) (hd : (x == ("__debug__" : Str)) = false := by decide) (hcd : (x == ("__classdict__" : Str)) = false := by decide) (hns : NoSl (.Constant (.str "lefts") j p2) := by intro _ _; rfl)
    (ha : ∀ v, assign (.Subscript (.Subscript (.Name x p) (.Constant (.str "lefts") j p2) pos3) k pos2) X.env v = (do
      let ov ← holding [v] (eval (.Subscript (.Name x p) (.Constant (.str "lefts") j p2) pos3) X.env)
      let iv ← holding [v, ov] (eval k X.env)
      standAt pos2
      holding [v, ov, iv] (setItem ov iv (v))
      release [v, ov, iv] []) := by intro _; rfl)
    (hs : swapsWithSole [.Subscript (.Subscript (.Name x p) (.Constant (.str "lefts") j p2) pos3) k pos2] e pos.line X.env = pure false := by rfl) (hw : swappedStores [.Subscript (.Subscript (.Name x p) (.Constant (.str "lefts") j p2) pos3) k pos2] e X.env = pure none := by rfl)
    (h1 : (assignEach [.Subscript (.Subscript (.Name x p) (.Constant (.str "lefts") j p2) pos3) k pos2] X.env).map (·.2) = [assign (.Subscript (.Subscript (.Name x p) (.Constant (.str "lefts") j p2) pos3) k pos2) X.env] := by rfl) :
    PS X (.Assign [.Subscript (.Subscript (.Name x p) (.Constant (.str "lefts") j p2) pos3) k pos2] e pos) (T F W (putLeft i m mk)) := s_stLeft (hu_of hr) hN hv hd hcd he hk hns ha hs hw h1
theorem ast_ (i : Nat) {x : Str} {p : Pos} {es : List Expr} {ms : M (List Dat)} (hs : PA X es (Pn.A F W ms)) (hN : X.N[i]? = some x := by rfl) (hv : Vis X.env.scope x := by first | exact Or.inl rfl | exact Or.inr (Or.inl rfl) | exact Or.inr (Or.inr rfl)) (hd : (x == ("__debug__" : Str)) = false := by decide) (hcd : (x == ("__classdict__" : Str)) = false := by decide) (h2 : starEach (.Name x p :: es) X.env = (false, eval (.Name x p) X.env) :: starEach es X.env := by rfl) :
    PA X (.Name x p :: es) (Sx F W (RAS F) (stArg i ms)) := a_st hN hv hd hcd hs h2
def callSM (n : Nat) (g : List Dat → List Dat → DS → GR) (ms : M (List Dat)) : M RV := M.bind ms fun ds => if ds.length = n then callS g ds else bad
theorem callS_ {k n j : Nat} {g : List Dat → List Dat → DS → GR} {x : Str} {p pos : Pos} {e : Expr} {es : List Expr} {ms : M (List Dat)} (Z : HasG X.prog X.w X.K X.mg X.base F.C true false x k n g) (hr : Room j X.A) (tk : Takes X W) (ha : PA X (e :: es) (Sx F W (RAS F) ms)) (hkj : k ≤ j := by decide) (hK : F.K = X.K := by rfl) (hg : Gl X x := by rfl)
    (hdb : (x == ("__debug__" : Str)) = false := by decide) (he : starEach (e :: es) X.env = (false, eval e X.env) :: starEach es X.env := by rfl) (hpl : (backTo pos (starEach es X.env)).any (·.1) = false := by rfl) : PE X (.Call (.Name x p) (e :: es) [] pos) (EX F W (callSM n g ms)) := e_callS hK Z hr hkj hg tk ha hdb he hpl
/-- a, b = x, y -/
def parM (i j : Nat) (ms : M (List Dat)) : M Ctl := M.bind ms fun ds c => match ds with
  | [d, e] => (match put i d c with
    | none => .bad
    | some c1 => match put j e c1 with
      | none => .bad
      | some c2 => .ok .nx c2)
  | _ => .bad
theorem par_ (i j : Nat) {x y : Str} {a b : Expr} {ms : M (List Dat)} {px py pt pos : Pos} {kt k2 : Nat} {pt2 : Pos} (hN : X.N.Nodup) (ha : PA X [a, b] (Pn.A F W ms)) (hc : X.calm = true := by rfl) (hi : X.N[i]? = some x := by rfl) (hj : X.N[j]? = some y := by rfl) (hij : i ≠ j := by decide)
    (hx : X.env.scope.names.lookup x = some .local := by rfl) (hy : X.env.scope.names.lookup y = some .local := by rfl) (hw : swappedStores [.Tuple [.Name x px, .Name y py] kt pt] (.Tuple [a, b] k2 pt2) X.env = pure (some [x, y]) := by rfl)
    (hs : swapsWithSole [.Tuple [.Name x px, .Name y py] kt pt] (.Tuple [a, b] k2 pt2) pos.line X.env = pure false := by rfl) : PS X (.Assign [.Tuple [.Name x px, .Name y py] kt pt] (.Tuple [a, b] k2 pt2) pos) (T F W (parM i j ms)) :=
  (ps_par hc hN hi hj hij hx hy ha hw hs).mono fun D σ H ⟨G, c, r, p⟩ => sx_mono (ps_bind (R1 := RA F) r p) fun vs H1 ⟨ds, G1, c1, r1, s1, q, p1⟩ => by
    cases q with
    | nil => exact p1.elim
    | @cons v vs d ds q1 q =>
      cases q with
      | nil => exact p1.elim
      | @cons w ws e es q2 q =>
        cases q with
        | cons _ _ => exact p1.elim
        | nil =>
          refine ⟨v, w, rfl, ?_⟩
          cases e1 : put i d c1 with
          | none => simp only [e1] at p1; exact p1.elim
          | some c2 =>
            simp only [e1] at p1
            cases e2 : put j e c2 with
            | none => simp only [e2] at p1; exact p1.elim
            | some c3 =>
              simp only [e2] at p1
              exact p1 _ G1 _ (put_rel (put_rel r1 q1 e1) q2 e2) (Same.refl _)
/-! ### list(range(n)) -/
def lsRgR : Dat → M RV
  | .int j => if -(2 ^ 62) ≤ j ∧ j ≤ 100000 then ret (.fr (numL 0 j.toNat)) else bad
  | _ => bad
theorem rgV_dp {K : PySem.W.Frag} {G : Hp} (j : Int) : RpA K G (L2.rgV 0 j) (numL 0 j.toNat) := by
  have go : ∀ l : List Nat, RpA K G (l.map fun i => V.int (0 + (i : Nat))) (l.map fun i : Nat => PyData.int (0 + (i : Int))) := by
    intro l
    induction l with
    | nil => exact .nil
    | cons a l ih => exact .cons (.int _) ih
  unfold L2.rgV numL
  rw [Int.sub_zero]
  exact go _
theorem listRg_ {a : Expr} {m : M Dat} {p p2 pos pos2 : Pos} (hm : X.mg "list" = none) (hm2 : X.mg "range" = none) (ha : PE X a (Pn.E F W m)) (hK : F.K = X.K := by rfl) (hc : X.calm = true := by rfl) (hg : Gl X "list" := by rfl) (hg2 : Gl X "range" := by rfl) (h1 : starEach [a] X.env = (false, eval a X.env) :: starEach [] X.env := by rfl)
    (h2 : starEach [.Call (.Name "range" p2) [a] [] pos2] X.env = (false, eval (.Call (.Name "range" p2) [a] [] pos2) X.env) :: starEach [] X.env := by rfl) : PE X (.Call (.Name "list" p) [.Call (.Name "range" p2) [a] [] pos2] [] pos) (EX F W (M.bind m lsRgR)) :=
  (pe_listRg hc hg hm (prg_1 hg2 hm2 ha h1) h2).mono fun σ H Q h => sx_mono (sx_bind (R1 := RD F) h) fun x H1 ⟨d, G1, c1, r1, q, p⟩ => by
    cases q with
    | int j =>
      unfold lsRgR at p
      dsimp only at p
      by_cases hj : -(2 ^ 62) ≤ j ∧ j ≤ 100000
      · rw [if_pos hj] at p
        refine ⟨j, rfl, ⟨by decide, by decide, by omega, by omega, by omega⟩, fun q hq => ?_⟩
        obtain ⟨r2, z2⟩ := r1.lone hq (rgV_dp (K := F.K) (G := G1) j)
        exact p _ _ _ r2 (Same.refl _) ⟨q, rfl, z2⟩
      · rw [if_neg hj] at p
        exact p.elim
    | _ => exact p.elim
end
section
variable {F : Fr} {W : L2.WX} {σ : L2.St} {H : Hp} {X : Cx} {D : Ends}
theorem room66 {k : Nat} {A : Around} (r : Room k A) : A.units + 66 < cLine := by have := r.un; omega
theorem repr_ {m : M Dat} {a : Expr} {p pos : Pos} {k : Nat} (hgd : X.A.guards = some []) (hr : Room k X.A) (hm : X.mg "repr" = none) (ha : PE X a (Pn.E F W m)) (hK : F.K = X.K := by rfl) (hg : Gl X "repr" := by rfl) (he : starEach [a] X.env = (false, eval a X.env) :: starEach [] X.env := by rfl) : PE X (.Call (.Name "repr" p) [a] [] pos) (Pn.E F W (M.bind m reprR)) := e_repr hK hgd (room66 hr) hg hm ha he
def callQM (us : Bool) (n : Nat) (g : List Dat → List Dat → DS → GR) (ms : M (List Dat)) : M RV := M.bind ms fun ds => if ds.length = n then (if us then callS g ds else callQ g ds) else bad
/-- data alone, among no guards -/
theorem callP_ {k n j : Nat} {g : List Dat → List Dat → DS → GR} {x : Str} {p pos : Pos} {e : Expr} {es : List Expr} {ms : M (List Dat)} (hgd : X.A.guards = some []) (Z : HasQ X.prog X.w X.K X.mg X.base F.C false (fun _ => True) x k n g) (hr : Room j X.A) (tk : Takes X W) (ha : PA X (e :: es) (Pn.A F W ms)) (hkj : k ≤ j := by decide) (hK : F.K = X.K := by rfl) (hg : Gl X x := by rfl)
    (hdb : (x == ("__debug__" : Str)) = false := by decide) (he : starEach (e :: es) X.env = (false, eval e X.env) :: starEach es X.env := by rfl) (hpl : (backTo pos (starEach es X.env)).any (·.1) = false := by rfl) : PE X (.Call (.Name x p) (e :: es) [] pos) (EX F W (callQM false n g ms)) := e_callP hK hgd Z hr hkj hg tk ha hdb he hpl
end
abbrev GF := List Dat → List Dat → DS → GR
def noG : GF := fun _ _ _ => .bad
theorem fn_noneG {P : Program} {w : World} {K : PySem.W.Frag} {mg : Str → Option Value} {base : Heap} {f : Addr} {fd : FuncData} {ps : List Str} {k n : Nat} {C : Cls} {CX : CXT} {us io : Bool} {okT : Tbs → Prop} : FnOk P w K mg base CX k f fd ps (spG K C us io okT n noG) :=
  ⟨fun vs H Q E ⟨_, _, _, _, _, _, _, _, _, _, _, _, _, _, _, _, _, _, _, z⟩ => z.elim, fun _ _ _ _ _ _ _ _ _ _ _ _ _ ⟨_, _, _, _, _, _, _, _, _, _, _, _, _, _, _, _, _, _, _, z⟩ => z.elim⟩
theorem At.hasG {P : Program} {w : World} {K : PySem.W.Frag} {mg : Str → Option Value} {base : Heap} {C : Cls} {us io : Bool} {x : Str} {f : Addr} {fd : FuncData} {ps : List Str} {k n : Nat} {g : GF} (a : At K mg x f fd ps) (F : FnOk P w K mg base (L2.CX P w) k f fd ps (spG K C us io (fun _ => True) n g)) : HasG P w K mg base C us io x k n g :=
  ⟨f, fd, ps, F, a.m, a.k, a.b⟩
end Pn

set_option maxHeartbeats 2000001
/-! the end of a law whose promise holds among no guards, with tables of lambdas -/
namespace PnEnd
open L2 PyProof.Rows PySem.Spec PySem LamX
/-- what may be told at the law's call: the tables are empty, the script is known -/
def start0 (T : List Addr) (scr : Option (Addr × Obj × List V)) : Hp := fun b => if b ∈ T then some (.tbl #[]) else match scr with
  | some (a, o, xs) => if b = a then some (.frz o (.lst xs)) else none
  | none => none
theorem start0_cases {T : List Addr} {scr : Option (Addr × Obj × List V)} {b : Addr} {u : HO} (h : start0 T scr b = some u) : (b ∈ T ∧ u = .tbl #[]) ∨ ∃ o xs, scr = some (b, o, xs) ∧ u = .frz o (.lst xs) := by
  unfold start0 at h
  by_cases hb : b ∈ T
  · rw [if_pos hb] at h
    exact .inl ⟨hb, (Option.some.inj h).symm⟩
  · rw [if_neg hb] at h
    cases scr with
    | none => cases h
    | some q =>
      obtain ⟨a, o, xs⟩ := q
      by_cases e : b = a
      · have h : (if b = a then some (HO.frz o (.lst xs)) else none) = some u := h
        rw [if_pos e] at h
        exact .inr ⟨o, xs, by rw [e], (Option.some.inj h).symm⟩
      · have h : (if b = a then some (HO.frz o (.lst xs)) else none) = some u := h
        rw [if_neg e] at h
        cases h
section
variable {P : Program} {w : World} {K : PySem.W.Frag} {mg mb : Str → Option Value} {CX : CXT} {k : Nat} {fa a : Addr} {cs : List (Addr × Addr)} {fd : FuncData} {x : Str} {sp : Sp} {s : Shared} {vs : List Value} {ns : List Int}
theorem call_ends (KX : K.In s.heap) (hns : s.heap.Ns mainGlobals mg) (hb : s.heap.Ns builtinsNs mb) (hbb : ∀ x : Str, x ≠ "__name__" → mb x = bootBuiltins x) (hlim : s.heap.NoLimit) (hg : s.gens = #[])
    (hT : ∀ p ∈ cs, s.heap.get? p.2 = some { cls := .none, data := .fields #[] }) (nT : ∀ p ∈ cs, K.lookup p.2 = none) (hC : ∀ p ∈ cs, PySem.W.CodeHd s.heap p.1 p.2)
    (hbm : ∃ (bm : Addr) (ob : Obj), mg "__builtins__" = some (.ref bm) ∧ bm ≠ builtinsNs ∧ s.heap.get? bm = some ob ∧ ob.cls = .type "module" ∧ ob.dict = some builtinsNs ∧ ob.data = .plain)
    (ha : s.heap.get? a = some { cls := .type "list", data := .seq vs.toArray }) (hi : IntsAre vs ns) (hl : ns.length ≤ sizeLine) (hr : Room k callerA)
    (F : ∀ base : Heap, K.In base → base.Ns mainGlobals mg → (∀ p ∈ cs, TabB base mg p.1 p.2) → Pn.FnG P w K mg base CX k fa fd [x] sp) (bind : ∀ (s : Shared) (u : Value), BindsTo s fd ⟨[u], []⟩ [(x, u)])
    (hsp : ∀ H : Hp, (∀ p ∈ cs, H p.2 = some (.tbl #[])) → SqL K H a (ns.map V.int) → sp [.ref a] H (fun v _ => v = .bl true) fun _ _ _ => False) (hCX : ∀ H e s', CX [] H s (fun _ _ _ => False) e s' → False) :
    codeAny (model P w) callerA (.call (.ref fa) ⟨[.ref a], []⟩) (fun r s' => r = .ok (.ret (.bool true)) ∧ OldK s.heap s'.heap ∧ s'.os = s.os ∧ AllBare s'.gens) s := by
  let T : List Addr := cs.map (·.2)
  have tabAt : ∀ b ∈ T, s.heap.get? b = some { cls := .none, data := .fields #[] } := fun b m => by
    obtain ⟨p, hp, rfl⟩ := List.mem_map.mp m
    exact hT p hp
  have inT : ∀ p ∈ cs, p.2 ∈ T := fun p hp => List.mem_map.mpr ⟨p, hp, rfl⟩
  have aT : a ∉ T := fun m => by
    have := tabAt a m
    rw [ha] at this
    cases this
  have rv := vals_ints hi
  have len : vs.length = ns.length := hi.length
  let scr : Option (Addr × Obj × List V) := match K.lookup a with
    | some _ => none
    | none => some (a, { cls := .type "list", data := .seq vs.toArray }, ns.map V.int)
  have hscr : ∀ b o xs, scr = some (b, o, xs) → b = a ∧ o = { cls := .type "list", data := .seq vs.toArray } ∧ xs = ns.map V.int ∧ K.lookup a = none := by
    intro b o xs e
    cases hk : K.lookup a with
    | some q => simp only [scr, hk] at e; cases e
    | none => simp only [scr, hk] at e; cases e; exact ⟨rfl, rfl, rfl, rfl⟩
  let H : Hp := start0 T scr
  have HT : ∀ p ∈ cs, H p.2 = some (.tbl #[]) := fun p hp => by
    show start0 T scr p.2 = _
    unfold start0
    rw [if_pos (inT p hp)]
  have HS : SqL K H a (ns.map V.int) := by
    cases hk : K.lookup a with
    | some o =>
      have e := KX a o hk
      rw [ha] at e
      cases e
      exact .inr ⟨_, vs.toArray, _, hk, rfl, rfl, rfl, by rw [List.size_toArray, len]; exact hl, by simpa using rv⟩
    | none =>
      refine .inl (.inr ⟨{ cls := .type "list", data := .seq vs.toArray }, ?_⟩)
      show start0 T scr a = _
      unfold start0
      rw [if_neg aT]
      simp only [scr, hk, if_true]
  have Hob : ∀ b o, s.heap.get? b = some o → (∀ vs n, o.data ≠ .seq vs n) → o.data ≠ .fields #[] → H b = none := fun b o e h1 h2 => by
    cases q : H b with
    | none => rfl
    | some u =>
      rcases start0_cases q with ⟨m, _⟩ | ⟨o2, xs, e2, _⟩
      · rw [tabAt b m] at e
        cases e
        exact (h2 rfl).elim
      · obtain ⟨rfl, _⟩ := hscr _ _ _ e2
        rw [ha] at e
        cases e
        exact (h1 _ _ rfl).elim
  have Hdict : ∀ {b : Addr} {o : Obj} {es : Array DictEntry} {ep : Nat}, s.heap.get? b = some o → o.data = .dict es ep → H b = none := fun e d => Hob _ _ e (fun _ _ z => by rw [d] at z; cases z) fun z => by rw [d] at z; cases z
  have HK : ∀ b o, K.lookup b = some o → H b = none := fun b o e => by
    cases q : H b with
    | none => rfl
    | some u =>
      rcases start0_cases q with ⟨m, _⟩ | ⟨o2, xs, e2, _⟩
      · obtain ⟨p, hp, ep⟩ := List.mem_map.mp m
        rw [← ep, nT p hp] at e
        cases e
      · obtain ⟨rfl, _, _, n⟩ := hscr _ _ _ e2
        rw [n] at e
        cases e
  have HO_ : HOk P w H s.heap := fun b u q => by
    rcases start0_cases q with ⟨m, rfl⟩ | ⟨o2, xs, e2, rfl⟩
    · exact tabAt b m
    · obtain ⟨rfl, rfl, rfl, _⟩ := hscr _ _ _ e2
      (exact ⟨ha, by rw [List.length_map]; exact hl, vs, _, rv, ha⟩)
  let base := hidT s.heap H
  have up : ∀ {b : Addr} {o : Obj}, s.heap.get? b = some o → H b = none → base.get? b = some o := fun e n => hidT_get e n
  have nsUp : ∀ {b : Addr} {m : Str → Option Value}, s.heap.Ns b m → base.Ns b m := fun ⟨o, es, ep, e, d, r⟩ => ⟨o, es, ep, up e (Hdict e d), d, r⟩
  have kin : K.In base := fun b o e => up (KX b o e) (HK b o e)
  have mod : L2.Mod K mg base := ⟨kin, nsUp hns, ⟨mb, nsUp hb, hbb⟩, hlim.elim fun mc h => ⟨mc, nsUp h.1, h.2⟩⟩
  have notG : ∀ {b : Addr} {o : Obj}, s.heap.get? b = some o → (∀ es ep, o.data ≠ .dict es ep) → b ≠ mainGlobals := fun e h z => by
    obtain ⟨o2, es, ep, e2, d, _⟩ := hns
    rw [z, e2] at e
    cases e
    exact h _ _ d
  have tb : ∀ p ∈ cs, TabB base mg p.1 p.2 := fun p hp => by
    refine ⟨?_, ?_, (notG (hT p hp) fun _ _ z => by cases z).symm⟩
    · obtain ⟨o, us, file, tf, flags, tg, inF, text, tt, e1, r1, r2, r3, r⟩ := hC p hp
      refine ⟨o, us, file, tf, flags, tg, inF, text, tt, up e1 (Hob _ _ e1 (fun _ _ z => by rw [r2] at z; cases z) fun z => ?_), r1, r2, r3, r⟩
      rw [r2] at z
      cases z
      simp at r3
    · (obtain ⟨bm, ob, b1, b2, b3, b4, b5, b6⟩ := hbm)
      refine ⟨bm, ob, b1, b2, notG b3 (fun _ _ z => by rw [b6] at z; cases z), fun z => ?_, up b3 (Hob _ _ b3 (fun _ _ z => by rw [b6] at z; cases z) fun z => by rw [b6] at z; cases z), b4, b5, b6⟩
      rw [z, hT p hp] at b3
      cases b3
      cases b6
  have e0 : Env0 P w K mg base callerA [] s H := ⟨rfl, mod, fun b o e => of_hidT e, Nat.le_of_eq (hidT_size _ _), trivial, fun b m => absurd (show b ∈ ([] : List Addr) from m) (by simp), HO_, .of_eq hg⟩
  refine codeAny_mono ((F base kin (nsUp hns) tb).run callerA [] s H ⟨[.ref a], []⟩ [.ref a] [.ref a] _ _ rfl hr e0 (bind s (.ref a)) (.cons rfl .nil) (hsp H HT HS)) ?_
  rintro (e | fl) s' h
  · exact (hCX H e s' h).elim
  · cases fl with
    | next => exact h.elim
    | brk => exact h.elim
    | cont => exact h.elim
    | ret u =>
      obtain ⟨v, H', os, bare, un, ok', r', q⟩ := h
      obtain rfl : v = .bl true := q
      (obtain rfl : u = Value.bool true := r')
      have kept : ∀ b o, b ∉ T → s.heap.get? b = some o → s'.heap.get? b = some o := fun b o nb e => by
        cases q : H b with
        | none => exact un.keep b o e q (fun m => absurd (show b ∈ ([] : List Addr) from m) (by simp)) (by simp)
        | some u =>
          rcases start0_cases q with ⟨m, _⟩ | ⟨o2, xs, e2, rfl⟩
          · exact (nb m).elim
          · obtain ⟨g1, _⟩ := HO_ b _ q
            obtain ⟨g2, _⟩ := ok' b _ (un.frzs b o2 _ q)
            rw [e] at g1
            cases g1
            exact g2
      have grown : ∀ p ∈ cs, ∃ more : Array Value, s'.heap.get? p.2 = some { cls := .none, data := .fields more } := fun p hp => (un.tbls p.2 #[] (HT p hp)).elim fun more z => ⟨_, ok' p.2 _ z⟩
      (refine ⟨rfl, ⟨fun b o e => ?_, fun b o e => ?_⟩, os, bare⟩)
      · by_cases m : b ∈ T
        · obtain ⟨p, hp, rfl⟩ := List.mem_map.mp m
          obtain ⟨more, g⟩ := grown p hp
          rw [hT p hp] at e
          cases e
          exact .inr (.inl ⟨((hC p hp).tab (hT p hp)).isCodeTable, rfl, #[], more, rfl, by rw [Array.empty_append]; exact g⟩)
        · exact .inl (kept b o m e)
      · by_cases m : b ∈ T
        · obtain ⟨p, hp, rfl⟩ := List.mem_map.mp m
          obtain ⟨more, g⟩ := grown p hp
          exact ⟨_, g⟩
        · exact ⟨o, kept b o m e⟩
end
/-- what is known of the law's def at the head's heap -/
def LawHere (l : PySem.W.OpenLaw) (w : World) (K : PySem.W.Frag) (CX : CXT) (k n : Nat) (x : Str) (mg : Str → Option Value) (fa : Addr) (h : Heap) : Prop :=
  ∃ (fd : FuncData)
  (cs : List (Addr × Addr)) (sp : Sp), (∀ p ∈ cs, h.get? p.2 = some { cls := .none, data := .fields #[] }) ∧ (∀ p ∈ cs, K.lookup p.2 = none) ∧ (∀ p ∈ cs, PySem.W.CodeHd h p.1 p.2) ∧ (∀ (s : Shared) (u : Value), BindsTo s fd ⟨[u], []⟩ [(x, u)]) ∧
    (∀ (H : Hp)
    (a : Addr) (ns : List Int), ns.length ≤ n → (∀ z ∈ ns, Builtin.Int.intBits z ≤ 1048576) → (∀ p ∈ cs, H p.2 = some (.tbl #[])) → SqL K H a (ns.map V.int) → sp [.ref a] H (fun v _ => v = .bl true) fun _ _ _ => False) ∧
    ∀ base : Heap, K.In base → base.Ns mainGlobals mg → (∀ p ∈ cs, TabB base mg p.1 p.2) → Pn.FnG l.prog w K mg base CX k fa fd [x] sp
theorem walk_ends {l : PySem.W.OpenLaw} {n k : Nat} {q : Program} {loose : List Str} {XP : (Str → Option Value) → Heap → Prop} {YP : World → Heap → Prop} {d : DefRec} {K : Params → PySem.W.Frag} {CX : World → CXT} {x : Str}
    (hn : l.most = some n)
    (hn2 : n ≤ sizeLine) (hdf : d.params.defaults = []) (hr : Room k callerA) (hY : ∀ (w : World) (h : Heap), YP w h → (K w.params).In h)
    (here : ∀ (w : World) (mg : Str → Option Value) (fa : Addr) (h : Heap), YP w h → (K w.params).In h → h.Ns mainGlobals mg → mg d.name = some (.ref fa) → LawHere l w (K w.params) (CX w) k n x mg fa h)
    (hCX : ∀ (w : World) (H : Hp) (s : Shared) (e : Value) (s' : Shared), CX w [] H s (fun _ _ _ => False) e s' → False) : PySem.W.WalkO q loose XP YP l.row.toRowW d [] (fun f vs => PySem.call f vs) := by
  refine Att.attach_callB hn hdf ?_
  intro w s₀ s₁ mg mb fa o pm cd doc a vs ns G Y ho hd hcd hmg hobj hints hlen hbits hg
  have kin := hY w _ Y
  obtain ⟨fd, cs, sp, tabs, notK, codes, bind, word, F⟩ := here w mg fa _ Y kin G.T.g hmg
  exact call_ends kin G.T.g G.T.b G.T.builtins G.T.nolimit hg tabs notK codes G.T.bmain hobj hints (Nat.le_trans hlen hn2) hr F bind (fun H z1 z2 => word H a ns hlen hbits z1 z2) fun H e s' => hCX w H s₁ e s'
end PnEnd

set_option maxHeartbeats 1000001
/-! x is not None -/
namespace Pn
open L2 PyProof.Rows PySem.Spec PySem
def isntR : Dat → Dat → M Dat
  | .none, .none => ret (.bool false)
  | _, .none => ret (.bool true)
  | _, _ => bad
def isR : Dat → Dat → M Dat
  | .none, .none => ret (.bool true)
  | _, .none => ret (.bool false)
  | _, _ => bad
def negV (m : M Dat) : M Dat := M.bind m fun d => match d with
  | .int i => ret (.int (-i))
  | _ => bad
section
variable {F : Fr} {W : L2.WX} {σ : L2.St} {H : Hp} {X : Cx} {a b : Expr} {ma mb : M Dat} {pos : Pos}
theorem hf_isnt {G H : Hp} {c : Cfg} {x y : V} {d e : Dat} {Q : VK} {σ : L2.St} (r : Rel F G c σ H) (h1 : Rp F.K G x d) (h2 : Rp F.K G y e) (p : Po F W σ (RD F) Q G (isntR d e c)) : y = .non ∧ Q (.bl (!decide (x = .non))) H := by
  cases h2 with
  | non =>
    refine ⟨rfl, ?_⟩
    cases h1 with
    | non => exact po_ret r p (.bl _)
    | _ => exact po_ret r p (.bl _)
  | _ => cases h1 <;> exact p.elim
theorem hf_is {G H : Hp} {c : Cfg} {x y : V} {d e : Dat} {Q : VK} {σ : L2.St} (r : Rel F G c σ H) (h1 : Rp F.K G x d) (h2 : Rp F.K G y e) (p : Po F W σ (RD F) Q G (isR d e c)) : y = .non ∧ Q (.bl (decide (x = .non))) H := by
  cases h2 with
  | non =>
    refine ⟨rfl, ?_⟩
    cases h1 with
    | non => exact po_ret r p (.bl _)
    | _ => exact po_ret r p (.bl _)
  | _ => cases h1 <;> exact p.elim
theorem tis_ (ha : PE X a (Pn.E F W ma)) (hb : PE X b (Pn.E F W mb)) (hm : behindInMarks .Is b = false := by rfl) : PT X (.Compare a [.Is] [b] pos) (B F W (toB (m2 isR ma mb))) := t_cmp op_isN hf_is hm ha hb
theorem tisn_ (ha : PE X a (Pn.E F W ma)) (hb : PE X b (Pn.E F W mb)) (hm : behindInMarks .IsNot b = false := by rfl) : PT X (.Compare a [.IsNot] [b] pos) (B F W (toB (m2 isntR ma mb))) := t_cmp op_notN hf_isnt hm ha hb
theorem neg_ {a : Expr} {m : M Dat} {pos : Pos} (h : PE X a (Pn.E F W m)) : PE X (.UnaryOp .USub a pos) (Pn.E F W (negV m)) :=
  (pe_un un_neg h).mono fun σ H Q h => sx_mono (sx_bind (R1 := RD F) h) fun x H1 ⟨d, G1, c1, r1, q, p⟩ => by
    cases q with
    | int i => exact ⟨i, rfl, po_ret r1 p (.int _)⟩
    | _ => exact p.elim
end
end Pn

set_option maxHeartbeats 4000001
namespace Pn
open L2 PyProof.Rows PySem.Spec PySem
def top (i : Nat) : Stmt := PySem.Challenge.pw_passednames_k00_parts_of_programs.main.body.getD i (.Pass ⟨0, 0, 0, 0⟩)
def d_ROWS : Dat := (.tuple [(.str "one"), (.str "beside")])
def d_WITH_TWO_NAMES : Dat := (.tuple [(.str "send"), (.str "take"), (.str "alike"), (.str "unlike")])
def d_WITH_NAMES : Dat := (.tuple [(.str "sends"), (.str "takes")])
def d_MOST_BRANCHES : Dat := (.int 20)
def d_MOST_BESIDE : Dat := (.int 4)
def d_MOST_IN_ROW : Dat := (.int 3)
def d_HOLED_MAIN : Dat := (.str "holed main")
def d_ROW_BODY : Dat := (.str "row body")
def d_ROW_MAIN : Dat := (.str "row main")
def d_BRANCHES : Dat := (.tuple [(.str "send"), (.str "take"), (.str "wait"), (.str "sends"), (.str "takes"), (.str "alike"), (.str "unlike")])
def d_BODY : Dat := (.str "body")
def d_MOST_PARAMS : Dat := (.int 4)
def d_MOST_DEFINITIONS : Dat := (.int 4)
def d_MOST_DEEP : Dat := (.int 12)
def d_MOST_PARTS : Dat := (.int 80)
def d_TESTS : Dat := (.tuple [(.str "alike"), (.str "unlike")])
def d_PREFIXES : Dat := (.tuple [(.str "send"), (.str "take"), (.str "wait"), (.str "sends"), (.str "takes")])
def d_MAIN : Dat := (.str "main")
structure Glo (K : PySem.W.Frag) (mg : Str → Option Value) : Prop where
  b_all : mg "all" = none
  b_bool : mg "bool" = none
  b_enumerate : mg "enumerate" = none
  b_int : mg "int" = none
  b_isinstance : mg "isinstance" = none
  b_len : mg "len" = none
  b_list : mg "list" = none
  b_max : mg "max" = none
  b_min : mg "min" = none
  b_range : mg "range" = none
  b_reversed : mg "reversed" = none
  b_set : mg "set" = none
  b_sorted : mg "sorted" = none
  b_str : mg "str" = none
  b_tuple : mg "tuple" = none
  ROWS : GloD K mg "ROWS" d_ROWS
  WITH_TWO_NAMES : GloD K mg "WITH_TWO_NAMES" d_WITH_TWO_NAMES
  WITH_NAMES : GloD K mg "WITH_NAMES" d_WITH_NAMES
  MOST_BRANCHES : GloD K mg "MOST_BRANCHES" d_MOST_BRANCHES
  MOST_BESIDE : GloD K mg "MOST_BESIDE" d_MOST_BESIDE
  MOST_IN_ROW : GloD K mg "MOST_IN_ROW" d_MOST_IN_ROW
  HOLED_MAIN : GloD K mg "HOLED_MAIN" d_HOLED_MAIN
  ROW_BODY : GloD K mg "ROW_BODY" d_ROW_BODY
  ROW_MAIN : GloD K mg "ROW_MAIN" d_ROW_MAIN
  BRANCHES : GloD K mg "BRANCHES" d_BRANCHES
  BODY : GloD K mg "BODY" d_BODY
  MOST_PARAMS : GloD K mg "MOST_PARAMS" d_MOST_PARAMS
  MOST_DEFINITIONS : GloD K mg "MOST_DEFINITIONS" d_MOST_DEFINITIONS
  MOST_DEEP : GloD K mg "MOST_DEEP" d_MOST_DEEP
  MOST_PARTS : GloD K mg "MOST_PARTS" d_MOST_PARTS
  TESTS : GloD K mg "TESTS" d_TESTS
  PREFIXES : GloD K mg "PREFIXES" d_PREFIXES
  MAIN : GloD K mg "MAIN" d_MAIN
section
variable {P : Program} {w : World} {K : PySem.W.Frag} {mg : Str → Option Value} {base : Heap} {C : Cls}
def m_is_integer : M Ctl := retS (asx (andV (M.bind (rd 0) (isiR "int")) (notV (M.bind (rd 0) (isiR "bool")))))
def g_is_integer : List Dat → PR := runP 1 m_is_integer
theorem sc_is_integer : FnScope ["value"] ["value"] (defScope (top 8)) := ⟨rfl, rfl, rfl, by decide +kernel, rfl, by decide +kernel, by decide +kernel⟩
theorem ok_is_integer {f : Addr} {fd : FuncData} (Fn : Fun K "is_integer" "is_integer" (top 8) f fd) (Z : Glo K mg)  : FnOk P w K mg base (L2.CX P w) 1 f fd ["value"] (spP K C 1 g_is_integer) :=
  fn_pure Fn sc_is_integer (by decide) fun G0 H0 cdv A outer s E hr => ss_one (s_ret (e_asx (e_and (isi_ "int" Z.b_isinstance Z.b_int (v_ 0)) (e_one (e_not (isi_ "bool" Z.b_isinstance Z.b_bool (v_ 0)))))))

def m_is_from_zero : M Ctl := retS (asx (andV (frz (callN 1 g_is_integer (aCons (rd 0) (aNil)))) (m2 geI (rd 0) (ret (.int 0)))))
def g_is_from_zero : List Dat → PR := runP 1 m_is_from_zero
theorem sc_is_from_zero : FnScope ["value"] ["value"] (defScope (top 9)) := ⟨rfl, rfl, rfl, by decide +kernel, rfl, by decide +kernel, by decide +kernel⟩
theorem ok_is_from_zero {f : Addr} {fd : FuncData} (Fn : Fun K "is_from_zero" "is_from_zero" (top 9) f fd) (Z : Glo K mg) (h_is_integer : Has P w K mg base C "is_integer" 1 1 g_is_integer) : FnOk P w K mg base (L2.CX P w) 2 f fd ["value"] (spP K C 1 g_is_from_zero) :=
  fn_pure Fn sc_is_from_zero (by decide) fun G0 H0 cdv A outer s E hr => ss_one (s_ret (e_asx (e_and (e_frz (call_ h_is_integer hr tkC (a_cons (v_ 0) (a_nil)))) (e_one (e_ge (v_ 0) (e_int))))))

def m_is_below : M Ctl := retS (asx (andV (frz (callN 1 g_is_from_zero (aCons (rd 0) (aNil)))) (m2 ltI (rd 0) (rd 1))))
def g_is_below : List Dat → PR := runP 2 m_is_below
theorem sc_is_below : FnScope ["value", "end"] ["value", "end"] (defScope (top 10)) := ⟨rfl, rfl, rfl, by decide +kernel, rfl, by decide +kernel, by decide +kernel⟩
theorem ok_is_below {f : Addr} {fd : FuncData} (Fn : Fun K "is_below" "is_below" (top 10) f fd) (Z : Glo K mg) (h_is_from_zero : Has P w K mg base C "is_from_zero" 2 1 g_is_from_zero) : FnOk P w K mg base (L2.CX P w) 3 f fd ["value", "end"] (spP K C 2 g_is_below) :=
  fn_pure Fn sc_is_below (by decide) fun G0 H0 cdv A outer s E hr => ss_one (s_ret (e_asx (e_and (e_frz (call_ h_is_from_zero hr tkC (a_cons (v_ 0) (a_nil)))) (e_one (e_lt (v_ 0) (v_ 1))))))

def m_is_name : M Ctl := retS (callN 2 g_is_below (aCons (rd 0) (aCons (ret (.int 10)) (aNil))))
def g_is_name : List Dat → PR := runP 1 m_is_name
theorem sc_is_name : FnScope ["value"] ["value"] (defScope (top 11)) := ⟨rfl, rfl, rfl, by decide +kernel, rfl, by decide +kernel, by decide +kernel⟩
theorem ok_is_name {f : Addr} {fd : FuncData} (Fn : Fun K "is_name" "is_name" (top 11) f fd) (Z : Glo K mg) (h_is_below : Has P w K mg base C "is_below" 3 2 g_is_below) : FnOk P w K mg base (L2.CX P w) 4 f fd ["value"] (spP K C 1 g_is_name) :=
  fn_pure Fn sc_is_name (by decide) fun G0 H0 cdv A outer s E hr => ss_one (s_ret (call_ h_is_below hr tkC (a_cons (v_ 0) (a_cons (e_int) (a_nil)))))

def m_is_row_of : M Ctl := retS (asx (andV (M.bind (rd 0) (isiR "tuple")) (m2 eqD (M.bind (rowVar 0) lenR) (rd 1))))
def g_is_row_of : List Dat → PR := runP 2 m_is_row_of
theorem sc_is_row_of : FnScope ["value", "many"] ["value", "many"] (defScope (top 12)) := ⟨rfl, rfl, rfl, by decide +kernel, rfl, by decide +kernel, by decide +kernel⟩
theorem ok_is_row_of {f : Addr} {fd : FuncData} (Fn : Fun K "is_row_of" "is_row_of" (top 12) f fd) (Z : Glo K mg)  : FnOk P w K mg base (L2.CX P w) 1 f fd ["value", "many"] (spP K C 2 g_is_row_of) :=
  fn_pure Fn sc_is_row_of (by decide) fun G0 H0 cdv A outer s E hr => ss_one (s_ret (e_asx (e_and (isi_ "tuple" Z.b_isinstance Z.b_tuple (v_ 0)) (e_one (eq_ hr.units (len_ Z.b_len (rv_ 0)) (v_ 1))))))

def m_is_row_up_to : M Ctl := retS (asx (andV (M.bind (rd 0) (isiR "tuple")) (m2 leI (M.bind (rowVar 0) lenR) (rd 1))))
def g_is_row_up_to : List Dat → PR := runP 2 m_is_row_up_to
theorem sc_is_row_up_to : FnScope ["value", "most"] ["value", "most"] (defScope (top 13)) := ⟨rfl, rfl, rfl, by decide +kernel, rfl, by decide +kernel, by decide +kernel⟩
theorem ok_is_row_up_to {f : Addr} {fd : FuncData} (Fn : Fun K "is_row_up_to" "is_row_up_to" (top 13) f fd) (Z : Glo K mg)  : FnOk P w K mg base (L2.CX P w) 1 f fd ["value", "most"] (spP K C 2 g_is_row_up_to) :=
  fn_pure Fn sc_is_row_up_to (by decide) fun G0 H0 cdv A outer s E hr => ss_one (s_ret (e_asx (e_and (isi_ "tuple" Z.b_isinstance Z.b_tuple (v_ 0)) (e_one (e_le (len_ Z.b_len (rv_ 0)) (v_ 1))))))

def m_are_names : M Ctl := retS (asx (andV (M.bind (rd 0) (isiR "tuple")) (M.bind (rowX (M.bind (M.bind (rd 0) itT) (lcM [1] (put 1) (ret true) (frz (callN 1 g_is_name (aCons (rd 1) (aNil))))))) allR)))
def g_are_names : List Dat → PR := runP 2 m_are_names
theorem sc_are_names : FnScope ["value", "item"] ["value"] (defScope (top 14)) := ⟨rfl, rfl, rfl, by decide +kernel, rfl, by decide +kernel, by decide +kernel⟩
theorem ok_are_names {f : Addr} {fd : FuncData} (Fn : Fun K "are_names" "are_names" (top 14) f fd) (Z : Glo K mg) (h_is_name : Has P w K mg base C "is_name" 4 1 g_is_name) : FnOk P w K mg base (L2.CX P w) 5 f fd ["value"] (spP K C 1 g_are_names) :=
  fn_pure Fn sc_are_names (by decide) fun G0 H0 cdv A outer s E hr => ss_one (s_ret (e_asx (e_and (isi_ "tuple" Z.b_isinstance Z.b_tuple (v_ 0)) (e_one (all_ Z.b_all (r_new (lc1_ ["value", "item"] (defScope (top 14)) sc_are_names.nd 1 (i_tup rfl (v_ 0)) (fun _ _ _ _ _ _ => e_frz (call_ h_is_name hr L2.takes0 (a_cons (v_ 1) (a_nil)))))))))))

def m_are_from_zero : M Ctl := retS (asx (andV (M.bind (rd 0) (isiR "tuple")) (M.bind (rowX (M.bind (M.bind (rd 0) itT) (lcM [1] (put 1) (ret true) (frz (callN 1 g_is_from_zero (aCons (rd 1) (aNil))))))) allR)))
def g_are_from_zero : List Dat → PR := runP 2 m_are_from_zero
theorem sc_are_from_zero : FnScope ["value", "item"] ["value"] (defScope (top 15)) := ⟨rfl, rfl, rfl, by decide +kernel, rfl, by decide +kernel, by decide +kernel⟩
theorem ok_are_from_zero {f : Addr} {fd : FuncData} (Fn : Fun K "are_from_zero" "are_from_zero" (top 15) f fd) (Z : Glo K mg) (h_is_from_zero : Has P w K mg base C "is_from_zero" 2 1 g_is_from_zero) : FnOk P w K mg base (L2.CX P w) 3 f fd ["value"] (spP K C 1 g_are_from_zero) :=
  fn_pure Fn sc_are_from_zero (by decide) fun G0 H0 cdv A outer s E hr => ss_one (s_ret (e_asx (e_and (isi_ "tuple" Z.b_isinstance Z.b_tuple (v_ 0)) (e_one (all_ Z.b_all (r_new (lc1_ ["value", "item"] (defScope (top 15)) sc_are_from_zero.nd 1 (i_tup rfl (v_ 0)) (fun _ _ _ _ _ _ => e_frz (call_ h_is_from_zero hr L2.takes0 (a_cons (v_ 1) (a_nil)))))))))))

def m_are_unlike : M Ctl := retS (asx (m2 eqD (M.bind (rowVar 0) setLenR) (M.bind (rowVar 0) lenR)))
def g_are_unlike : List Dat → PR := runP 1 m_are_unlike
theorem sc_are_unlike : FnScope ["row"] ["row"] (defScope (top 16)) := ⟨rfl, rfl, rfl, by decide +kernel, rfl, by decide +kernel, by decide +kernel⟩
theorem ok_are_unlike {f : Addr} {fd : FuncData} (Fn : Fun K "are_unlike" "are_unlike" (top 16) f fd) (Z : Glo K mg)  : FnOk P w K mg base (L2.CX P w) 1 f fd ["row"] (spP K C 1 g_are_unlike) :=
  fn_pure Fn sc_are_unlike (by decide) fun G0 H0 cdv A outer s E hr => ss_one (s_ret (e_asx (eq_ hr.units (setLen_ Z.b_len Z.b_set (rv_ 0)) (len_ Z.b_len (rv_ 0)))))

def m_parts_below : M Ctl := seq (M.bind (asx (ixD (rd 0) (ret (.int 0)))) (asg 1)) (seq (ifS (toB (inM false (rd 1) (rowD (ret d_ROWS)))) (retS (M.bind (M.bind (ixD (rd 0) (ret (.int 1))) enT) (lcM [2, 3] (putTup 2 (putCons (put 2) (putCons (put 3) (putNil)))) (ret true) (M.bind (aCons (M.bind (aCons (ret (.int 1)) (aCons (rd 2) (aNil))) tupD) (aCons (rd 3) (aNil))) tupD)))) (ret .nx)) (seq (ifS (orB (toB (inM false (rd 1) (rowD (ret d_WITH_TWO_NAMES)))) (toB (inM false (rd 1) (rowD (ret d_WITH_NAMES))))) (retS (M.bind (aCons (M.bind (aCons (M.bind (aCons (ret (.int 3)) (aNil)) tupD) (aCons (ixD (rd 0) (ret (.int 3))) (aNil))) tupD) (aNil)) lstD)) (ret .nx)) (seq (ifS (toB (m2 eqD (rd 1) (ret (.str "wait")))) (retS (M.bind (aCons (M.bind (aCons (M.bind (aCons (ret (.int 1)) (aNil)) tupD) (aCons (ixD (rd 0) (ret (.int 1))) (aNil))) tupD) (aNil)) lstD)) (ret .nx)) (seq (ifS (toB (m2 eqD (rd 1) (ret (.str "new")))) (retS (M.bind (aCons (M.bind (aCons (M.bind (aCons (ret (.int 2)) (aNil)) tupD) (aCons (ixD (rd 0) (ret (.int 2))) (aNil))) tupD) (aNil)) lstD)) (ret .nx)) (retS (M.bind (aNil) lstD))))))
def g_parts_below : List Dat → PR := runP 4 m_parts_below
theorem sc_parts_below : FnScope ["piece", "word", "place", "part"] ["piece"] (defScope (top 24)) := ⟨rfl, rfl, rfl, by decide +kernel, rfl, by decide +kernel, by decide +kernel⟩
theorem ok_parts_below {f : Addr} {fd : FuncData} (Fn : Fun K "parts_below" "parts_below" (top 24) f fd) (Z : Glo K mg)  : FnOk P w K mg base (L2.CX P w) 1 f fd ["piece"] (spP K C 1 g_parts_below) :=
  fn_pure Fn sc_parts_below (by decide) fun G0 H0 cdv A outer s E hr => ss_cons (as_ 1 sc_parts_below.nd (e_asx (ix_ (v_ 0) (e_int)))) (ss_cons (s_if (tin_ (v_ 1) (r_data (g_ Z.ROWS))) (ss_one (s_ret (lcT_ ["piece", "word", "place", "part"] (defScope (top 24)) [("place", 2), ("part", 3)] sc_parts_below.nd (i_enumT rfl rfl Z.b_enumerate (ix_ (v_ 0) (e_int))) (fun _ _ _ _ _ => pg_tup rfl (pgs_cons (pgn_ 2 sc_parts_below.nd) (pgs_cons (pgn_ 3 sc_parts_below.nd) (pgs_nil)))) (fun _ => gok_tup rfl (gsok_cons (gok_name) (gsok_cons (gok_name) (gsok_nil)))) (fun _ _ _ _ _ => pts_nil) (fun ps σ H Q h => noif ps σ H Q h) (fun _ _ _ _ _ _ => e_tup (a_cons (e_tup (a_cons (e_int) (a_cons (v_ 2) (a_nil)))) (a_cons (v_ 3) (a_nil))))))) (ss_nil)) (ss_cons (s_if (L2.PW.pt (w_or (tin_ (v_ 1) (r_data (g_ Z.WITH_TWO_NAMES))) (w_or1 (tin_ (v_ 1) (r_data (g_ Z.WITH_NAMES)))))) (ss_one (s_ret (e_lst (a_cons (e_tup (a_cons (e_tup (a_cons (e_int) (a_nil))) (a_cons (ix_ (v_ 0) (e_int)) (a_nil)))) (a_nil))))) (ss_nil)) (ss_cons (s_if (teq_ hr.units (v_ 1) (e_str)) (ss_one (s_ret (e_lst (a_cons (e_tup (a_cons (e_tup (a_cons (e_int) (a_nil))) (a_cons (ix_ (v_ 0) (e_int)) (a_nil)))) (a_nil))))) (ss_nil)) (ss_cons (s_if (teq_ hr.units (v_ 1) (e_str)) (ss_one (s_ret (e_lst (a_cons (e_tup (a_cons (e_tup (a_cons (e_int) (a_nil))) (a_cons (ix_ (v_ 0) (e_int)) (a_nil)))) (a_nil))))) (ss_nil)) (ss_one (s_ret (e_lst (a_nil))))))))

def m_with_part_at (rec : List Dat → PR) : M Ctl := seq (ifS (notB (M.bind (rowVar 1) truR)) (retS (asx (rd 2))) (ret .nx)) (seq (M.bind (asx (ixD (rd 1) (ret (.int 0)))) (asg 3)) (retS (M.bind (frz (M.bind (frz (slM (rd 0) (ret none) (partO (rd 3)))) fun x => M.bind (M.bind (aCons (frz (callN 3 rec (aCons (ixD (rd 0) (rd 3)) (aCons (frz (slM (rd 1) (partO (ret (.int 1))) (ret none))) (aCons (rd 2) (aNil)))))) (aNil)) tupD) fun y => catD x y)) fun x => M.bind (frz (slM (rd 0) (partO (m2 addI (rd 3) (ret (.int 1)))) (ret none))) fun y => catD x y)))
def g_with_part_at : Nat → List Dat → PR
  | 0 => fun _ => .bad
  | k + 1 => runP 4 (m_with_part_at (g_with_part_at k))
theorem sc_with_part_at : FnScope ["whole", "path", "part", "place"] ["whole", "path", "part"] (defScope (top 25)) := ⟨rfl, rfl, rfl, by decide +kernel, rfl, by decide +kernel, by decide +kernel⟩
theorem ok_with_part_at {f : Addr} {fd : FuncData} (Fn : Fun K "with_part_at" "with_part_at" (top 25) f fd) (a : At K mg "with_part_at" f fd ["whole", "path", "part"]) (Z : Glo K mg)  : ∀ k : Nat, FnOk P w K mg base (L2.CX P w) (1 + k) f fd ["whole", "path", "part"] (spP K C 3 (g_with_part_at k))
  | 0 => fn_none
  | k + 1 => by
    have h_with_part_at : Has P w K mg base C "with_part_at" (1 + k) 3 (g_with_part_at k) := a.has rfl (ok_with_part_at Fn a Z  k)
    exact fn_pure (k := 1 + k) Fn sc_with_part_at (by decide) fun G0 H0 cdv A outer s E hr => ss_cons (s_if (t_not (trow_ (rv_ 1))) (ss_one (s_ret (e_asx (v_ 2)))) (ss_nil)) (ss_cons (as_ 3 sc_with_part_at.nd (e_asx (ix_ (v_ 1) (e_int)))) (ss_one (s_ret (cat_ (e_frz (cat_ (e_frz (sl_ (v_ 0) (o_none) (o_some (v_ 3)))) (e_tup (a_cons (e_frz (call_ h_with_part_at hr tkC (a_cons (ix_ (v_ 0) (v_ 3)) (a_cons (e_frz (sl_ (v_ 1) (o_some (e_int)) (o_none))) (a_cons (v_ 2) (a_nil)))) (by omega))) (a_nil))))) (e_frz (sl_ (v_ 0) (o_some (e_add (v_ 3) (e_int))) (o_none)))))))

def m_bound_name : M Ctl := seq (ifS (toB (m2 eqD (ixD (rd 0) (ret (.int 0))) (ret (.str "take")))) (retS (asx (ixD (rd 0) (ret (.int 2))))) (ret .nx)) (seq (ifS (toB (m2 eqD (ixD (rd 0) (ret (.int 0))) (ret (.str "new")))) (retS (asx (ixD (rd 0) (ret (.int 1))))) (ret .nx)) (retS (asx (ret .none))))
def g_bound_name : List Dat → PR := runP 1 m_bound_name
theorem sc_bound_name : FnScope ["piece"] ["piece"] (defScope (top 26)) := ⟨rfl, rfl, rfl, by decide +kernel, rfl, by decide +kernel, by decide +kernel⟩
theorem ok_bound_name {f : Addr} {fd : FuncData} (Fn : Fun K "bound_name" "bound_name" (top 26) f fd) (Z : Glo K mg)  : FnOk P w K mg base (L2.CX P w) 1 f fd ["piece"] (spP K C 1 g_bound_name) :=
  fn_pure Fn sc_bound_name (by decide) fun G0 H0 cdv A outer s E hr => ss_cons (s_if (teq_ hr.units (ix_ (v_ 0) (e_int)) (e_str)) (ss_one (s_ret (e_asx (ix_ (v_ 0) (e_int))))) (ss_nil)) (ss_cons (s_if (teq_ hr.units (ix_ (v_ 0) (e_int)) (e_str)) (ss_one (s_ret (e_asx (ix_ (v_ 0) (e_int))))) (ss_nil)) (ss_one (s_ret (e_asx (e_non)))))

def m_bound_names : M Ctl := seq (ifS (toB (m2 eqD (ixD (rd 0) (ret (.int 0))) (ret (.str "takes")))) (retS (asx (ixD (rd 0) (ret (.int 2))))) (ret .nx)) (seq (M.bind (asx (frz (callN 1 g_bound_name (aCons (rd 0) (aNil))))) (asg 1)) (retS (asx (ifE (toB (m2 isR (rd 1) (ret .none))) (M.bind (aNil) tupD) (M.bind (aCons (rd 1) (aNil)) tupD)))))
def g_bound_names : List Dat → PR := runP 2 m_bound_names
theorem sc_bound_names : FnScope ["piece", "name"] ["piece"] (defScope (top 27)) := ⟨rfl, rfl, rfl, by decide +kernel, rfl, by decide +kernel, by decide +kernel⟩
theorem ok_bound_names {f : Addr} {fd : FuncData} (Fn : Fun K "bound_names" "bound_names" (top 27) f fd) (Z : Glo K mg) (h_bound_name : Has P w K mg base C "bound_name" 1 1 g_bound_name) : FnOk P w K mg base (L2.CX P w) 2 f fd ["piece"] (spP K C 1 g_bound_names) :=
  fn_pure Fn sc_bound_names (by decide) fun G0 H0 cdv A outer s E hr => ss_cons (s_if (teq_ hr.units (ix_ (v_ 0) (e_int)) (e_str)) (ss_one (s_ret (e_asx (ix_ (v_ 0) (e_int))))) (ss_nil)) (ss_cons (as_ 1 sc_bound_names.nd (e_asx (e_frz (call_ h_bound_name hr tkC (a_cons (v_ 0) (a_nil)))))) (ss_one (s_ret (e_asx (e_if (tis_ (v_ 1) (e_non)) (e_tup (a_nil)) (e_tup (a_cons (v_ 1) (a_nil))))))))

def m_own_names : M Ctl := seq (M.bind (asx (ixD (rd 0) (ret (.int 0)))) (asg 1)) (seq (ifS (toB (inM false (rd 1) (rowD (M.bind (aCons (ret (.str "send")) (aCons (ret (.str "alike")) (aCons (ret (.str "unlike")) (aNil)))) tupD)))) (retS (slM (rd 0) (partO (ret (.int 1))) (partO (ret (.int 3))))) (ret .nx)) (seq (ifS (toB (inM false (rd 1) (rowD (M.bind (aCons (ret (.str "take")) (aCons (ret (.str "takes")) (aNil))) tupD)))) (retS (slM (rd 0) (partO (ret (.int 1))) (partO (ret (.int 2))))) (ret .nx)) (seq (ifS (toB (m2 eqD (rd 1) (ret (.str "sends")))) (retS (M.bind (frz (slM (rd 0) (partO (ret (.int 1))) (partO (ret (.int 2))))) fun x => M.bind (ixD (rd 0) (ret (.int 2))) fun y => catD x y)) (ret .nx)) (seq (ifS (toB (m2 eqD (rd 1) (ret (.str "call")))) (retS (asx (ixD (rd 0) (ret (.int 2))))) (ret .nx)) (retS (asx (M.bind (aNil) tupD)))))))
def g_own_names : List Dat → PR := runP 2 m_own_names
theorem sc_own_names : FnScope ["piece", "word"] ["piece"] (defScope (top 28)) := ⟨rfl, rfl, rfl, by decide +kernel, rfl, by decide +kernel, by decide +kernel⟩
theorem ok_own_names {f : Addr} {fd : FuncData} (Fn : Fun K "own_names" "own_names" (top 28) f fd) (Z : Glo K mg)  : FnOk P w K mg base (L2.CX P w) 1 f fd ["piece"] (spP K C 1 g_own_names) :=
  fn_pure Fn sc_own_names (by decide) fun G0 H0 cdv A outer s E hr => ss_cons (as_ 1 sc_own_names.nd (e_asx (ix_ (v_ 0) (e_int)))) (ss_cons (s_if (tin_ (v_ 1) (r_data (e_tup (a_cons (e_str) (a_cons (e_str) (a_cons (e_str) (a_nil))))))) (ss_one (s_ret (sl_ (v_ 0) (o_some (e_int)) (o_some (e_int))))) (ss_nil)) (ss_cons (s_if (tin_ (v_ 1) (r_data (e_tup (a_cons (e_str) (a_cons (e_str) (a_nil)))))) (ss_one (s_ret (sl_ (v_ 0) (o_some (e_int)) (o_some (e_int))))) (ss_nil)) (ss_cons (s_if (teq_ hr.units (v_ 1) (e_str)) (ss_one (s_ret (cat_ (e_frz (sl_ (v_ 0) (o_some (e_int)) (o_some (e_int)))) (ix_ (v_ 0) (e_int))))) (ss_nil)) (ss_cons (s_if (teq_ hr.units (v_ 1) (e_str)) (ss_one (s_ret (e_asx (ix_ (v_ 0) (e_int))))) (ss_nil)) (ss_one (s_ret (e_asx (e_tup (a_nil)))))))))

def m_free_of (rec : List Dat → PR) : M Ctl := seq (M.bind (M.bind (rowX (callN 1 g_own_names (aCons (rd 0) (aNil)))) lstR) (asg 1)) (seq (M.bind (asx (frz (callN 1 g_bound_names (aCons (rd 0) (aNil))))) (asg 2)) (seq (M.bind (M.bind (frz (callN 1 g_parts_below (aCons (rd 0) (aNil)))) itL) fun items => forL (putTup 2 (putCons (put 3) (putCons (put 4) (putNil)))) (dropS (extV 1 (rowX (M.bind (M.bind (frz (callN 1 rec (aCons (rd 4) (aNil)))) itT) (lcM [5] (put 5) (toB (inM true (rd 5) (rowVar 2))) (rd 5)))))) items) (retS (asx (M.bind (rowX (M.bind (rowVar 1) setSortR)) tupR)))))
def g_free_of : Nat → List Dat → PR
  | 0 => fun _ => .bad
  | k + 1 => runP 6 (m_free_of (g_free_of k))
theorem sc_free_of : FnScope ["piece", "found", "bound", "_", "part", "name"] ["piece"] (defScope (top 29)) := ⟨rfl, rfl, rfl, by decide +kernel, rfl, by decide +kernel, by decide +kernel⟩
theorem ok_free_of {f : Addr} {fd : FuncData} (Fn : Fun K "free_of" "free_of" (top 29) f fd) (a : At K mg "free_of" f fd ["piece"]) (Z : Glo K mg) (h_own_names : Has P w K mg base C "own_names" 1 1 g_own_names) (h_bound_names : Has P w K mg base C "bound_names" 2 1 g_bound_names) (h_parts_below : Has P w K mg base C "parts_below" 1 1 g_parts_below) : ∀ k : Nat, FnOk P w K mg base (L2.CX P w) (3 + k) f fd ["piece"] (spP K C 1 (g_free_of k))
  | 0 => fn_none
  | k + 1 => by
    have h_free_of : Has P w K mg base C "free_of" (3 + k) 1 (g_free_of k) := a.has rfl (ok_free_of Fn a Z h_own_names h_bound_names h_parts_below k)
    exact fn_pure (k := 3 + k) Fn sc_free_of (by decide) fun G0 H0 cdv A outer s E hr => ss_cons (as_ 1 sc_free_of.nd (list_ Z.b_list (r_new (call_ h_own_names hr tkC (a_cons (v_ 0) (a_nil)) (by omega))))) (ss_cons (as_ 2 sc_free_of.nd (e_asx (e_frz (call_ h_bound_names hr tkC (a_cons (v_ 0) (a_nil)) (by omega))))) (ss_cons (s_for poC rfl (i_list rfl (e_frz (call_ h_parts_below hr tkC (a_cons (v_ 0) (a_nil)) (by omega)))) (tg_tup rfl rfl (tgs_cons (tn_ 3 sc_free_of.nd) (tgs_cons (tn_ 4 sc_free_of.nd) (tgs_nil)))) (ss_one (s_expr (ext_ 1 (r_new (lcI_ ["piece", "found", "bound", "_", "part", "name"] (defScope (top 29)) [("name", 5)] sc_free_of.nd (i_tup rfl (e_frz (call_ h_free_of hr tkC (a_cons (v_ 4) (a_nil)) (by omega)))) (fun _ _ _ _ _ => pgn_ 5 sc_free_of.nd) (fun _ => gok_name) (fun _ _ _ _ _ _ => tnin_ (v_ 5) (rv_ 2)) (fun _ _ _ _ _ _ => v_ 5))))))) (ss_one (s_ret (e_asx (tuple_ Z.b_tuple (r_new (setSort_ Z.b_sorted Z.b_set (rv_ 1)))))))))

def m_depth_below (rec : List Dat → PR) : M Ctl := retS (asx (m2 addI (ret (.int 1)) (M.bind (rowX (M.bind (M.bind (frz (callN 1 g_parts_below (aCons (rd 0) (aNil)))) itL) (lcM [1, 2] (putTup 2 (putCons (put 1) (putCons (put 2) (putNil)))) (ret true) (frz (callN 1 rec (aCons (rd 2) (aNil))))))) (maxDfR 0))))
def g_depth_below : Nat → List Dat → PR
  | 0 => fun _ => .bad
  | k + 1 => runP 3 (m_depth_below (g_depth_below k))
theorem sc_depth_below : FnScope ["piece", "_", "part"] ["piece"] (defScope (top 30)) := ⟨rfl, rfl, rfl, by decide +kernel, rfl, by decide +kernel, by decide +kernel⟩
theorem ok_depth_below {f : Addr} {fd : FuncData} (Fn : Fun K "depth_below" "depth_below" (top 30) f fd) (a : At K mg "depth_below" f fd ["piece"]) (Z : Glo K mg) (h_parts_below : Has P w K mg base C "parts_below" 1 1 g_parts_below) : ∀ k : Nat, FnOk P w K mg base (L2.CX P w) (2 + k) f fd ["piece"] (spP K C 1 (g_depth_below k))
  | 0 => fn_none
  | k + 1 => by
    have h_depth_below : Has P w K mg base C "depth_below" (2 + k) 1 (g_depth_below k) := a.has rfl (ok_depth_below Fn a Z h_parts_below k)
    exact fn_pure (k := 2 + k) Fn sc_depth_below (by decide) fun G0 H0 cdv A outer s E hr => ss_one (s_ret (e_asx (e_add (e_int) (e_maxDf rfl rfl (room2 hr) rfl Z.b_max (r_new (lcT_ ["piece", "_", "part"] (defScope (top 30)) [("_", 1), ("part", 2)] sc_depth_below.nd (i_list rfl (e_frz (call_ h_parts_below hr tkC (a_cons (v_ 0) (a_nil)) (by omega)))) (fun _ _ _ _ _ => pg_tup rfl (pgs_cons (pgn_ 1 sc_depth_below.nd) (pgs_cons (pgn_ 2 sc_depth_below.nd) (pgs_nil)))) (fun _ => gok_tup rfl (gsok_cons (gok_name) (gsok_cons (gok_name) (gsok_nil)))) (fun _ _ _ _ _ => pts_nil) (fun ps σ H Q h => noif ps σ H Q h) (fun _ _ _ _ _ _ => e_frz (call_ h_depth_below hr L2.takes0 (a_cons (v_ 2) (a_nil)) (by omega)))))))))

def m_is_call : M Ctl := retS (asx (andV (frz (callN 2 g_is_below (aCons (rd 0) (aCons (M.bind (rowVar 2) lenR) (aNil))))) (andV (frz (callN 2 g_is_row_of (aCons (rd 1) (aCons (ixD (rd 2) (rd 0)) (aNil))))) (frz (callN 1 g_are_names (aCons (rd 1) (aNil)))))))
def g_is_call : List Dat → PR := runP 3 m_is_call
theorem sc_is_call : FnScope ["number", "names", "counts"] ["number", "names", "counts"] (defScope (top 52)) := ⟨rfl, rfl, rfl, by decide +kernel, rfl, by decide +kernel, by decide +kernel⟩
theorem ok_is_call {f : Addr} {fd : FuncData} (Fn : Fun K "is_call" "is_call" (top 52) f fd) (Z : Glo K mg) (h_is_below : Has P w K mg base C "is_below" 3 2 g_is_below) (h_is_row_of : Has P w K mg base C "is_row_of" 1 2 g_is_row_of) (h_are_names : Has P w K mg base C "are_names" 5 1 g_are_names) : FnOk P w K mg base (L2.CX P w) 6 f fd ["number", "names", "counts"] (spP K C 3 g_is_call) :=
  fn_pure Fn sc_is_call (by decide) fun G0 H0 cdv A outer s E hr => ss_one (s_ret (e_asx (e_and (e_frz (call_ h_is_below hr tkC (a_cons (v_ 0) (a_cons (len_ Z.b_len (rv_ 2)) (a_nil))))) (e_and (e_frz (call_ h_is_row_of hr tkC (a_cons (v_ 1) (a_cons (ix_ (v_ 2) (v_ 0)) (a_nil))))) (e_one (e_frz (call_ h_are_names hr tkC (a_cons (v_ 1) (a_nil)))))))))

def m_has_form : M Ctl := seq (ifS (orB (notB (toB (M.bind (rd 0) (isiR "tuple")))) (orB (notB (M.bind (rowVar 0) truR)) (notB (toB (M.bind (ixD (rd 0) (ret (.int 0))) (isiR "str")))))) (retS (asx (ret (.bool false)))) (ret .nx)) (seq (M.bind (asx (ixD (rd 0) (ret (.int 0)))) (asg 2)) (seq (ifS (toB (inM false (rd 2) (rowD (ret d_WITH_TWO_NAMES)))) (retS (asx (andV (frz (callN 2 g_is_row_of (aCons (rd 0) (aCons (ret (.int 4)) (aNil))))) (andV (frz (callN 1 g_is_name (aCons (ixD (rd 0) (ret (.int 1))) (aNil)))) (frz (callN 1 g_is_name (aCons (ixD (rd 0) (ret (.int 2))) (aNil)))))))) (ret .nx)) (seq (ifS (toB (m2 eqD (rd 2) (ret (.str "wait")))) (retS (callN 2 g_is_row_of (aCons (rd 0) (aCons (ret (.int 2)) (aNil))))) (ret .nx)) (seq (ifS (toB (m2 eqD (rd 2) (ret (.str "one")))) (retS (asx (andV (frz (callN 2 g_is_row_of (aCons (rd 0) (aCons (ret (.int 2)) (aNil))))) (frz (callN 2 g_is_row_up_to (aCons (ixD (rd 0) (ret (.int 1))) (aCons (ret d_MOST_BRANCHES) (aNil)))))))) (ret .nx)) (seq (ifS (toB (m2 eqD (rd 2) (ret (.str "beside")))) (retS (asx (andV (frz (callN 2 g_is_row_of (aCons (rd 0) (aCons (ret (.int 2)) (aNil))))) (frz (callN 2 g_is_row_up_to (aCons (ixD (rd 0) (ret (.int 1))) (aCons (ret d_MOST_BESIDE) (aNil)))))))) (ret .nx)) (seq (ifS (toB (m2 eqD (rd 2) (ret (.str "new")))) (retS (asx (andV (frz (callN 2 g_is_row_of (aCons (rd 0) (aCons (ret (.int 3)) (aNil))))) (frz (callN 1 g_is_name (aCons (ixD (rd 0) (ret (.int 1))) (aNil))))))) (ret .nx)) (seq (ifS (toB (m2 eqD (rd 2) (ret (.str "call")))) (retS (asx (andV (frz (callN 2 g_is_row_of (aCons (rd 0) (aCons (ret (.int 3)) (aNil))))) (frz (callN 3 g_is_call (aCons (ixD (rd 0) (ret (.int 1))) (aCons (ixD (rd 0) (ret (.int 2))) (aCons (rd 1) (aNil))))))))) (ret .nx)) (retS (asx (ret (.bool false)))))))))))
def g_has_form : List Dat → PR := runP 3 m_has_form
theorem sc_has_form : FnScope ["value", "counts", "word"] ["value", "counts"] (defScope (top 50)) := ⟨rfl, rfl, rfl, by decide +kernel, rfl, by decide +kernel, by decide +kernel⟩
theorem ok_has_form {f : Addr} {fd : FuncData} (Fn : Fun K "has_form" "has_form" (top 50) f fd) (Z : Glo K mg) (h_is_row_of : Has P w K mg base C "is_row_of" 1 2 g_is_row_of) (h_is_name : Has P w K mg base C "is_name" 4 1 g_is_name) (h_is_row_up_to : Has P w K mg base C "is_row_up_to" 1 2 g_is_row_up_to) (h_is_call : Has P w K mg base C "is_call" 6 3 g_is_call) : FnOk P w K mg base (L2.CX P w) 7 f fd ["value", "counts"] (spP K C 2 g_has_form) :=
  fn_pure Fn sc_has_form (by decide) fun G0 H0 cdv A outer s E hr => ss_cons (s_if (L2.PW.pt (w_or (t_not (t_val (isi_ "tuple" Z.b_isinstance Z.b_tuple (v_ 0)))) (w_or (t_not (trow_ (rv_ 0))) (w_or1 (t_not (t_val (isi_ "str" Z.b_isinstance Z.b_str (ix_ (v_ 0) (e_int))))))))) (ss_one (s_ret (e_asx (e_bl)))) (ss_nil)) (ss_cons (as_ 2 sc_has_form.nd (e_asx (ix_ (v_ 0) (e_int)))) (ss_cons (s_if (tin_ (v_ 2) (r_data (g_ Z.WITH_TWO_NAMES))) (ss_one (s_ret (e_asx (e_and (e_frz (call_ h_is_row_of hr tkC (a_cons (v_ 0) (a_cons (e_int) (a_nil))))) (e_and (e_frz (call_ h_is_name hr tkC (a_cons (ix_ (v_ 0) (e_int)) (a_nil)))) (e_one (e_frz (call_ h_is_name hr tkC (a_cons (ix_ (v_ 0) (e_int)) (a_nil)))))))))) (ss_nil)) (ss_cons (s_if (teq_ hr.units (v_ 2) (e_str)) (ss_one (s_ret (call_ h_is_row_of hr tkC (a_cons (v_ 0) (a_cons (e_int) (a_nil)))))) (ss_nil)) (ss_cons (s_if (teq_ hr.units (v_ 2) (e_str)) (ss_one (s_ret (e_asx (e_and (e_frz (call_ h_is_row_of hr tkC (a_cons (v_ 0) (a_cons (e_int) (a_nil))))) (e_one (e_frz (call_ h_is_row_up_to hr tkC (a_cons (ix_ (v_ 0) (e_int)) (a_cons (g_ Z.MOST_BRANCHES) (a_nil)))))))))) (ss_nil)) (ss_cons (s_if (teq_ hr.units (v_ 2) (e_str)) (ss_one (s_ret (e_asx (e_and (e_frz (call_ h_is_row_of hr tkC (a_cons (v_ 0) (a_cons (e_int) (a_nil))))) (e_one (e_frz (call_ h_is_row_up_to hr tkC (a_cons (ix_ (v_ 0) (e_int)) (a_cons (g_ Z.MOST_BESIDE) (a_nil)))))))))) (ss_nil)) (ss_cons (s_if (teq_ hr.units (v_ 2) (e_str)) (ss_one (s_ret (e_asx (e_and (e_frz (call_ h_is_row_of hr tkC (a_cons (v_ 0) (a_cons (e_int) (a_nil))))) (e_one (e_frz (call_ h_is_name hr tkC (a_cons (ix_ (v_ 0) (e_int)) (a_nil))))))))) (ss_nil)) (ss_cons (s_if (teq_ hr.units (v_ 2) (e_str)) (ss_one (s_ret (e_asx (e_and (e_frz (call_ h_is_row_of hr tkC (a_cons (v_ 0) (a_cons (e_int) (a_nil))))) (e_one (e_frz (call_ h_is_call hr tkC (a_cons (ix_ (v_ 0) (e_int)) (a_cons (ix_ (v_ 0) (e_int)) (a_cons (v_ 1) (a_nil))))))))))) (ss_nil)) (ss_one (s_ret (e_asx (e_bl)))))))))))

def m_has_form_of_row : M Ctl := seq (ifS (orB (notB (toB (frz (callN 2 g_is_row_of (aCons (rd 0) (aCons (ret (.int 4)) (aNil))))))) (orB (notB (toB (M.bind (ixD (rd 0) (ret (.int 0))) (isiR "str")))) (toB (inM true (ixD (rd 0) (ret (.int 0))) (rowD (ret d_WITH_NAMES)))))) (retS (asx (ret (.bool false)))) (ret .nx)) (seq (M.bind (rd 0) (tgtM (putTup 4 (putCons (put 1) (putCons (put 2) (putCons (put 3) (putCons (put 4) (putNil)))))))) (seq (ifS (orB (notB (toB (frz (callN 1 g_is_name (aCons (rd 2) (aNil)))))) (orB (notB (toB (frz (callN 2 g_is_row_up_to (aCons (rd 3) (aCons (ret d_MOST_IN_ROW) (aNil))))))) (notB (toB (frz (callN 1 g_are_names (aCons (rd 3) (aNil)))))))) (retS (asx (ret (.bool false)))) (ret .nx)) (retS (asx (orV (m2 eqD (rd 1) (ret (.str "sends"))) (frz (callN 1 g_are_unlike (aCons (rd 3) (aNil)))))))))
def g_has_form_of_row : List Dat → PR := runP 5 m_has_form_of_row
theorem sc_has_form_of_row : FnScope ["value", "word", "channel", "names", "_"] ["value"] (defScope (top 51)) := ⟨rfl, rfl, rfl, by decide +kernel, rfl, by decide +kernel, by decide +kernel⟩
theorem ok_has_form_of_row {f : Addr} {fd : FuncData} (Fn : Fun K "has_form_of_row" "has_form_of_row" (top 51) f fd) (Z : Glo K mg) (h_is_row_of : Has P w K mg base C "is_row_of" 1 2 g_is_row_of) (h_is_name : Has P w K mg base C "is_name" 4 1 g_is_name) (h_is_row_up_to : Has P w K mg base C "is_row_up_to" 1 2 g_is_row_up_to) (h_are_names : Has P w K mg base C "are_names" 5 1 g_are_names) (h_are_unlike : Has P w K mg base C "are_unlike" 1 1 g_are_unlike) : FnOk P w K mg base (L2.CX P w) 6 f fd ["value"] (spP K C 1 g_has_form_of_row) :=
  fn_pure Fn sc_has_form_of_row (by decide) fun G0 H0 cdv A outer s E hr => ss_cons (s_if (L2.PW.pt (w_or (t_not (t_val (e_frz (call_ h_is_row_of hr tkC (a_cons (v_ 0) (a_cons (e_int) (a_nil))))))) (w_or (t_not (t_val (isi_ "str" Z.b_isinstance Z.b_str (ix_ (v_ 0) (e_int))))) (w_or1 (tnin_ (ix_ (v_ 0) (e_int)) (r_data (g_ Z.WITH_NAMES))))))) (ss_one (s_ret (e_asx (e_bl)))) (ss_nil)) (ss_cons (s_asgT (v_ 0) (tg_tup rfl rfl (tgs_cons (tn_ 1 sc_has_form_of_row.nd) (tgs_cons (tn_ 2 sc_has_form_of_row.nd) (tgs_cons (tn_ 3 sc_has_form_of_row.nd) (tgs_cons (tn_ 4 sc_has_form_of_row.nd) (tgs_nil))))))) (ss_cons (s_if (L2.PW.pt (w_or (t_not (t_val (e_frz (call_ h_is_name hr tkC (a_cons (v_ 2) (a_nil)))))) (w_or (t_not (t_val (e_frz (call_ h_is_row_up_to hr tkC (a_cons (v_ 3) (a_cons (g_ Z.MOST_IN_ROW) (a_nil))))))) (w_or1 (t_not (t_val (e_frz (call_ h_are_names hr tkC (a_cons (v_ 3) (a_nil)))))))))) (ss_one (s_ret (e_asx (e_bl)))) (ss_nil)) (ss_one (s_ret (e_asx (e_or (eq_ hr.units (v_ 1) (e_str)) (e_one (e_frz (call_ h_are_unlike hr tkC (a_cons (v_ 3) (a_nil)))))))))))

def m_is_hole : M Ctl := retS (asx (andV (frz (callN 2 g_is_row_of (aCons (rd 0) (aCons (ret (.int 1)) (aNil))))) (andV (M.bind (ixD (rd 0) (ret (.int 0))) (isiR "str")) (m2 eqD (ixD (rd 0) (ret (.int 0))) (ret (.str "hole"))))))
def g_is_hole : List Dat → PR := runP 1 m_is_hole
theorem sc_is_hole : FnScope ["value"] ["value"] (defScope (top 49)) := ⟨rfl, rfl, rfl, by decide +kernel, rfl, by decide +kernel, by decide +kernel⟩
theorem ok_is_hole {f : Addr} {fd : FuncData} (Fn : Fun K "is_hole" "is_hole" (top 49) f fd) (Z : Glo K mg) (h_is_row_of : Has P w K mg base C "is_row_of" 1 2 g_is_row_of) : FnOk P w K mg base (L2.CX P w) 2 f fd ["value"] (spP K C 1 g_is_hole) :=
  fn_pure Fn sc_is_hole (by decide) fun G0 H0 cdv A outer s E hr => ss_one (s_ret (e_asx (e_and (e_frz (call_ h_is_row_of hr tkC (a_cons (v_ 0) (a_cons (e_int) (a_nil))))) (e_and (isi_ "str" Z.b_isinstance Z.b_str (ix_ (v_ 0) (e_int))) (e_one (eq_ hr.units (ix_ (v_ 0) (e_int)) (e_str)))))))

def m_is_let : M Ctl := seq (ifS (toB (frz (callN 1 g_is_hole (aCons (rd 0) (aNil))))) (retS (asx (andV (m2 eqD (rd 2) (ret d_HOLED_MAIN)) (notV (rd 3))))) (ret .nx)) (seq (ifS (andB (notB (toB (frz (callN 2 g_has_form (aCons (rd 0) (aCons (rd 1) (aNil))))))) (notB (andB (toB (inM false (rd 2) (rowD (M.bind (aCons (ret d_ROW_BODY) (aCons (ret d_ROW_MAIN) (aNil))) tupD)))) (toB (frz (callN 1 g_has_form_of_row (aCons (rd 0) (aNil)))))))) (retS (asx (ret (.bool false)))) (ret .nx)) (seq (M.bind (asx (ixD (rd 0) (ret (.int 0)))) (asg 5)) (seq (ifS (toB (rd 3)) (retS (asx (inM false (rd 5) (rowD (ret d_BRANCHES))))) (ret .nx)) (seq (ifS (toB (inM false (rd 2) (rowD (M.bind (aCons (ret d_BODY) (aCons (ret d_ROW_BODY) (aNil))) tupD)))) (retS (asx (andV (m2 neD (rd 5) (ret (.str "beside"))) (orV (rd 4) (m2 neD (rd 5) (ret (.str "call"))))))) (ret .nx)) (retS (asx (ret (.bool true))))))))
def g_is_let : List Dat → PR := runP 6 m_is_let
theorem sc_is_let : FnScope ["part", "counts", "where", "branch_due", "guarded", "word"] ["part", "counts", "where", "branch_due", "guarded"] (defScope (top 48)) := ⟨rfl, rfl, rfl, by decide +kernel, rfl, by decide +kernel, by decide +kernel⟩
theorem ok_is_let {f : Addr} {fd : FuncData} (Fn : Fun K "is_let" "is_let" (top 48) f fd) (Z : Glo K mg) (h_is_hole : Has P w K mg base C "is_hole" 2 1 g_is_hole) (h_has_form : Has P w K mg base C "has_form" 7 2 g_has_form) (h_has_form_of_row : Has P w K mg base C "has_form_of_row" 6 1 g_has_form_of_row) : FnOk P w K mg base (L2.CX P w) 8 f fd ["part", "counts", "where", "branch_due", "guarded"] (spP K C 5 g_is_let) :=
  fn_pure Fn sc_is_let (by decide) fun G0 H0 cdv A outer s E hr => ss_cons (s_if (t_val (e_frz (call_ h_is_hole hr tkC (a_cons (v_ 0) (a_nil))))) (ss_one (s_ret (e_asx (e_and (eq_ hr.units (v_ 2) (g_ Z.HOLED_MAIN)) (e_one (e_not (v_ 3))))))) (ss_nil)) (ss_cons (s_if (L2.PW.pt (w_and (t_not (t_val (e_frz (call_ h_has_form hr tkC (a_cons (v_ 0) (a_cons (v_ 1) (a_nil))))))) (w_and1 (t_not (L2.PW.pt (w_and (tin_ (v_ 2) (r_data (e_tup (a_cons (g_ Z.ROW_BODY) (a_cons (g_ Z.ROW_MAIN) (a_nil)))))) (w_and1 (t_val (e_frz (call_ h_has_form_of_row hr tkC (a_cons (v_ 0) (a_nil)))))))))))) (ss_one (s_ret (e_asx (e_bl)))) (ss_nil)) (ss_cons (as_ 5 sc_is_let.nd (e_asx (ix_ (v_ 0) (e_int)))) (ss_cons (s_if (t_val (v_ 3)) (ss_one (s_ret (e_asx (in_ (v_ 5) (r_data (g_ Z.BRANCHES)))))) (ss_nil)) (ss_cons (s_if (tin_ (v_ 2) (r_data (e_tup (a_cons (g_ Z.BODY) (a_cons (g_ Z.ROW_BODY) (a_nil)))))) (ss_one (s_ret (e_asx (e_and (ne_ hr.units (v_ 5) (e_str)) (e_one (e_or (v_ 4) (e_one (ne_ hr.units (v_ 5) (e_str))))))))) (ss_nil)) (ss_one (s_ret (e_asx (e_bl))))))))

def m_are_params : M Ctl := retS (asx (andV (frz (callN 2 g_is_row_up_to (aCons (rd 0) (aCons (ret d_MOST_PARAMS) (aNil))))) (andV (frz (callN 1 g_are_names (aCons (rd 0) (aNil)))) (frz (callN 1 g_are_unlike (aCons (rd 0) (aNil)))))))
def g_are_params : List Dat → PR := runP 1 m_are_params
theorem sc_are_params : FnScope ["value"] ["value"] (defScope (top 46)) := ⟨rfl, rfl, rfl, by decide +kernel, rfl, by decide +kernel, by decide +kernel⟩
theorem ok_are_params {f : Addr} {fd : FuncData} (Fn : Fun K "are_params" "are_params" (top 46) f fd) (Z : Glo K mg) (h_is_row_up_to : Has P w K mg base C "is_row_up_to" 1 2 g_is_row_up_to) (h_are_names : Has P w K mg base C "are_names" 5 1 g_are_names) (h_are_unlike : Has P w K mg base C "are_unlike" 1 1 g_are_unlike) : FnOk P w K mg base (L2.CX P w) 6 f fd ["value"] (spP K C 1 g_are_params) :=
  fn_pure Fn sc_are_params (by decide) fun G0 H0 cdv A outer s E hr => ss_one (s_ret (e_asx (e_and (e_frz (call_ h_is_row_up_to hr tkC (a_cons (v_ 0) (a_cons (g_ Z.MOST_PARAMS) (a_nil))))) (e_and (e_frz (call_ h_are_names hr tkC (a_cons (v_ 0) (a_nil)))) (e_one (e_frz (call_ h_are_unlike hr tkC (a_cons (v_ 0) (a_nil)))))))))

def m_need_definitions : M Ctl := seq (ifS (notB (toB (frz (callN 2 g_is_row_of (aCons (rd 0) (aCons (ret (.int 2)) (aNil))))))) (M.bind (M.bind (aNil) tupD) fun d => excM 2 d) (ret .nx)) (seq (ifS (notB (toB (frz (callN 2 g_is_row_up_to (aCons (ixD (rd 0) (ret (.int 0))) (aCons (ret d_MOST_DEFINITIONS) (aNil))))))) (M.bind (M.bind (aCons (ret (.int 0)) (aNil)) tupD) fun d => excM 2 d) (ret .nx)) (M.bind (M.bind (ixD (rd 0) (ret (.int 0))) enT) fun items => forL (putTup 2 (putCons (put 1) (putCons (put 2) (putNil)))) (ifS (orB (notB (toB (frz (callN 2 g_is_row_of (aCons (rd 2) (aCons (ret (.int 2)) (aNil))))))) (notB (toB (frz (callN 1 g_are_params (aCons (ixD (rd 2) (ret (.int 0))) (aNil))))))) (M.bind (M.bind (aCons (ret (.int 0)) (aCons (rd 1) (aNil))) tupD) fun d => excM 2 d) (ret .nx)) items))
def g_need_definitions : List Dat → PR := runP 3 m_need_definitions
theorem sc_need_definitions : FnScope ["value", "place", "definition"] ["value"] (defScope (top 45)) := ⟨rfl, rfl, rfl, by decide +kernel, rfl, by decide +kernel, by decide +kernel⟩
theorem ok_need_definitions {f : Addr} {fd : FuncData} (Fn : Fun K "need_definitions" "need_definitions" (top 45) f fd) (Z : Glo K mg) (h_is_row_of : Has P w K mg base C "is_row_of" 1 2 g_is_row_of) (h_is_row_up_to : Has P w K mg base C "is_row_up_to" 1 2 g_is_row_up_to) (h_are_params : Has P w K mg base C "are_params" 6 1 g_are_params) (x_BadProgram : ErrX P w K mg base C 2 "BadProgram") : FnOk P w K mg base (L2.CX P w) 7 f fd ["value"] (spP K C 1 g_need_definitions) :=
  fn_pure Fn sc_need_definitions (by decide) fun G0 H0 cdv A outer s E hr => ss_cons (s_if (t_not (t_val (e_frz (call_ h_is_row_of hr tkC (a_cons (v_ 0) (a_cons (e_int) (a_nil))))))) (ss_one (raise_ x_BadProgram hr tkC (e_tup (a_nil)))) (ss_nil)) (ss_cons (s_if (t_not (t_val (e_frz (call_ h_is_row_up_to hr tkC (a_cons (ix_ (v_ 0) (e_int)) (a_cons (g_ Z.MOST_DEFINITIONS) (a_nil))))))) (ss_one (raise_ x_BadProgram hr tkC (e_tup (a_cons (e_int) (a_nil))))) (ss_nil)) (ss_one (s_for poC rfl (i_enumT rfl rfl Z.b_enumerate (ix_ (v_ 0) (e_int))) (tg_tup rfl rfl (tgs_cons (tn_ 1 sc_need_definitions.nd) (tgs_cons (tn_ 2 sc_need_definitions.nd) (tgs_nil)))) (ss_one (s_if (L2.PW.pt (w_or (t_not (t_val (e_frz (call_ h_is_row_of hr tkC (a_cons (v_ 2) (a_cons (e_int) (a_nil))))))) (w_or1 (t_not (t_val (e_frz (call_ h_are_params hr tkC (a_cons (ix_ (v_ 2) (e_int)) (a_nil))))))))) (ss_one (raise_ x_BadProgram hr tkC (e_tup (a_cons (e_int) (a_cons (v_ 1) (a_nil)))))) (ss_nil))))))

def m_walk : M Ctl := seq (M.bind (M.bind (aCons (M.bind (aCons (rd 1) (aCons (rd 0) (aCons (ret (.int 1)) (aCons (ret (.bool false)) (aCons (inM true (rd 3) (rowD (M.bind (aCons (ret d_BODY) (aCons (ret d_ROW_BODY) (aNil))) tupD))) (aNil)))))) tupD) (aNil)) lstD) (asg 5)) (whileL [6, 7, 8, 9, 10, 11, 12, 13, 14] (M.bind (rowVar 5) truR) (seq (M.bind (popV 5) (tgtM (putTup 5 (putCons (put 8) (putCons (put 9) (putCons (put 10) (putCons (put 11) (putCons (put 12) (putNil))))))))) (seq (ifS (toB (m2 gtI (rd 10) (ret d_MOST_DEEP))) (M.bind (ret d_MOST_DEEP) fun d => excM 5 d) (ret .nx)) (seq (ifS (toB (m2 eqD (M.bind (rowVar 4) lenR) (ret d_MOST_PARTS))) (M.bind (ret d_MOST_PARTS) fun d => excM 5 d) (ret .nx)) (seq (ifS (notB (toB (frz (callN 5 g_is_let (aCons (rd 9) (aCons (rd 2) (aCons (rd 3) (aCons (rd 11) (aCons (rd 12) (aNil)))))))))) (M.bind (rd 8) fun d => excM 1 d) (ret .nx)) (seq (dropS (appV 4 (M.bind (aCons (rd 8) (aCons (rd 9) (aNil))) tupD))) (seq (M.bind (asx (orV (m2 eqD (ixD (rd 9) (ret (.int 0))) (ret (.str "one"))) (inM false (ixD (rd 9) (ret (.int 0))) (rowD (ret d_TESTS))))) (asg 6)) (seq (M.bind (asx (orV (rd 12) (inM false (ixD (rd 9) (ret (.int 0))) (rowD (ret d_PREFIXES))))) (asg 7)) (M.bind (M.bind (frz (callN 1 g_parts_below (aCons (rd 9) (aNil)))) itBack) fun items => forL (putTup 2 (putCons (put 13) (putCons (put 14) (putNil)))) (dropS (appV 5 (M.bind (aCons (frz (M.bind (rd 8) fun x => M.bind (rd 13) fun y => catD x y)) (aCons (rd 14) (aCons (m2 addI (rd 10) (ret (.int 1))) (aCons (rd 6) (aCons (rd 7) (aNil)))))) tupD))) items)))))))) 200)
def g_walk : List Dat → List Dat → DS → GR := runG false true 15 m_walk
theorem sc_walk : FnScope ["root", "root_path", "counts", "where", "met", "ahead", "due", "behind", "path", "part", "deep", "branch_due", "guarded", "indexes", "below"] ["root", "root_path", "counts", "where", "met"] (defScope (top 47)) := ⟨rfl, rfl, rfl, by decide +kernel, rfl, by decide +kernel, by decide +kernel⟩
theorem ok_walk {f : Addr} {fd : FuncData} (Fn : Fun K "walk" "walk" (top 47) f fd) (Z : Glo K mg) (h_is_let : Has P w K mg base C "is_let" 8 5 g_is_let) (h_parts_below : Has P w K mg base C "parts_below" 1 1 g_parts_below) (x_TooGreat : ErrX P w K mg base C 5 "TooGreat") (x_BadPiece : ErrX P w K mg base C 1 "BadPiece") : FnOk P w K mg base (L2.CX P w) 9 f fd ["root", "root_path", "counts", "where", "met"] (spG K C false true (fun _ => True) 4 g_walk) :=
  fn_gen Fn sc_walk (by decide) (by decide) fun sa sc sl ia tb G0 H0 cdv A outer s E _ hr => ss_cons (as_ 5 sc_walk.nd (e_lst (a_cons (e_tup (a_cons (v_ 1) (a_cons (v_ 0) (a_cons (e_int) (a_cons (e_bl) (a_cons (nin_ (v_ 3) (r_data (e_tup (a_cons (g_ Z.BODY) (a_cons (g_ Z.ROW_BODY) (a_nil)))))) (a_nil))))))) (a_nil)))) (ss_one (s_while [6, 7, 8, 9, 10, 11, 12, 13, 14] 200 poC (trow_ (rv_ 5)) (ss_cons (s_asgT (pop_ 5) (tg_tup rfl rfl (tgs_cons (tn_ 8 sc_walk.nd) (tgs_cons (tn_ 9 sc_walk.nd) (tgs_cons (tn_ 10 sc_walk.nd) (tgs_cons (tn_ 11 sc_walk.nd) (tgs_cons (tn_ 12 sc_walk.nd) (tgs_nil)))))))) (ss_cons (s_if (t_gt (v_ 10) (g_ Z.MOST_DEEP)) (ss_one (raise_ x_TooGreat hr tkC (g_ Z.MOST_DEEP))) (ss_nil)) (ss_cons (s_if (teq_ hr.units (len_ Z.b_len (rv_ 4)) (g_ Z.MOST_PARTS)) (ss_one (raise_ x_TooGreat hr tkC (g_ Z.MOST_PARTS))) (ss_nil)) (ss_cons (s_if (t_not (t_val (e_frz (call_ h_is_let hr tkC (a_cons (v_ 9) (a_cons (v_ 2) (a_cons (v_ 3) (a_cons (v_ 11) (a_cons (v_ 12) (a_nil)))))))))) (ss_one (raise_ x_BadPiece hr tkC (v_ 8))) (ss_nil)) (ss_cons (s_expr (app_ 4 (e_tup (a_cons (v_ 8) (a_cons (v_ 9) (a_nil)))))) (ss_cons (as_ 6 sc_walk.nd (e_asx (e_or (eq_ hr.units (ix_ (v_ 9) (e_int)) (e_str)) (e_one (in_ (ix_ (v_ 9) (e_int)) (r_data (g_ Z.TESTS))))))) (ss_cons (as_ 7 sc_walk.nd (e_asx (e_or (v_ 12) (e_one (in_ (ix_ (v_ 9) (e_int)) (r_data (g_ Z.PREFIXES))))))) (ss_one (s_for poC rfl (i_rev rfl rfl Z.b_reversed (e_frz (call_ h_parts_below hr tkC (a_cons (v_ 9) (a_nil))))) (tg_tup rfl rfl (tgs_cons (tn_ 13 sc_walk.nd) (tgs_cons (tn_ 14 sc_walk.nd) (tgs_nil)))) (ss_one (s_expr (app_ 5 (e_tup (a_cons (e_frz (cat_ (v_ 8) (v_ 13))) (a_cons (v_ 14) (a_cons (e_add (v_ 10) (e_int)) (a_cons (v_ 6) (a_cons (v_ 7) (a_nil)))))))))))))))))))))

def m_checked_parts : M Ctl := seq (dropS (callN 1 g_need_definitions (aCons (rd 0) (aNil)))) (seq (M.bind (rd 0) (tgtM (putTup 2 (putCons (put 5) (putCons (put 6) (putNil)))))) (seq (M.bind (asx (M.bind (rowX (M.bind (M.bind (rd 5) itT) (lcM [10, 8] (putTup 2 (putCons (put 10) (putCons (put 8) (putNil)))) (ret true) (M.bind (rowVar 10) lenR)))) tupR)) (asg 2)) (seq (M.bind (asx (ifE (toB (m2 eqD (rd 1) (ret d_ROW_MAIN))) (ret d_ROW_BODY) (ret d_BODY))) (asg 3)) (seq (M.bind (M.bind (aNil) lstD) (asg 4)) (seq (M.bind (M.bind (rd 5) enT) fun items => forL (putTup 2 (putCons (put 7) (putCons (putTup 2 (putCons (put 8) (putCons (put 9) (putNil)))) (putNil)))) (dropS (callIM 4 4 g_walk (aCons (rd 9) (aCons (M.bind (aCons (ret (.int 0)) (aCons (rd 7) (aCons (ret (.int 1)) (aNil)))) tupD) (aCons (rd 2) (aCons (rd 3) (ioArg 4))))))) items) (seq (dropS (callIM 4 4 g_walk (aCons (rd 6) (aCons (M.bind (aCons (ret (.int 1)) (aNil)) tupD) (aCons (rd 2) (aCons (rd 1) (ioArg 4))))))) (seq (M.bind (M.bind (rd 5) enT) fun items => forL (putTup 2 (putCons (put 7) (putCons (putTup 2 (putCons (put 10) (putCons (put 9) (putNil)))) (putNil)))) (ifS (notB (toB (M.bind (rowX (M.bind (M.bind (frz (callN 1 (g_free_of 30) (aCons (rd 9) (aNil)))) itT) (lcM [11] (put 11) (ret true) (inM false (rd 11) (rowVar 10))))) allR))) (M.bind (M.bind (aCons (ret (.int 0)) (aCons (rd 7) (aNil))) tupD) fun d => excM 2 d) (ret .nx)) items) (retS (outV 4)))))))))
def g_checked_parts : List Dat → PR := runP 12 m_checked_parts
theorem sc_checked_parts : FnScope ["value", "where_main", "counts", "where_body", "met", "definitions", "main", "place", "_", "body", "params", "name"] ["value", "where_main"] (defScope (top 44)) := ⟨rfl, rfl, rfl, by decide +kernel, rfl, by decide +kernel, by decide +kernel⟩
theorem ok_checked_parts {f : Addr} {fd : FuncData} (Fn : Fun K "checked_parts" "checked_parts" (top 44) f fd) (Z : Glo K mg) (h_need_definitions : Has P w K mg base C "need_definitions" 7 1 g_need_definitions) (h_free_of : Has P w K mg base C "free_of" 33 1 (g_free_of 30)) (h_walk : HasG P w K mg base C false true "walk" 9 4 g_walk) (x_BadProgram : ErrX P w K mg base C 2 "BadProgram") : FnOk P w K mg base (L2.CX P w) 34 f fd ["value", "where_main"] (spP K C 2 g_checked_parts) :=
  fn_pure Fn sc_checked_parts (by decide) fun G0 H0 cdv A outer s E hr => ss_cons (s_expr (call_ h_need_definitions hr tkC (a_cons (v_ 0) (a_nil)))) (ss_cons (s_asgT (v_ 0) (tg_tup rfl rfl (tgs_cons (tn_ 5 sc_checked_parts.nd) (tgs_cons (tn_ 6 sc_checked_parts.nd) (tgs_nil))))) (ss_cons (as_ 2 sc_checked_parts.nd (e_asx (tuple_ Z.b_tuple (r_new (lcT_ ["value", "where_main", "counts", "where_body", "met", "definitions", "main", "place", "_", "body", "params", "name"] (defScope (top 44)) [("params", 10), ("_", 8)] sc_checked_parts.nd (i_tup rfl (v_ 5)) (fun _ _ _ _ _ => pg_tup rfl (pgs_cons (pgn_ 10 sc_checked_parts.nd) (pgs_cons (pgn_ 8 sc_checked_parts.nd) (pgs_nil)))) (fun _ => gok_tup rfl (gsok_cons (gok_name) (gsok_cons (gok_name) (gsok_nil)))) (fun _ _ _ _ _ => pts_nil) (fun ps σ H Q h => noif ps σ H Q h) (fun _ _ _ _ _ _ => len_ Z.b_len (rv_ 10))))))) (ss_cons (as_ 3 sc_checked_parts.nd (e_asx (e_if (teq_ hr.units (v_ 1) (g_ Z.ROW_MAIN)) (g_ Z.ROW_BODY) (g_ Z.BODY)))) (ss_cons (as_ 4 sc_checked_parts.nd (e_lst (a_nil))) (ss_cons (s_for poC rfl (i_enumT rfl rfl Z.b_enumerate (v_ 5)) (tg_tup rfl rfl (tgs_cons (tn_ 7 sc_checked_parts.nd) (tgs_cons (tg_tup rfl rfl (tgs_cons (tn_ 8 sc_checked_parts.nd) (tgs_cons (tn_ 9 sc_checked_parts.nd) (tgs_nil)))) (tgs_nil)))) (ss_one (s_expr (callI_ 4 h_walk hr tkC (a_consI (v_ 9) (a_consI (e_tup (a_cons (e_int) (a_cons (v_ 7) (a_cons (e_int) (a_nil))))) (a_consI (v_ 2) (a_consI (v_ 3) (io_ 4))))))))) (ss_cons (s_expr (callI_ 4 h_walk hr tkC (a_consI (v_ 6) (a_consI (e_tup (a_cons (e_int) (a_nil))) (a_consI (v_ 2) (a_consI (v_ 1) (io_ 4))))))) (ss_cons (s_for poC rfl (i_enumT rfl rfl Z.b_enumerate (v_ 5)) (tg_tup rfl rfl (tgs_cons (tn_ 7 sc_checked_parts.nd) (tgs_cons (tg_tup rfl rfl (tgs_cons (tn_ 10 sc_checked_parts.nd) (tgs_cons (tn_ 9 sc_checked_parts.nd) (tgs_nil)))) (tgs_nil)))) (ss_one (s_if (t_not (t_val (all_ Z.b_all (r_new (lc1_ ["value", "where_main", "counts", "where_body", "met", "definitions", "main", "place", "_", "body", "params", "name"] (defScope (top 44)) sc_checked_parts.nd 11 (i_tup rfl (e_frz (call_ h_free_of hr tkC (a_cons (v_ 9) (a_nil))))) (fun _ _ _ _ _ _ => in_ (v_ 11) (rv_ 10))))))) (ss_one (raise_ x_BadProgram hr tkC (e_tup (a_cons (e_int) (a_cons (v_ 7) (a_nil)))))) (ss_nil)))) (ss_one (s_ret (out_ 4))))))))))

def m_need_program : M Ctl := seq (dropS (callN 2 g_checked_parts (aCons (rd 0) (aCons (ret d_MAIN) (aNil))))) (retS (asx (rd 0)))
def g_need_program : List Dat → PR := runP 1 m_need_program
theorem sc_need_program : FnScope ["value"] ["value"] (defScope (top 54)) := ⟨rfl, rfl, rfl, by decide +kernel, rfl, by decide +kernel, by decide +kernel⟩
theorem ok_need_program {f : Addr} {fd : FuncData} (Fn : Fun K "need_program" "need_program" (top 54) f fd) (Z : Glo K mg) (h_checked_parts : Has P w K mg base C "checked_parts" 34 2 g_checked_parts) : FnOk P w K mg base (L2.CX P w) 35 f fd ["value"] (spP K C 1 g_need_program) :=
  fn_pure Fn sc_need_program (by decide) fun G0 H0 cdv A outer s E hr => ss_cons (s_expr (call_ h_checked_parts hr tkC (a_cons (v_ 0) (a_cons (g_ Z.MAIN) (a_nil))))) (ss_one (s_ret (e_asx (v_ 0))))

def m_paths_of_calls : M Ctl := retS (M.bind (M.bind (frz (callN 2 g_checked_parts (aCons (rd 0) (aCons (ret d_MAIN) (aNil))))) itL) (lcM [1, 2] (putTup 2 (putCons (put 1) (putCons (put 2) (putNil)))) (andB (toB (m2 eqD (ixD (rd 1) (ret (.int 0))) (ret (.int 1)))) (toB (m2 eqD (ixD (rd 2) (ret (.int 0))) (ret (.str "call"))))) (rd 1)))
def g_paths_of_calls : List Dat → PR := runP 3 m_paths_of_calls
theorem sc_paths_of_calls : FnScope ["program", "path", "part"] ["program"] (defScope (top 57)) := ⟨rfl, rfl, rfl, by decide +kernel, rfl, by decide +kernel, by decide +kernel⟩
theorem ok_paths_of_calls {f : Addr} {fd : FuncData} (Fn : Fun K "paths_of_calls" "paths_of_calls" (top 57) f fd) (Z : Glo K mg) (h_checked_parts : Has P w K mg base C "checked_parts" 34 2 g_checked_parts) : FnOk P w K mg base (L2.CX P w) 35 f fd ["program"] (spP K C 1 g_paths_of_calls) :=
  fn_pure Fn sc_paths_of_calls (by decide) fun G0 H0 cdv A outer s E hr => ss_one (s_ret (lcI_ ["program", "path", "part"] (defScope (top 57)) [("path", 1), ("part", 2)] sc_paths_of_calls.nd (i_list rfl (e_frz (call_ h_checked_parts hr tkC (a_cons (v_ 0) (a_cons (g_ Z.MAIN) (a_nil)))))) (fun _ _ _ _ _ => pg_tup rfl (pgs_cons (pgn_ 1 sc_paths_of_calls.nd) (pgs_cons (pgn_ 2 sc_paths_of_calls.nd) (pgs_nil)))) (fun _ => gok_tup rfl (gsok_cons (gok_name) (gsok_cons (gok_name) (gsok_nil)))) (fun _ _ _ _ _ _ => L2.PW.pt (w_and (teq_ hr.units (ix_ (v_ 1) (e_int)) (e_int)) (w_and1 (teq_ hr.units (ix_ (v_ 2) (e_int)) (e_str))))) (fun _ _ _ _ _ _ => v_ 1)))

def m_need_finite : M Ctl := seq (M.bind (asx (frz (callN 1 g_paths_of_calls (aCons (rd 0) (aNil))))) (asg 1)) (seq (ifS (M.bind (rowVar 1) truR) (M.bind (ixD (rd 1) (ret (.int 0))) fun d => excM 4 d) (ret .nx)) (retS (asx (rd 0))))
def g_need_finite : List Dat → PR := runP 2 m_need_finite
theorem sc_need_finite : FnScope ["program", "calls"] ["program"] (defScope (top 55)) := ⟨rfl, rfl, rfl, by decide +kernel, rfl, by decide +kernel, by decide +kernel⟩
theorem ok_need_finite {f : Addr} {fd : FuncData} (Fn : Fun K "need_finite" "need_finite" (top 55) f fd) (Z : Glo K mg) (h_paths_of_calls : Has P w K mg base C "paths_of_calls" 35 1 g_paths_of_calls) (x_NotFinite : ErrX P w K mg base C 4 "NotFinite") : FnOk P w K mg base (L2.CX P w) 36 f fd ["program"] (spP K C 1 g_need_finite) :=
  fn_pure Fn sc_need_finite (by decide) fun G0 H0 cdv A outer s E hr => ss_cons (as_ 1 sc_need_finite.nd (e_asx (e_frz (call_ h_paths_of_calls hr tkC (a_cons (v_ 0) (a_nil)))))) (ss_cons (s_if (trow_ (rv_ 1)) (ss_one (raise_ x_NotFinite hr tkC (ix_ (v_ 1) (e_int)))) (ss_nil)) (ss_one (s_ret (e_asx (v_ 0)))))

def m_is_finite : M Ctl := retS (asx (nrowV (rowX (callN 1 g_paths_of_calls (aCons (rd 0) (aNil))))))
def g_is_finite : List Dat → PR := runP 1 m_is_finite
theorem sc_is_finite : FnScope ["program"] ["program"] (defScope (top 56)) := ⟨rfl, rfl, rfl, by decide +kernel, rfl, by decide +kernel, by decide +kernel⟩
theorem ok_is_finite {f : Addr} {fd : FuncData} (Fn : Fun K "is_finite" "is_finite" (top 56) f fd) (Z : Glo K mg) (h_paths_of_calls : Has P w K mg base C "paths_of_calls" 35 1 g_paths_of_calls) : FnOk P w K mg base (L2.CX P w) 36 f fd ["program"] (spP K C 1 g_is_finite) :=
  fn_pure Fn sc_is_finite (by decide) fun G0 H0 cdv A outer s E hr => ss_one (s_ret (e_asx (nrow_ (r_new (call_ h_paths_of_calls hr tkC (a_cons (v_ 0) (a_nil)))))))

def m_free_names : M Ctl := retS (callN 1 (g_free_of 30) (aCons (ixD (frz (callN 1 g_need_program (aCons (rd 0) (aNil)))) (ret (.int 1))) (aNil)))
def g_free_names : List Dat → PR := runP 1 m_free_names
theorem sc_free_names : FnScope ["program"] ["program"] (defScope (top 58)) := ⟨rfl, rfl, rfl, by decide +kernel, rfl, by decide +kernel, by decide +kernel⟩
theorem ok_free_names {f : Addr} {fd : FuncData} (Fn : Fun K "free_names" "free_names" (top 58) f fd) (Z : Glo K mg) (h_free_of : Has P w K mg base C "free_of" 33 1 (g_free_of 30)) (h_need_program : Has P w K mg base C "need_program" 35 1 g_need_program) : FnOk P w K mg base (L2.CX P w) 36 f fd ["program"] (spP K C 1 g_free_names) :=
  fn_pure Fn sc_free_names (by decide) fun G0 H0 cdv A outer s E hr => ss_one (s_ret (call_ h_free_of hr tkC (a_cons (ix_ (e_frz (call_ h_need_program hr tkC (a_cons (v_ 0) (a_nil)))) (e_int)) (a_nil))))

def m_parts_of : M Ctl := retS (callN 2 g_checked_parts (aCons (rd 0) (aCons (ret d_MAIN) (aNil))))
def g_parts_of : List Dat → PR := runP 1 m_parts_of
theorem sc_parts_of : FnScope ["program"] ["program"] (defScope (top 60)) := ⟨rfl, rfl, rfl, by decide +kernel, rfl, by decide +kernel, by decide +kernel⟩
theorem ok_parts_of {f : Addr} {fd : FuncData} (Fn : Fun K "parts_of" "parts_of" (top 60) f fd) (Z : Glo K mg) (h_checked_parts : Has P w K mg base C "checked_parts" 34 2 g_checked_parts) : FnOk P w K mg base (L2.CX P w) 35 f fd ["program"] (spP K C 1 g_parts_of) :=
  fn_pure Fn sc_parts_of (by decide) fun G0 H0 cdv A outer s E hr => ss_one (s_ret (call_ h_checked_parts hr tkC (a_cons (v_ 0) (a_cons (g_ Z.MAIN) (a_nil)))))

def m_measures : M Ctl := seq (M.bind (asx (M.bind (rowX (callN 1 g_parts_of (aCons (rd 0) (aNil)))) lenR)) (asg 1)) (seq (M.bind (rd 0) (tgtM (putTup 2 (putCons (put 3) (putCons (put 4) (putNil)))))) (seq (M.bind (asx (frz (M.bind (M.bind (rd 3) itT) (lcM [5, 6] (putTup 2 (putCons (put 5) (putCons (put 6) (putNil)))) (ret true) (frz (callN 1 (g_depth_below 30) (aCons (rd 6) (aNil)))))))) (asg 2)) (retS (asx (M.bind (aCons (rd 1) (aCons (M.bind (rowX (M.bind (frz (M.bind (aCons (frz (callN 1 (g_depth_below 30) (aCons (rd 4) (aNil)))) (aNil)) lstD)) fun x => M.bind (rd 2) fun y => catD x y)) maxR) (aNil))) tupD)))))
def g_measures : List Dat → PR := runP 7 m_measures
theorem sc_measures : FnScope ["program", "many", "depths", "definitions", "main", "_", "body"] ["program"] (defScope (top 59)) := ⟨rfl, rfl, rfl, by decide +kernel, rfl, by decide +kernel, by decide +kernel⟩
theorem ok_measures {f : Addr} {fd : FuncData} (Fn : Fun K "measures" "measures" (top 59) f fd) (Z : Glo K mg) (h_parts_of : Has P w K mg base C "parts_of" 35 1 g_parts_of) (h_depth_below : Has P w K mg base C "depth_below" 32 1 (g_depth_below 30)) : FnOk P w K mg base (L2.CX P w) 36 f fd ["program"] (spP K C 1 g_measures) :=
  fn_pure Fn sc_measures (by decide) fun G0 H0 cdv A outer s E hr => ss_cons (as_ 1 sc_measures.nd (e_asx (len_ Z.b_len (r_new (call_ h_parts_of hr tkC (a_cons (v_ 0) (a_nil))))))) (ss_cons (s_asgT (v_ 0) (tg_tup rfl rfl (tgs_cons (tn_ 3 sc_measures.nd) (tgs_cons (tn_ 4 sc_measures.nd) (tgs_nil))))) (ss_cons (asLcf_ ["program", "many", "depths", "definitions", "main", "_", "body"] (defScope (top 59)) [("_", 5), ("body", 6)] sc_measures.nd 2 (i_tup rfl (v_ 3)) (fun _ _ _ _ _ => pg_tup rfl (pgs_cons (pgn_ 5 sc_measures.nd) (pgs_cons (pgn_ 6 sc_measures.nd) (pgs_nil)))) (fun _ => gok_tup rfl (gsok_cons (gok_name) (gsok_cons (gok_name) (gsok_nil)))) (fun _ _ _ _ _ _ => e_frz (call_ h_depth_below hr L2.takes0 (a_cons (v_ 6) (a_nil))))) (ss_one (s_ret (e_asx (e_tup (a_cons (v_ 1) (a_cons (e_max rfl rfl rfl Z.b_max (r_new (cat_ (e_frz (e_lst (a_cons (e_frz (call_ h_depth_below hr tkC (a_cons (v_ 4) (a_nil)))) (a_nil)))) (v_ 2)))) (a_nil)))))))))

def m__law_mixed : M Ctl := seq (M.bind (asx (m2 modI (M.bind (rd 0) intR) (ret (.int 2147483647)))) (asg 0)) (retS (asx (m2 modI (m2 mulI (m2 modI (m2 addI (m2 addI (m2 mulI (rd 0) (m2 addI (ret (.int 48271)) (m2 mulI (m2 mulI (ret (.int 2)) (rd 1)) (rd 1)))) (m2 mulI (ret (.int 69621)) (rd 1))) (ret (.int 11))) (ret (.int 2147483647))) (ret (.int 69621))) (ret (.int 2147483629)))))
def g__law_mixed : List Dat → PR := runP 2 m__law_mixed
theorem sc__law_mixed : FnScope ["cell", "k"] ["cell", "k"] (defScope (top 64)) := ⟨rfl, rfl, rfl, by decide +kernel, rfl, by decide +kernel, by decide +kernel⟩
theorem ok__law_mixed {f : Addr} {fd : FuncData} (Fn : Fun K "_law_mixed" "_law_mixed" (top 64) f fd) (Z : Glo K mg)  : FnOk P w K mg base (L2.CX P w) 1 f fd ["cell", "k"] (spP K C 2 g__law_mixed) :=
  fn_pure Fn sc__law_mixed (by decide) fun G0 H0 cdv A outer s E hr => ss_cons (as_ 0 sc__law_mixed.nd (e_asx (e_mod (int_ Z.b_int (v_ 0)) (e_int)))) (ss_one (s_ret (e_asx (e_mod (e_mul (e_mod (e_add (e_add (e_mul (v_ 0) (e_add (e_int) (e_mul (e_mul (e_int) (v_ 1)) (v_ 1)))) (e_mul (e_int) (v_ 1))) (e_int)) (e_int)) (e_int)) (e_int)))))

def m__law_draw : M Ctl := seq (M.bind (asx (stAt 0)) (asg 2)) (seq (putAt 0 (m2 addI (rd 2) (ret (.int 1)))) (seq (M.bind (asx (m2 modI (M.bind (rd 2) intR) (M.bind (stRow true 0) lenR))) (asg 3)) (seq (M.bind (asx (stIx false 0 (rd 3))) (asg 4)) (seq (ifS (toB (m2 gtI (rd 4) (ret (.int 0)))) (seq (putLeft 0 (m2 fdivI (rd 4) (rd 1)) (rd 3)) (retS (asx (m2 modI (M.bind (rd 4) intR) (rd 1))))) (ret .nx)) (seq (M.bind (asx (frz (callN 2 g__law_mixed (aCons (frz (callN 2 g__law_mixed (aCons (stIx true 0 (rd 3)) (aCons (rd 2) (aNil))))) (aCons (m2 addI (ret (.int 40)) (rd 2)) (aNil)))))) (asg 5)) (retS (asx (m2 modI (m2 fdivI (M.bind (m2 addI (m2 mulI (rd 5) (ret (.int 2147483647))) (frz (callN 2 g__law_mixed (aCons (rd 5) (aCons (m2 addI (ret (.int 7)) (rd 2)) (aNil)))))) intR) (ret (.int 64))) (rd 1)))))))))
def g__law_draw : List Dat → List Dat → DS → GR := runG true false 6 m__law_draw
theorem sc__law_draw : FnScope ["state", "limit", "at", "place", "left", "number"] ["state", "limit"] (defScope (top 66)) := ⟨rfl, rfl, rfl, by decide +kernel, rfl, by decide +kernel, by decide +kernel⟩
theorem ok__law_draw {f : Addr} {fd : FuncData} (Fn : Fun K "_law_draw" "_law_draw" (top 66) f fd) (Z : Glo K mg) (h__law_mixed : Has P w K mg base C "_law_mixed" 1 2 g__law_mixed) : FnOk P w K mg base (L2.CX P w) 2 f fd ["state", "limit"] (spG K C true false (fun _ => True) 1 g__law_draw) :=
  fn_gen Fn sc__law_draw (by decide) (by decide) fun sa sc sl ia tb G0 H0 cdv A outer s E _ hr => ss_cons (as_ 2 sc__law_draw.nd (e_asx (stAt_ 0 hr))) (ss_cons (sAt_ 0 hr (e_add (v_ 2) (e_int))) (ss_cons (as_ 3 sc__law_draw.nd (e_asx (e_mod (int_ Z.b_int (v_ 2)) (len_ Z.b_len (rst_ true 0 hr))))) (ss_cons (as_ 4 sc__law_draw.nd (e_asx (stIx_ false 0 hr (v_ 3)))) (ss_cons (s_if (t_gt (v_ 4) (e_int)) (ss_cons (sLeft_ 0 hr (e_fdiv (v_ 4) (v_ 1)) (v_ 3)) (ss_one (s_ret (e_asx (e_mod (int_ Z.b_int (v_ 4)) (v_ 1)))))) (ss_nil)) (ss_cons (as_ 5 sc__law_draw.nd (e_asx (e_frz (call_ h__law_mixed hr tkC (a_cons (e_frz (call_ h__law_mixed hr tkC (a_cons (stIx_ true 0 hr (v_ 3)) (a_cons (v_ 2) (a_nil))))) (a_cons (e_add (e_int) (v_ 2)) (a_nil))))))) (ss_one (s_ret (e_asx (e_mod (e_fdiv (int_ Z.b_int (e_add (e_mul (v_ 5) (e_int)) (e_frz (call_ h__law_mixed hr tkC (a_cons (v_ 5) (a_cons (e_add (e_int) (v_ 2)) (a_nil))))))) (e_int)) (v_ 1))))))))))

def m__law_of : M Ctl := retS (asx (ixD (rd 1) (frz (callSM 1 g__law_draw (stArg 0 (aCons (M.bind (rowVar 1) lenR) (aNil)))))))
def g__law_of : List Dat → List Dat → DS → GR := runG true false 2 m__law_of
theorem sc__law_of : FnScope ["state", "some"] ["state", "some"] (defScope (top 67)) := ⟨rfl, rfl, rfl, by decide +kernel, rfl, by decide +kernel, by decide +kernel⟩
theorem ok__law_of {f : Addr} {fd : FuncData} (Fn : Fun K "_law_of" "_law_of" (top 67) f fd) (Z : Glo K mg)  (h__law_draw : HasG P w K mg base C true false "_law_draw" 2 1 g__law_draw) : FnOk P w K mg base (L2.CX P w) 3 f fd ["state", "some"] (spG K C true false (fun _ => True) 1 g__law_of) :=
  fn_gen Fn sc__law_of (by decide) (by decide) fun sa sc sl ia tb G0 H0 cdv A outer s E _ hr => ss_one (s_ret (e_asx (ix_ (v_ 1) (e_frz (callS_ h__law_draw hr tkC (ast_ 0 (a_cons (len_ Z.b_len (rv_ 1)) (a_nil))))))))

def m__law_branch (r__law_branch r__law_prefix r__law_piece : GF) : M Ctl := seq (M.bind (asx (frz (callSM 1 g__law_draw (stArg 0 (aCons (ret (.int 8)) (aNil)))))) (asg 4)) (seq (parM 5 6 (aCons (frz (callSM 1 g__law_of (stArg 0 (aCons (rd 1) (aNil))))) (aCons (frz (callSM 1 g__law_of (stArg 0 (aCons (rd 1) (aNil))))) (aNil)))) (seq (ifS (toB (m2 ltI (rd 4) (ret (.int 3)))) (retS (asx (M.bind (aCons (ret (.str "send")) (aCons (rd 5) (aCons (rd 6) (aCons (frz (callSM 4 r__law_piece (stArg 0 (aCons (rd 1) (aCons (m2 subI (rd 2) (ret (.int 1))) (aCons (rd 3) (aCons (ret (.bool true)) (aNil)))))))) (aNil))))) tupD))) (ret .nx)) (seq (ifS (toB (m2 ltI (rd 4) (ret (.int 5)))) (seq (M.bind (asx (frz (callSM 1 g__law_draw (stArg 0 (aCons (ret (.int 5)) (aNil)))))) (asg 7)) (seq (M.bind (asx (ifE (toB (inM false (rd 7) (rowVar 1))) (rd 1) (frz (M.bind (rd 1) fun x => M.bind (frz (M.bind (aCons (rd 7) (aNil)) lstD)) fun y => catD x y)))) (asg 8)) (retS (asx (M.bind (aCons (ret (.str "take")) (aCons (rd 5) (aCons (rd 7) (aCons (frz (callSM 4 r__law_piece (stArg 0 (aCons (rd 8) (aCons (m2 subI (rd 2) (ret (.int 1))) (aCons (rd 3) (aCons (ret (.bool true)) (aNil)))))))) (aNil))))) tupD))))) (ret .nx)) (seq (ifS (toB (m2 eqD (rd 4) (ret (.int 5)))) (retS (asx (M.bind (aCons (ret (.str "wait")) (aCons (frz (callSM 4 r__law_piece (stArg 0 (aCons (rd 1) (aCons (m2 subI (rd 2) (ret (.int 1))) (aCons (rd 3) (aCons (ret (.bool true)) (aNil)))))))) (aNil))) tupD))) (ret .nx)) (retS (asx (M.bind (aCons (ifE (toB (m2 eqD (rd 4) (ret (.int 6)))) (ret (.str "alike")) (ret (.str "unlike"))) (aCons (rd 5) (aCons (rd 6) (aCons (frz (callSM 3 r__law_prefix (stArg 0 (aCons (rd 1) (aCons (rd 2) (aCons (rd 3) (aNil))))))) (aNil))))) tupD)))))))
theorem sc__law_branch : FnScope ["state", "names", "size", "calls", "pick", "one", "other", "bound", "more"] ["state", "names", "size", "calls"] (defScope (top 68)) := ⟨rfl, rfl, rfl, by decide +kernel, rfl, by decide +kernel, by decide +kernel⟩

def m__law_prefix (r__law_branch r__law_prefix r__law_piece : GF) : M Ctl := seq (parM 4 5 (aCons (frz (callSM 1 g__law_draw (stArg 0 (aCons (ret (.int 3)) (aNil))))) (aCons (frz (callSM 1 g__law_of (stArg 0 (aCons (rd 1) (aNil))))) (aNil)))) (seq (ifS (toB (m2 eqD (rd 4) (ret (.int 0)))) (retS (asx (M.bind (aCons (ret (.str "send")) (aCons (rd 5) (aCons (frz (callSM 1 g__law_of (stArg 0 (aCons (rd 1) (aNil))))) (aCons (frz (callSM 4 r__law_piece (stArg 0 (aCons (rd 1) (aCons (m2 subI (rd 2) (ret (.int 1))) (aCons (rd 3) (aCons (ret (.bool true)) (aNil)))))))) (aNil))))) tupD))) (ret .nx)) (seq (ifS (toB (m2 eqD (rd 4) (ret (.int 1)))) (seq (M.bind (asx (frz (callSM 1 g__law_draw (stArg 0 (aCons (ret (.int 5)) (aNil)))))) (asg 6)) (seq (M.bind (asx (ifE (toB (inM false (rd 6) (rowVar 1))) (rd 1) (frz (M.bind (rd 1) fun x => M.bind (frz (M.bind (aCons (rd 6) (aNil)) lstD)) fun y => catD x y)))) (asg 7)) (retS (asx (M.bind (aCons (ret (.str "take")) (aCons (rd 5) (aCons (rd 6) (aCons (frz (callSM 4 r__law_piece (stArg 0 (aCons (rd 7) (aCons (m2 subI (rd 2) (ret (.int 1))) (aCons (rd 3) (aCons (ret (.bool true)) (aNil)))))))) (aNil))))) tupD))))) (ret .nx)) (retS (asx (M.bind (aCons (ret (.str "wait")) (aCons (frz (callSM 4 r__law_piece (stArg 0 (aCons (rd 1) (aCons (m2 subI (rd 2) (ret (.int 1))) (aCons (rd 3) (aCons (ret (.bool true)) (aNil)))))))) (aNil))) tupD)))))
theorem sc__law_prefix : FnScope ["state", "names", "size", "calls", "pick", "one", "bound", "more"] ["state", "names", "size", "calls"] (defScope (top 69)) := ⟨rfl, rfl, rfl, by decide +kernel, rfl, by decide +kernel, by decide +kernel⟩

def m__law_piece (r__law_branch r__law_prefix r__law_piece : GF) : M Ctl := seq (ifS (toB (m2 ltI (rd 2) (ret (.int 1)))) (seq (ifS (andB (toB (rd 4)) (andB (toB (m2 neD (rd 3) (frz (M.bind (aNil) lstD)))) (toB (m2 eqD (frz (callSM 1 g__law_draw (stArg 0 (aCons (ret (.int 2)) (aNil))))) (ret (.int 0)))))) (seq (M.bind (frz (callSM 1 g__law_of (stArg 0 (aCons (rd 3) (aNil))))) (tgtM (putTup 2 (putCons (put 10) (putCons (put 11) (putNil)))))) (retS (asx (M.bind (aCons (ret (.str "call")) (aCons (rd 10) (aCons (M.bind (rowX (M.bind (M.bind (aCons (rd 11) aNil) itR) (lcM [12] (put 12) (ret true) (frz (callSM 1 g__law_of (stArg 0 (aCons (rd 1) (aNil)))))))) tupR) (aNil)))) tupD)))) (ret .nx)) (retS (asx (M.bind (aCons (ret (.str "one")) (aCons (M.bind (aNil) tupD) (aNil))) tupD)))) (ret .nx)) (seq (M.bind (asx (frz (callSM 1 g__law_draw (stArg 0 (aCons (ret (.int 8)) (aNil)))))) (asg 5)) (seq (ifS (orB (toB (m2 ltI (rd 5) (ret (.int 4)))) (toB (m2 eqD (rd 2) (ret (.int 1))))) (retS (callSM 3 r__law_branch (stArg 0 (aCons (rd 1) (aCons (rd 2) (aCons (rd 3) (aNil))))))) (ret .nx)) (seq (ifS (toB (m2 eqD (rd 5) (ret (.int 4)))) (seq (M.bind (asx (frz (callSM 1 g__law_draw (stArg 0 (aCons (ret (.int 5)) (aNil)))))) (asg 8)) (seq (M.bind (asx (ifE (toB (inM false (rd 8) (rowVar 1))) (rd 1) (frz (M.bind (rd 1) fun x => M.bind (frz (M.bind (aCons (rd 8) (aNil)) lstD)) fun y => catD x y)))) (asg 9)) (retS (asx (M.bind (aCons (ret (.str "new")) (aCons (rd 8) (aCons (frz (callSM 3 r__law_branch (stArg 0 (aCons (rd 9) (aCons (rd 2) (aCons (rd 3) (aNil))))))) (aNil)))) tupD))))) (ret .nx)) (seq (M.bind (asx (m2 addI (ret (.int 1)) (frz (callSM 1 g__law_draw (stArg 0 (aCons (m2 subI (rd 2) (ret (.int 1))) (aNil))))))) (asg 6)) (seq (M.bind (asx (frz (callSM 3 r__law_branch (stArg 0 (aCons (rd 1) (aCons (rd 6) (aCons (rd 3) (aNil)))))))) (asg 7)) (retS (asx (M.bind (aCons (ret (.str "one")) (aCons (M.bind (aCons (rd 7) (aCons (frz (callSM 3 r__law_branch (stArg 0 (aCons (rd 1) (aCons (m2 subI (rd 2) (rd 6)) (aCons (rd 3) (aNil))))))) (aNil))) tupD) (aNil))) tupD))))))))
theorem sc__law_piece : FnScope ["state", "names", "size", "calls", "behind", "pick", "left", "one", "bound", "more", "number", "wide", "place"] ["state", "names", "size", "calls", "behind"] (defScope (top 70)) := ⟨rfl, rfl, rfl, by decide +kernel, rfl, by decide +kernel, by decide +kernel⟩

def g3 : Nat → GF × GF × GF
  | 0 => (noG, noG, noG)
  | k + 1 => (runG true false 9 (m__law_branch (g3 k).1 (g3 k).2.1 (g3 k).2.2), runG true false 8 (m__law_prefix (g3 k).1 (g3 k).2.1 (g3 k).2.2), runG true false 13 (m__law_piece (g3 k).1 (g3 k).2.1 (g3 k).2.2))
def g__law_branch (k : Nat) : GF := (g3 k).1
def g__law_prefix (k : Nat) : GF := (g3 k).2.1
def g__law_piece (k : Nat) : GF := (g3 k).2.2
theorem ok_group {f0 : Addr} {fd0 : FuncData} (F0 : Fun K "_law_branch" "_law_branch" (top 68) f0 fd0) (a0 : At K mg "_law_branch" f0 fd0 ["state", "names", "size", "calls"]) {f1 : Addr} {fd1 : FuncData} (F1 : Fun K "_law_prefix" "_law_prefix" (top 69) f1 fd1) (a1 : At K mg "_law_prefix" f1 fd1 ["state", "names", "size", "calls"]) {f2 : Addr} {fd2 : FuncData} (F2 : Fun K "_law_piece" "_law_piece" (top 70) f2 fd2) (a2 : At K mg "_law_piece" f2 fd2 ["state", "names", "size", "calls", "behind"]) (Z : Glo K mg) (h__law_draw : HasG P w K mg base C true false "_law_draw" 2 1 g__law_draw) (h__law_of : HasG P w K mg base C true false "_law_of" 3 1 g__law_of) : ∀ k : Nat, FnOk P w K mg base (L2.CX P w) (4 + k) f0 fd0 ["state", "names", "size", "calls"] (spG K C true false (fun _ => True) 3 (g__law_branch k)) ∧ FnOk P w K mg base (L2.CX P w) (4 + k) f1 fd1 ["state", "names", "size", "calls"] (spG K C true false (fun _ => True) 3 (g__law_prefix k)) ∧ FnOk P w K mg base (L2.CX P w) (4 + k) f2 fd2 ["state", "names", "size", "calls", "behind"] (spG K C true false (fun _ => True) 4 (g__law_piece k))
  | 0 => ⟨fn_noneG, fn_noneG, fn_noneG⟩
  | k + 1 => by
    obtain ⟨o0, o1, o2⟩ := ok_group F0 a0 F1 a1 F2 a2 Z h__law_draw h__law_of k
    have h__law_branch : HasG P w K mg base C true false "_law_branch" (4 + k) 3 (g__law_branch k) := a0.hasG o0
    have h__law_prefix : HasG P w K mg base C true false "_law_prefix" (4 + k) 3 (g__law_prefix k) := a1.hasG o1
    have h__law_piece : HasG P w K mg base C true false "_law_piece" (4 + k) 4 (g__law_piece k) := a2.hasG o2
    refine ⟨?_, ?_, ?_⟩
    · exact fn_gen (k := 4 + k) F0 sc__law_branch (by decide) (by decide) fun sa sc sl ia tb G0 H0 cdv A outer s E _ hr => ss_cons (as_ 4 sc__law_branch.nd (e_asx (e_frz (callS_ h__law_draw hr tkC (ast_ 0 (a_cons (e_int) (a_nil))) (by omega))))) (ss_cons (par_ 5 6 sc__law_branch.nd (a_cons (e_frz (callS_ h__law_of hr tkC (ast_ 0 (a_cons (v_ 1) (a_nil))) (by omega))) (a_cons (e_frz (callS_ h__law_of hr tkC (ast_ 0 (a_cons (v_ 1) (a_nil))) (by omega))) (a_nil)))) (ss_cons (s_if (t_lt (v_ 4) (e_int)) (ss_one (s_ret (e_asx (e_tup (a_cons (e_str) (a_cons (v_ 5) (a_cons (v_ 6) (a_cons (e_frz (callS_ h__law_piece hr tkC (ast_ 0 (a_cons (v_ 1) (a_cons (e_sub (v_ 2) (e_int)) (a_cons (v_ 3) (a_cons (e_bl) (a_nil)))))) (by omega))) (a_nil))))))))) (ss_nil)) (ss_cons (s_if (t_lt (v_ 4) (e_int)) (ss_cons (as_ 7 sc__law_branch.nd (e_asx (e_frz (callS_ h__law_draw hr tkC (ast_ 0 (a_cons (e_int) (a_nil))) (by omega))))) (ss_cons (as_ 8 sc__law_branch.nd (e_asx (e_if (tin_ (v_ 7) (rv_ 1)) (v_ 1) (e_frz (cat_ (v_ 1) (e_frz (e_lst (a_cons (v_ 7) (a_nil))))))))) (ss_one (s_ret (e_asx (e_tup (a_cons (e_str) (a_cons (v_ 5) (a_cons (v_ 7) (a_cons (e_frz (callS_ h__law_piece hr tkC (ast_ 0 (a_cons (v_ 8) (a_cons (e_sub (v_ 2) (e_int)) (a_cons (v_ 3) (a_cons (e_bl) (a_nil)))))) (by omega))) (a_nil))))))))))) (ss_nil)) (ss_cons (s_if (teq_ hr.units (v_ 4) (e_int)) (ss_one (s_ret (e_asx (e_tup (a_cons (e_str) (a_cons (e_frz (callS_ h__law_piece hr tkC (ast_ 0 (a_cons (v_ 1) (a_cons (e_sub (v_ 2) (e_int)) (a_cons (v_ 3) (a_cons (e_bl) (a_nil)))))) (by omega))) (a_nil))))))) (ss_nil)) (ss_one (s_ret (e_asx (e_tup (a_cons (e_if (teq_ hr.units (v_ 4) (e_int)) (e_str) (e_str)) (a_cons (v_ 5) (a_cons (v_ 6) (a_cons (e_frz (callS_ h__law_prefix hr tkC (ast_ 0 (a_cons (v_ 1) (a_cons (v_ 2) (a_cons (v_ 3) (a_nil))))) (by omega))) (a_nil)))))))))))))
    · exact fn_gen (k := 4 + k) F1 sc__law_prefix (by decide) (by decide) fun sa sc sl ia tb G0 H0 cdv A outer s E _ hr => ss_cons (par_ 4 5 sc__law_prefix.nd (a_cons (e_frz (callS_ h__law_draw hr tkC (ast_ 0 (a_cons (e_int) (a_nil))) (by omega))) (a_cons (e_frz (callS_ h__law_of hr tkC (ast_ 0 (a_cons (v_ 1) (a_nil))) (by omega))) (a_nil)))) (ss_cons (s_if (teq_ hr.units (v_ 4) (e_int)) (ss_one (s_ret (e_asx (e_tup (a_cons (e_str) (a_cons (v_ 5) (a_cons (e_frz (callS_ h__law_of hr tkC (ast_ 0 (a_cons (v_ 1) (a_nil))) (by omega))) (a_cons (e_frz (callS_ h__law_piece hr tkC (ast_ 0 (a_cons (v_ 1) (a_cons (e_sub (v_ 2) (e_int)) (a_cons (v_ 3) (a_cons (e_bl) (a_nil)))))) (by omega))) (a_nil))))))))) (ss_nil)) (ss_cons (s_if (teq_ hr.units (v_ 4) (e_int)) (ss_cons (as_ 6 sc__law_prefix.nd (e_asx (e_frz (callS_ h__law_draw hr tkC (ast_ 0 (a_cons (e_int) (a_nil))) (by omega))))) (ss_cons (as_ 7 sc__law_prefix.nd (e_asx (e_if (tin_ (v_ 6) (rv_ 1)) (v_ 1) (e_frz (cat_ (v_ 1) (e_frz (e_lst (a_cons (v_ 6) (a_nil))))))))) (ss_one (s_ret (e_asx (e_tup (a_cons (e_str) (a_cons (v_ 5) (a_cons (v_ 6) (a_cons (e_frz (callS_ h__law_piece hr tkC (ast_ 0 (a_cons (v_ 7) (a_cons (e_sub (v_ 2) (e_int)) (a_cons (v_ 3) (a_cons (e_bl) (a_nil)))))) (by omega))) (a_nil))))))))))) (ss_nil)) (ss_one (s_ret (e_asx (e_tup (a_cons (e_str) (a_cons (e_frz (callS_ h__law_piece hr tkC (ast_ 0 (a_cons (v_ 1) (a_cons (e_sub (v_ 2) (e_int)) (a_cons (v_ 3) (a_cons (e_bl) (a_nil)))))) (by omega))) (a_nil)))))))))
    · exact fn_gen (k := 4 + k) F2 sc__law_piece (by decide) (by decide) fun sa sc sl ia tb G0 H0 cdv A outer s E _ hr => ss_cons (s_if (t_lt (v_ 2) (e_int)) (ss_cons (s_if (L2.PW.pt (w_and (t_val (v_ 4)) (w_and (tne_ hr.units (v_ 3) (e_frz (e_lst (a_nil)))) (w_and1 (teq_ hr.units (e_frz (callS_ h__law_draw hr tkC (ast_ 0 (a_cons (e_int) (a_nil))) (by omega))) (e_int)))))) (ss_cons (s_asgT (e_frz (callS_ h__law_of hr tkC (ast_ 0 (a_cons (v_ 3) (a_nil))) (by omega))) (tg_tup rfl rfl (tgs_cons (tn_ 10 sc__law_piece.nd) (tgs_cons (tn_ 11 sc__law_piece.nd) (tgs_nil))))) (ss_one (s_ret (e_asx (e_tup (a_cons (e_str) (a_cons (v_ 10) (a_cons (tuple_ Z.b_tuple (r_new (lc1_ ["state", "names", "size", "calls", "behind", "pick", "left", "one", "bound", "more", "number", "wide", "place"] (defScope (top 70)) sc__law_piece.nd 12 (i_range rfl Z.b_range (v_ 11)) (fun _ _ _ _ _ _ => e_frz (callS_ h__law_of hr L2.takes0 (ast_ 0 (a_cons (v_ 1) (a_nil))) (by omega)))))) (a_nil))))))))) (ss_nil)) (ss_one (s_ret (e_asx (e_tup (a_cons (e_str) (a_cons (e_tup (a_nil)) (a_nil)))))))) (ss_nil)) (ss_cons (as_ 5 sc__law_piece.nd (e_asx (e_frz (callS_ h__law_draw hr tkC (ast_ 0 (a_cons (e_int) (a_nil))) (by omega))))) (ss_cons (s_if (L2.PW.pt (w_or (t_lt (v_ 5) (e_int)) (w_or1 (teq_ hr.units (v_ 2) (e_int))))) (ss_one (s_ret (callS_ h__law_branch hr tkC (ast_ 0 (a_cons (v_ 1) (a_cons (v_ 2) (a_cons (v_ 3) (a_nil))))) (by omega)))) (ss_nil)) (ss_cons (s_if (teq_ hr.units (v_ 5) (e_int)) (ss_cons (as_ 8 sc__law_piece.nd (e_asx (e_frz (callS_ h__law_draw hr tkC (ast_ 0 (a_cons (e_int) (a_nil))) (by omega))))) (ss_cons (as_ 9 sc__law_piece.nd (e_asx (e_if (tin_ (v_ 8) (rv_ 1)) (v_ 1) (e_frz (cat_ (v_ 1) (e_frz (e_lst (a_cons (v_ 8) (a_nil))))))))) (ss_one (s_ret (e_asx (e_tup (a_cons (e_str) (a_cons (v_ 8) (a_cons (e_frz (callS_ h__law_branch hr tkC (ast_ 0 (a_cons (v_ 9) (a_cons (v_ 2) (a_cons (v_ 3) (a_nil))))) (by omega))) (a_nil)))))))))) (ss_nil)) (ss_cons (as_ 6 sc__law_piece.nd (e_asx (e_add (e_int) (e_frz (callS_ h__law_draw hr tkC (ast_ 0 (a_cons (e_sub (v_ 2) (e_int)) (a_nil))) (by omega)))))) (ss_cons (as_ 7 sc__law_piece.nd (e_asx (e_frz (callS_ h__law_branch hr tkC (ast_ 0 (a_cons (v_ 1) (a_cons (v_ 6) (a_cons (v_ 3) (a_nil))))) (by omega))))) (ss_one (s_ret (e_asx (e_tup (a_cons (e_str) (a_cons (e_tup (a_cons (v_ 7) (a_cons (e_frz (callS_ h__law_branch hr tkC (ast_ 0 (a_cons (v_ 1) (a_cons (e_sub (v_ 2) (v_ 6)) (a_cons (v_ 3) (a_nil))))) (by omega))) (a_nil)))) (a_nil))))))))))))

def m__law_finite : M Ctl := seq (M.bind (asx (frz (M.bind (rd 1) lsRgR))) (asg 3)) (seq (M.bind (asx (frz (callSM 1 g__law_draw (stArg 0 (aCons (ret (.int 4)) (aNil)))))) (asg 4)) (seq (ifS (orB (toB (m2 eqD (rd 4) (ret (.int 0)))) (toB (m2 ltI (rd 2) (ret (.int 2))))) (retS (asx (M.bind (aCons (M.bind (aNil) tupD) (aCons (frz (callSM 4 (g__law_piece 20) (stArg 0 (aCons (rd 3) (aCons (m2 minI2 (rd 2) (ret (.int 3))) (aCons (frz (M.bind (aNil) lstD)) (aCons (ret (.bool true)) (aNil)))))))) (aNil))) tupD))) (ret .nx)) (seq (M.bind (asx (m2 addI (ret (.int 1)) (frz (callSM 1 g__law_draw (stArg 0 (aCons (m2 subI (rd 2) (ret (.int 1))) (aNil))))))) (asg 5)) (seq (M.bind (asx (ifE (toB (m2 eqD (rd 4) (ret (.int 3)))) (frz (M.bind (rd 3) fun x => M.bind (frz (M.bind (aCons (ret (.int 9)) (aNil)) lstD)) fun y => catD x y)) (rd 3))) (asg 6)) (seq (M.bind (asx (frz (callSM 4 (g__law_piece 20) (stArg 0 (aCons (rd 6) (aCons (m2 minI2 (rd 5) (ret (.int 3))) (aCons (frz (M.bind (aNil) lstD)) (aCons (ret (.bool true)) (aNil))))))))) (asg 7)) (seq (M.bind (asx (frz (callSM 4 (g__law_piece 20) (stArg 0 (aCons (rd 6) (aCons (m2 minI2 (m2 subI (rd 2) (rd 5)) (ret (.int 3))) (aCons (frz (M.bind (aNil) lstD)) (aCons (ret (.bool true)) (aNil))))))))) (asg 8)) (seq (ifS (toB (m2 ltI (rd 4) (ret (.int 3)))) (retS (asx (M.bind (aCons (M.bind (aNil) tupD) (aCons (M.bind (aCons (ret (.str "beside")) (aCons (M.bind (aCons (rd 7) (aCons (rd 8) (aNil))) tupD) (aNil))) tupD) (aNil))) tupD))) (ret .nx)) (retS (asx (M.bind (aCons (M.bind (aNil) tupD) (aCons (M.bind (aCons (ret (.str "new")) (aCons (ret (.int 9)) (aCons (M.bind (aCons (ret (.str "beside")) (aCons (M.bind (aCons (rd 7) (aCons (rd 8) (aNil))) tupD) (aNil))) tupD) (aNil)))) tupD) (aNil))) tupD))))))))))
def g__law_finite : List Dat → List Dat → DS → GR := runG true false 9 m__law_finite
theorem sc__law_finite : FnScope ["state", "many_so", "size", "names", "pick", "left", "more", "one", "other"] ["state", "many_so", "size"] (defScope (top 71)) := ⟨rfl, rfl, rfl, by decide +kernel, rfl, by decide +kernel, by decide +kernel⟩
theorem ok__law_finite {f : Addr} {fd : FuncData} (Fn : Fun K "_law_finite" "_law_finite" (top 71) f fd) (Z : Glo K mg)  (h__law_draw : HasG P w K mg base C true false "_law_draw" 2 1 g__law_draw) (h__law_piece : HasG P w K mg base C true false "_law_piece" 24 4 (g__law_piece 20)) : FnOk P w K mg base (L2.CX P w) 25 f fd ["state", "many_so", "size"] (spG K C true false (fun _ => True) 2 g__law_finite) :=
  fn_gen Fn sc__law_finite (by decide) (by decide) fun sa sc sl ia tb G0 H0 cdv A outer s E _ hr => ss_cons (as_ 3 sc__law_finite.nd (e_asx (e_frz (listRg_ Z.b_list Z.b_range (v_ 1))))) (ss_cons (as_ 4 sc__law_finite.nd (e_asx (e_frz (callS_ h__law_draw hr tkC (ast_ 0 (a_cons (e_int) (a_nil))))))) (ss_cons (s_if (L2.PW.pt (w_or (teq_ hr.units (v_ 4) (e_int)) (w_or1 (t_lt (v_ 2) (e_int))))) (ss_one (s_ret (e_asx (e_tup (a_cons (e_tup (a_nil)) (a_cons (e_frz (callS_ h__law_piece hr tkC (ast_ 0 (a_cons (v_ 3) (a_cons (e_min2 rfl rfl Z.b_min (v_ 2) (e_int)) (a_cons (e_frz (e_lst (a_nil))) (a_cons (e_bl) (a_nil)))))))) (a_nil))))))) (ss_nil)) (ss_cons (as_ 5 sc__law_finite.nd (e_asx (e_add (e_int) (e_frz (callS_ h__law_draw hr tkC (ast_ 0 (a_cons (e_sub (v_ 2) (e_int)) (a_nil)))))))) (ss_cons (as_ 6 sc__law_finite.nd (e_asx (e_if (teq_ hr.units (v_ 4) (e_int)) (e_frz (cat_ (v_ 3) (e_frz (e_lst (a_cons (e_int) (a_nil)))))) (v_ 3)))) (ss_cons (as_ 7 sc__law_finite.nd (e_asx (e_frz (callS_ h__law_piece hr tkC (ast_ 0 (a_cons (v_ 6) (a_cons (e_min2 rfl rfl Z.b_min (v_ 5) (e_int)) (a_cons (e_frz (e_lst (a_nil))) (a_cons (e_bl) (a_nil)))))))))) (ss_cons (as_ 8 sc__law_finite.nd (e_asx (e_frz (callS_ h__law_piece hr tkC (ast_ 0 (a_cons (v_ 6) (a_cons (e_min2 rfl rfl Z.b_min (e_sub (v_ 2) (v_ 5)) (e_int)) (a_cons (e_frz (e_lst (a_nil))) (a_cons (e_bl) (a_nil)))))))))) (ss_cons (s_if (t_lt (v_ 4) (e_int)) (ss_one (s_ret (e_asx (e_tup (a_cons (e_tup (a_nil)) (a_cons (e_tup (a_cons (e_str) (a_cons (e_tup (a_cons (v_ 7) (a_cons (v_ 8) (a_nil)))) (a_nil)))) (a_nil))))))) (ss_nil)) (ss_one (s_ret (e_asx (e_tup (a_cons (e_tup (a_nil)) (a_cons (e_tup (a_cons (e_str) (a_cons (e_int) (a_cons (e_tup (a_cons (e_str) (a_cons (e_tup (a_cons (v_ 7) (a_cons (v_ 8) (a_nil)))) (a_nil)))) (a_nil))))) (a_nil))))))))))))))

def m__law_inside : M Ctl := seq (ifS (toB (inM false (ixD (rd 0) (ret (.int 0))) (rowD (M.bind (aCons (ret (.str "one")) (aCons (ret (.str "beside")) (aNil))) tupD)))) (retS (M.bind (M.bind (ixD (rd 0) (ret (.int 1))) enT) (lcM [1, 2] (putTup 2 (putCons (put 1) (putCons (put 2) (putNil)))) (ret true) (M.bind (aCons (M.bind (aCons (ret (.int 1)) (aCons (rd 1) (aNil))) tupD) (aCons (rd 2) (aNil))) tupD)))) (ret .nx)) (seq (ifS (toB (inM false (ixD (rd 0) (ret (.int 0))) (rowD (M.bind (aCons (ret (.str "wait")) (aCons (ret (.str "new")) (aNil))) tupD)))) (retS (asx (ifE (toB (m2 eqD (ixD (rd 0) (ret (.int 0))) (ret (.str "wait")))) (frz (M.bind (aCons (M.bind (aCons (M.bind (aCons (ret (.int 1)) (aNil)) tupD) (aCons (ixD (rd 0) (ret (.int 1))) (aNil))) tupD) (aNil)) lstD)) (frz (M.bind (aCons (M.bind (aCons (M.bind (aCons (ret (.int 2)) (aNil)) tupD) (aCons (ixD (rd 0) (ret (.int 2))) (aNil))) tupD) (aNil)) lstD))))) (ret .nx)) (retS (asx (ifE (toB (m2 eqD (M.bind (rowVar 0) lenR) (ret (.int 4)))) (frz (M.bind (aCons (M.bind (aCons (M.bind (aCons (ret (.int 3)) (aNil)) tupD) (aCons (ixD (rd 0) (ret (.int 3))) (aNil))) tupD) (aNil)) lstD)) (frz (M.bind (aNil) lstD))))))
def g__law_inside : List Dat → PR := runP 3 m__law_inside
theorem sc__law_inside : FnScope ["piece", "at", "part"] ["piece"] (defScope (top 74)) := ⟨rfl, rfl, rfl, by decide +kernel, rfl, by decide +kernel, by decide +kernel⟩
theorem ok__law_inside {f : Addr} {fd : FuncData} (Fn : Fun K "_law_inside" "_law_inside" (top 74) f fd) (Z : Glo K mg)  : FnOk P w K mg base (L2.CX P w) 1 f fd ["piece"] (spP K C 1 g__law_inside) :=
  fn_pure Fn sc__law_inside (by decide) fun G0 H0 cdv A outer s E hr => ss_cons (s_if (tin_ (ix_ (v_ 0) (e_int)) (r_data (e_tup (a_cons (e_str) (a_cons (e_str) (a_nil)))))) (ss_one (s_ret (lcT_ ["piece", "at", "part"] (defScope (top 74)) [("at", 1), ("part", 2)] sc__law_inside.nd (i_enumT rfl rfl Z.b_enumerate (ix_ (v_ 0) (e_int))) (fun _ _ _ _ _ => pg_tup rfl (pgs_cons (pgn_ 1 sc__law_inside.nd) (pgs_cons (pgn_ 2 sc__law_inside.nd) (pgs_nil)))) (fun _ => gok_tup rfl (gsok_cons (gok_name) (gsok_cons (gok_name) (gsok_nil)))) (fun _ _ _ _ _ => pts_nil) (fun ps σ H Q h => noif ps σ H Q h) (fun _ _ _ _ _ _ => e_tup (a_cons (e_tup (a_cons (e_int) (a_cons (v_ 1) (a_nil)))) (a_cons (v_ 2) (a_nil))))))) (ss_nil)) (ss_cons (s_if (tin_ (ix_ (v_ 0) (e_int)) (r_data (e_tup (a_cons (e_str) (a_cons (e_str) (a_nil)))))) (ss_one (s_ret (e_asx (e_if (teq_ hr.units (ix_ (v_ 0) (e_int)) (e_str)) (e_frz (e_lst (a_cons (e_tup (a_cons (e_tup (a_cons (e_int) (a_nil))) (a_cons (ix_ (v_ 0) (e_int)) (a_nil)))) (a_nil)))) (e_frz (e_lst (a_cons (e_tup (a_cons (e_tup (a_cons (e_int) (a_nil))) (a_cons (ix_ (v_ 0) (e_int)) (a_nil)))) (a_nil)))))))) (ss_nil)) (ss_one (s_ret (e_asx (e_if (teq_ hr.units (len_ Z.b_len (rv_ 0)) (e_int)) (e_frz (e_lst (a_cons (e_tup (a_cons (e_tup (a_cons (e_int) (a_nil))) (a_cons (ix_ (v_ 0) (e_int)) (a_nil)))) (a_nil)))) (e_frz (e_lst (a_nil))))))))

def m__law_listed (rec : List Dat → PR) : M Ctl := seq (M.bind (asx (frz (M.bind (aCons (M.bind (aCons (rd 1) (aCons (rd 0) (aNil))) tupD) (aNil)) lstD))) (asg 2)) (seq (M.bind (M.bind (frz (callN 1 g__law_inside (aCons (rd 0) (aNil)))) itL) fun items => forL (putTup 2 (putCons (put 3) (putCons (put 4) (putNil)))) (M.bind (asx (frz (M.bind (rd 2) fun x => M.bind (frz (callN 2 rec (aCons (rd 4) (aCons (frz (M.bind (rd 1) fun x => M.bind (rd 3) fun y => catD x y)) (aNil))))) fun y => catD x y))) (asg 2)) items) (retS (asx (rd 2))))
def g__law_listed : Nat → List Dat → PR
  | 0 => fun _ => .bad
  | k + 1 => runP 5 (m__law_listed (g__law_listed k))
theorem sc__law_listed : FnScope ["piece", "path", "found", "rest", "part"] ["piece", "path"] (defScope (top 75)) := ⟨rfl, rfl, rfl, by decide +kernel, rfl, by decide +kernel, by decide +kernel⟩
theorem ok__law_listed {f : Addr} {fd : FuncData} (Fn : Fun K "_law_listed" "_law_listed" (top 75) f fd) (a : At K mg "_law_listed" f fd ["piece", "path"]) (Z : Glo K mg) (h__law_inside : Has P w K mg base C "_law_inside" 1 1 g__law_inside) : ∀ k : Nat, FnOk P w K mg base (L2.CX P w) (2 + k) f fd ["piece", "path"] (spP K C 2 (g__law_listed k))
  | 0 => fn_none
  | k + 1 => by
    have h__law_listed : Has P w K mg base C "_law_listed" (2 + k) 2 (g__law_listed k) := a.has rfl (ok__law_listed Fn a Z h__law_inside k)
    exact fn_pure (k := 2 + k) Fn sc__law_listed (by decide) fun G0 H0 cdv A outer s E hr => ss_cons (as_ 2 sc__law_listed.nd (e_asx (e_frz (e_lst (a_cons (e_tup (a_cons (v_ 1) (a_cons (v_ 0) (a_nil)))) (a_nil)))))) (ss_cons (s_for poC rfl (i_list rfl (e_frz (call_ h__law_inside hr tkC (a_cons (v_ 0) (a_nil)) (by omega)))) (tg_tup rfl rfl (tgs_cons (tn_ 3 sc__law_listed.nd) (tgs_cons (tn_ 4 sc__law_listed.nd) (tgs_nil)))) (ss_one (as_ 2 sc__law_listed.nd (e_asx (e_frz (cat_ (v_ 2) (e_frz (call_ h__law_listed hr tkC (a_cons (v_ 4) (a_cons (e_frz (cat_ (v_ 1) (v_ 3))) (a_nil))) (by omega))))))))) (ss_one (s_ret (e_asx (v_ 2)))))

def m__law_whole : M Ctl := seq (M.bind (asx (frz (M.bind (aNil) lstD))) (asg 1)) (seq (M.bind (M.bind (ixD (rd 0) (ret (.int 0))) enT) fun items => forL (putTup 2 (putCons (put 2) (putCons (put 3) (putNil)))) (M.bind (asx (frz (M.bind (rd 1) fun x => M.bind (frz (callN 2 (g__law_listed 30) (aCons (ixD (rd 3) (ret (.int 1))) (aCons (M.bind (aCons (ret (.int 0)) (aCons (rd 2) (aCons (ret (.int 1)) (aNil)))) tupD) (aNil))))) fun y => catD x y))) (asg 1)) items) (retS (M.bind (rd 1) fun x => M.bind (frz (callN 2 (g__law_listed 30) (aCons (ixD (rd 0) (ret (.int 1))) (aCons (M.bind (aCons (ret (.int 1)) (aNil)) tupD) (aNil))))) fun y => catD x y)))
def g__law_whole : List Dat → PR := runP 4 m__law_whole
theorem sc__law_whole : FnScope ["program", "found", "number", "pair"] ["program"] (defScope (top 76)) := ⟨rfl, rfl, rfl, by decide +kernel, rfl, by decide +kernel, by decide +kernel⟩
theorem ok__law_whole {f : Addr} {fd : FuncData} (Fn : Fun K "_law_whole" "_law_whole" (top 76) f fd) (Z : Glo K mg) (h__law_listed : Has P w K mg base C "_law_listed" 32 2 (g__law_listed 30)) : FnOk P w K mg base (L2.CX P w) 33 f fd ["program"] (spP K C 1 g__law_whole) :=
  fn_pure Fn sc__law_whole (by decide) fun G0 H0 cdv A outer s E hr => ss_cons (as_ 1 sc__law_whole.nd (e_asx (e_frz (e_lst (a_nil))))) (ss_cons (s_for poC rfl (i_enumT rfl rfl Z.b_enumerate (ix_ (v_ 0) (e_int))) (tg_tup rfl rfl (tgs_cons (tn_ 2 sc__law_whole.nd) (tgs_cons (tn_ 3 sc__law_whole.nd) (tgs_nil)))) (ss_one (as_ 1 sc__law_whole.nd (e_asx (e_frz (cat_ (v_ 1) (e_frz (call_ h__law_listed hr tkC (a_cons (ix_ (v_ 3) (e_int)) (a_cons (e_tup (a_cons (e_int) (a_cons (v_ 2) (a_cons (e_int) (a_nil))))) (a_nil))))))))))) (ss_one (s_ret (cat_ (v_ 1) (e_frz (call_ h__law_listed hr tkC (a_cons (ix_ (v_ 0) (e_int)) (a_cons (e_tup (a_cons (e_int) (a_nil))) (a_nil)))))))))

def m__law_deep (rec : List Dat → PR) : M Ctl := retS (asx (m2 addI (ret (.int 1)) (M.bind (rowX (M.bind (frz (M.bind (aCons (ret (.int 0)) (aNil)) lstD)) fun x => M.bind (frz (M.bind (M.bind (frz (callN 1 g__law_inside (aCons (rd 0) (aNil)))) itL) (lcM [1, 2] (putTup 2 (putCons (put 1) (putCons (put 2) (putNil)))) (ret true) (frz (callN 1 rec (aCons (rd 2) (aNil))))))) fun y => catD x y)) maxR)))
def g__law_deep : Nat → List Dat → PR
  | 0 => fun _ => .bad
  | k + 1 => runP 3 (m__law_deep (g__law_deep k))
theorem sc__law_deep : FnScope ["piece", "rest", "part"] ["piece"] (defScope (top 77)) := ⟨rfl, rfl, rfl, by decide +kernel, rfl, by decide +kernel, by decide +kernel⟩
theorem ok__law_deep {f : Addr} {fd : FuncData} (Fn : Fun K "_law_deep" "_law_deep" (top 77) f fd) (a : At K mg "_law_deep" f fd ["piece"]) (Z : Glo K mg) (h__law_inside : Has P w K mg base C "_law_inside" 1 1 g__law_inside) : ∀ k : Nat, FnOk P w K mg base (L2.CX P w) (2 + k) f fd ["piece"] (spP K C 1 (g__law_deep k))
  | 0 => fn_none
  | k + 1 => by
    have h__law_deep : Has P w K mg base C "_law_deep" (2 + k) 1 (g__law_deep k) := a.has rfl (ok__law_deep Fn a Z h__law_inside k)
    exact fn_pure (k := 2 + k) Fn sc__law_deep (by decide) fun G0 H0 cdv A outer s E hr => ss_one (s_ret (e_asx (e_add (e_int) (e_max rfl rfl rfl Z.b_max (r_new (cat_ (e_frz (e_lst (a_cons (e_int) (a_nil)))) (e_frz (lcT_ ["piece", "rest", "part"] (defScope (top 77)) [("rest", 1), ("part", 2)] sc__law_deep.nd (i_list rfl (e_frz (call_ h__law_inside hr tkC (a_cons (v_ 0) (a_nil)) (by omega)))) (fun _ _ _ _ _ => pg_tup rfl (pgs_cons (pgn_ 1 sc__law_deep.nd) (pgs_cons (pgn_ 2 sc__law_deep.nd) (pgs_nil)))) (fun _ => gok_tup rfl (gsok_cons (gok_name) (gsok_cons (gok_name) (gsok_nil)))) (fun _ _ _ _ _ => pts_nil) (fun ps σ H Q h => noif ps σ H Q h) (fun _ _ _ _ _ _ => e_frz (call_ h__law_deep hr L2.takes0 (a_cons (v_ 2) (a_nil)) (by omega)))))))))))

def m__law_free (rec : List Dat → PR) : M Ctl := seq (M.bind (asx (frz (M.bind (aNil) lstD))) (asg 1)) (seq (M.bind (M.bind (frz (callN 1 g__law_inside (aCons (rd 0) (aNil)))) itL) fun items => forL (putTup 2 (putCons (put 2) (putCons (put 3) (putNil)))) (M.bind (asx (frz (M.bind (rd 1) fun x => M.bind (frz (callN 1 rec (aCons (rd 3) (aNil)))) fun y => catD x y))) (asg 1)) items) (seq (ifS (toB (m2 eqD (ixD (rd 0) (ret (.int 0))) (ret (.str "call")))) (M.bind (asx (frz (M.bind (rowD (ixD (rd 0) (ret (.int 2)))) lstR))) (asg 1)) (ret .nx)) (seq (ifS (toB (m2 eqD (ixD (rd 0) (ret (.int 0))) (ret (.str "new")))) (M.bind (asx (frz (M.bind (M.bind (rd 1) itL) (lcM [4] (put 4) (toB (m2 neD (rd 4) (ixD (rd 0) (ret (.int 1))))) (rd 4))))) (asg 1)) (ret .nx)) (seq (ifS (toB (m2 eqD (ixD (rd 0) (ret (.int 0))) (ret (.str "take")))) (M.bind (asx (frz (M.bind (frz (M.bind (aCons (ixD (rd 0) (ret (.int 1))) (aNil)) lstD)) fun x => M.bind (frz (M.bind (M.bind (rd 1) itL) (lcM [4] (put 4) (toB (m2 neD (rd 4) (ixD (rd 0) (ret (.int 2))))) (rd 4)))) fun y => catD x y))) (asg 1)) (ret .nx)) (seq (ifS (toB (inM false (ixD (rd 0) (ret (.int 0))) (rowD (M.bind (aCons (ret (.str "send")) (aCons (ret (.str "alike")) (aCons (ret (.str "unlike")) (aNil)))) tupD)))) (M.bind (asx (frz (M.bind (rd 1) fun x => M.bind (frz (M.bind (aCons (ixD (rd 0) (ret (.int 1))) (aCons (ixD (rd 0) (ret (.int 2))) (aNil))) lstD)) fun y => catD x y))) (asg 1)) (ret .nx)) (retS (M.bind (rowVar 1) setSortR)))))))
def g__law_free : Nat → List Dat → PR
  | 0 => fun _ => .bad
  | k + 1 => runP 5 (m__law_free (g__law_free k))
theorem sc__law_free : FnScope ["piece", "found", "rest", "part", "name"] ["piece"] (defScope (top 78)) := ⟨rfl, rfl, rfl, by decide +kernel, rfl, by decide +kernel, by decide +kernel⟩
theorem ok__law_free {f : Addr} {fd : FuncData} (Fn : Fun K "_law_free" "_law_free" (top 78) f fd) (a : At K mg "_law_free" f fd ["piece"]) (Z : Glo K mg) (h__law_inside : Has P w K mg base C "_law_inside" 1 1 g__law_inside) : ∀ k : Nat, FnOk P w K mg base (L2.CX P w) (2 + k) f fd ["piece"] (spP K C 1 (g__law_free k))
  | 0 => fn_none
  | k + 1 => by
    have h__law_free : Has P w K mg base C "_law_free" (2 + k) 1 (g__law_free k) := a.has rfl (ok__law_free Fn a Z h__law_inside k)
    exact fn_pure (k := 2 + k) Fn sc__law_free (by decide) fun G0 H0 cdv A outer s E hr => ss_cons (as_ 1 sc__law_free.nd (e_asx (e_frz (e_lst (a_nil))))) (ss_cons (s_for poC rfl (i_list rfl (e_frz (call_ h__law_inside hr tkC (a_cons (v_ 0) (a_nil)) (by omega)))) (tg_tup rfl rfl (tgs_cons (tn_ 2 sc__law_free.nd) (tgs_cons (tn_ 3 sc__law_free.nd) (tgs_nil)))) (ss_one (as_ 1 sc__law_free.nd (e_asx (e_frz (cat_ (v_ 1) (e_frz (call_ h__law_free hr tkC (a_cons (v_ 3) (a_nil)) (by omega))))))))) (ss_cons (s_if (teq_ hr.units (ix_ (v_ 0) (e_int)) (e_str)) (ss_one (as_ 1 sc__law_free.nd (e_asx (e_frz (list_ Z.b_list (r_data (ix_ (v_ 0) (e_int)))))))) (ss_nil)) (ss_cons (s_if (teq_ hr.units (ix_ (v_ 0) (e_int)) (e_str)) (ss_one (asLcIf_ ["piece", "found", "rest", "part", "name"] (defScope (top 78)) [("name", 4)] sc__law_free.nd 1 (i_list rfl (v_ 1)) (fun _ _ _ _ _ => pgn_ 4 sc__law_free.nd) (fun _ => gok_name) (fun _ _ _ _ _ _ => tne_ hr.units (v_ 4) (ix_ (v_ 0) (e_int))) (fun _ _ _ _ _ _ => v_ 4))) (ss_nil)) (ss_cons (s_if (teq_ hr.units (ix_ (v_ 0) (e_int)) (e_str)) (ss_one (as_ 1 sc__law_free.nd (e_asx (e_frz (cat_ (e_frz (e_lst (a_cons (ix_ (v_ 0) (e_int)) (a_nil)))) (e_frz (lcI_ ["piece", "found", "rest", "part", "name"] (defScope (top 78)) [("name", 4)] sc__law_free.nd (i_list rfl (v_ 1)) (fun _ _ _ _ _ => pgn_ 4 sc__law_free.nd) (fun _ => gok_name) (fun _ _ _ _ _ _ => tne_ hr.units (v_ 4) (ix_ (v_ 0) (e_int))) (fun _ _ _ _ _ _ => v_ 4)))))))) (ss_nil)) (ss_cons (s_if (tin_ (ix_ (v_ 0) (e_int)) (r_data (e_tup (a_cons (e_str) (a_cons (e_str) (a_cons (e_str) (a_nil))))))) (ss_one (as_ 1 sc__law_free.nd (e_asx (e_frz (cat_ (v_ 1) (e_frz (e_lst (a_cons (ix_ (v_ 0) (e_int)) (a_cons (ix_ (v_ 0) (e_int)) (a_nil)))))))))) (ss_nil)) (ss_one (s_ret (setSort_ Z.b_sorted Z.b_set (rv_ 1)))))))))

def m__law_exchanged (rec : List Dat → PR) : M Ctl := seq (ifS (toB (m2 eqD (rd 1) (M.bind (aNil) tupD))) (retS (asx (rd 2))) (ret .nx)) (seq (M.bind (asx (frz (callN 3 rec (aCons (ixD (rd 0) (ixD (rd 1) (ret (.int 0)))) (aCons (frz (slM (rd 1) (partO (ret (.int 1))) (ret none))) (aCons (rd 2) (aNil))))))) (asg 3)) (retS (M.bind (frz (M.bind (frz (slM (rd 0) (ret none) (partO (ixD (rd 1) (ret (.int 0)))))) fun x => M.bind (M.bind (aCons (rd 3) (aNil)) tupD) fun y => catD x y)) fun x => M.bind (frz (slM (rd 0) (partO (m2 addI (ixD (rd 1) (ret (.int 0))) (ret (.int 1)))) (ret none))) fun y => catD x y)))
def g__law_exchanged : Nat → List Dat → PR
  | 0 => fun _ => .bad
  | k + 1 => runP 4 (m__law_exchanged (g__law_exchanged k))
theorem sc__law_exchanged : FnScope ["value", "path", "part", "inner"] ["value", "path", "part"] (defScope (top 79)) := ⟨rfl, rfl, rfl, by decide +kernel, rfl, by decide +kernel, by decide +kernel⟩
theorem ok__law_exchanged {f : Addr} {fd : FuncData} (Fn : Fun K "_law_exchanged" "_law_exchanged" (top 79) f fd) (a : At K mg "_law_exchanged" f fd ["value", "path", "part"]) (Z : Glo K mg)  : ∀ k : Nat, FnOk P w K mg base (L2.CX P w) (1 + k) f fd ["value", "path", "part"] (spP K C 3 (g__law_exchanged k))
  | 0 => fn_none
  | k + 1 => by
    have h__law_exchanged : Has P w K mg base C "_law_exchanged" (1 + k) 3 (g__law_exchanged k) := a.has rfl (ok__law_exchanged Fn a Z  k)
    exact fn_pure (k := 1 + k) Fn sc__law_exchanged (by decide) fun G0 H0 cdv A outer s E hr => ss_cons (s_if (teq_ hr.units (v_ 1) (e_tup (a_nil))) (ss_one (s_ret (e_asx (v_ 2)))) (ss_nil)) (ss_cons (as_ 3 sc__law_exchanged.nd (e_asx (e_frz (call_ h__law_exchanged hr tkC (a_cons (ix_ (v_ 0) (ix_ (v_ 1) (e_int))) (a_cons (e_frz (sl_ (v_ 1) (o_some (e_int)) (o_none))) (a_cons (v_ 2) (a_nil)))) (by omega))))) (ss_one (s_ret (cat_ (e_frz (cat_ (e_frz (sl_ (v_ 0) (o_none) (o_some (ix_ (v_ 1) (e_int))))) (e_tup (a_cons (v_ 3) (a_nil))))) (e_frz (sl_ (v_ 0) (o_some (e_add (ix_ (v_ 1) (e_int)) (e_int))) (o_none)))))))

end
end Pn

set_option maxHeartbeats 4000001
namespace Pn
open L2 PyProof.Rows PySem.Spec PySem
section
variable {P : Program} {w : World} {K : PySem.W.Frag} {mg : Str → Option Value} {base : Heap} {C : Cls}
def m__law_like : M Ctl := retS (asx (m2 eqS (M.bind (rd 0) reprR) (M.bind (rd 1) reprR)))
def g__law_like : GF := runG false false 2 m__law_like
theorem sc__law_like : FnScope ["got", "due"] ["got", "due"] (defScope (top 73)) := ⟨rfl, rfl, rfl, by decide +kernel, rfl, by decide +kernel, by decide +kernel⟩
theorem ok__law_like {f : Addr} {fd : FuncData} (Fn : Fun K "_law_like" "_law_like" (top 73) f fd) (hm : mg "repr" = none) : FnG P w K mg base (L2.CX P w) 1 f fd ["got", "due"] (spG K C false false (fun _ => True) 2 g__law_like) :=
  fn_genG Fn sc__law_like (by decide) (by decide) fun sa sc sl ia tb G0 H0 cdv A outer s E hgd _ hr => ss_one (s_ret (e_asx (e_eqS (repr_ hgd hr hm (v_ 0)) (repr_ hgd hr hm (v_ 1)))))
end
end Pn
namespace Pn
open L2 PyProof.Rows PySem.Spec PySem
section
variable {X : Cx} {g : Addr} {cdg : Value} {C1 C2 C3 C4 C5 B : Addr} {q : Str}
theorem sc__law_caught : FnScope ["call", "told", "e"] ["call"] (defScope (top 81)) := ⟨rfl, rfl, rfl, by decide +kernel, rfl, by decide +kernel, by decide +kernel⟩
theorem way_ {Y : Cx} {x f w : Str} {C B : Addr} {t e : Str} {j kk : Nat} {np wp ep ap ip ep2 bp cp tpp tp spos pos1 : Pos} {b : Str} (Z : PnCt.ErrF Y.K C B f) (hm : Y.mg x = some (.ref C)) (hN : Y.N.Nodup) (hmi : Y.mg "isinstance" = none) (hmb : Y.mg b = some (.ref B))
    (ht : Y.N[1]? = some t := by rfl) (he : Y.N[2]? = some e := by rfl) (hlt : Y.env.scope.names.lookup t = some .local := by rfl) (hle : Y.env.kindOf e = some .local := by rfl) (hve : Vis Y.env.scope e := by exact Or.inl rfl) (hde : (e == ("__debug__" : Str)) = false := by decide) (hce : (e == ("__classdict__" : Str)) = false := by decide) (hg : Gl Y x := by rfl) (hdx : (x == ("__debug__" : Str)) = false := by decide) (hgi : Gl Y "isinstance" := by rfl) (hgb : Gl Y b := by rfl) (hdb : (b == ("__debug__" : Str)) = false := by decide)
    (ha : attributeBase (.Name e ep) f Y.env (eval (.Name e ep) Y.env) = eval (.Name e ep) Y.env := by rfl)
    (h1 : starEach [.Name e ep2, .Name b bp] Y.env = (false, eval (.Name e ep2) Y.env) :: starEach [.Name b bp] Y.env := by rfl) (h2 : starEach [.Name b bp] Y.env = (false, eval (.Name b bp) Y.env) :: starEach [] Y.env := by rfl) (h3 : (backTo cp (starEach [.Name b bp] Y.env)).any (·.1) = false := by rfl)
    (k1 : starEach [.Constant (.str w) j wp, .Attribute (.Name e ep) f ap, .Call (.Name "isinstance" ip) [.Name e ep2, .Name b bp] [] cp] Y.env = (false, eval (.Constant (.str w) j wp) Y.env) :: starEach [.Attribute (.Name e ep) f ap, .Call (.Name "isinstance" ip) [.Name e ep2, .Name b bp] [] cp] Y.env := by rfl)
    (k2 : starEach [.Attribute (.Name e ep) f ap, .Call (.Name "isinstance" ip) [.Name e ep2, .Name b bp] [] cp] Y.env = (false, eval (.Attribute (.Name e ep) f ap) Y.env) :: starEach [.Call (.Name "isinstance" ip) [.Name e ep2, .Name b bp] [] cp] Y.env := by rfl)
    (k3 : starEach [.Call (.Name "isinstance" ip) [.Name e ep2, .Name b bp] [] cp] Y.env = (false, eval (.Call (.Name "isinstance" ip) [.Name e ep2, .Name b bp] [] cp) Y.env) :: starEach [] Y.env := by rfl)
    (hs : swapsWith (.Tuple [.Constant (.str w) j wp, .Attribute (.Name e ep) f ap, .Call (.Name "isinstance" ip) [.Name e ep2, .Name b bp] [] cp] kk tpp) (some (.Name t tp)) spos.line Y.env = pure false := by rfl) :
    PnTry.WayOk Y (.ExceptHandler (some (.Name x np)) (some e) [.Assign [.Name t tp] (.Tuple [.Constant (.str w) j wp, .Attribute (.Name e ep) f ap, .Call (.Name "isinstance" ip) [.Name e ep2, .Name b bp] [] cp] kk tpp) spos] pos1) (PnCt.wayOf ⟨C, f, w⟩) :=
  ⟨x, e, _, [], np, pos1, rfl, he, hle, ⟨hg, hdx, .inl hm⟩, fun a ob cls d pn hz hf => by
    by_cases hc : cls = .ref C
    · subst hc
      exact PnCt.told_suite Z hz hf hN ht (.inl hlt) hlt he hve hde hce hgi hmi hgb hmb hdb ha h1 h2 h3 k1 k2 k3 hs
    · exact ⟨fun pins s σ H D I h => (hc h.2.1).elim⟩⟩
theorem gives__law_caught (m1 : X.mg "BadPiece" = some (.ref C1)) (m2 : X.mg "BadProgram" = some (.ref C2)) (m3 : X.mg "BadIndex" = some (.ref C3)) (m4 : X.mg "NotFinite" = some (.ref C4)) (m5 : X.mg "TooGreat" = some (.ref C5)) (mB : X.mg "PassError" = some (.ref B)) (mi : X.mg "isinstance" = none)
    (z1 : PnCt.ErrF X.K C1 B "path") (z2 : PnCt.ErrF X.K C2 B "place") (z3 : PnCt.ErrF X.K C3 B "value") (z4 : PnCt.ErrF X.K C4 B "path") (z5 : PnCt.ErrF X.K C5 B "most") :
    LamX.GivesTo X ["call", "told", "e"] "_law_caught" (defScope (top 81)) g cdg (defBody (top 81)) "call" q (PnCt.TCt X.K [⟨C1, "path", "piece"⟩, ⟨C2, "place", "program"⟩, ⟨C3, "value", "index"⟩, ⟨C4, "path", "finite"⟩, ⟨C5, "most", "great"⟩] "told") :=
  PnCt.caught_gives rfl sc__law_caught.nd (.inl rfl) rfl (.inl rfl) fun s H =>
    .cons (way_ z1 m1 sc__law_caught.nd mi mB) (.cons (way_ z2 m2 sc__law_caught.nd mi mB) (.cons (way_ z3 m3 sc__law_caught.nd mi mB) (.cons (way_ z4 m4 sc__law_caught.nd mi mB) (.cons (way_ z5 m5 sc__law_caught.nd mi mB) .nil))))
end
end Pn
namespace Pn
open L2 PyProof.Rows PySem.Spec PySem
theorem tkL {X : Cx} {A : Around} {outer : List Env} {s : Shared} {H : Hp} {E : XK} {scope : Scope} {f c' : Addr} : Takes (LamX.lamCx X A outer s H E scope f c') (fun cls d _ H => E cls d H) := takes_of rfl rfl rfl rfl
/-- the errors' classes, as the clauses tell them -/
structure Errs (K : PySem.W.Frag) (mg : Str → Option Value) (C : Cls) (B : Addr) (c : Nat → Addr) : Prop where
  m0 : mg "BadPiece" = some (.ref (c 0))
  m1 : mg "BadProgram" = some (.ref (c 1))
  m2 : mg "BadIndex" = some (.ref (c 2))
  m3 : mg "NotFinite" = some (.ref (c 3))
  m4 : mg "TooGreat" = some (.ref (c 4))
  mB : mg "PassError" = some (.ref B)
  mi : mg "isinstance" = none
  z0 : PnCt.ErrF K (c 0) B "path"
  z1 : PnCt.ErrF K (c 1) B "place"
  z2 : PnCt.ErrF K (c 2) B "value"
  z3 : PnCt.ErrF K (c 3) B "path"
  z4 : PnCt.ErrF K (c 4) B "most"
def tellL (c : Nat → Addr) : List PnCt.Tell := [⟨c 0, "path", "piece"⟩, ⟨c 1, "place", "program"⟩, ⟨c 2, "value", "index"⟩, ⟨c 3, "path", "finite"⟩, ⟨c 4, "most", "great"⟩]
/-- the kinds of errors: PassError is 0 in the list of the classes -/
def clauL : List Clause := [⟨1, "piece"⟩, ⟨2, "program"⟩, ⟨3, "index"⟩, ⟨4, "finite"⟩, ⟨5, "great"⟩]
section
variable {F : Fr} {W : L2.WX} {σ : L2.St} {H : Hp} {X : Cx}
theorem caught_ (sc' : Scope) {B : Addr} {cE : Nat → Addr} {g c Pt : Addr} {fd : FuncData} {k j : Nat} {params : Arguments} {body : Expr} {scope : Scope} {m : M RV} {p lpos pos : Pos} (Fn : Fun X.K "_law_caught" "_law_caught" (top 81) g fd) (a : At X.K X.mg "_law_caught" g fd ["call"]) (Z : Errs X.K X.mg F.C B cE) (hts : Tells X.K F.C clauL (tellL cE))
    (TB : LamX.TabB X.base X.mg c Pt) (hcode : X.env.code = .ref c) (hmT : (Pt, X.env.qual ++ "<lambda>") ∈ F.tb) (hu : ∀ p ∈ F.tb, p.1 = Pt → p.2 = X.env.qual ++ "<lambda>") (hr : Room j X.A)
    (hbody : ∀ (A : Around) (outer : List Env) (s : Shared) (H : Hp) (E : XK) (f c' : Addr), Room k (A.deeper (LamX.lamEnv X scope s.heap.objs.size f c')) → PE (LamX.lamCx X A outer s H E scope f c') body (EX F (fun cls d _ H' => E cls d H') m))
    (hkj : k + 2 ≤ j := by decide) (hK : F.K = X.K := by rfl) (hg : Gl X "_law_caught" := by rfl) (eS : X.env.scope = sc' := by rfl) (L : LamX.lamSB sc' scope = true := by decide +kernel) (hdef : defaultsOf params X.env = ([], []) := by rfl)
    (hbind : ∀ (q : Str) (cl : List (Str × Addr)) (pm cv ctv : Value), bindArgs (PySem.W.kla_fn "<lambda>" q params body scope cl pm cv ctv) ⟨[], []⟩ = pure [] := by intro _ _ _ _ _; rfl) :
    PE X (.Call (.Name "_law_caught" p) [.Lambda params body scope lpos] [] pos) (Pn.E F W (caughtM clauL "told" m)) := by
  obtain ⟨⟨oc, od, kV, doc, pm, an, cdv, ct, osl, rfl, lk, hcd⟩, _⟩ := Fn
  exact e_caught hK hts hg a.m a.k lk hcd a.b sc__law_caught rfl (.inl rfl) (gives__law_caught Z.m0 Z.m1 Z.m2 Z.m3 Z.m4 Z.mB Z.mi Z.z0 Z.z1 Z.z2 Z.z3 Z.z4) TB hcode hmT hu (hr.mono hkj) (LamX.lamS_by (eS ▸ L)) hdef hbind hbody (by decide) (by decide) (by decide)
end
end Pn

set_option maxHeartbeats 4000001
namespace Pn
open L2 PyProof.Rows PySem.Spec PySem
section
variable {P : Program} {w : World} {K : PySem.W.Frag} {mg : Str → Option Value} {base : Heap} {C : Cls}
def m__law_put_right (gput : List Dat → PR) : M Ctl := seq (M.bind (frz (callSM 1 g__law_of (stArg 0 (aCons (rd 2) (aNil))))) (tgtM (putTup 2 (putCons (put 6) (putCons (put 7) (putNil)))))) (seq (M.bind (asx (M.bind (aCons (ret (.str "one")) (aCons (M.bind (aNil) tupD) (aNil))) tupD)) (asg 3)) (seq (M.bind (asx (frz (callSM 1 g__law_of (stArg 0 (aCons (frz (M.bind (aCons (M.bind (aCons (ret (.str "wait")) (aCons (rd 3) (aNil))) tupD) (aCons (M.bind (aCons (ret (.str "send")) (aCons (ret (.int 0)) (aCons (ret (.int 0)) (aCons (M.bind (aCons (ret (.str "take")) (aCons (ret (.int 0)) (aCons (ret (.int 1)) (aCons (rd 3) (aNil))))) tupD) (aNil))))) tupD) (aCons (rd 7) (aCons (ret (.int 7)) (aNil))))) lstD)) (aNil)))))) (asg 4)) (seq (M.bind (asx (M.bind (aCons (ret (.str "told")) (aCons (frz (callN 3 (g__law_exchanged 40) (aCons (rd 1) (aCons (rd 6) (aCons (rd 4) (aNil)))))) (aNil))) tupD)) (asg 5)) (seq (ifS (toB (m2 eqD (rd 4) (ret (.int 7)))) (M.bind (asx (M.bind (aCons (ret (.str "piece")) (aCons (rd 6) (aCons (ret (.bool true)) (aNil)))) tupD)) (asg 5)) (seq (M.bind (M.bind (ixD (ixD (rd 5) (ret (.int 1))) (ret (.int 0))) enT) fun items => forL (putTup 2 (putCons (put 9) (putCons (put 10) (putNil)))) (seq (M.bind (asx (frz (M.bind (M.bind (frz (callN 1 (g__law_free 30) (aCons (ixD (rd 10) (ret (.int 1))) (aNil)))) itL) (lcM [12] (put 12) (toB (inM true (rd 12) (rowD (ixD (rd 10) (ret (.int 0)))))) (rd 12))))) (asg 11)) (ifS (andB (toB (m2 neD (rd 11) (frz (M.bind (aNil) lstD)))) (toB (m2 eqD (ixD (rd 5) (ret (.int 0))) (ret (.str "told"))))) (M.bind (asx (M.bind (aCons (ret (.str "program")) (aCons (M.bind (aCons (ret (.int 0)) (aCons (rd 9) (aNil))) tupD) (aCons (ret (.bool true)) (aNil)))) tupD)) (asg 5)) (ret .nx))) items) (seq (M.bind (asx (ifE (toB (m2 eqD (ixD (rd 5) (ret (.int 0))) (ret (.str "told")))) (frz (M.bind (M.bind (frz (callN 1 g__law_whole (aCons (ixD (rd 5) (ret (.int 1))) (aNil)))) itL) (lcM [13, 14] (putTup 2 (putCons (put 13) (putCons (put 14) (putNil)))) (ret true) (frz (callN 1 (g__law_deep 30) (aCons (rd 14) (aNil))))))) (frz (M.bind (aCons (ret (.int 0)) (aNil)) lstD)))) (asg 8)) (ifS (toB (m2 gtI (M.bind (rowVar 8) maxR) (ret (.int 12)))) (M.bind (asx (M.bind (aCons (ret (.str "great")) (aCons (ret (.int 12)) (aCons (ret (.bool true)) (aNil)))) tupD)) (asg 5)) (ret .nx))))) (retS (callQM false 2 g__law_like (aCons (caughtM clauL "told" (callN 3 gput (aCons (rd 1) (aCons (rd 6) (aCons (rd 4) (aNil)))))) (aCons (rd 5) (aNil)))))))))
def g__law_put_right (gput : List Dat → PR) : GF := runG true false 15 (m__law_put_right gput)
theorem sc__law_put_right : FnScope ["state", "program", "rows", "stop", "more", "due", "path", "part", "deeps", "number", "pair", "outside", "name", "where", "piece"] ["state", "program", "rows"] (defScope (top 82)) := ⟨rfl, rfl, rfl, by decide +kernel, rfl, by decide +kernel, by decide +kernel⟩
def okT__law_put_right (Pt : Addr) (tb : Tbs) : Prop := (Pt, (envOfC "_law_put_right" (defScope (top 82)) 0 0 .none).qual ++ "<lambda>") ∈ tb ∧ ∀ p ∈ tb, p.1 = Pt → p.2 = (envOfC "_law_put_right" (defScope (top 82)) 0 0 .none).qual ++ "<lambda>"
theorem ok__law_put_right {gput : List Dat → PR} {f g c Pt B : Addr} {cE : Nat → Addr} {fd : FuncData} {oc : Value} {od an : Option Addr} {osl : Array (Option Value)} {kV doc pm ct : Value} (lk : K.lookup f = some ⟨oc, od, .func (PySem.W.fnOf "_law_put_right" "_law_put_right" (defArgs (top 82)) (defBody (top 82)) (defScope (top 82)) .none kV doc pm an (.ref c) ct), osl⟩) (hcd : PySem.W.codeIn K (.ref c) "_law_put_right" = true)
    (Fc : Fun K "_law_caught" "_law_caught" (top 81) g fd) (ac : At K mg "_law_caught" g fd ["call"]) (Ze : Errs K mg C B cE) (hts : Tells K C clauL (tellL cE)) (TB : LamX.TabB base mg c Pt) (Z : Glo K mg) (h_put_at : Has P w K mg base C "put_at" 60 3 gput) (h__law_like : HasQ P w K mg base C false (fun _ => True) "_law_like" 1 2 g__law_like) (h__law_of : HasG P w K mg base C true false "_law_of" 3 1 g__law_of) (h__law_exchanged : Has P w K mg base C "_law_exchanged" 41 3 (g__law_exchanged 40)) (h__law_free : Has P w K mg base C "_law_free" 32 1 (g__law_free 30)) (h__law_whole : Has P w K mg base C "_law_whole" 33 1 g__law_whole) (h__law_deep : Has P w K mg base C "_law_deep" 32 1 (g__law_deep 30)) :
    FnG P w K mg base (L2.CX P w) 71 f (PySem.W.fnOf "_law_put_right" "_law_put_right" (defArgs (top 82)) (defBody (top 82)) (defScope (top 82)) .none kV doc pm an (.ref c) ct) ["state", "program", "rows"] (spG K C true false (okT__law_put_right Pt) 2 (g__law_put_right gput)) :=
  fn_genC lk hcd sc__law_put_right (by decide) (by decide) fun sa sc sl ia tb G0 H0 A outer s E hgd okt hr => ss_cons (s_asgT (e_frz (callS_ h__law_of hr tkC (ast_ 0 (a_cons (v_ 2) (a_nil))))) (tg_tup rfl rfl (tgs_cons (tn_ 6 sc__law_put_right.nd) (tgs_cons (tn_ 7 sc__law_put_right.nd) (tgs_nil))))) (ss_cons (as_ 3 sc__law_put_right.nd (e_asx (e_tup (a_cons (e_str) (a_cons (e_tup (a_nil)) (a_nil)))))) (ss_cons (as_ 4 sc__law_put_right.nd (e_asx (e_frz (callS_ h__law_of hr tkC (ast_ 0 (a_cons (e_frz (e_lst (a_cons (e_tup (a_cons (e_str) (a_cons (v_ 3) (a_nil)))) (a_cons (e_tup (a_cons (e_str) (a_cons (e_int) (a_cons (e_int) (a_cons (e_tup (a_cons (e_str) (a_cons (e_int) (a_cons (e_int) (a_cons (v_ 3) (a_nil)))))) (a_nil)))))) (a_cons (v_ 7) (a_cons (e_int) (a_nil))))))) (a_nil))))))) (ss_cons (as_ 5 sc__law_put_right.nd (e_asx (e_tup (a_cons (e_str) (a_cons (e_frz (call_ h__law_exchanged hr tkC (a_cons (v_ 1) (a_cons (v_ 6) (a_cons (v_ 4) (a_nil)))))) (a_nil)))))) (ss_cons (s_if (teq_ hr.units (v_ 4) (e_int)) (ss_one (as_ 5 sc__law_put_right.nd (e_asx (e_tup (a_cons (e_str) (a_cons (v_ 6) (a_cons (e_bl) (a_nil)))))))) (ss_cons (s_for poC rfl (i_enumT rfl rfl Z.b_enumerate (ix_ (ix_ (v_ 5) (e_int)) (e_int))) (tg_tup rfl rfl (tgs_cons (tn_ 9 sc__law_put_right.nd) (tgs_cons (tn_ 10 sc__law_put_right.nd) (tgs_nil)))) (ss_cons (asLcIf_ ["state", "program", "rows", "stop", "more", "due", "path", "part", "deeps", "number", "pair", "outside", "name", "where", "piece"] (defScope (top 82)) [("name", 12)] sc__law_put_right.nd 11 (i_list rfl (e_frz (call_ h__law_free hr tkC (a_cons (ix_ (v_ 10) (e_int)) (a_nil))))) (fun _ _ _ _ _ => pgn_ 12 sc__law_put_right.nd) (fun _ => gok_name) (fun _ _ _ _ _ _ => tnin_ (v_ 12) (r_data (ix_ (v_ 10) (e_int)))) (fun _ _ _ _ _ _ => v_ 12)) (ss_one (s_if (L2.PW.pt (w_and (tne_ hr.units (v_ 11) (e_frz (e_lst (a_nil)))) (w_and1 (teq_ hr.units (ix_ (v_ 5) (e_int)) (e_str))))) (ss_one (as_ 5 sc__law_put_right.nd (e_asx (e_tup (a_cons (e_str) (a_cons (e_tup (a_cons (e_int) (a_cons (v_ 9) (a_nil)))) (a_cons (e_bl) (a_nil)))))))) (ss_nil))))) (ss_cons (as_ 8 sc__law_put_right.nd (e_asx (e_if (teq_ hr.units (ix_ (v_ 5) (e_int)) (e_str)) (e_frz (lcT_ ["state", "program", "rows", "stop", "more", "due", "path", "part", "deeps", "number", "pair", "outside", "name", "where", "piece"] (defScope (top 82)) [("where", 13), ("piece", 14)] sc__law_put_right.nd (i_list rfl (e_frz (call_ h__law_whole hr tkC (a_cons (ix_ (v_ 5) (e_int)) (a_nil))))) (fun _ _ _ _ _ => pg_tup rfl (pgs_cons (pgn_ 13 sc__law_put_right.nd) (pgs_cons (pgn_ 14 sc__law_put_right.nd) (pgs_nil)))) (fun _ => gok_tup rfl (gsok_cons (gok_name) (gsok_cons (gok_name) (gsok_nil)))) (fun _ _ _ _ _ => pts_nil) (fun ps σ H Q h => noif ps σ H Q h) (fun _ _ _ _ _ _ => e_frz (call_ h__law_deep hr L2.takes0 (a_cons (v_ 14) (a_nil)))))) (e_frz (e_lst (a_cons (e_int) (a_nil))))))) (ss_one (s_if (t_gt (e_max rfl rfl rfl Z.b_max (rv_ 8)) (e_int)) (ss_one (as_ 5 sc__law_put_right.nd (e_asx (e_tup (a_cons (e_str) (a_cons (e_int) (a_cons (e_bl) (a_nil)))))))) (ss_nil)))))) (ss_one (s_ret (callP_ hgd h__law_like hr tkC (a_cons (caught_ (k := 60) (defScope (top 82)) Fc ac Ze hts TB rfl okt.1 okt.2 hr (fun A outer s H E f c' hr2 => call_ h_put_at hr2 tkL (a_cons (v_ 1) (a_cons (v_ 6) (a_cons (v_ 4) (a_nil)))))) (a_cons (v_ 5) (a_nil))))))))))

end
end Pn
namespace Pn
open L2 PyProof.Rows PySem.Spec PySem
section
variable {P : Program} {w : World} {K : PySem.W.Frag} {mg : Str → Option Value} {base : Heap} {C : Cls}
def m_put_at (gpart : List Dat → PR) : M Ctl := seq (dropS (callN 2 gpart (aCons (rd 0) (aCons (rd 1) aNil)))) (retS (callN 1 g_need_program (aCons (frz (callN 3 (g_with_part_at 40) (aCons (rd 0) (aCons (rd 1) (aCons (rd 2) aNil))))) aNil)))
def g_put_at (gpart : List Dat → PR) : List Dat → PR := runP 3 (m_put_at gpart)
theorem sc_put_at : FnScope ["program", "path", "part"] ["program", "path", "part"] (defScope (top 62)) := ⟨rfl, rfl, rfl, by decide +kernel, rfl, by decide +kernel, by decide +kernel⟩
theorem ok_put_at {gpart : List Dat → PR} {f : Addr} {fd : FuncData} {kn : Nat} (hkn : kn ≤ 59) (Fn : Fun K "put_at" "put_at" (top 62) f fd) (h_part_at : Has P w K mg base C "part_at" 59 2 gpart) (h_need_program : Has P w K mg base C "need_program" kn 1 g_need_program) (h_with_part_at : Has P w K mg base C "with_part_at" 41 3 (g_with_part_at 40)) :
    FnOk P w K mg base (L2.CX P w) 60 f fd ["program", "path", "part"] (spP K C 3 (g_put_at gpart)) :=
  fn_pure Fn sc_put_at (by decide) fun G0 H0 cdv A outer s E hr => ss_cons (s_expr (call_ h_part_at hr tkC (a_cons (v_ 0) (a_cons (v_ 1) a_nil)))) (ss_one (s_ret (call_ (h_need_program.up hkn) hr tkC (a_cons (e_frz (call_ h_with_part_at hr tkC (a_cons (v_ 0) (a_cons (v_ 1) (a_cons (v_ 2) a_nil))))) a_nil))))
end
end Pn

set_option maxHeartbeats 1000001
/-! a dict whose keys are tuples of integers and texts, made of a list of pairs; then only read -/
namespace PnDict
open L2 PyProof.Rows PySem.Spec PySem
abbrev Ent := List Key × Addr × Value
def DicO (P : Program) (w : World) (a : Addr) (xs : List Ent) : HO := .ext fun h => (a == sysModules) = false ∧ ∃ o es ep, h.get? a = some o ∧ o.ExactDict ∧ o.data = .dict es ep ∧ es.toList = xs.map (entryOfKey (tupleKind (mixKind P w))) ∧ (xs.map (·.1)).Nodup
theorem dic_new {P : Program} {w : World} {H : Hp} {h : Heap} {a : Addr} {xs : List Ent} (hs : (a == sysModules) = false) (d : h.DictOfH (tupleKind (mixKind P w)) a xs) : ObjOk P w H h a (DicO P w a xs) := by
  obtain ⟨o, es, ep, h1, h2, h3, h4, _, h5⟩ := d
  refine ⟨⟨hs, o, es, ep, h1, h2, h3, h4, h5⟩, ⟨o, h1⟩, ?_⟩
  rintro g1 g2 ⟨z, o, es, ep, e1, r⟩ st
  exact ⟨z, o, es, ep, st _ e1, r⟩
section
variable {X : Cx} {pins : List (Addr × Obj)} {σ : L2.St} {H : Hp} {s : Shared} {a b : Addr} {xs : List Ent} {k : List Key}
theorem key_is (I : Inv X pins σ H s) (h : SqT X.K H b (k.map kV)) : (tupleKind (mixKind X.prog X.w)).is s.heap k b := by
  obtain ⟨its, rv, p, _⟩ := I.tuple h
  obtain ⟨o, h1, h2, n, h3⟩ := p
  exact ⟨o, its.toArray, n, h1, h2, h3, by simpa using items_are rv⟩
theorem dic_get (I : Inv X pins σ H s) (ha : H a = some (DicO X.prog X.w a xs)) (hk : ∀ x ∈ xs, SqT X.K H x.2.1 (x.1.map kV)) : s.heap.DictOfH (tupleKind (mixKind X.prog X.w)) a xs ∧ (a == sysModules) = false := by
  obtain ⟨hs, o, es, ep, h1, h2, h3, h4, h5⟩ := (I.hok a _ ha).1
  exact ⟨⟨o, es, ep, h1, h2, h3, h4, fun x hx => key_is I (hk x hx), h5⟩, hs⟩
/-- the entry of a key -/
def rDicIn (X : Cx) (neg : Bool) : R2 := fun x y H Q => ∃ a b xs k, x = .ref b ∧ y = .ref a ∧ H a = some (DicO X.prog X.w a xs) ∧ (∀ z ∈ xs, SqT X.K H z.2.1 (z.1.map kV)) ∧ SqT X.K H b (k.map kV) ∧ Q (.bl (if neg then !(atKey xs k).isSome else (atKey xs k).isSome)) H
theorem op_inDic (hu : X.A.units + 1 < cLine) : OpR X (compareOp .In) (rDicIn X false) := by
  (intro pins s σ H x y v u Q I rx ry h)
  obtain ⟨a, b, xs, k, rfl, rfl, ha, hk, hb, q⟩ := h
  cases rx
  cases ry
  obtain ⟨d, hs⟩ := dic_get I ha hk
  exact wpAny_in_heap (tupleKind_room_in1 hu) (key_is I hb) hs d ⟨.bl _, H, I.tok _, rfl, q⟩
theorem op_notInDic (hu : X.A.units + 1 < cLine) : OpR X (compareOp .NotIn) (rDicIn X true) := by
  (intro pins s σ H x y v u Q I rx ry h)
  obtain ⟨a, b, xs, k, rfl, rfl, ha, hk, hb, q⟩ := h
  cases rx
  cases ry
  obtain ⟨d, hs⟩ := dic_get I ha hk
  exact wpAny_notIn_heap (tupleKind_room_in1 hu) (key_is I hb) hs d ⟨.bl _, H, I.tok _, rfl, q⟩
end
section
variable {X : Cx}
/-- d[k], there -/
def tDicGet (X : Cx) (td ty : TE) : TE := fun σ H Q => td σ H fun x H1 => ty σ H1 fun y H2 => ∃ a b xs k p, x = .ref a ∧ y = .ref b ∧ H2 a = some (DicO X.prog X.w a xs) ∧ (∀ z ∈ xs, SqT X.K H2 z.2.1 (z.1.map kV)) ∧ SqT X.K H2 b (k.map kV) ∧ atKey xs k = some p ∧ ∃ v, RelV v p.2 ∧ Q v H2
theorem pe_dicGet {o i : Expr} {td ty : TE} {pos : Pos} (hu : X.A.units + 1 < cLine) (ho : PE X o td) (hi : PE X i ty) (hs : NoSl i) : PE X (.Subscript o i pos) (tDicGet X td ty) where
  run := by
    intro pins s σ H Q I h
    refine subD_of PySem.F.slot_dict_getitem.lookup hs (thn (ho.run pins s σ H _ I h) fun u s1 z => ?_)
    obtain ⟨x, H1, I1, rx, q1⟩ := z
    refine thn (hi.run pins s1 σ H1 _ I1 q1) fun iv s2 z => ?_
    obtain ⟨y, H2, I2, ry, a, b, xs, k, p, rfl, rfl, ha, hk, hb, hp, v, rv, q⟩ := z
    obtain ⟨d, hsm⟩ := dic_get I2 ha hk
    (cases (show u = Value.ref a from rx))
    cases (show iv = Value.ref b from ry)
    refine ⟨d.typeIs, wpAny_getItem_heap (tupleKind_room_in1 hu) (key_is I2 hb) d hp ?_⟩
    exact ⟨v, H2, I2.tok _, rv, q⟩
/-- dict(l): the pairs of the list, each with its key's address -/
structure PairT where
  t : Addr
  b : Addr
  k : List Key
  y : V
def tDic (X : Cx) (te : TE) : TE := fun σ H Q => te σ H fun v H1 => ∃ (a : Addr) (ts : List PairT), v = .ref a ∧ SqL X.K H1 a (ts.map fun q => V.ref q.t) ∧ (∀ q ∈ ts, SqT X.K H1 q.t [.ref q.b, q.y] ∧ SqT X.K H1 q.b (q.k.map kV)) ∧
  ∀ (xs : List Ent) (p : Addr), Paired (fun (q : PairT) (x : Ent) => x.1 = q.k ∧ x.2.1 = q.b ∧ RelV q.y x.2.2) ts xs → H1 p = none → Q (.ref p) (upd H1 p (DicO X.prog X.w p (storedAllH [] xs)))
theorem ents_of {pins : List (Addr × Obj)} {σ : L2.St} {H : Hp} {s : Shared} (I : Inv X pins σ H s) : ∀ ts : List PairT, (∀ q ∈ ts, SqT X.K H q.t [.ref q.b, q.y] ∧ SqT X.K H q.b (q.k.map kV)) →
    ∃ xs : List Ent, Paired (fun (q : PairT) (x : Ent) => x.1 = q.k ∧ x.2.1 = q.b ∧ RelV q.y x.2.2) ts xs ∧ ts.length = xs.length ∧ ∀ (j : Nat) (x : Ent), xs[j]? = some x → ∃ q, ts[j]? = some q ∧ s.heap.IsTuple q.t #[.ref x.2.1, x.2.2] ∧ (tupleKind (mixKind X.prog X.w)).is s.heap x.1 x.2.1
  | [], _ => ⟨[], .nil, rfl, fun j x e => by simp at e⟩
  | q :: ts, h => by
    obtain ⟨xs, r, hl, hx⟩ := ents_of I ts fun q' m => h q' (List.mem_cons_of_mem _ m)
    obtain ⟨h1, h2⟩ := h q List.mem_cons_self
    obtain ⟨its, rv, p, _⟩ := I.tuple h1
    obtain ⟨u, y, rfl, ru, ry⟩ := vals2 rv
    cases (show u = Value.ref q.b from ru)
    refine ⟨(q.k, q.b, y) :: xs, .cons ⟨rfl, rfl, ry⟩ r, by rw [List.length_cons, List.length_cons, hl], fun j x e => ?_⟩
    cases j with
    | zero =>
      cases (Option.some.inj e)
      exact ⟨q, rfl, p, key_is I h2⟩
    | succ j =>
      obtain ⟨q', e1, e2⟩ := hx j x (by simpa using e)
      exact ⟨q', by simpa using e1, e2⟩
theorem pe_dic {e : Expr} {te : TE} {p pos : Pos} (hc : X.calm = true) (hu : X.A.units + 3 < cLine) (hg : Gl X "dict") (hm : X.mg "dict" = none) (he : PE X e te) (hs : starEach [e] X.env = (false, eval e X.env) :: starEach [] X.env := by rfl) : PE X (.Call (.Name "dict" p) [e] [] pos) (tDic X te) where
  run := by
    intro pins s σ H Q I h
    refine Call_ (ld_blt I hg hm (by decide +kernel : bootBuiltins "dict" = some (.type "dict")) (PyProof.Rows.callWith_type1 (args_cons (thn (he.run pins s σ H _ I h) fun u s1 z => args_nil ?_) hs) hs rfl))
    obtain ⟨v, H1, I1, rx, a, ts, rfl, hq, hts, q⟩ := z
    (cases (show u = Value.ref a from rx))
    obtain ⟨its, rv, pl, hz⟩ := I1.list hq
    have ei : its = ts.map fun q => Value.ref q.t := by
      have r := refs_at (ps := ts.map fun q => q.t) (us := its) (by rw [List.map_map]; exact rv)
      rw [r, List.map_map]
      rfl
    obtain ⟨xs, rel, hl, hx⟩ := ents_of I1 ts hts
    let ps : List (Value × Value) := xs.map fun x => (.ref x.2.1, x.2.2)
    have pl2 : PlainSeq "list" s1.heap a its.toArray := by
      obtain ⟨o, n, h1, h2, h3, h4⟩ := pl
      exact ⟨o, n, h1, h2, h3, h4⟩
    have items : PairItems s1.heap its.toArray (fun j => ((ts[j]?).map (·.t)).getD 0) ps := by
      refine ⟨by simp only [ps, ei, List.size_toArray, List.length_map, hl], fun j k v e => ?_⟩
      obtain ⟨x, ex, e2⟩ : ∃ x, xs[j]? = some x ∧ (Value.ref x.2.1, x.2.2) = (k, v) := by
        rw [List.getElem?_map] at e
        exact Option.map_eq_some_iff.mp e
      cases e2
      obtain ⟨q', e1, e2, _⟩ := hx j x ex
      refine ⟨?_, ?_⟩
      · simp only [ei, e1, List.getElem?_toArray, List.getElem?_map, Option.map_some, Option.getD_some]
      · simp only [e1, Option.map_some, Option.getD_some]
        exact .inl e2
    refine call_dict_pairsH (knd := tupleKind (mixKind X.prog X.w)) (ps := xs) (PairArg.list (prog := X.prog) (w := X.w) a its.toArray _ ps) (I1.ok.hd hc) (by show X.A.units + 2 < cLine; omega) ⟨pl2, items⟩ ⟨by simp [ps], fun i key v e => ?_⟩ (fun h' k x hm => ?_) (by simp only [ps, List.length_map, ← hl]; rw [List.length_map] at hz; exact hz) fun h' tk d k => ?_
    · obtain ⟨x, ex, e2⟩ : ∃ x, xs[i]? = some x ∧ (Value.ref x.2.1, x.2.2) = (key, v) := by
        have e : ps[i]? = some (key, v) := e
        rw [List.getElem?_map] at e
        exact Option.map_eq_some_iff.mp e
      cases e2
      exact ⟨x.1, x.2.1, ex, rfl⟩
    · obtain ⟨j, ej⟩ := List.getElem?_of_mem hm
      obtain ⟨_, _, _, is⟩ := hx j x ej
      obtain ⟨o, vs, n, h1, h2, h3, h4⟩ := is
      exact ⟨o, vs, n, k _ _ (Nat.ne_of_lt (Heap.lt_size h1)) (by simp) h1, h2, h3, h4⟩
    · have hn : (s1.heap.objs.size == sysModules) = false := beq_eq_false_iff_ne.mpr (Nat.ne_of_gt I1.big)
      exact ⟨.ref s1.heap.objs.size, _, I1.laid (t' := tk) (fun b o e => k b o (by simp) e) (Nat.le_refl _) (dic_new hn d), rfl, q xs _ rel (I1.hok.fresh (Nat.le_refl _))⟩
end
end PnDict

set_option maxHeartbeats 4000001
/-! part_at: a dict of paths -/
namespace PnDict
open L2 PyProof.Rows PySem.Spec PySem
/-! ### what a dict made of pairs has at a key -/
section
variable {κ : Type}
variable [DecidableEq κ]
abbrev En (κ : Type) := κ × Addr × Value
theorem atKey_cons (x : En κ) (xs : List (En κ)) (k : κ) : atKey (x :: xs) k = if x.1 = k then some x.2 else atKey xs k := by
  unfold atKey
  rw [List.find?_cons]
  by_cases h : x.1 = k
  · simp only [h, decide_true, if_true, Option.map_some]
  · simp only [h, decide_false, if_false]
theorem atKey_app (k : κ) (y : En κ) : ∀ xs : List (En κ), atKey (xs ++ [y]) k = match atKey xs k with
    | some q => some q
    | none => if y.1 = k then some y.2 else none
  | [] => by
    rw [List.nil_append, atKey_cons]
    rfl
  | x :: xs => by
    rw [List.cons_append, atKey_cons, atKey_cons, atKey_app k y xs]
    by_cases h : x.1 = k
    · simp only [h, if_true]
    · simp only [h, if_false]
theorem atKey_putAt (k : κ) (v : Value) (j : κ) : ∀ xs : List (En κ), atKey (xs.map (putAt k v)) j = (atKey xs j).map fun q => if k = j then (q.1, v) else q
  | [] => rfl
  | x :: xs => by
    rw [List.map_cons, atKey_cons, atKey_cons, atKey_putAt k v j xs]
    have e1 : (putAt k v x).1 = x.1 := by
      unfold putAt
      by_cases h : x.1 = k <;> simp [h]
    rw [e1]
    by_cases h : x.1 = j
    · rw [if_pos h, if_pos h]
      unfold putAt
      by_cases h2 : x.1 = k
      · have : k = j := h2.symm.trans h
        rw [if_pos h2]
        simp [this]
      · have : ¬ k = j := fun e => h2 (h.trans e.symm)
        rw [if_neg h2]
        simp [this]
    · rw [if_neg h, if_neg h]
theorem atKey_stored (xs : List (En κ)) (k : κ) (a : Addr) (v : Value) (j : κ) : (atKey (storedH xs k a v) j).map (·.2) = if k = j then some v else (atKey xs j).map (·.2) := by
  cases h : atKey xs k with
  | none =>
    rw [storedH_new h, atKey_app]
    by_cases e : k = j
    · subst e
      rw [h]
      simp
    · rw [if_neg e]
      cases atKey xs j with
      | none => simp [e]
      | some q => simp [e]
  | some p =>
    rw [storedH_old h, atKey_putAt]
    by_cases e : k = j
    · subst e
      rw [h]
      simp
    · rw [if_neg e]
      cases atKey xs j with
      | none => rfl
      | some q => simp [e]
/-- the last one of a key -/
def lastK {β : Type} (k : κ) : List (κ × β) → Option β
  | [] => none
  | (j, v) :: r => match lastK k r with
    | some x => some x
    | none => if j = k then some v else none
theorem lastK_cons {β : Type} (k j : κ) (v : β) (r : List (κ × β)) : lastK k ((j, v) :: r) = match lastK k r with
    | some x => some x
    | none => if j = k then some v else none := rfl
def kvs (xs : List (En κ)) : List (κ × Value) := xs.map fun x => (x.1, x.2.2)
theorem atKey_all (k : κ) : ∀ (xs acc : List (En κ)), Option.map (fun q : Addr × Value => q.2) (atKey (storedAllH acc xs) k) = (match lastK k (kvs xs) with
    | some v => some v
    | none => (atKey acc k).map (fun q : Addr × Value => q.2) : Option Value)
  | [], acc => rfl
  | x :: xs, acc => by
    show Option.map (fun q : Addr × Value => q.2) (atKey (storedAllH (storedH acc x.1 x.2.1 x.2.2) xs) k) = _
    rw [atKey_all k xs]
    show _ = match lastK k ((x.1, x.2.2) :: kvs xs) with
      | some v => some v
      | none => (atKey acc k).map (fun q : Addr × Value => q.2)
    rw [lastK_cons]
    cases lastK k (kvs xs) with
    | some v => rfl
    | none =>
      simp only
      rw [atKey_stored]
      by_cases e : x.1 = k <;> simp [e]
end
end PnDict
namespace Pn
open L2 PyProof.Rows PySem.Spec PySem PnDict
/-! ### data as keys -/
def keysD : List Dat → Option (List Key)
  | [] => some []
  | .int i :: r => (keysD r).map (Sum.inl i :: ·)
  | .str x :: r => (keysD r).map (Sum.inr x :: ·)
  | _ :: _ => none
def keyD : Dat → Option (List Key)
  | .tuple ds => keysD ds
  | _ => none
def pairsD : List Dat → Option (List (List Key × Dat))
  | [] => some []
  | .tuple [k, v] :: r => (keyD k).bind fun ks => (pairsD r).map fun l => (ks, v) :: l
  | _ :: _ => none
theorem keysD_v {K : PySem.W.Frag} {G : Hp} : ∀ {vs : List V} {ds : List Dat} {ks : List Key}, RpA K G vs ds → keysD ds = some ks → vs = ks.map kV
  | _, _, _, .nil, h => by cases h; rfl
  | _, _, ks, .cons (d := d) q t, h => by
    cases q with
    | int i =>
      unfold keysD at h
      obtain ⟨l, e, rfl⟩ := Option.map_eq_some_iff.mp h
      rw [keysD_v t e]
      rfl
    | str x =>
      unfold keysD at h
      obtain ⟨l, e, rfl⟩ := Option.map_eq_some_iff.mp h
      rw [keysD_v t e]
      rfl
    | _ => cases h
theorem keyD_v {K : PySem.W.Frag} {G : Hp} {v : V} {d : Dat} {ks : List Key} (q : Rp K G v d) (h : keyD d = some ks) : ∃ b, v = .ref b ∧ SqT K G b (ks.map kV) := by
  cases q with
  | tup s k => exact ⟨_, rfl, keysD_v k h ▸ s⟩
  | _ => cases h
theorem pairsD_v {K : PySem.W.Frag} {G : Hp} : ∀ {vs : List V} {l : List Dat} {ps : List (List Key × Dat)}, RpA K G vs l → pairsD l = some ps →
    ∃ ts : List PairT, vs = ts.map (fun q => V.ref q.t) ∧ (∀ q ∈ ts, SqT K G q.t [.ref q.b, q.y] ∧ SqT K G q.b (q.k.map kV)) ∧ Paired (fun (q : PairT) (p : List Key × Dat) => q.k = p.1 ∧ Rp K G q.y p.2) ts ps
  | _, _, _, .nil, h => by
    cases h
    exact ⟨[], rfl, (fun q m => nomatch m), .nil⟩
  | _, _, ps, .cons q t, h => by
    cases q with
    | @tup a xs ds s k =>
      cases k with
      | nil => cases h
      | @cons v0 vs0 d0 ds0 q0 k =>
        cases k with
        | nil => cases h
        | @cons v1 vs1 d1 ds1 q1 k =>
          cases k with
          | cons _ _ => cases h
          | nil =>
            unfold pairsD at h
            obtain ⟨ks, e1, h⟩ := Option.bind_eq_some_iff.mp h
            obtain ⟨l, e2, rfl⟩ := Option.map_eq_some_iff.mp h
            obtain ⟨b, rfl, sb⟩ := keyD_v q0 e1
            obtain ⟨ts, rfl, h1, h2⟩ := pairsD_v t e2
            refine ⟨⟨a, b, ks, v1⟩ :: ts, rfl, fun q m => ?_, .cons ⟨rfl, q1⟩ h2⟩
            rcases List.mem_cons.mp m with rfl | m
            · exact ⟨s, sb⟩
            · exact h1 q m
    | _ => cases h
theorem last_rel {K : PySem.W.Frag} {G : Hp} (k : List Key) : ∀ {ts : List PairT} {ps : List (List Key × Dat)} {xs : List Ent}, Paired (fun (q : PairT) (p : List Key × Dat) => q.k = p.1 ∧ Rp K G q.y p.2) ts ps → Paired (fun (q : PairT) (x : Ent) => x.1 = q.k ∧ x.2.1 = q.b ∧ RelV q.y x.2.2) ts xs →
    match lastK k ps with
    | some d => ∃ v y, lastK k (kvs xs) = some v ∧ RelV y v ∧ Rp K G y d
    | none => lastK k (kvs xs) = none
  | _, _, _, .nil, .nil => rfl
  | q :: ts, (j, d) :: ps, x :: xs, .cons h1 t1, .cons h2 t2 => by
    have ih := last_rel k t1 t2
    show match lastK k ((j, d) :: ps) with
      | some d => ∃ v y, lastK k ((x.1, x.2.2) :: kvs xs) = some v ∧ RelV y v ∧ Rp K G y d
      | none => lastK k ((x.1, x.2.2) :: kvs xs) = none
    rw [lastK_cons, lastK_cons]
    cases e : lastK k ps with
    | some d' =>
      rw [e] at ih
      obtain ⟨v, y, e2, r⟩ := ih
      rw [e2]
      exact ⟨v, y, rfl, r⟩
    | none =>
      rw [e] at ih
      simp only at ih
      rw [ih]
      obtain ⟨a1, a2⟩ := h1
      obtain ⟨b1, b2, b3⟩ := h2
      have ej : x.1 = j := b1.trans a1
      by_cases hk : j = k
      · simp only [hk, ej, if_true]
        exact ⟨_, q.y, rfl, b3, a2⟩
      · simp only [hk, ej, if_false]
theorem paired_keys {K : PySem.W.Frag} {G : Hp} : ∀ {ts : List PairT} {xs : List Ent}, (∀ q ∈ ts, SqT K G q.t [.ref q.b, q.y] ∧ SqT K G q.b (q.k.map kV)) → Paired (fun (q : PairT) (x : Ent) => x.1 = q.k ∧ x.2.1 = q.b ∧ RelV q.y x.2.2) ts xs → ∀ z ∈ xs, SqT K G z.2.1 (z.1.map kV)
  | _, _, _, .nil => fun z m => nomatch m
  | q :: ts, x :: xs, h, .cons ⟨h1, h2, _⟩ t => fun z m => by
    rcases List.mem_cons.mp m with rfl | m
    · rw [h1, h2]
      exact (h q List.mem_cons_self).2
    · exact paired_keys (fun q m => h q (List.mem_cons_of_mem _ m)) t z m
theorem putAt_keys {S : Addr → List Key → Prop} {k : List Key} {v : Value} {acc : List Ent} (h : ∀ z ∈ acc, S z.2.1 z.1) : ∀ z ∈ acc.map (PySem.putAt k v), S z.2.1 z.1 := fun z m => by
  obtain ⟨y, hy, rfl⟩ := List.mem_map.mp m
  unfold PySem.putAt
  by_cases e : y.1 = k
  · rw [if_pos e]
    exact h y hy
  · rw [if_neg e]
    exact h y hy
theorem stored_keys {S : Addr → List Key → Prop} : ∀ {xs acc : List Ent}, (∀ z ∈ xs, S z.2.1 z.1) → (∀ z ∈ acc, S z.2.1 z.1) → ∀ z ∈ storedAllH acc xs, S z.2.1 z.1
  | [], acc, _, h => h
  | x :: xs, acc, h1, h2 => by
    show ∀ z ∈ storedAllH (storedH acc x.1 x.2.1 x.2.2) xs, S z.2.1 z.1
    refine stored_keys (fun z m => h1 z (List.mem_cons_of_mem _ m)) ?_
    unfold storedH
    by_cases e : (atKey acc x.1).isSome = true
    · rw [if_pos e]
      exact putAt_keys h2
    · rw [if_neg e]
      intro z m
      rcases List.mem_append.mp m with m | m
      · exact h2 z m
      · have : z = (x.1, x.2.1, x.2.2) := List.mem_singleton.mp m
        rw [this]
        exact h1 x List.mem_cons_self
/-! ### part_at -/
theorem rd_no_exc (i : Nat) (c : Cfg) (k : Nat) (d : Dat) (c' : Cfg) : rd i c ≠ .exc k d c' := by
  unfold rd
  split <;> intro h <;> cases h
theorem rd_ok {i : Nat} {c c' : Cfg} {d : Dat} (h : rd i c = .ok d c') : c.r[i]? = some (.sh d) ∧ c' = c := by
  unfold rd at h
  split at h
  · cases h
    exact ⟨by assumption, rfl⟩
  · cases h
def notInPs (ps : List (List Key × Dat)) (d : Dat) : M Bool := match keyD d with
  | some k => ret (lastK k ps).isNone
  | none => bad
def getPs (ps : List (List Key × Dat)) (d : Dat) : M Dat := match keyD d with
  | some k => (match lastK k ps with
    | some x => ret x
    | none => bad)
  | none => bad
def partK (ps : List (List Key × Dat)) (d : Dat) : M Ctl := M.bind (orB (notB (toB (frz (callN 1 g_are_from_zero (aCons (rd 1) aNil))))) (notInPs ps d)) fun b => if b = true then M.bind (rd 1) fun d => excM 3 d else retS (asx (getPs ps d))
def partM (ps : List (List Key × Dat)) : M Ctl := fun c : Cfg => if 2 < c.r.length then (match (c.r[1]? : Option Sl) with
  | some (.sh d) => partK ps d { c with r := c.r.set 2 .no }
  | _ => .bad) else .bad
def m_part_at : M Ctl := M.bind (callN 1 g_parts_of (aCons (rd 0) aNil)) fun v => match v with
  | .fr l => (match pairsD l with
    | some ps => partM ps
    | none => bad)
  | _ => bad
def g_part_at : List Dat → PR := runP 3 m_part_at
theorem sc_part_at : FnScope ["program", "path", "parts"] ["program", "path"] (defScope (top 61)) := ⟨rfl, rfl, rfl, by decide +kernel, rfl, by decide +kernel, by decide +kernel⟩

theorem room3 {k : Nat} {A : Around} (r : Room k A) : A.units + 3 < cLine := by have := r.un; omega
section
variable {F : Fr} {W : L2.WX} {σ : L2.St} {H : Hp} {X : Cx} {D : Ends}
/-- a new object is laid that stays meanwhile -/
theorem Rel.pin1 {G : Hp} {c : Cfg} {p : Addr} {o : HO} (r : Rel F G c σ H) (hp : H p = none) : Rel (F.pn ((p, o) :: F.pins)) G c σ (upd H p o) := by
  have z := r.other (o := o) hp
  exact { tabs := z.tabs, sub := z.sub, g0 := z.g0, fresh := z.fresh, keep := z.keep, len := z.len, mu0 := z.mu0, st0 := z.st0, dom := z.dom, st := z.st, inj := z.inj, ioj := z.ioj
          pin := fun q hq => by
            obtain rfl | hq := List.mem_cons.mp hq
            · exact ⟨upd_same, r.gNone hp, r.old hp⟩
            · exact z.pin q hq
          sl := fun j s e => by
            have k := r.sl j s e
            have k2 := z.sl j s e
            cases s with
            | no => trivial
            | sh d => exact k2
            | own l' =>
              obtain ⟨a, zs, e1, e2, e3, e4, e5, e6⟩ := k
              obtain ⟨a', zs', f1, f2, f3, f4, f5, f6⟩ := k2
              refine ⟨a', zs', f1, f2, f3, f4, f5, fun q hq => ?_⟩
              obtain rfl | hq := List.mem_cons.mp hq
              · intro ea
                have ea : a' = p := ea
                rw [e1] at f1
                cases f1
                rw [ea, hp] at e2
                cases e2
              · exact f6 q hq
            | io l' => exact k2
            | st => exact k2 }
theorem Rel.unpin1 {G : Hp} {c : Cfg} {x : Addr × HO} (r : Rel (F.pn (x :: F.pins)) G c σ H) : Rel F G c σ H :=
  { tabs := r.tabs, sub := r.sub, g0 := r.g0, fresh := r.fresh, keep := r.keep, len := r.len, mu0 := r.mu0, st0 := r.st0, dom := r.dom, st := r.st, inj := r.inj, ioj := r.ioj, pin := fun q hq => r.pin q (List.mem_cons_of_mem _ hq)
    sl := fun j s e => by
      have k := r.sl j s e
      cases s with
      | no => trivial
      | sh d => exact k
      | own l' =>
        obtain ⟨a, zs, e1, e2, e3, e4, e5, e6⟩ := k
        exact ⟨a, zs, e1, e2, e3, e4, e5, fun q hq => e6 q (List.mem_cons_of_mem _ hq)⟩
      | io l' => exact k
      | st => exact k }
theorem ps_bindP {α β : Type} {R1 : L2.St → Hp → Hp → Cfg → β → α → Prop} {m : M α} {f : α → M Ctl} {G : Hp} {c : Cfg} (p : Ps F W D G (M.bind m f c)) :
    Po F W σ R1 (fun x H1 => ∃ a G1 c1, Rel F G1 c1 σ H1 ∧ Same G G1 ∧ R1 σ G1 H1 c1 x a ∧ Ps F W D G1 (f a c1)) G (m c) := by
  unfold M.bind at p
  cases e : m c with
  | ok a c' =>
    rw [e] at p
    exact fun v G' H' r' s' q => ⟨a, G', c', r', s', q, p.up s'⟩
  | exc k d c' =>
    rw [e] at p
    exact fun ad v G' H' r' _ h q => p ad v σ G' H' r' h q
  | bad =>
    rw [e] at p
    exact p
theorem RX.pin1 {G : Hp} {c : Cfg} {x : Addr × HO} {v : V} {d : RV} (q : RX (F.pn (x :: F.pins)) σ G H c v d) : RX F σ G H c v d := by
  cases d with
  | sh d => exact q
  | fr l =>
    obtain ⟨p, e, xs, h1, h2, h3, h4, h5, h6⟩ := q
    exact ⟨p, e, xs, h1, h2, h3, h4, h5, fun q hq => h6 q (List.mem_cons_of_mem _ hq)⟩
theorem Ps.pin1 {G : Hp} {x : Addr × HO} {r : Res Ctl} (p : Ps F W D G r) : Ps (F.pn (x :: F.pins)) W D G r := by
  cases r with
  | ok a c =>
    cases a with
    | nx => exact fun σ' G' H' r' s => p σ' G' H' r'.unpin1 s
    | rt v => exact fun y σ' G' H' r' q => p y σ' G' H' r'.unpin1 q.pin1
    | bk => exact fun σ' G' H' r' s => p σ' G' H' r'.unpin1 s
    | ct => exact fun σ' G' H' r' s => p σ' G' H' r'.unpin1 s
  | exc k d c => exact fun ad v σ' G' H' r' h q => p ad v σ' G' H' r'.unpin1 h q
  | bad => exact p
/-- a slot of which nothing is known takes any value -/
theorem Rel.setNo {G : Hp} {c : Cfg} {i : Nat} {x : Option V} (r : Rel F G c σ H) : Rel F G { c with r := c.r.set i .no } (σ.set i x) H :=
  { sub := r.sub, g0 := r.g0, fresh := r.fresh, keep := r.keep, len := by simp only [List.length_set]; exact r.len, mu0 := r.mu0, st0 := r.st0, dom := r.dom, st := r.st, pin := r.pin, tabs := r.tabs
    sl := fun j s e => by
      rcases get_set e with ⟨_, rfl, _⟩ | ⟨n, e⟩
      · trivial
      · rw [List.getElem?_set_ne n]
        exact r.sl j s e
    inj := fun j k l l' e1 e2 e3 => by
      rcases get_set e1 with ⟨_, z, _⟩ | ⟨n1, e1⟩
      · cases z
      · rcases get_set e2 with ⟨_, z, _⟩ | ⟨n2, e2⟩
        · cases z
        · rw [List.getElem?_set_ne n1, List.getElem?_set_ne n2] at e3
          exact r.inj j k l l' e1 e2 e3
    ioj := fun j k l l' e1 e2 => by
      rcases get_set e1 with ⟨_, z, _⟩ | ⟨_, e1⟩
      · cases z
      · rcases get_set e2 with ⟨_, z, _⟩ | ⟨_, e2⟩
        · cases z
        · exact r.ioj j k l l' e1 e2 }
end
section
variable {P : Program} {w : World} {K : PySem.W.Frag} {mg : Str → Option Value} {base : Heap} {C : Cls}
theorem ok_part_at {f : Addr} {fd : FuncData} (Fn : Fun K "part_at" "part_at" (top 61) f fd) (Z : Glo K mg) (hmd : mg "dict" = none) (h_parts_of : Has P w K mg base C "parts_of" 50 1 g_parts_of) (h_are : Has P w K mg base C "are_from_zero" 3 1 g_are_from_zero) (x_BadIndex : ErrX P w K mg base C 3 "BadIndex") :
    FnOk P w K mg base (L2.CX P w) 51 f fd ["program", "path"] (spP K C 2 g_part_at) :=
  fn_pure Fn sc_part_at (by decide) fun G0 H0 cdv A outer s E hr => by
    refine L2.PSs.mono (t := ?t) ?h ?k
    case h =>
      exact pss_cons (ps_set (i := 2) sc_part_at.nd rfl (.inl rfl) (pe_dic (te := Pn.EX (frP K C G0 H0) (fun cls d _ H => E cls d H) (callN 1 g_parts_of (aCons (rd 0) aNil))) (by rfl) (room3 hr) (by rfl) hmd (call_ h_parts_of hr tkC (a_cons (v_ 0) a_nil))))
       (pss_cons (ps_if (tc := tOr (fun σ H Q => ∃ ps, Pn.B ((frP K C G0 H0).pn ps) (fun cls d _ H => E cls d H) (notB (toB (frz (callN 1 g_are_from_zero (aCons (rd 1) aNil))))) σ H Q) (tTest (tOp _ (tVar 1) _))) (t := fun D σ H => ∃ ps, T ((frP K C G0 H0).pn ps) (fun cls d _ H => E cls d H) (M.bind (rd 1) fun d => excM 3 d) D σ H)
           (L2.PW.pt (pw_or ⟨fun pins s σ H Q I ⟨ps, z⟩ => (t_not (t_val (e_frz (call_ (F := (frP K C G0 H0).pn ps) (W := fun cls d _ H => E cls d H) h_are hr tkC (a_cons (v_ 1) a_nil))))).run pins s σ H Q I z⟩ (pw_or1 (pt_cmpR (op_notInDic (hu_of hr)) (pe_var (i := 1) rfl (.inl rfl)) (pe_var (i := 2) rfl (.inl rfl)) rfl)))) (pss_one ⟨fun pins s σ H Q I ⟨ps, z⟩ => (raise_ (F := (frP K C G0 H0).pn ps) (W := fun cls d _ H => E cls d H) x_BadIndex hr tkC (v_ 1)).run pins s σ H Q I z⟩) pss_nil)
       (pss_one (ps_ret (pe_dicGet (hu_of hr) (pe_var (i := 2) rfl (.inl rfl)) (pe_var (i := 1) rfl (.inl rfl)) (by intro _ _; rfl)))))
    case k =>
      intro D σ H ⟨G, c, r, p⟩
      refine sx_mono (ps_bind (R1 := RX _) r p) fun v H1 ⟨a, G1, c1, r1, s1, q, p1⟩ => ?_
      cases a with
      | sh d => exact p1.elim
      | fr l =>
        cases ep : pairsD l with
        | none => simp only [ep] at p1; exact p1.elim
        | some ps =>
          simp only [ep] at p1
          obtain ⟨pa, rfl, xs0, hx, hq, gp, n0, nown, npin⟩ := q
          obtain ⟨ts, rfl, hts, rel⟩ := pairsD_v hq ep
          have hts1 : ∀ q ∈ ts, SqT K H1 q.t [.ref q.b, q.y] ∧ SqT K H1 q.b (q.k.map kV) := fun q m => ⟨sqT_mono r1.sub (hts q m).1, sqT_mono r1.sub (hts q m).2⟩
          refine ⟨pa, ts, rfl, Evl.sq_of hx, hts1, fun xs p' rel2 hp => ?_⟩
          have r2 := (r1.pin1 (o := DicO P w p' (storedAllH [] xs)) hp).setNo (i := 2) (x := some (.ref p'))
          have hpin : ∀ {G' : Hp} {c' : Cfg} {σ' : L2.St} {H' : Hp}, Rel ((frP K C G0 H0).pn ((p', DicO P w p' (storedAllH [] xs)) :: (frP K C G0 H0).pins)) G' c' σ' H' → H' p' = some (DicO P w p' (storedAllH [] xs)) := fun r => (r.pin _ List.mem_cons_self).1
          have keysAll : ∀ z ∈ storedAllH [] xs, SqT K G1 z.2.1 (z.1.map kV) := stored_keys (S := fun b k => SqT K G1 b (k.map kV)) (paired_keys hts rel2) (fun z m => nomatch m)
          unfold partM at p1
          by_cases hl : 2 < c1.r.length
          · rw [if_pos hl] at p1
            have hs2 : (σ.set 2 (some (V.ref p')))[2]? = some (some (V.ref p')) := List.getElem?_set_self (by rw [← r1.len]; exact hl)
            cases e1 : c1.r[1]? with
            | none => rw [e1] at p1; exact p1.elim
            | some sl1 =>
              rw [e1] at p1
              cases sl1 with
              | sh d =>
                simp only at p1
                obtain ⟨u, eu0, qu⟩ := r1.sl 1 _ e1
                have eu : (σ.set 2 (some (V.ref p')))[1]? = some (some u) := by rw [List.getElem?_set_ne (by decide)]; exact eu0
                unfold partK at p1
                refine ⟨_, sx_mono (po_bind (R1 := RB) r2 (ps_bindP (R1 := RB) p1.pin1)) fun x H3 ⟨a, G3, c3, r3, s3, hb, p3⟩ => ?_⟩
                cases hb
                by_cases hx : x = true
                · rw [if_pos hx]
                  rw [if_pos hx] at p3
                  obtain ⟨a, G4, c4, r4, s4, e4, p4⟩ := p3 true G3 H3 r3 (Same.refl _) rfl
                  cases e4
                  refine ⟨_, G4, c4, r4, ?_⟩
                  rw [if_pos rfl] at p4
                  unfold M.bind at p4 ⊢
                  cases er : rd 1 c4 with
                  | ok d c5 => rw [er] at p4; exact p4
                  | exc k d c5 => rw [er] at p4; exact p4
                  | bad => rw [er] at p4; exact p4
                · rw [if_neg hx]
                  rw [if_neg hx] at p3
                  unfold notInPs at p3
                  cases ek : keyD d with
                  | none => simp only [ek] at p3; exact p3.elim
                  | some kk =>
                    simp only [ek] at p3
                    obtain ⟨b, rfl, sb⟩ := keyD_v qu ek
                    obtain ⟨a, G4, c4, r4, s4, e4, p4⟩ := p3 _ G3 H3 r3 (Same.refl _) rfl
                    cases e4
                    have hd3 := hpin r3
                    have sb3 : SqT K H3 b (kk.map kV) := sqT_mono r3.sub (sqT_mono s3 sb)
                    have keys3 : ∀ z ∈ storedAllH [] xs, SqT K H3 z.2.1 (z.1.map kV) := fun z m => sqT_mono r3.sub (sqT_mono s3 (keysAll z m))
                    refine ⟨_, eu, _, hs2, p', b, storedAllH [] xs, kk, rfl, rfl, hd3, keys3, sb3, _, rfl, ?_⟩
                    have la := last_rel kk rel rel2
                    have at_ := atKey_all kk xs []
                    cases el : lastK kk ps with
                    | none =>
                      rw [el] at la p4
                      simp only at la
                      rw [la] at at_
                      have an : atKey (storedAllH [] xs) kk = none := by
                        cases z : atKey (storedAllH [] xs) kk with
                        | none => rfl
                        | some q => rw [z] at at_; cases at_
                      rw [an]
                      refine ⟨_, G4, c4, r4, ?_⟩
                      have p4 : Ps _ _ D G4 (M.bind (rd 1) (fun d => excM 3 d) c4) := p4
                      unfold M.bind at p4 ⊢
                      cases er : rd 1 c4 with
                      | ok d c5 => rw [er] at p4; exact p4
                      | exc k d c5 => rw [er] at p4; exact p4
                      | bad => rw [er] at p4; exact p4
                    | some dd =>
                      rw [el] at la p4
                      simp only at la
                      obtain ⟨vv, yy, lv, ry, qy⟩ := la
                      rw [lv] at at_
                      obtain ⟨pp, ap, rfl⟩ := Option.map_eq_some_iff.mp at_
                      rw [ap]
                      have ev : retS (asx (getPs ps d)) c4 = .ok (.rt (.sh dd)) c4 := by
                        unfold retS asx M.bind getPs
                        simp only [ek, el, ret]
                      have p4 : Ps _ _ D G4 (retS (asx (getPs ps d)) c4) := p4
                      rw [ev] at p4
                      exact ⟨_, hs2, _, eu, p', b, storedAllH [] xs, kk, pp, rfl, rfl, hd3, keys3, sb3, ap, yy, ry, p4 yy _ G4 H3 r4 (dp_mono s4 qy)⟩
              | _ => exact p1.elim
          · rw [if_neg hl] at p1
            exact p1.elim
end
end Pn

set_option maxHeartbeats 2000001
/-! list(enumerate(a list)): each pair stays in the list that is made, so each turn makes a new one. -/
namespace PnEl
open L2 PyProof.Rows PySem.Spec PySem
/-- the enumerate at e has given out the pair at T, which still is -/
abbrev Given (m : Heap) (e j : Addr) (c : Int) (y : Value) (T : Addr) (f : Bool) : Prop :=
  m.get? e = some (Obj.mk (.type "enumerate") none (.fields #[rawInt T, .bool f, .ref j, rawInt c, .none, y]) #[])
section
variable {P : Program}
variable {w : World} {A : Around} {E : Value → Shared → Prop} {s : Shared}
theorem alive_ {T : Addr} {u : Obj} {R : Option Obj → Shared → Prop} (hu : s.heap.get? T = some u) (r : R (some u) s) :
    wpAny (model P w) A (loadIfAlive T) R E s := fun _ _ _ => by
  show R (s.heap.get? T) s
  rw [hu]
  exact r
theorem out_item {e j l T : Addr} {f : Bool} {u : Obj} {n : Nat} {its : Array Value} {x y : Value} {R : Option Value → Shared → Prop}
    (g0 : Given s.heap e j n y T f) (hu : s.heap.get? T = some u) (nT : T ≠ e) (nj : T ≠ j) (ne : e ≠ j)
    (li : s.heap.IsListIter j l n) (hl : s.heap.IsList l its) (hx : its[n]? = some x)
    (r : ∀ m, Given m e j ((n : Int) + 1) y T true → m.IsListIter j l (n + 1) →
      m.get? s.heap.objs.size = some { cls := .type "tuple", data := .seq #[.int n s.toks, x] } →
      (∀ b o, b ≠ j → b ≠ e → s.heap.get? b = some o → m.get? b = some o) → m.objs.size = s.heap.objs.size + 1 →
      R (some (.ref s.heap.objs.size)) { s with heap := m, toks := s.toks + 1 }) : wpAny (model P w) A (pyNext (.ref e)) R E s := by
  obtain ⟨m0, gn, dr, tk, os⟩ := s
  have ty : Shared.TypeIs ⟨m0, gn, dr, tk, os⟩ (.ref e) "enumerate" := ⟨_, g0, rfl⟩
  have hel : e < m0.objs.size := Heap.lt_size g0
  unfold pyNext
  refine wpAny_bind (wpAny_attempt (wpAny_callSpecial?_slot (name := Str.ofString "__next__") ty F.slot_enumerate_next (wpAny_call_entry F.slot_enumerate_next ty
    F.entry_enumerate_next (Q := fun v z => wpAny (model P w) A (pure (some v)) R E z) ?_ (F.args_enumerate_next_1 _))))
  show wpAny _ _ (field (.ref e) 2 >>= fun v => _) _ _ _
  refine wpAny_bind (wpAny_field g0 rfl (x := Value.ref j) rfl (wpAny_bind (wpAny_nextOf_list_item li hl hx fun m1 li1 sb1 => ?_)))
  have k1 : Heap.SameBut j m0 m1 := sb1
  have g1 : Given m1 e j n y T f := by
    have z := k1.2 e ne
    exact z.trans g0
  show wpAny _ _ (field (.ref e) 3 >>= fun v => _) _ _ ⟨m1, gn, dr, tk, os⟩
  refine wpAny_bind (wpAny_field g1 rfl (x := rawInt n) rfl ?_)
  show wpAny _ _ (field (.ref e) 4 >>= fun v => _) _ _ ⟨m1, gn, dr, tk, os⟩
  refine wpAny_bind (wpAny_field g1 rfl (x := Value.none) rfl ?_)
  show wpAny _ _ (mkInt n >>= fun v => _) _ _ ⟨m1, gn, dr, tk, os⟩
  (refine wpAny_bind (wpAny_mkInt ?_))
  show wpAny _ _ (setField (.ref e) 3 (rawInt ((n : Int) + 1)) >>= fun v => _) _ _ ⟨m1, gn, dr, tk + 1, os⟩
  refine wpAny_bind (wpAny_setField_rec g1 (by simp) fun m2 g2 sb2 => ?_)
  have k2 : Heap.SameBut e m1 m2 := sb2
  have g2 : Given m2 e j ((n : Int) + 1) y T f := g2
  show wpAny _ _ (setField (.ref e) 4 .none >>= fun v => _) _ _ ⟨m2, gn, dr, tk + 1, os⟩
  refine wpAny_bind (wpAny_setField_rec g2 (by simp) fun m3 g3 sb3 => ?_)
  have k3 : Heap.SameBut e m2 m3 := sb3
  have g3 : Given m3 e j ((n : Int) + 1) y T f := g3
  have z3 : m3.objs.size = m0.objs.size := by rw [k3.1, k2.1, k1.1]
  show wpAny _ _ (newTuple [.int n tk, x] >>= fun v => _) _ _ ⟨m3, gn, dr, tk + 1, os⟩
  (refine wpAny_bind (wpAny_newTuple ?_))
  have g4 : Given (m3.push { cls := .type "tuple", data := .seq #[.int n tk, x] }) e j ((n : Int) + 1) y T f := Heap.get?_push_of_some _ g3
  have pair4 : (m3.push { cls := .type "tuple", data := .seq #[.int n tk, x] }).get? m0.objs.size = some { cls := .type "tuple", data := .seq #[.int n tk, x] } := by
    rw [← z3]
    (exact Heap.get?_push_size _ rfl)
  have up4 : ∀ b o, b ≠ j → b ≠ e → m0.get? b = some o → (m3.push { cls := .type "tuple", data := .seq #[.int n tk, x] }).get? b = some o := fun b o h1 h2 q =>
    Heap.get?_push_of_some _ (k3.extBut b o h2 (k2.extBut b o h2 (k1.extBut b o h1 q)))
  have li4 : (m3.push { cls := .type "tuple", data := .seq #[.int n tk, x] }).IsListIter j l (n + 1) := li1.at fun o q =>
    Heap.get?_push_of_some _ (k3.extBut j o ne.symm (k2.extBut j o ne.symm q))
  have z4 : (m3.push { cls := .type "tuple", data := .seq #[.int n tk, x] }).objs.size = m0.objs.size + 1 := by rw [Heap.size_push, z3]
  generalize m3.push { cls := .type "tuple", data := .seq #[.int n tk, x] } = m4 at g4 pair4 up4 li4 z4
  rw [z3]
  show wpAny _ _ (Builtin.SmallTypes.ownedTupleIsFree (.ref e) >>= fun v => _) _ _ ⟨m4, gn, dr, tk + 1, os⟩
  refine wpAny_bind ?_
  (unfold Builtin.SmallTypes.ownedTupleIsFree)
  refine wpAny_bind (wpAny_field g4 rfl (x := rawInt T) rfl ?_)
  show wpAny _ _ (loadIfAlive ((T : Int).toNat) >>= fun v => _) _ _ ⟨m4, gn, dr, tk + 1, os⟩
  rw [Int.toNat_natCast]
  refine wpAny_bind (alive_ (up4 T u nj nT hu) ?_)
  (simp only [Option.isNone_some, Bool.false_eq_true, if_false])
  refine wpAny_bind (wpAny_field g4 rfl (x := Value.bool f) rfl ?_)
  cases f with
  | true =>
    rw [if_neg (by decide)]
    exact wpAny_pure (wpAny_pure ⟨_, rfl, wpAny_pure (r m4 g4 li4 pair4 up4 z4)⟩)
  | false =>
    rw [if_pos (by decide)]
    refine wpAny_bind (wpAny_setField_rec g4 (by simp) fun m5 g5 sb5 => ?_)
    have k5 : Heap.SameBut e m4 m5 := sb5
    have g5 : Given m5 e j ((n : Int) + 1) y T true := g5
    refine wpAny_pure (wpAny_pure ⟨_, rfl, wpAny_pure (r m5 g5 (li4.at fun o q => k5.extBut j o ne.symm q) (k5.extBut _ _ (Nat.ne_of_gt hel) pair4) (fun b o h1 h2 q => k5.extBut b o h2 (up4 b o h1 h2 q)) ?_)⟩)
    rw [k5.1, z4]
theorem out_end {e j l T : Addr} {f : Bool} {n : Nat} {its : Array Value} {y : Value} {R : Option Value → Shared → Prop} (hh : A.handled = none)
    (g0 : Given s.heap e j n y T f) (li : s.heap.IsListIter j l n) (hl : s.heap.IsList l its) (hx : its[n]? = none)
    (r : ∀ m, Heap.ExtBut j s.heap m → R none { s with heap := m }) : wpAny (model P w) A (pyNext (.ref e)) R E s := by
  have ty : s.TypeIs (.ref e) "enumerate" := ⟨_, g0, rfl⟩
  unfold pyNext
  refine wpAny_bind (wpAny_attempt (wpAny_callSpecial?_slot (name := Str.ofString "__next__") ty F.slot_enumerate_next (wpAny_call_entry F.slot_enumerate_next ty F.entry_enumerate_next ?_ (F.args_enumerate_next_1 _))))
  show wpAny _ _ (field (.ref e) 2 >>= fun v => _) _ _ _
  refine wpAny_bind (wpAny_field g0 rfl (x := Value.ref j) rfl (wpAny_bind (wpAny_nextOf_list_end hh li hl hx fun m z em hz => ?_)))
  obtain ⟨o, ho, hc⟩ := hz
  exact wpAny_bind (wpAny_isInstance (T := "StopIteration") (b := true) ⟨o, ho, hc⟩ isSubtype_stop (wpAny_pure (r _ em)))
/-- before its turn n -/
def AtN (m : Heap) (e j l S : Addr) (n : Nat) : Prop :=
  m.IsListIter j l n ∧ ((∃ y, IsEnum m e j n y) ∨ ∃ y T f u, Given m e j n y T f ∧ m.get? T = some u ∧ T ≠ e ∧ T ≠ j ∧ T ≠ S)
theorem AtN.keep {m m' : Heap} {e j l S : Addr} {n : Nat} (x : AtN m e j l S n) (k : ∀ b o, b ≠ S → m.get? b = some o → m'.get? b = some o) (he : e ≠ S) (hj : j ≠ S) : AtN m' e j l S n := by
  obtain ⟨x1, x2⟩ := x
  refine ⟨x1.at fun o q => k j o hj q, ?_⟩
  rcases x2 with ⟨y, h⟩ | ⟨y, T, f, u, h, hu, a1, a2, a3⟩
  · exact .inl ⟨y, k _ _ he h⟩
  · exact .inr ⟨y, T, f, u, k _ _ he h, k _ _ a3 hu, a1, a2, a3⟩
theorem at_item {e j l S : Addr} {n : Nat} {its : Array Value} {x : Value} {R : Option Value → Shared → Prop} (h : AtN s.heap e j l S n) (ne : e ≠ j) (hS : S < s.heap.objs.size) (hl : s.heap.IsList l its) (hx : its[n]? = some x)
    (r : ∀ m, AtN m e j l S (n + 1) → m.get? s.heap.objs.size = some { cls := .type "tuple", data := .seq #[.int n s.toks, x] } →
      (∀ b o, b ≠ j → b ≠ e → s.heap.get? b = some o → m.get? b = some o) → m.objs.size = s.heap.objs.size + 1 →
      R (some (.ref s.heap.objs.size)) { s with heap := m, toks := s.toks + 1 }) : wpAny (model P w) A (pyNext (.ref e)) R E s := by
  have en : ((n + 1 : Nat) : Int) = (n : Int) + 1 := by omega
  obtain ⟨li, h⟩ := h
  have hj : j < s.heap.objs.size := li.elim fun _ q => Heap.lt_size q.1
  rcases h with ⟨y, h⟩ | ⟨y, T, f, u, h, hu, a1, a2, a3⟩
  · refine wpAny_pyNext_enum_item h li hl hx ne fun m q1 q2 q3 q4 q5 => r m ⟨q2, .inr ⟨x, s.heap.objs.size, false, _, ?_, q3, ?_, ?_, ?_⟩⟩ q3 (fun b o h1 h2 => q5 b o h2 h1) q4
    · unfold Given
      rw [en]
      exact q1
    · exact Nat.ne_of_gt (Heap.lt_size h)
    · exact Nat.ne_of_gt hj
    · exact Nat.ne_of_gt hS
  · refine out_item h hu a1 a2 ne li hl hx fun m q1 q2 q3 q4 q5 => r m ⟨q2, .inr ⟨y, T, true, u, ?_, q4 T u a2 a1 hu, a1, a2, a3⟩⟩ q3 q4 q5
    unfold Given
    rw [en]
    exact q1
theorem at_end {e j l S : Addr} {n : Nat} {its : Array Value} {R : Option Value → Shared → Prop} (hh : A.handled = none) (h : AtN s.heap e j l S n) (hl : s.heap.IsList l its) (hx : its[n]? = none)
    (r : ∀ m, Heap.ExtBut j s.heap m → R none { s with heap := m }) : wpAny (model P w) A (pyNext (.ref e)) R E s := by
  obtain ⟨li, h⟩ := h
  rcases h with ⟨y, h⟩ | ⟨y, T, f, u, h, _⟩
  · exact wpAny_pyNext_enum_end hh h li hl hx r
  · exact out_end hh h li hl hx r
end
theorem two_cls {o u : Obj} {a b : String} (h : some o = some u) (h1 : o.cls = .type a) (h2 : u.cls = .type b) (n : a ≠ b) : False := by
  cases h
  rw [h1] at h2
  injection h2 with h2
  exact n h2
def numd (i : Nat) : List Value → List (Key × Value)
  | [] => []
  | v :: vs => (Sum.inl (i : Int), v) :: numd (i + 1) vs
theorem numd_len : ∀ (vs : List Value) (i : Nat), (numd i vs).length = vs.length
  | [], _ => rfl
  | _ :: vs, i => congrArg Nat.succ (numd_len vs (i + 1))
theorem numd_get : ∀ {vs : List Value} {i n : Nat} {v : Value}, vs[n]? = some v → (numd i vs)[n]? = some (Sum.inl ((i + n : Nat) : Int), v)
  | [], _, _, _, h => (by simp at h)
  | x :: vs, i, 0, v, h => by
    (simp only [List.getElem?_cons_zero, Option.some.injEq] at h)
    rw [h]
    rfl
  | x :: vs, i, n + 1, v, h => by
    rw [List.getElem?_cons_succ] at h
    have z := numd_get (i := i + 1) h
    rw [show i + (n + 1) = i + 1 + n by omega]
    exact z
section
variable {P : Program} {w : World} {A : Around} {E : Value → Shared → Prop} {s : Shared} {R : Result → Shared → Prop}
theorem en_loop {S e j l : Addr} {its : Array Value} {m0 : Heap} (hh : A.handled = none) (ne : e ≠ j) (eS : e ≠ S) (jS : j ≠ S) (lS : l ≠ S) (le : l ≠ e) (lj : l ≠ j) (hn : its.size ≤ sizeLine) (res : Value)
    (r : ∀ m tk acc c as, (∀ b o, b ≠ S → b ≠ e → b ≠ j → m0.get? b = some o → m.get? b = some o) → m.get? S = some (Obj.mk (.type "list") none (.seq acc c) #[]) → as.length = its.size →
      PySem.W.KdxG (mixKind P w) (numd 0 its.toList) S m as → acc.toList = as.map Value.ref → R (.ok (.ret res)) { s with heap := m, toks := tk }) :
    ∀ (k i : Nat) (m : Heap) (tk c : Nat) (acc : Array Value) (as : List Addr), its.size - i = k → i ≤ its.size → AtN m e j l S i → m.IsList l its → (∀ b o, b ≠ S → b ≠ e → b ≠ j → m0.get? b = some o → m.get? b = some o) →
      m.get? S = some (Obj.mk (.type "list") none (.seq acc c) #[]) → acc.toList = as.map Value.ref → as.length = i → PySem.W.KdxG (mixKind P w) (numd 0 its.toList) S m as →
      codeAny (model P w) A (.builtin "list.extend.loop" ⟨[.ref S, .ref e, res], []⟩) R { s with heap := m, toks := tk } := by
  intro k
  induction k with
  | zero =>
    intro i m tk c acc as hk hi hat hl kp hS hacc hal hG
    (refine codeAny_builtin PySem.F.entry_extend_loop ?_)
    (rw [Around.under_plainId PySem.F.plain_extend_loop _])
    show wpAny _ A.in1 (pyNext (.ref e) >>= fun v => _) _ _ _
    have ei : i = its.size := by omega
    refine wpAny_bind (at_end (s := { s with heap := m, toks := tk }) (A := A.in1) hh hat hl (by rw [ei]; exact Array.getElem?_eq_none (Nat.le_refl _)) fun m' x => wpAny_pure (r m' tk acc c as (fun b o h1 h2 h3 q => x b o h3 (kp b o h1 h2 h3 q)) (x S _ jS.symm hS) (by omega) ⟨hG.rise, hG.above, fun n a ha => ?_⟩ hacc))
    obtain ⟨key, kk, v, e1, e2, e3⟩ := hG.pairs n a ha
    refine ⟨key, kk, v, e1, e2, x a _ (fun z => ?_) e3⟩
    rcases hat.1 with ⟨o, ho, hc, _⟩
    rw [z] at e3
    exact two_cls (ho.symm.trans e3) hc rfl (by decide)
  | succ k ih =>
    intro i m tk c acc as hk hi hat hl kp hS hacc hal hG
    have hlt : (i < its.size) := by omega
    have hx : its[i]? = some its[i] := Array.getElem?_eq_getElem hlt
    have hz : acc.size = i := by rw [← Array.length_toList, hacc, List.length_map, hal]
    have mS : S < m.objs.size := Heap.lt_size hS
    (refine codeAny_builtin PySem.F.entry_extend_loop ?_)
    (rw [Around.under_plainId PySem.F.plain_extend_loop _])
    show wpAny _ A.in1 (pyNext (.ref e) >>= fun v => _) _ _ _
    refine wpAny_bind (at_item (s := { s with heap := m, toks := tk }) (A := A.in1) hat ne mS hl hx fun m' hat' pr kp' sz => ?_)
    have pr : m'.get? m.objs.size = some { cls := .type "tuple", data := .seq #[.int i tk, its[i]] } := pr
    have kp' : ∀ b o, b ≠ j → b ≠ e → m.get? b = some o → m'.get? b = some o := kp'
    have hS' := kp' S _ jS.symm eS.symm hS
    have up : ∀ b o, b ≠ S → m'.get? b = some o → (m'.update S (Obj.mapSeq (·.push (Value.ref m.objs.size)))).get? b = some o := fun b o hb q => by
      rw [Heap.get?_update_other _ _ (Ne.symm hb)]
      exact q
    have tupNe : ∀ {b : Addr} {x y : Value}, m.get? b = some { cls := .type "tuple", data := .seq #[x, y] } → b ≠ j ∧ b ≠ e := fun {b x y} q => by
      (refine ⟨fun z => ?_, fun z => ?_⟩)
      · rcases hat.1 with ⟨o, ho, hc, _⟩
        rw [z] at q
        exact two_cls (ho.symm.trans q) hc rfl (by decide)
      · rcases hat.2 with ⟨_, q2⟩ | ⟨_, _, _, _, q2, _⟩
        · rw [z] at q
          exact two_cls (q2.symm.trans q) rfl rfl (by decide)
        · rw [z] at q
          exact two_cls (q2.symm.trans q) rfl rfl (by decide)
    show wpAny _ A.in1 (updateSeq S (·.push (Value.ref m.objs.size)) >>= fun v => _) _ _ _
    refine wpAny_bind (wpAny_updateSeq hS' rfl (wpAny_pure ⟨plainId_quiet PySem.F.plain_extend_loop _, ih (i + 1) _ (tk + 1) _ (acc.push (Value.ref m.objs.size)) (as ++ [m.objs.size]) (by omega) hlt (hat'.keep up eS jS)
      (hl.at fun o q => up l o lS (kp' l o lj le q)) (fun b o h1 h2 h3 q => up b o h1 (kp' b o h3 h2 (kp b o h1 h2 h3 q))) (Heap.get?_update_self _ hS' rfl) (by rw [Array.toList_push, hacc, List.map_append]; rfl) (by rw [List.length_append, hal]; rfl) ⟨?_, ?_, ?_⟩⟩) (by rw [hz]; omega) (by show (acc.push (Value.ref m.objs.size)).size ≤ sizeLine + 1; rw [Array.size_push, hz]; omega))
    · (refine List.pairwise_append.mpr ⟨hG.rise, List.pairwise_singleton _ _, fun a ha b hb => ?_⟩)
      have eb : b = m.objs.size := List.mem_singleton.mp hb
      rw [eb]
      exact hG.there ha
    · intro a ha
      rcases List.mem_append.mp ha with h | h
      · exact hG.above a h
      · have ea : a = m.objs.size := List.mem_singleton.mp h
        rw [ea]
        exact mS
    · intro n b hb
      rcases Nat.lt_trichotomy n as.length with h1 | h1 | h1
      · rw [List.getElem?_append_left h1] at hb
        obtain ⟨key, kk, v, e1, e2, e3⟩ := hG.pairs n b hb
        have bS := hG.above b (List.mem_of_getElem? hb)
        obtain ⟨n1, n2⟩ := tupNe e3
        exact ⟨key, kk, v, e1, e2, up b _ (Nat.ne_of_gt bS) (kp' b _ n1 n2 e3)⟩
      · subst h1
        have hb : m.objs.size = b := by simpa using hb
        subst hb
        refine ⟨.int as.length tk, Sum.inl ((0 + as.length : Nat) : Int), its[i], numd_get (by rw [hal, Array.getElem?_toList]; exact hx), ?_, up _ _ (Nat.ne_of_gt mS) (by rw [hal]; exact pr)⟩
        show keyIs (Sum.inl ((0 + as.length : Nat) : Int)) (.int as.length tk) = true
        rw [Nat.zero_add]
        simp [keyIs, Value.isInt]
      · have hnone : (as ++ [m.objs.size])[n]? = none := List.getElem?_eq_none (by rw [List.length_append, List.length_singleton]; omega)
        rw [hnone] at hb
        cases hb
end
theorem en_len : typeLookup (.type "enumerate") "__len__" = pure none := by
  (rw [typeLookup_type, builtinLookup_eq_fast])
  kernel_rfl
theorem en_hint : typeLookup (.type "enumerate") "__length_hint__" = pure none := by
  (rw [typeLookup_type, builtinLookup_eq_fast])
  kernel_rfl
section
variable {P : Program}
variable {w : World} {A : Around} {E : Value → Shared → Prop} {s : Shared}
theorem en_extend {R : Result → Shared → Prop} {S e j l : Addr} {its : Array Value} {c0 : Nat} (hh : A.handled = none) (ne : e ≠ j) (eS : e ≠ S) (jS : j ≠ S) (lS : l ≠ S) (le : l ≠ e) (lj : l ≠ j) (hn : its.size ≤ sizeLine) (res : Value)
    (he : IsEnum s.heap e j 0 .none) (li : s.heap.IsListIter j l 0) (hl : s.heap.IsList l its) (hS : s.heap.get? S = some (Obj.mk (.type "list") none (.seq #[] c0) #[]))
    (r : ∀ m tk acc c as, (∀ b o, b ≠ S → b ≠ e → b ≠ j → s.heap.get? b = some o → m.get? b = some o) → m.get? S = some (Obj.mk (.type "list") none (.seq acc c) #[]) → as.length = its.size →
      PySem.W.KdxG (mixKind P w) (numd 0 its.toList) S m as → acc.toList = as.map Value.ref → R (.ok (.ret res)) { s with heap := m, toks := tk }) :
    wpAny (model P w) A.in1 (Builtin.List.listExtendWith (.ref S) (.ref e) res)
      (fun fin z => match fin with
        | .done f => R (.ok f) z
        | .again c => c.quiet = true ∧ codeAny (model P w) A c R z) (fun x z => R (.error x) z) s := by
  have ty : ∀ {z : Shared}, IsEnum z.heap e j 0 .none → z.TypeIs (.ref e) "enumerate" := fun h => ⟨_, h, rfl⟩
  have go : ∀ (m : Heap) (c1 tk : Nat), (∀ b o, b ≠ S → s.heap.get? b = some o → m.get? b = some o) → m.get? S = some (Obj.mk (.type "list") none (.seq #[] c1) #[]) →
      codeAny (model P w) A (.builtin "list.extend.loop" ⟨[.ref S, .ref e, res], []⟩) R { s with heap := m, toks := tk } := fun m c1 tk k h1 =>
    en_loop (m0 := s.heap) hh ne eS jS lS le lj hn res r its.size 0 m tk c1 #[] [] (Nat.sub_zero _) (Nat.zero_le _) ⟨li.at fun o q => k j o jS q, .inl ⟨.none, k e _ eS he⟩⟩ (hl.at fun o q => k l o lS q) (fun b o n1 _ _ q => k b o n1 q) h1 rfl rfl
      ⟨List.Pairwise.nil, (fun _ h => nomatch h), (fun n a h => by simp at h)⟩
  (unfold Builtin.List.listExtendWith)
  refine wpAny_bind (wpAny_typeOf (ty he) ?_)
  have n1 : Builtin.List.listSameRef (.ref S) (.ref e) = false := by simp [Builtin.List.listSameRef, eS.symm]
  have n2 : (Value.type "enumerate" == Value.type "list") = false := by decide
  have n3 : (Value.type "enumerate" == Value.type "tuple") = false := by decide
  simp only [n1, n2, n3, Bool.or_false, Bool.false_eq_true, if_false]
  refine wpAny_bind (wpAny_pyIter_enum he (wpAny_bind (wpAny_holding ?_)))
  (unfold Builtin.List.listLengthHint)
  refine wpAny_bind (wpAny_specialOf (ty he) en_len ?_)
  show wpAny _ A.in1 (specialOf (Value.ref e) (Str.ofString "__length_hint__") >>= fun v => _) _ _ _
  refine wpAny_bind (wpAny_specialOf (ty he) en_hint (wpAny_pure ?_))
  show wpAny _ A.in1 (rule "list.extend.makes-room" >>= fun _ => Builtin.List.listTouch (.ref S) >>= fun _ => again (.builtin "list.extend.loop" ⟨[.ref S, .ref e, res], []⟩)) _ _ _
  (refine wpAny_bind (wpAny_rule (wpAny_bind ?_)))
  show wpAny _ A.in1 (updateSeq S (·.push .none) >>= fun _ => updateSeq S (fun x => x.pop)) _ _ _
  have h2 := Heap.get?_update_self (Obj.mapSeq (·.push Value.none)) hS rfl
  have h3 := Heap.get?_update_self (Obj.mapSeq (·.pop)) h2 rfl
  refine wpAny_bind (wpAny_updateSeq hS rfl (wpAny_updateSeq (hz := by seq_fits) h2 rfl (wpAny_pure ⟨plainId_quiet PySem.F.plain_extend_loop _, go _ _ _ (fun b o hb q => ?_) h3⟩)))
  rw [Heap.get?_update_other _ _ (Ne.symm hb), Heap.get?_update_other _ _ (Ne.symm hb)]
  exact q
theorem en_list {R : Value → Shared → Prop} {e j l : Addr} {its : Array Value} (hh : A.handled = none) (ne : e ≠ j) (le : l ≠ e) (lj : l ≠ j) (hn : its.size ≤ sizeLine)
    (he : IsEnum s.heap e j 0 .none) (li : s.heap.IsListIter j l 0) (hl : s.heap.IsList l its)
    (r : ∀ m tk acc c as, (∀ b o, b ≠ e → b ≠ j → s.heap.get? b = some o → m.get? b = some o) → m.get? s.heap.objs.size = some (Obj.mk (.type "list") none (.seq acc c) #[]) → as.length = its.size →
      PySem.W.KdxG (mixKind P w) (numd 0 its.toList) s.heap.objs.size m as → acc.toList = as.map Value.ref → R (.ref s.heap.objs.size) { s with heap := m, toks := tk }) :
    wpAny (model P w) A (call (.type "list") [.ref e]) R E s := by
  refine callType_codes (Q₁ := fun v z => v = .ref s.heap.objs.size ∧ z = { s with heap := s.heap.push { cls := .type "list", data := .seq #[] } }) PySem.F.called_list (PySem.F.typeCall_list_1 _) PySem.F.entry_list_init (code_list_new _ ⟨rfl, rfl⟩) fun v z hz => ?_
  obtain ⟨rfl, rfl⟩ := hz
  have hS : (s.heap.push { cls := .type "list", data := .seq #[] }).get? s.heap.objs.size = some { cls := .type "list", data := .seq #[] } :=
    Heap.get?_push_size _ rfl
  have le_ : e < s.heap.objs.size := Heap.lt_size he
  have lj_ : j < s.heap.objs.size := li.elim fun _ q => Heap.lt_size q.1
  have ll_ : l < s.heap.objs.size := hl.elim fun _ q => Heap.lt_size q.1
  (refine ⟨⟨_, hS, rfl⟩, PySem.F.args_list_init_2 _ _, ?_⟩)
  show wpAny _ _ (do
    let old ← Builtin.List.listItems (.ref s.heap.objs.size)
    Builtin.List.listUpdate (.ref s.heap.objs.size) (fun _ => #[])
    letGo old.toList.reverse
    Builtin.List.listExtendWith (.ref s.heap.objs.size) (.ref e) .none) _ _ _
  refine wpAny_bind ?_
  unfold Builtin.List.listItems
  (refine wpAny_bind (wpAny_seqItems hS rfl (wpAny_pure ?_)))
  show wpAny _ _ (updateSeq s.heap.objs.size (fun _ => #[]) >>= fun _ => letGo (#[] : Array Value).toList.reverse >>= fun _ => Builtin.List.listExtendWith (.ref s.heap.objs.size) (.ref e) .none) _ _ _
  have h2 := Heap.get?_update_self (Obj.mapSeq (fun _ => (#[] : Array Value))) hS rfl
  have up : ∀ b o, b ≠ s.heap.objs.size → s.heap.get? b = some o → ((s.heap.push { cls := .type "list", data := .seq #[] }).update s.heap.objs.size (Obj.mapSeq (fun _ => (#[] : Array Value)))).get? b = some o := fun b o hb q => by
    rw [Heap.get?_update_other _ _ (Ne.symm hb)]
    (exact Heap.get?_push_of_some _ q)
  refine wpAny_bind (wpAny_updateSeq hS rfl (wpAny_bind (wpAny_letGo ?_)))
  refine en_extend (s := { s with heap := (s.heap.push { cls := .type "list", data := .seq #[] }).update s.heap.objs.size (Obj.mapSeq (fun _ => (#[] : Array Value))) }) (A := A.in1) (R := wants (fun v z => v = .none ∧ R (.ref s.heap.objs.size) z) E) hh ne (Nat.ne_of_lt le_) (Nat.ne_of_lt lj_) (Nat.ne_of_lt ll_) le lj hn .none (up _ _ (Nat.ne_of_lt le_) he) (li.at fun o q => up j o (Nat.ne_of_lt lj_) q) (hl.at fun o q => up l o (Nat.ne_of_lt ll_) q) h2 fun m tk acc c as k h1 h2 h3 h4 => ?_
  exact ⟨rfl, r m tk acc c as (fun b o n1 n2 q => k b o (Nat.ne_of_lt (Heap.lt_size q)) n1 n2 (up b o (Nat.ne_of_lt (Heap.lt_size q)) q)) h1 h2 h3 h4⟩
end
end PnEl

set_option maxHeartbeats 2000001
/-! list(enumerate(..)) as data -/
namespace PnEl
open L2 PyProof.Rows PySem.Spec PySem
/-- the pairs' places -/
def LaidP (H1 H' : Hp) (xs : List V) (p : Addr) (as : List Addr) : Prop :=
  (∀ b o, H1 b = some o → H' b = some o) ∧ H1 p = none ∧ (∀ t ∈ as, H1 t = none) ∧ p ∉ as ∧ H' p = some (.lst (as.map V.ref)) ∧ as.length = xs.length ∧ ∀ (i : Nat) (t : Addr) (x : V), as[i]? = some t → xs[i]? = some x → H' t = some (.tup [.int (i : Int), x])
def tLsEn (K : PySem.W.Frag) (te : TE) : TE := fun σ H Q => te σ H fun v H1 => ∃ a xs, v = .ref a ∧ SqL K H1 a xs ∧ ∀ p as H', LaidP H1 H' xs p as → Q (.ref p) H'
def numV (i : Nat) : List V → List (Key × V)
  | [] => []
  | v :: vs => (Sum.inl (i : Int), v) :: numV (i + 1) vs
theorem numV_kv : ∀ {vs : List V} {us : List Value} {i : Nat}, Vals vs us → KV (numV i vs) (numd i us)
  | _, _, _, .nil => .nil
  | _, _, _, .cons r t => .cons ⟨rfl, r⟩ (numV_kv t)
theorem numV_get : ∀ {vs : List V} {i n : Nat} {v : V}, vs[n]? = some v → (numV i vs)[n]? = some (Sum.inl ((i + n : Nat) : Int), v)
  | [], _, _, _, h => (by simp at h)
  | x :: vs, i, 0, v, h => by
    (simp only [List.getElem?_cons_zero, Option.some.injEq] at h)
    rw [h]
    rfl
  | x :: vs, i, n + 1, v, h => by
    rw [List.getElem?_cons_succ] at h
    have z := numV_get (i := i + 1) h
    rw [show i + (n + 1) = i + 1 + n by omega]
    exact z
theorem numV_len : ∀ (vs : List V) (i : Nat), (numV i vs).length = vs.length
  | [], _ => rfl
  | _ :: vs, i => congrArg Nat.succ (numV_len vs (i + 1))
theorem paired_at {α β : Type} {Z : α → β → Prop} : ∀ {l : List α} {k : List β} {i : Nat} {x : α} {y : β}, Paired Z l k → l[i]? = some x → k[i]? = some y → Z x y
  | _, _, _, _, _, .nil, h, _ => by simp at h
  | _, _, 0, _, _, .cons z _, h, h2 => by
    simp only [List.getElem?_cons_zero, Option.some.injEq] at h h2
    rw [← h, ← h2]
    exact z
  | _, _, i + 1, _, _, .cons _ t, h, h2 => paired_at t (by simpa using h) (by simpa using h2)
open LiI in
/-- the list at S and its pairs are laid at once -/
theorem laid_at {X : Cx} {pins : List (Addr × Obj)} {σ : L2.St} {H1 : Hp} {s1 : Shared} {m2 : Heap} {tk S c : Nat} {xs : List V} {its : List Value} {acc : Array Value} {as : List Addr} (I1 : Inv X pins σ H1 s1) (hz : xs.length ≤ sizeLine) (vals : Vals xs its) (lo : s1.heap.objs.size ≤ S)
    (kp : ∀ b o, s1.heap.get? b = some o → m2.get? b = some o) (hS : m2.get? S = some (Obj.mk (.type "list") none (.seq acc c) #[])) (hal : as.length = its.length) (hG : PySem.W.KdxG (mixKind X.prog X.w) (numd 0 its) S m2 as) (hacc : acc.toList = as.map Value.ref) :
    ∃ H' : Hp, LaidP H1 H' xs S as ∧ Inv X pins σ H' { s1 with heap := m2, toks := tk } := by
  have lx : xs.length = its.length := Paired.length vals
  have lk : as.length = (numV 0 xs).length := by rw [numV_len, hal, lx]
  have nd : as.Nodup := hG.rise.imp fun z => Nat.ne_of_lt z
  have nS : S ∉ as := fun z => Nat.lt_irrefl S (hG.above S z)
  have low : ∀ b, H1 b ≠ none → b ∉ as ∧ b ≠ S := fun b hb => by
    have lt : b < s1.heap.objs.size := by
      cases Nat.lt_or_ge b s1.heap.objs.size with
      | inl z => exact z
      | inr z => exact absurd (I1.hok.fresh z) hb
    exact ⟨fun z => Nat.lt_irrefl b (Nat.lt_trans (Nat.lt_of_lt_of_le lt lo) (hG.above b z)), Nat.ne_of_lt (Nat.lt_of_lt_of_le lt lo)⟩
  have fS : H1 S = none := I1.hok.fresh lo
  have fT : ∀ t ∈ as, H1 t = none := fun t ht => I1.hok.fresh (Nat.le_trans lo (Nat.le_of_lt (hG.above t ht)))
  let H2 : Hp := putT (upd H1 S (.lst (as.map V.ref))) as (numV 0 xs)
  have off : ∀ b, b ∉ as → b ≠ S → H2 b = H1 b := fun b z1 z2 => (putT_off as _ _ z1).trans (upd_ne z2)
  have mono : ∀ b o, H1 b = some o → H2 b = some o := fun b o q => by
    obtain ⟨z1, z2⟩ := low b (by rw [q]; simp)
    rw [off b z1 z2, q]
  have eS : H2 S = some (.lst (as.map V.ref)) := (putT_off as _ _ nS).trans upd_same
  have pr := putT_at as (numV 0 xs) (upd H1 S (.lst (as.map V.ref))) lk nd
  refine ⟨H2, ⟨mono, fS, fT, nS, eS, by rw [hal, lx], fun i t x h1 h2 => ?_⟩, ?_⟩
  · have z := paired_at pr h1 (numV_get (i := 0) h2)
    rw [Nat.zero_add] at z
    exact z
  · refine I1.call' (ch := []) rfl ⟨fun b o q _ _ _ => kp b o q, fun b o q _ _ _ => ⟨o.slots, kp b o q⟩, fun b o q n _ => ?_, fun b o q _ => ⟨o, kp b o q⟩, fun b ys q => mono b _ q, fun b o u q => mono b _ q, fun b ps q => ⟨#[], by rw [mono b _ q]; simp⟩⟩ (fun b u q => ?_) I1.bare fun b z => by cases z
    · have lt := Heap.lt_size q
      rw [off b (fun z => Nat.lt_irrefl b (Nat.lt_trans (Nat.lt_of_lt_of_le lt lo) (hG.above b z))) (Nat.ne_of_lt (Nat.lt_of_lt_of_le lt lo))]
      exact n
    · by_cases hb : b ∈ as
      · obtain ⟨n, pk, e1, e2, e3⟩ := paired_ix pr hb
        have q : H2 b = some u := q
        rw [show H2 b = _ from e3] at q
        cases q
        obtain ⟨key, k, x, f1, f2, f3⟩ := hG.pairs n b e1
        obtain ⟨qv, g1, g2, g3⟩ := LiI.paired_get (numV_kv (i := 0) vals) e2
        rw [f1] at g1
        cases g1
        have rk : (RelV (kV pk.1) key) := by
          rw [g2]
          (exact relV_key (show keyIs k key = true from f2))
        (exact ⟨by show 2 ≤ sizeLine; decide, [key, x], .cons rk (.cons g3 .nil), ⟨_, f3, rfl, _, rfl⟩⟩)
      · by_cases hb2 : b = S
        · rw [hb2] at q ⊢
          have q : H2 S = some u := q
          rw [eS] at q
          cases q
          refine ⟨by rw [List.length_map, hal, ← lx]; exact hz, acc.toList, c, by rw [hacc]; exact LiI.vals_refs as, ?_⟩
          rw [Array.toArray_toList]
          exact hS
        · have q : H2 b = some u := q
          rw [off b hb hb2] at q
          exact (I1.hok b u q).stay (fun d v _ y => kp d v y) (fun d y => mono d _ y) fun d ys y => mono d _ y
theorem pe_lsEn {X : Cx} {a : Expr} {te : TE} {p p2 pos pos2 : Pos} (hc : X.calm = true) (hg : Gl X "list") (hm : X.mg "list" = none) (hg2 : Gl X "enumerate") (hm2 : X.mg "enumerate" = none) (ha : PE X a te)
    (h1 : starEach [a] X.env = (false, eval a X.env) :: starEach [] X.env := by rfl) (h2 : starEach [.Call (.Name "enumerate" p2) [a] [] pos2] X.env = (false, eval (.Call (.Name "enumerate" p2) [a] [] pos2) X.env) :: starEach [] X.env := by rfl) :
    PE X (.Call (.Name "list" p) [.Call (.Name "enumerate" p2) [a] [] pos2] [] pos) (tLsEn X.K te) where
  run := by
    intro pins s σ H Q I h
    refine Call_ (ld_blt I hg hm boot_list (PyProof.Rows.callWith_type1 (args_cons ?_ h2) h2))
    refine Call_ (ld_blt I hg2 hm2 boot_enumerate (PyProof.Rows.callWith_type1 (args_cons (thn (ha.run pins s σ H _ I h) fun u s1 z => args_nil ?_) h1) h1))
    obtain ⟨v, H1, I1, rv, b, xs, rfl, hq, q⟩ := z
    cases (show u = Value.ref b from rv)
    obtain ⟨its, vals, pl, hz⟩ := I1.list hq
    refine call_enumerate_list pl.isList fun m en li sz kp => args_nil ?_
    have bl : b < s1.heap.objs.size := pl.isList.elim fun _ z => Heap.lt_size z.1
    have I2 : Inv X pins σ H1 { s1 with heap := m } := I1.kept (t' := s1.toks) kp
    have hl2 := pl.isList.at fun o z => kp b o z
    have lz : its.toArray.size ≤ sizeLine := by
      rw [List.size_toArray, ← Paired.length vals]
      exact hz
    refine en_list (s := { s1 with heap := m }) (I2.ok.hd hc) (Nat.succ_ne_self _) (Nat.ne_of_lt (Nat.lt_succ_of_lt bl)) (Nat.ne_of_lt bl) lz en li hl2 fun m2 tk acc c as k hS hal hG hacc => ?_
    have kp2 : ∀ d o, s1.heap.get? d = some o → m2.get? d = some o := fun d o z => by
      have ld := Heap.lt_size z
      exact k d o (Nat.ne_of_lt (Nat.lt_succ_of_lt ld)) (Nat.ne_of_lt ld) (kp d o z)
    have lo : s1.heap.objs.size ≤ m.objs.size := by rw [sz]; omega
    obtain ⟨H', z, I3⟩ := laid_at (tk := tk) I1 hz vals lo kp2 hS (by rw [hal, List.size_toArray]) hG hacc
    exact ⟨.ref m.objs.size, H', I3, rfl, q _ _ _ z⟩
end PnEl
namespace Pn
open L2 PyProof.Rows PySem.Spec PySem PnEl
section
variable {F : Fr} {W : L2.WX} {σ : L2.St} {H : Hp} {X : Cx} {D : Ends}
theorem pairs_rp {K : PySem.W.Frag} {G G' : Hp} (sG : Same G G') : ∀ {as : List Addr} {xs : List V} {l : List Dat} {k : Nat}, as.length = xs.length → RpA K G xs l → (∀ (i : Nat) (t : Addr) (x : V), as[i]? = some t → xs[i]? = some x → G' t = some (.tup [.int ((k + i : Nat) : Int), x])) → RpA K G' (as.map V.ref) (pairsF k l)
  | [], [], _, _, _, .nil, _ => .nil
  | [], _ :: _, _, _, e, _, _ => by cases e
  | _ :: _, [], _, _, e, _, _ => by cases e
  | a :: as, v :: vs, _ :: _, k, e, .cons q t, h => by
    refine .cons (.tup (Evl.st_of (h 0 a v rfl rfl)) (.cons (.int _) (.cons (dp_mono sG q) .nil))) (pairs_rp sG (k := k + 1) (Nat.succ.inj e) t fun i u x h1 h2 => ?_)
    rw [show k + 1 + i = k + (i + 1) by omega]
    exact h (i + 1) u x (by simpa using h1) (by simpa using h2)
def lsEnR : Dat → M RV
  | .list l => ret (.fr (pairsF 0 l))
  | _ => bad
theorem lsEn_ {a : Expr} {m : M Dat} {p p2 pos pos2 : Pos} (hm : X.mg "list" = none) (hm2 : X.mg "enumerate" = none) (ha : PE X a (Pn.E F W m)) (hK : F.K = X.K := by rfl) (hc : X.calm = true := by rfl) (hg : Gl X "list" := by rfl) (hg2 : Gl X "enumerate" := by rfl)
    (h1 : starEach [a] X.env = (false, eval a X.env) :: starEach [] X.env := by rfl) (h2 : starEach [.Call (.Name "enumerate" p2) [a] [] pos2] X.env = (false, eval (.Call (.Name "enumerate" p2) [a] [] pos2) X.env) :: starEach [] X.env := by rfl) :
    PE X (.Call (.Name "list" p) [.Call (.Name "enumerate" p2) [a] [] pos2] [] pos) (EX F W (M.bind m lsEnR)) :=
  (pe_lsEn hc hg hm hg2 hm2 ha h1 h2).mono fun σ H Q h => sx_mono (sx_bind (R1 := RD F) h) fun x H1 ⟨d, G1, c1, r1, q, p⟩ => by
    cases q with
    | @lst a xs l hG q =>
      refine ⟨a, xs, rfl, hK ▸ Evl.sq_of (r1.sub _ _ hG), fun b as H' ⟨z1, z2, z3, z4, z5, z6, z7⟩ => ?_⟩
      let G' : Hp := fun t => if t ∈ as then H' t else G1 t
      have gG : Same G1 G' := fun t o e => by
        show (if t ∈ as then H' t else G1 t) = _
        rw [if_neg (fun m => by rw [r1.gNone (z3 t m)] at e; cases e)]
        exact e
      have aft : After G1 H1 G' H' := ⟨gG, fun t o e => by
          by_cases m : t ∈ as
          · have e : (if t ∈ as then H' t else G1 t) = some o := e
            rw [if_pos m] at e
            exact e
          · have e : (if t ∈ as then H' t else G1 t) = some o := e
            rw [if_neg m] at e
            exact z1 t o (r1.sub t o e), z1, fun t e => by
          by_cases m : t ∈ as
          · exact .inr (z3 t m)
          · have e : (if t ∈ as then H' t else G1 t) ≠ none := e
            rw [if_neg m] at e
            exact .inl e⟩
      have r2 := r1.after aft
      have gb : G' b = none := by
        show (if b ∈ as then H' b else G1 b) = none
        rw [if_neg z4]
        exact r1.gNone z2
      refine p _ G' H' r2 gG ⟨b, rfl, as.map V.ref, z5, pairs_rp gG z6 q (fun i t x h1 h2 => ?_), gb, r1.old z2, fun i l' e5 e6 => ?_, fun y hy e => ?_⟩
      · show (if t ∈ as then H' t else G1 t) = _
        rw [if_pos (List.mem_of_getElem? h1), Nat.zero_add]
        exact z7 i t x h1 h2
      · obtain ⟨a', ys, e1, e2, _⟩ := r1.own_ne e5
        rw [e1] at e6
        cases e6
        rw [z2] at e2
        cases e2
      · have k1 := (r1.pin y hy).1
        rw [← e, z2] at k1
        cases k1
    | _ => exact p.elim
end
end Pn

set_option maxHeartbeats 4000001
namespace Pn
open L2 PyProof.Rows PySem.Spec PySem
section
variable {P : Program} {w : World} {K : PySem.W.Frag} {mg : Str → Option Value} {base : Heap} {C : Cls}
def m__law_told : M Ctl := seq (M.bind (asx (frz (M.bind (M.bind (aCons (m2 addI (ret (.int 1)) (frz (callSM 1 g__law_draw (stArg 0 (aCons (ret (.int 2)) (aNil)))))) aNil) itR) (lcM [12] (put 12) (ret true) (m2 addI (ret (.int 1)) (frz (callSM 1 g__law_draw (stArg 0 (aCons (ret (.int 2)) (aNil)))))))))) (asg 3)) (seq (parM 8 9 (aCons (frz (M.bind (rd 3) lsEnR)) (aCons (M.bind (aNil) tupD) (aNil)))) (seq (M.bind (M.bind (rd 3) itL) fun items => forL (put 4) (seq (M.bind (asx (frz (M.bind (rd 4) lsRgR))) (asg 5)) (seq (M.bind (asx (frz (callSM 4 (g__law_piece 20) (stArg 0 (aCons (rd 5) (aCons (m2 addI (ret (.int 1)) (frz (callSM 1 g__law_draw (stArg 0 (aCons (ret (.int 2)) (aNil)))))) (aCons (rd 8) (aCons (ret (.bool false)) (aNil))))))))) (asg 10)) (M.bind (asx (frz (M.bind (rd 9) fun x => M.bind (M.bind (aCons (M.bind (aCons (M.bind (rowVar 5) tupR) (aCons (rd 10) (aNil))) tupD) (aNil)) tupD) fun y => catD x y))) (asg 9)))) items) (seq (M.bind (asx (frz (M.bind (rd 1) lsRgR))) (asg 5)) (seq (M.bind (asx (frz (callSM 4 (g__law_piece 20) (stArg 0 (aCons (rd 5) (aCons (ret (.int 1)) (aCons (rd 8) (aCons (ret (.bool true)) (aNil))))))))) (asg 6)) (seq (M.bind (frz (callSM 1 g__law_of (stArg 0 (aCons (rd 8) (aNil))))) (tgtM (putTup 2 (putCons (put 11) (putCons (put 4) (putNil)))))) (seq (M.bind (asx (M.bind (aCons (ret (.str "call")) (aCons (rd 11) (aCons (M.bind (rowX (M.bind (M.bind (aCons (rd 4) aNil) itR) (lcM [13] (put 13) (ret true) (frz (callSM 1 g__law_of (stArg 0 (aCons (rd 5) (aNil)))))))) tupR) (aNil)))) tupD)) (asg 7)) (seq (ifS (toB (m2 eqD (frz (callSM 1 g__law_draw (stArg 0 (aCons (ret (.int 2)) (aNil))))) (ret (.int 0)))) (retS (asx (M.bind (aCons (rd 9) (aCons (rd 7) (aNil))) tupD))) (ret .nx)) (retS (asx (M.bind (aCons (rd 9) (aCons (M.bind (aCons (ret (.str "beside")) (aCons (M.bind (aCons (rd 7) (aCons (ifE (toB (m2 gtI (rd 2) (ret (.int 0)))) (frz (callSM 4 (g__law_piece 20) (stArg 0 (aCons (rd 5) (aCons (rd 2) (aCons (frz (M.bind (aNil) lstD)) (aCons (ret (.bool true)) (aNil)))))))) (rd 6)) (aNil))) tupD) (aNil))) tupD) (aNil))) tupD))))))))))
def g__law_told : List Dat → List Dat → DS → GR := runG true false 14 m__law_told
theorem sc__law_told : FnScope ["state", "many_so", "size", "wides", "wide", "names", "one", "called", "calls", "defs_so", "body", "number", "step", "place"] ["state", "many_so", "size"] (defScope (top 72)) := ⟨rfl, rfl, rfl, by decide +kernel, rfl, by decide +kernel, by decide +kernel⟩
theorem ok__law_told {f : Addr} {fd : FuncData} (Fn : Fun K "_law_told" "_law_told" (top 72) f fd) (Z : Glo K mg)  (h__law_draw : HasG P w K mg base C true false "_law_draw" 2 1 g__law_draw) (h__law_piece : HasG P w K mg base C true false "_law_piece" 24 4 (g__law_piece 20)) (h__law_of : HasG P w K mg base C true false "_law_of" 3 1 g__law_of) : FnOk P w K mg base (L2.CX P w) 25 f fd ["state", "many_so", "size"] (spG K C true false (fun _ => True) 2 g__law_told) :=
  fn_gen Fn sc__law_told (by decide) (by decide) fun sa sc sl ia tb G0 H0 cdv A outer s E _ hr => ss_cons (asLcf_ ["state", "many_so", "size", "wides", "wide", "names", "one", "called", "calls", "defs_so", "body", "number", "step", "place"] (defScope (top 72)) [("step", 12)] sc__law_told.nd 3 (i_range rfl Z.b_range (e_add (e_int) (e_frz (callS_ h__law_draw hr tkC (ast_ 0 (a_cons (e_int) (a_nil))))))) (fun _ _ _ _ _ => pgn_ 12 sc__law_told.nd) (fun _ => gok_name) (fun _ _ _ _ _ _ => e_add (e_int) (e_frz (callS_ h__law_draw hr L2.takes0 (ast_ 0 (a_cons (e_int) (a_nil))))))) (ss_cons (par_ 8 9 sc__law_told.nd (a_cons (e_frz (lsEn_ Z.b_list Z.b_enumerate (v_ 3))) (a_cons (e_tup (a_nil)) (a_nil)))) (ss_cons (s_for poC rfl (i_list rfl (v_ 3)) (tn_ 4 sc__law_told.nd) (ss_cons (as_ 5 sc__law_told.nd (e_asx (e_frz (listRg_ Z.b_list Z.b_range (v_ 4))))) (ss_cons (as_ 10 sc__law_told.nd (e_asx (e_frz (callS_ h__law_piece hr tkC (ast_ 0 (a_cons (v_ 5) (a_cons (e_add (e_int) (e_frz (callS_ h__law_draw hr tkC (ast_ 0 (a_cons (e_int) (a_nil)))))) (a_cons (v_ 8) (a_cons (e_bl) (a_nil)))))))))) (ss_one (as_ 9 sc__law_told.nd (e_asx (e_frz (cat_ (v_ 9) (e_tup (a_cons (e_tup (a_cons (tuple_ Z.b_tuple (rv_ 5)) (a_cons (v_ 10) (a_nil)))) (a_nil))))))))))) (ss_cons (as_ 5 sc__law_told.nd (e_asx (e_frz (listRg_ Z.b_list Z.b_range (v_ 1))))) (ss_cons (as_ 6 sc__law_told.nd (e_asx (e_frz (callS_ h__law_piece hr tkC (ast_ 0 (a_cons (v_ 5) (a_cons (e_int) (a_cons (v_ 8) (a_cons (e_bl) (a_nil)))))))))) (ss_cons (s_asgT (e_frz (callS_ h__law_of hr tkC (ast_ 0 (a_cons (v_ 8) (a_nil))))) (tg_tup rfl rfl (tgs_cons (tn_ 11 sc__law_told.nd) (tgs_cons (tn_ 4 sc__law_told.nd) (tgs_nil))))) (ss_cons (as_ 7 sc__law_told.nd (e_asx (e_tup (a_cons (e_str) (a_cons (v_ 11) (a_cons (tuple_ Z.b_tuple (r_new (lc1_ ["state", "many_so", "size", "wides", "wide", "names", "one", "called", "calls", "defs_so", "body", "number", "step", "place"] (defScope (top 72)) sc__law_told.nd 13 (i_range rfl Z.b_range (v_ 4)) (fun _ _ _ _ _ _ => e_frz (callS_ h__law_of hr L2.takes0 (ast_ 0 (a_cons (v_ 5) (a_nil)))))))) (a_nil))))))) (ss_cons (s_if (teq_ hr.units (e_frz (callS_ h__law_draw hr tkC (ast_ 0 (a_cons (e_int) (a_nil))))) (e_int)) (ss_one (s_ret (e_asx (e_tup (a_cons (v_ 9) (a_cons (v_ 7) (a_nil))))))) (ss_nil)) (ss_one (s_ret (e_asx (e_tup (a_cons (v_ 9) (a_cons (e_tup (a_cons (e_str) (a_cons (e_tup (a_cons (v_ 7) (a_cons (e_if (t_gt (v_ 2) (e_int)) (e_frz (callS_ h__law_piece hr tkC (ast_ 0 (a_cons (v_ 5) (a_cons (v_ 2) (a_cons (e_frz (e_lst (a_nil))) (a_cons (e_bl) (a_nil)))))))) (v_ 6)) (a_nil)))) (a_nil)))) (a_nil))))))))))))))

def m__law_program : M Ctl := seq (ifS (toB (m2 eqD (frz (callSM 1 g__law_draw (stArg 0 (aCons (ret (.int 2)) (aNil))))) (ret (.int 0)))) (retS (callSM 2 g__law_finite (stArg 0 (aCons (ret (.int 3)) (aCons (rd 1) (aNil)))))) (ret .nx)) (retS (callSM 2 g__law_told (stArg 0 (aCons (ret (.int 3)) (aCons (m2 subI (rd 1) (ret (.int 2))) (aNil))))))
def g__law_program : List Dat → List Dat → DS → GR := runG true false 2 m__law_program
theorem sc__law_program : FnScope ["state", "size"] ["state", "size"] (defScope (top 80)) := ⟨rfl, rfl, rfl, by decide +kernel, rfl, by decide +kernel, by decide +kernel⟩
theorem ok__law_program {f : Addr} {fd : FuncData} (Fn : Fun K "_law_program" "_law_program" (top 80) f fd) (Z : Glo K mg)  (h__law_draw : HasG P w K mg base C true false "_law_draw" 2 1 g__law_draw) (h__law_finite : HasG P w K mg base C true false "_law_finite" 25 2 g__law_finite) (h__law_told : HasG P w K mg base C true false "_law_told" 25 2 g__law_told) : FnOk P w K mg base (L2.CX P w) 26 f fd ["state", "size"] (spG K C true false (fun _ => True) 1 g__law_program) :=
  fn_gen Fn sc__law_program (by decide) (by decide) fun sa sc sl ia tb G0 H0 cdv A outer s E _ hr => ss_cons (s_if (teq_ hr.units (e_frz (callS_ h__law_draw hr tkC (ast_ 0 (a_cons (e_int) (a_nil))))) (e_int)) (ss_one (s_ret (callS_ h__law_finite hr tkC (ast_ 0 (a_cons (e_int) (a_cons (v_ 1) (a_nil))))))) (ss_nil)) (ss_one (s_ret (callS_ h__law_told hr tkC (ast_ 0 (a_cons (e_int) (a_cons (e_sub (v_ 1) (e_int)) (a_nil)))))))

end
end Pn

set_option maxHeartbeats 2000001
/-! a list of one's own is looked at: its kind; lent to a def that tells a bool -/
namespace Pn
open L2 PyProof.Rows PySem.Spec PySem
section
variable {F : Fr} {W : L2.WX} {σ : L2.St} {H : Hp} {X : Cx} {D : Ends}
def ownL (i : Nat) (c : Cfg) : Option (List Dat) := match c.r[i]? with
  | some (.own l) => some l
  | _ => none
theorem ownL_at {i : Nat} {c : Cfg} {l : List Dat} (h : ownL i c = some l) : c.r[i]? = some (.own l) := by
  unfold ownL at h
  split at h
  · cases h
    assumption
  · cases h
def isiV (i : Nat) (T : String) : M Dat := fun c => match ownL i c with
  | some l => .ok (.bool (isTy (.list l) T)) c
  | none => .bad
theorem isiV_ (i : Nat) {T : Str} (T' : String) {x : Str} {px p p2 pos : Pos} (hm : X.mg "isinstance" = none) (hmT : X.mg T = none) (hK : F.K = X.K := by rfl) (hg : Gl X "isinstance" := by rfl) (hgT : Gl X T := by rfl) (hvT : bootBuiltins T = some (.type T') := by decide +kernel) (hT : T' ∈ (["bool", "int", "str", "list", "tuple"] : List String) := by decide) (hnT : T ≠ "__name__" := by decide) (hdT : (T == ("__debug__" : Str)) = false := by decide)
    (hN : X.N[i]? = some x := by rfl) (hv : Vis X.env.scope x := by exact Or.inl rfl) (hd : (x == ("__debug__" : Str)) = false := by decide) (hcd : (x == ("__classdict__" : Str)) = false := by decide) (he : starEach [.Name x px, .Name T p2] X.env = (false, eval (.Name x px) X.env) :: starEach [.Name T p2] X.env := by rfl) (he2 : starEach [.Name T p2] X.env = (false, eval (.Name T p2) X.env) :: starEach [] X.env := by rfl)
    (hpl : (backTo pos (starEach [.Name T p2] X.env)).any (·.1) = false := by rfl) : PE X (.Call (.Name "isinstance" p) [.Name x px, .Name T p2] [] pos) (Pn.E F W (isiV i T')) :=
  (pe_callB call_isi hg hm (by decide +kernel) (pa_cons (pe_var (i := i) hN hv hd hcd) (pa_cons (pe_bltn hgT hmT hvT (v := .ty T') rfl hnT hdT) pa_nil he2) he) (by decide) (by decide) he hpl).mono fun σ H Q ⟨G, c, r, p⟩ => by
    unfold isiV at p
    cases e : ownL i c with
    | none => simp only [e] at p; exact p.elim
    | some l =>
      simp only [e] at p
      obtain ⟨a, xs, ea, ha, _⟩ := r.own_ne (ownL_at e)
      exact ⟨_, ea, _, .ty T', _, _, isTy (.list l) T', rfl, .ty T', hK ▸ .base (.lst ha), kit_ty (kit5 "list" (by decide) _ hT), po_ret r p (.bl _)⟩
def lendM (i n : Nat) (g : GF) (ms : M (List Dat)) : M Dat := fun c => match ownL i c with
  | none => .bad
  | some _ => M.bind ms (fun ds c1 => match ownL i c1 with
    | none => .bad
    | some l => if ds.length + 1 = n then (match g (.list l :: ds) [] ⟨[], [], 0⟩ with
      | .ok (.sh (.bool b)) _ _ => .ok (.bool b) c1
      | _ => .bad) else .bad) c
theorem lendP_ (i : Nat) {k n j : Nat} {g : GF} {x y : Str} {p px pos : Pos} {es : List Expr} {ms : M (List Dat)} (hgd : X.A.guards = some []) (Z : HasQ X.prog X.w X.K X.mg X.base F.C false (fun _ => True) x k n g) (hr : Room j X.A) (tk : Takes X W) (ha : PA X es (Pn.A F W ms)) (hkj : k ≤ j := by decide) (hK : F.K = X.K := by rfl) (hg : Gl X x := by rfl)
    (hN : X.N[i]? = some y := by rfl) (hv : Vis X.env.scope y := by exact Or.inl rfl) (hd : (y == ("__debug__" : Str)) = false := by decide) (hcd : (y == ("__classdict__" : Str)) = false := by decide)
    (hdb : (x == ("__debug__" : Str)) = false := by decide) (he : starEach (.Name y px :: es) X.env = (false, eval (.Name y px) X.env) :: starEach es X.env := by rfl) (hpl : (backTo pos (starEach es X.env)).any (·.1) = false := by rfl) : PE X (.Call (.Name x p) (.Name y px :: es) [] pos) (Pn.E F W (lendM i n g ms)) := by
  obtain ⟨f, fd, ps, h2, h3, h4, h5⟩ := Z.ex
  refine (pe_callFG h2 hgd (hr.mono hkj) hg h3 h4 h5 (fun σ => passAt tk σ) (pa_cons (pe_var (i := i) hN hv hd hcd) ha he) hdb he hpl).mono fun σ H Q ⟨G, c, r, p⟩ => ?_
  unfold lendM at p
  cases e : ownL i c with
  | none => simp only [e] at p; exact p.elim
  | some l0 =>
    simp only [e] at p
    obtain ⟨a, xs0, ea, _⟩ := r.own_ne (ownL_at e)
    refine ⟨_, ea, sx_mono (po_bind (R1 := RA F) r p) fun vs H1 ⟨ds, G1, c1, r1, s1, q, p1⟩ => ?_⟩
    cases e1 : ownL i c1 with
    | none => simp only [e1] at p1; exact p1.elim
    | some l =>
      simp only [e1] at p1
      obtain ⟨a', xs, ea', hx, gx, qx, _, _⟩ := r1.own_ne (ownL_at e1)
      rw [ea] at ea'
      cases ea'
      by_cases hl : ds.length + 1 = n
      · rw [if_pos hl] at p1
        have sG : Same G1 (upd G1 a (.lst xs)) := fun b u z => by
          rw [upd_ne (ne_of_none z gx)]
          exact z
        have sH : Same (upd G1 a (.lst xs)) H1 := fun b u z => by
          by_cases hb : b = a
          · rw [hb, upd_same] at z
            rw [hb, hx]
            exact z
          · rw [upd_ne hb] at z
            exact r1.sub b u z
        have args : RpA F.K (upd G1 a (.lst xs)) (.ref a :: vs) (.list l :: ds) := .cons (.lst upd_same (dpAll_mono sG qx)) (dpAll_mono sG q)
        refine ⟨upd G1 a (.lst xs), .ref a :: vs, .list l :: ds, [], ⟨[], [], 0⟩, 0, 0, 0, 0, [], trivial, (fun _ z => nomatch z), sH, hK ▸ args, by rw [List.length_cons]; exact hl, by simp [preV, posV], (fun z => nomatch z), (fun z => nomatch z), (fun z => nomatch z), ?_⟩
        cases eg : g (.list l :: ds) [] ⟨[], [], 0⟩ with
        | ok v l' s' =>
          simp only [eg] at p1
          cases v with
          | fr l2 => exact p1.elim
          | sh d =>
            cases d with
            | bool b =>
              intro y G' H' aft _ _ _ z2
              have aft := AfterT.nil (by simpa [onS, onI, onM] using aft)
              have a2 : After G1 H1 G1 H' := ⟨Same.refl _, (sG.trans aft.g).trans aft.sub, aft.h, fun b z => .inl z⟩
              have z2 : Rp X.K G' y (.bool b) := z2
              cases z2
              exact p1 _ G1 H' (r1.after a2) (Same.refl _) (.bl b)
            | _ => exact p1.elim
        | exc k d l' s' => simp only [eg] at p1; exact p1.elim
        | bad => simp only [eg] at p1; exact p1.elim
      · rw [if_neg hl] at p1
        exact p1.elim
/-! ### a frame of which nothing is known but the state and the tables -/
theorem rel_bare {K : PySem.W.Frag} {C : Cls} {us : Bool} {sa sc sl : Addr} {tb : Tbs} {s : DS} {rs : List Sl} (hl : rs.length = σ.length) (hs : ∀ (i : Nat) (x : Sl), rs[i]? = some x → x = .no ∨ (x = .st ∧ us = true ∧ σ[i]? = some (some (.ref sa)))) (hst : SsOk us sa sc sl (fun _ => none) H s) (ht : TsOk tb (fun _ => none) H) :
    Rel (frG K C us false sa sc sl 0 tb (fun _ => none) H) (fun _ => none) ⟨rs, s⟩ σ H where
  sub := fun b o e => by cases e
  g0 := Same.refl _
  fresh := fun b e => absurd rfl e
  keep := fun b o e _ _ => e
  len := hl
  sl := fun i x e => by
    rcases hs i x e with rfl | ⟨rfl, h1, h2⟩
    · trivial
    · exact ⟨h2, h1⟩
  inj := fun i j l l' e1 _ _ => by rcases hs i _ e1 with z | ⟨z, _⟩ <;> cases z
  ioj := fun i j l l' e1 _ _ => by rcases hs i _ e1 with z | ⟨z, _⟩ <;> cases z
  st := fun hu => hst hu
  mu0 := fun b m => by
    have m : b ∈ ([] : List Addr) ++ tb.map (·.1) := m
    rw [List.nil_append] at m
    obtain ⟨p, hp, rfl⟩ := List.mem_map.mp m
    obtain ⟨⟨ps, e, _⟩, _⟩ := ht p hp
    refine ⟨by show H p.1 ≠ none; rw [e]; simp, fun z => ?_⟩
    have z : p.1 ∈ onS us sa sc sl := z
    cases us with
    | false => cases z
    | true =>
      obtain ⟨y1, y2, y3, _⟩ := hst rfl
      simp only [onS, if_true, List.mem_cons, List.not_mem_nil, or_false] at z
      rcases z with z | z | z
      · rw [z, y1] at e; cases e
      · rw [z, y2] at e; cases e
      · rw [z, y3] at e; cases e
  st0 := fun b z => by
    have z : b ∈ onS us sa sc sl := z
    cases us with
    | false => cases z
    | true =>
      obtain ⟨y1, y2, y3, _⟩ := hst rfl
      show H b ≠ none
      simp only [onS, if_true, List.mem_cons, List.not_mem_nil, or_false] at z
      rcases z with z | z | z
      · rw [z, y1]; simp
      · rw [z, y2]; simp
      · rw [z, y3]; simp
  dom := fun b e => e
  pin := fun b z => nomatch z
  tabs := fun p hp => ⟨(ht p hp).1, rfl, List.mem_append_right _ (List.mem_map.mpr ⟨p, hp, rfl⟩)⟩
end
end Pn

set_option maxHeartbeats 4000001
/-! the law's state is made -/
namespace Pn
open L2 PyProof.Rows PySem.Spec PySem
def cellsOf (ns : List Int) : List Int := if ns = [] then [0] else ns
def leftOf (c : Int) : Int := if 1000000000000000000 ≤ c then c else 0
def leftsOf (ns : List Int) : List Int := (cellsOf ns).map leftOf
def spBegin (K : PySem.W.Frag) : Sp := fun vs H Q _ => ∃ a ns, vs = [.ref a] ∧ SqL K H a (ns.map V.int) ∧ ns.length ≤ 1000 ∧ SeqAt.shaped (.list (ns.map PyData.int)) = true ∧
  ∀ (sa sc sl : Addr) (H' : Hp), Same H H' → H sa = none → H sc = none → H sl = none → sc ≠ sl → H' sa = some (.dK (stKv sc sl 0)) → H' sc = some (.lst ((cellsOf ns).map V.int)) → H' sl = some (.lst ((leftsOf ns).map V.int)) → Q (.ref sa) H'
def m_left : M RV := M.bind (M.bind (rd 1) itL) (lcM [2] (put 2) (ret true) (ifE (toB (m2 geI (rd 2) (m2 powI (ret (.int 10)) (ret (.int 18))))) (rd 2) (ret (.int 0))))
/-- a comprehension whose parts keep what is around -/
theorem lcL_map {b : Dat → Cfg → Option Cfg} {me : M Dat} {vs : List Nat} {f : Dat → Dat} {c : Cfg} : ∀ {items acc : List Dat}, (∀ d ∈ items, ∃ c1 c3, b d c = some c1 ∧ me c1 = .ok (f d) c3 ∧ { c3 with r := clr vs c3.r } = c) → acc.length + items.length ≤ 100000 →
    lcL b (ret true) me vs items acc c = .ok (acc ++ items.map f) c
  | [], acc, _, _ => by
    rw [List.map_nil, List.append_nil]
    rfl
  | d :: ds, acc, h, hl => by
    obtain ⟨c1, c3, e1, e2, e3⟩ := h d List.mem_cons_self
    rw [List.length_cons] at hl
    have ih := lcL_map (f := f) (items := ds) (acc := acc ++ [f d]) (fun x hx => h x (List.mem_cons_of_mem _ hx)) (by rw [List.length_append, List.length_singleton]; omega)
    unfold lcL
    simp only [e1, ret, e2]
    rw [if_pos (by omega), e3, ih, List.map_cons, List.append_assoc]
    rfl
theorem lcM_map {b : Dat → Cfg → Option Cfg} {me : M Dat} {vs : List Nat} {f : Dat → Dat} {c : Cfg} {items : List Dat} (q : vs.all (fun v => quiet c.r[v]?) = true) (h : ∀ d ∈ items, ∃ c1 c3, b d { c with r := clr vs c.r } = some c1 ∧ me c1 = .ok (f d) c3 ∧ { c3 with r := clr vs c3.r } = { c with r := clr vs c.r }) (hl : items.length ≤ 100000)
    (hb : back vs c.r (clr vs c.r) = c.r) : lcM vs b (ret true) me items c = .ok (.fr (items.map f)) c := by
  have z := lcL_map (acc := []) h (by rw [List.length_nil]; omega)
  unfold lcM
  rw [if_pos q, z, List.nil_append]
  show Res.ok (RV.fr (items.map f)) { r := back vs c.r (clr vs c.r), s := c.s } = _
  rw [hb]
theorem left_run (ns : List Int) (s : DS) (hl : ns.length ≤ 100000) : m_left ⟨[.no, .sh (.list (ns.map PyData.int)), .no], s⟩ = .ok (.fr ((ns.map leftOf).map PyData.int)) ⟨[.no, .sh (.list (ns.map PyData.int)), .no], s⟩ := by
  have z := lcM_map (b := put 2) (me := ifE (toB (m2 geI (rd 2) (m2 powI (ret (.int 10)) (ret (.int 18))))) (rd 2) (ret (.int 0))) (vs := [2]) (f := fun d => match d with | .int i => .int (leftOf i) | d => d) (c := ⟨[.no, .sh (.list (ns.map PyData.int)), .no], s⟩) (items := ns.map PyData.int) rfl (fun d hd => by
    obtain ⟨i, _, rfl⟩ := List.mem_map.mp hd
    refine ⟨⟨[.no, .sh (.list (ns.map PyData.int)), .sh (.int i)], s⟩, ⟨[.no, .sh (.list (ns.map PyData.int)), .sh (.int i)], s⟩, rfl, ?_, rfl⟩
    have e : toB (m2 geI (rd 2) (m2 powI (ret (.int 10)) (ret (.int 18)))) ⟨[.no, .sh (.list (ns.map PyData.int)), .sh (.int i)], s⟩ = .ok (decide (1000000000000000000 ≤ i)) ⟨[.no, .sh (.list (ns.map PyData.int)), .sh (.int i)], s⟩ := rfl
    unfold ifE M.bind
    rw [e]
    unfold leftOf
    by_cases h : 1000000000000000000 ≤ i
    · simp only [h, decide_true, if_true]
      rfl
    · simp only [h, decide_false, if_false]
      rfl) (by rw [List.length_map]; exact hl) rfl
  refine Eq.trans (b := lcM [2] (put 2) (ret true) (ifE (toB (m2 geI (rd 2) (m2 powI (ret (.int 10)) (ret (.int 18))))) (rd 2) (ret (.int 0))) (ns.map PyData.int) ⟨[.no, .sh (.list (ns.map PyData.int)), .no], s⟩) rfl (z.trans ?_)
  (rw [List.map_map, List.map_map])
  rfl
theorem sc__law_begin : FnScope ["script", "cells_so", "cell"] ["script"] (defScope (top 65)) := ⟨rfl, rfl, rfl, by decide +kernel, rfl, by decide +kernel, by decide +kernel⟩
section
variable {P : Program} {w : World} {K : PySem.W.Frag} {mg : Str → Option Value} {base : Heap} {C : Cls}
theorem ok__law_begin {f : Addr} {fd : FuncData} (Fn : Fun K "_law_begin" "_law_begin" (top 65) f fd) (Z : Glo K mg) : FnOk P w K mg base (L2.CX P w) 2 f fd ["script"] (spBegin K) := by
  refine Fn.okX sc__law_begin (fun vs H Q E ⟨a, ns, h, _⟩ => by rw [h]; rfl) (fun cdv A outer s H0 vs Q E hr h => ?_)
  let F : Fr := frG K ⟨fun _ => .none, fun _ => ""⟩ false false 0 0 0 0 [] (fun _ => none) H0
  refine ⟨_, pss_cons (ps_set (i := 1) sc__law_begin.nd rfl (.inl rfl) (pe_ifExp (pt_cmpR (op_neD hr.units) (pe_var (i := 0) rfl (.inl rfl)) (pe_lst pa_nil) (nomark _)) (pe_callTy call_list_of rfl Z.b_list boot_list (pa_cons (pe_var (i := 0) rfl (.inl rfl)) pa_nil)) (pe_lst (pa_cons pe_int pa_nil))))
    (pss_one (ps_ret (pe_disp (pps_cons pe_str (pe_var (i := 1) rfl (.inl rfl)) (pps_cons pe_str (tv := fun σ H Q => ∃ ps, EX (F.pn ps) (fun cls d _ H => E cls d H) m_left σ H Q) ⟨fun pins s σ H Q I ⟨ps, z⟩ => (lc1_ (F := F.pn ps) (W := fun cls d _ H => E cls d H) ["script", "cells_so", "cell"] (defScope (top 65)) sc__law_begin.nd 2 (i_list rfl (v_ 1)) (fun _ _ _ _ _ _ => e_if (t_ge (v_ 2) (e_pow (e_int) (e_int))) (v_ 2) (e_int))).run pins s σ H Q I z⟩ (pps_cons pe_str pe_int pps_nil))) (by decide) (by decide) (by decide) (by decide)))), ?_⟩
  obtain ⟨a, ns, rfl, hq, hlen, hsh, fin⟩ := h
  have lc : (cellsOf ns).length ≤ 1001 := by
    unfold cellsOf
    by_cases e : ns = []
    · rw [if_pos e]; simp
    · rw [if_neg e]; omega
  have rest : ∀ (H2 : Hp) (sc : Addr), Same H0 H2 → H0 sc = none → H2 sc = some (.lst ((cellsOf ns).map V.int)) →
      tRet (tDisp [(tC (.str "cells"), tVar 1), (tC (.str "lefts"), fun σ H Q => ∃ ps, EX (F.pn ps) (fun cls d _ H => E cls d H) m_left σ H Q), (tC (.str "at"), tC (.int 0))]) { nx := fun _ H' => Q .non H', rt := Q } [some (.ref a), some (.ref sc), none] H2 := by
    intro H2 sc s02 hsc hc p hp
    have fresh : ∀ b, H2 b = none → H0 b = none := fun b z => by
      cases z2 : H0 b with
      | none => rfl
      | some o =>
        rw [s02 b o z2] at z
        cases z
    let xs0 : List V := (cellsOf ns).map V.int
    have r0 : Rel F (fun _ => none) ⟨[.no, .no, .no], ⟨[], [], 0⟩⟩ [some (.ref a), some (.ref sc), none] H0 := rel_bare rfl (fun i x e => by
      refine .inl ?_
      match i, e with
      | 0, e => cases e; rfl
      | 1, e => cases e; rfl
      | 2, e => cases e; rfl) (fun z => nomatch z) (fun _ z => nomatch z)
    have r1 : Rel F (fun _ => none) ⟨[.no, .no, .no], ⟨[], [], 0⟩⟩ [some (.ref a), some (.ref sc), none] H2 := r0.after ⟨Same.refl _, (fun b o e => by cases e), s02, fun b e => absurd rfl e⟩
    have z : Lone F [some (.ref a), some (.ref sc), none] (fun _ => none) H2 ⟨[.no, .no, .no], ⟨[], [], 0⟩⟩ sc ((cellsOf ns).map PyData.int) := ⟨_, hc, intR_dp _, rfl, hsc, (fun i l' e => by
      exfalso
      match i, e with
      | 0, e => cases e
      | 1, e => cases e
      | 2, e => cases e), fun b hb => nomatch hb⟩
    obtain ⟨G1, r2, _, d2⟩ := r1.freeze z
    have r3 := r2.put (i := 1) (x := .ref sc) (v := .sh (.list ((cellsOf ns).map PyData.int))) d2
    have r4 := r3.pin1 (o := .dK []) hp
    refine ⟨.ref sc, rfl, F.pins.cons (p, .dK []), G1, _, r4, ?_⟩
    have run := left_run (cellsOf ns) ⟨[], [], 0⟩ (by omega)
    show Po _ _ _ _ _ _ (m_left ⟨[.no, .sh (.list ((cellsOf ns).map PyData.int)), .no], ⟨[], [], 0⟩⟩)
    rw [run]
    intro v G' H' r5 s5 q
    obtain ⟨sl, rfl, ys, hy, qy, gsl, nsl, _, pinsl⟩ := q
    have ey : ys = (leftsOf ns).map V.int := intL_dp qy (intL_map _)
    subst ey
    obtain ⟨k1, _, k3⟩ := r5.pin (p, .dK []) List.mem_cons_self
    have hsc5 : H' sc = some (.lst ((cellsOf ns).map V.int)) := by
      cases d2 with
      | @lst _ xs ds hG q2 =>
        have e2 : xs = (cellsOf ns).map V.int := intL_dp q2 (intL_map _)
        subst e2
        exact r5.sub _ _ (s5 _ _ hG)
    have nscl : sc ≠ sl := fun z => by
      cases d2 with
      | lst hG q2 =>
        have := s5 _ _ hG
        rw [z, gsl] at this
        cases this
    have npsc : sc ≠ p := fun z => by rw [z, hp] at hc; cases hc
    have npsl : sl ≠ p := fun z => by rw [z, k1] at hy; cases hy
    refine ⟨k1, [(Sum.inr "cells", .ref sc), (Sum.inr "lefts", .ref sl), (Sum.inr "at", .int 0)], rfl, (by show 3 ≤ 15; decide), ?_⟩
    refine fin p sc sl _ (fun b o e => ?_) (fresh p hp) hsc nsl nscl upd_same (by rw [upd_ne npsc]; exact hsc5) (by rw [upd_ne npsl]; exact hy)
    have := r5.keep b o e (fun z => nomatch z) (fun z => nomatch z)
    rw [upd_ne (fun z => by rw [z, fresh p hp] at e; cases e)]
    exact this
  refine ⟨.ref a, rfl, by decide, fun p0 hp0 => ?_⟩
  have s0 : Same H0 (upd H0 p0 (.lst [])) := fun b o e => by
    rw [upd_ne (ne_of_none e hp0)]
    exact e
  refine ⟨.list (ns.map PyData.int), .list [], .lst (sqL_mono s0 hq) (RpA.dp (intR_dp ns)), .lst (Evl.sq_of upd_same) .nil, hsh, by decide, _, rfl, ?_⟩
  by_cases e : ns = []
  · subst e
    rw [if_neg (by decide)]
    refine ⟨by show 1 ≤ sizeLine; decide, fun p1 hp1 => ?_⟩
    refine rest _ p1 (fun b o z => ?_) ?_ upd_same
    · have z2 := s0 b o z
      rw [upd_ne (ne_of_none z2 hp1)]
      exact z2
    · cases z : H0 p1 with
      | none => rfl
      | some o =>
        have z2 := s0 _ _ z
        rw [hp1] at z2
        cases z2
  · have ek : (!PyData.eqv (.list (ns.map PyData.int)) (.list [])) = true := by
      cases ns with
      | nil => exact absurd rfl e
      | cons x xs => rfl
    refine (if_pos ek).mpr ?_
    refine ⟨.ref a, rfl, a, ns.map V.int, rfl, .inl (sqL_mono s0 hq), fun p1 hp1 => ?_⟩
    refine rest _ p1 (fun b o z => ?_) ?_ (by rw [upd_same]; unfold cellsOf; rw [if_neg e])
    · have z2 := s0 b o z
      rw [upd_ne (ne_of_none z2 hp1)]
      exact z2
    · cases z : H0 p1 with
      | none => rfl
      | some o =>
        have z2 := s0 _ _ z
        rw [hp1] at z2
        cases z2
end
end Pn

set_option maxHeartbeats 4000001
namespace Pn
open L2 PyProof.Rows PySem.Spec PySem
section
variable {F : Fr} {W : L2.WX} {σ : L2.St} {H : Hp} {X : Cx} {D : Ends}
theorem ixv_ (i : Nat) {x : Str} {b : Expr} {mb : M Dat} {p pos : Pos} (hb : PE X b (Pn.E F W mb)) (hK : F.K = X.K := by rfl) (hN : X.N[i]? = some x := by rfl) (hv : Vis X.env.scope x := by exact Or.inl rfl) (hd : (x == ("__debug__" : Str)) = false := by decide) (hcd : (x == ("__classdict__" : Str)) = false := by decide) (hs : PlainIx b := by intro _ _; rfl) :
    PE X (.Subscript (.Name x p) b pos) (Pn.E F W (ixV i mb)) := e_ixV hK hN hv hd hcd hb hs
theorem rev_ (i : Nat) {x : Str} {p apos cpos : Pos} (hN : X.N[i]? = some x := by rfl) (hv : Vis X.env.scope x := by exact Or.inl rfl) (hd : (x == ("__debug__" : Str)) = false := by decide) (hcd : (x == ("__classdict__" : Str)) = false := by decide)
    (hb : attributeBase (.Name x p) "reverse" X.env (eval (.Name x p) X.env) = eval (.Name x p) X.env := by rfl) (hl : (apos.endLine == cpos.line) = true := by rfl) : PE X (.Call (.Attribute (.Name x p) "reverse" apos) [] [] cpos) (Pn.E F W (revV i)) := e_rev hN hv hd hcd hb hl
theorem callQS_ {okT : Tbs → Prop} {k n j : Nat} {g : GF} {x : Str} {p pos : Pos} {e : Expr} {es : List Expr} {ms : M (List Dat)} (hgd : X.A.guards = some []) (Z : HasQ X.prog X.w X.K X.mg X.base F.C true okT x k n g) (hok : okT F.tb) (hr : Room j X.A) (tk : Takes X W) (ha : PA X (e :: es) (Sx F W (RAS F) ms)) (hkj : k ≤ j := by decide) (hK : F.K = X.K := by rfl) (hg : Gl X x := by rfl)
    (hdb : (x == ("__debug__" : Str)) = false := by decide) (he : starEach (e :: es) X.env = (false, eval e X.env) :: starEach es X.env := by rfl) (hpl : (backTo pos (starEach es X.env)).any (·.1) = false := by rfl) : PE X (.Call (.Name x p) (e :: es) [] pos) (EX F W (callSM n g ms)) := e_callQ hK hgd Z hok hr hkj hg tk ha hdb he hpl
end
section
variable {P : Program} {w : World} {K : PySem.W.Frag} {mg : Str → Option Value} {base : Heap} {C : Cls}
def m_law : M Ctl := seq (M.bind (asx (frz (callSM 1 g__law_program (stArg 1 (aCons (ret (.int 4)) (aNil)))))) (asg 2)) (seq (M.bind (asx (frz (callN 1 g__law_whole (aCons (rd 2) (aNil))))) (asg 3)) (seq (ifS (notB (toB (frz (callQM false 2 g__law_like (aCons (frz (callN 1 g_need_program (aCons (rd 2) (aNil)))) (aCons (rd 2) (aNil))))))) (retS (asx (ret (.bool false)))) (ret .nx)) (seq (M.bind (callN 1 g_parts_of (aCons (rd 2) (aNil))) (asg 4)) (seq (ifS (orB (notB (toB (isiV 4 "list"))) (notB (toB (lendM 4 2 g__law_like (aCons (rd 3) (aNil)))))) (retS (asx (ret (.bool false)))) (ret .nx)) (seq (dropS (revV 4)) (seq (dropS (appV 4 (ixV 4 (ret (.int 0))))) (seq (ifS (notB (toB (frz (callQM false 2 g__law_like (aCons (frz (callN 1 g_parts_of (aCons (rd 2) (aNil)))) (aCons (rd 3) (aNil))))))) (retS (asx (ret (.bool false)))) (ret .nx)) (seq (M.bind (asx (M.bind (rowX (M.bind (frz (M.bind (M.bind (ixD (rd 2) (ret (.int 0))) itT) (lcM [11] (put 11) (ret true) (frz (callN 1 (g__law_deep 30) (aCons (ixD (rd 11) (ret (.int 1))) (aNil))))))) fun x => M.bind (frz (M.bind (aCons (frz (callN 1 (g__law_deep 30) (aCons (ixD (rd 2) (ret (.int 1))) (aNil)))) (aNil)) lstD)) fun y => catD x y)) maxR)) (asg 5)) (seq (ifS (notB (toB (frz (callQM false 2 g__law_like (aCons (frz (callN 1 g_measures (aCons (rd 2) (aNil)))) (aCons (M.bind (aCons (M.bind (rowVar 3) lenR) (aCons (rd 5) (aNil))) tupD) (aNil))))))) (retS (asx (ret (.bool false)))) (ret .nx)) (seq (ifS (notB (toB (frz (callQM false 2 g__law_like (aCons (frz (callN 1 g_free_names (aCons (rd 2) (aNil)))) (aCons (M.bind (rowX (callN 1 (g__law_free 30) (aCons (ixD (rd 2) (ret (.int 1))) (aNil)))) tupR) (aNil))))))) (retS (asx (ret (.bool false)))) (ret .nx)) (seq (M.bind (asx (frz (M.bind (M.bind (rd 3) itL) (lcM [9, 10] (putTup 2 (putCons (put 9) (putCons (put 10) (putNil)))) (andB (toB (m2 eqD (ixD (rd 9) (ret (.int 0))) (ret (.int 1)))) (toB (m2 eqD (ixD (rd 10) (ret (.int 0))) (ret (.str "call"))))) (rd 9))))) (asg 6)) (seq (M.bind (asx (ifE (toB (m2 eqD (rd 6) (frz (M.bind (aNil) lstD)))) (M.bind (aCons (ret (.str "told")) (aCons (rd 2) (aNil))) tupD) (M.bind (aCons (ret (.str "finite")) (aCons (ixD (rd 6) (ret (.int 0))) (aCons (ret (.bool true)) (aNil)))) tupD))) (asg 7)) (seq (ifS (notB (toB (frz (callQM false 2 g__law_like (aCons (frz (callN 1 g_is_finite (aCons (rd 2) (aNil)))) (aCons (m2 eqD (rd 6) (frz (M.bind (aNil) lstD))) (aNil))))))) (retS (asx (ret (.bool false)))) (ret .nx)) (seq (ifS (notB (toB (frz (callQM false 2 g__law_like (aCons (caughtM clauL "told" (callN 1 g_need_finite (aCons (rd 2) (aNil)))) (aCons (rd 7) (aNil))))))) (retS (asx (ret (.bool false)))) (ret .nx)) (seq (M.bind (frz (callSM 1 g__law_of (stArg 1 (aCons (rd 3) (aNil))))) (tgtM (putTup 2 (putCons (put 9) (putCons (put 10) (putNil)))))) (seq (ifS (notB (toB (frz (callQM false 2 g__law_like (aCons (frz (callN 2 g_part_at (aCons (rd 2) (aCons (rd 9) (aNil))))) (aCons (rd 10) (aNil))))))) (retS (asx (ret (.bool false)))) (ret .nx)) (seq (M.bind (asx (frz (callSM 1 g__law_of (stArg 1 (aCons (frz (M.bind (aCons (frz (M.bind (rd 9) fun x => M.bind (M.bind (aCons (ret (.int 9)) (aNil)) tupD) fun y => catD x y)) (aCons (M.bind (aNil) tupD) (aCons (M.bind (aCons (ret (.int 0)) (aCons (ret (.int 0)) (aNil))) tupD) (aCons (frz (M.bind (aCons (ret (.int 1)) (aNil)) lstD)) (aCons (ret .none) (aCons (M.bind (aCons (ret (.bool true)) (aNil)) tupD) (aCons (M.bind (aCons (ret (.int 1)) (aCons (negV (ret (.int 1))) (aNil))) tupD) (aCons (frz (M.bind (frz (slM (rd 9) (ret none) (partO (negV (ret (.int 1)))))) fun x => M.bind (M.bind (aCons (negV (ret (.int 1))) (aNil)) tupD) fun y => catD x y)) (aNil))))))))) lstD)) (aNil)))))) (asg 8)) (seq (ifS (notB (toB (frz (callQM false 2 g__law_like (aCons (caughtM clauL "told" (callN 2 g_part_at (aCons (rd 2) (aCons (rd 8) (aNil))))) (aCons (M.bind (aCons (ret (.str "index")) (aCons (rd 8) (aCons (ret (.bool true)) (aNil)))) tupD) (aNil))))))) (retS (asx (ret (.bool false)))) (ret .nx)) (seq (ifS (notB (toB (frz (callQM false 2 g__law_like (aCons (caughtM clauL "told" (callN 3 (g_put_at g_part_at) (aCons (rd 2) (aCons (rd 8) (aCons (rd 10) (aNil)))))) (aCons (M.bind (aCons (ret (.str "index")) (aCons (rd 8) (aCons (ret (.bool true)) (aNil)))) tupD) (aNil))))))) (retS (asx (ret (.bool false)))) (ret .nx)) (retS (callSM 2 (g__law_put_right (g_put_at g_part_at)) (stArg 1 (aCons (rd 2) (aCons (rd 3) (aNil)))))))))))))))))))))))))
theorem sc_law : FnScope ["script", "state", "program", "rows", "told", "deep", "calls_so", "due", "lost", "path", "part", "pair"] ["script"] (defScope (top 83)) := ⟨rfl, rfl, rfl, by decide +kernel, rfl, by decide +kernel, by decide +kernel⟩
def rest {α : Type} : List α → List α
  | [] => []
  | _ :: l => l
theorem ps_law {f g c Pt Pp B sa sc sl : Addr} {tb : Tbs} {G0 H0 : Hp} {cE : Nat → Addr} {fd : FuncData} {A : Around} {outer : List Env} {s : Shared} {H1 : Hp} {E : XK} (hgd : (A.deeper (envOfC "law" (defScope (top 83)) s.heap.objs.size f (.ref c))).guards = some []) (okt : (Pt, (envOfC "law" (defScope (top 83)) 0 0 .none).qual ++ "<lambda>") ∈ tb ∧ ∀ p ∈ tb, p.1 = Pt → p.2 = (envOfC "law" (defScope (top 83)) 0 0 .none).qual ++ "<lambda>") (okt2 : okT__law_put_right Pp tb) (hr : Room 72 (A.deeper (envOfC "law" (defScope (top 83)) s.heap.objs.size f (.ref c))))
    (Fc : Fun K "_law_caught" "_law_caught" (top 81) g fd) (ac : At K mg "_law_caught" g fd ["call"]) (Ze : Errs K mg C B cE) (hts : Tells K C clauL (tellL cE)) (TB : LamX.TabB base mg c Pt) (Z : Glo K mg) (h_need_program : Has P w K mg base C "need_program" 60 1 g_need_program) (h_parts_of : Has P w K mg base C "parts_of" 60 1 g_parts_of) (h_measures : Has P w K mg base C "measures" 60 1 g_measures) (h_free_names : Has P w K mg base C "free_names" 60 1 g_free_names) (h_is_finite : Has P w K mg base C "is_finite" 60 1 g_is_finite) (h_need_finite : Has P w K mg base C "need_finite" 60 1 g_need_finite) (h_part_at : Has P w K mg base C "part_at" 60 2 g_part_at) (h_put_at : Has P w K mg base C "put_at" 60 3 (g_put_at g_part_at)) (h__law_whole : Has P w K mg base C "_law_whole" 60 1 g__law_whole) (h__law_deep : Has P w K mg base C "_law_deep" 60 1 (g__law_deep 30)) (h__law_free : Has P w K mg base C "_law_free" 60 1 (g__law_free 30)) (h__law_program : HasG P w K mg base C true false "_law_program" 60 1 g__law_program) (h__law_of : HasG P w K mg base C true false "_law_of" 60 1 g__law_of) (h__law_like : HasQ P w K mg base C false (fun _ => True) "_law_like" 1 2 g__law_like) (h__law_put_right : HasQ P w K mg base C true (okT__law_put_right Pp) "_law_put_right" 71 2 (g__law_put_right (g_put_at g_part_at))) :
    PSs (cxOf (L2.CX P w) P w K mg base ["script", "state", "program", "rows", "told", "deep", "calls_so", "due", "lost", "path", "part", "pair"] "law" (defScope (top 83)) f (.ref c) A outer s H1 E) (rest (defBody (top 83))) (T (frG K C true false sa sc sl 0 tb G0 H0) (fun cls d _ H => E cls d H) m_law) :=
  ss_cons (as_ 2 sc_law.nd (e_asx (e_frz (callS_ h__law_program hr tkC (ast_ 1 (a_cons (e_int) (a_nil))))))) (ss_cons (as_ 3 sc_law.nd (e_asx (e_frz (call_ h__law_whole hr tkC (a_cons (v_ 2) (a_nil)))))) (ss_cons (s_if (t_not (t_val (e_frz (callP_ hgd h__law_like hr tkC (a_cons (e_frz (call_ h_need_program hr tkC (a_cons (v_ 2) (a_nil)))) (a_cons (v_ 2) (a_nil))))))) (ss_one (s_ret (e_asx (e_bl)))) (ss_nil)) (ss_cons (as_ 4 sc_law.nd (call_ h_parts_of hr tkC (a_cons (v_ 2) (a_nil)))) (ss_cons (s_if (L2.PW.pt (w_or (t_not (t_val (isiV_ 4 "list" Z.b_isinstance Z.b_list))) (w_or1 (t_not (t_val (lendP_ 4 hgd h__law_like hr tkC (a_cons (v_ 3) (a_nil)))))))) (ss_one (s_ret (e_asx (e_bl)))) (ss_nil)) (ss_cons (s_expr (rev_ 4)) (ss_cons (s_expr (app_ 4 (ixv_ 4 (e_int)))) (ss_cons (s_if (t_not (t_val (e_frz (callP_ hgd h__law_like hr tkC (a_cons (e_frz (call_ h_parts_of hr tkC (a_cons (v_ 2) (a_nil)))) (a_cons (v_ 3) (a_nil))))))) (ss_one (s_ret (e_asx (e_bl)))) (ss_nil)) (ss_cons (as_ 5 sc_law.nd (e_asx (e_max rfl rfl rfl Z.b_max (r_new (cat_ (e_frz (lc1_ ["script", "state", "program", "rows", "told", "deep", "calls_so", "due", "lost", "path", "part", "pair"] (defScope (top 83)) sc_law.nd 11 (i_tup rfl (ix_ (v_ 2) (e_int))) (fun _ _ _ _ _ _ => e_frz (call_ h__law_deep hr L2.takes0 (a_cons (ix_ (v_ 11) (e_int)) (a_nil)))))) (e_frz (e_lst (a_cons (e_frz (call_ h__law_deep hr tkC (a_cons (ix_ (v_ 2) (e_int)) (a_nil)))) (a_nil))))))))) (ss_cons (s_if (t_not (t_val (e_frz (callP_ hgd h__law_like hr tkC (a_cons (e_frz (call_ h_measures hr tkC (a_cons (v_ 2) (a_nil)))) (a_cons (e_tup (a_cons (len_ Z.b_len (rv_ 3)) (a_cons (v_ 5) (a_nil)))) (a_nil))))))) (ss_one (s_ret (e_asx (e_bl)))) (ss_nil)) (ss_cons (s_if (t_not (t_val (e_frz (callP_ hgd h__law_like hr tkC (a_cons (e_frz (call_ h_free_names hr tkC (a_cons (v_ 2) (a_nil)))) (a_cons (tuple_ Z.b_tuple (r_new (call_ h__law_free hr tkC (a_cons (ix_ (v_ 2) (e_int)) (a_nil))))) (a_nil))))))) (ss_one (s_ret (e_asx (e_bl)))) (ss_nil)) (ss_cons (asLcIf_ ["script", "state", "program", "rows", "told", "deep", "calls_so", "due", "lost", "path", "part", "pair"] (defScope (top 83)) [("path", 9), ("part", 10)] sc_law.nd 6 (i_list rfl (v_ 3)) (fun _ _ _ _ _ => pg_tup rfl (pgs_cons (pgn_ 9 sc_law.nd) (pgs_cons (pgn_ 10 sc_law.nd) (pgs_nil)))) (fun _ => gok_tup rfl (gsok_cons (gok_name) (gsok_cons (gok_name) (gsok_nil)))) (fun _ _ _ _ _ _ => L2.PW.pt (w_and (teq_ hr.units (ix_ (v_ 9) (e_int)) (e_int)) (w_and1 (teq_ hr.units (ix_ (v_ 10) (e_int)) (e_str))))) (fun _ _ _ _ _ _ => v_ 9)) (ss_cons (as_ 7 sc_law.nd (e_asx (e_if (teq_ hr.units (v_ 6) (e_frz (e_lst (a_nil)))) (e_tup (a_cons (e_str) (a_cons (v_ 2) (a_nil)))) (e_tup (a_cons (e_str) (a_cons (ix_ (v_ 6) (e_int)) (a_cons (e_bl) (a_nil)))))))) (ss_cons (s_if (t_not (t_val (e_frz (callP_ hgd h__law_like hr tkC (a_cons (e_frz (call_ h_is_finite hr tkC (a_cons (v_ 2) (a_nil)))) (a_cons (eq_ hr.units (v_ 6) (e_frz (e_lst (a_nil)))) (a_nil))))))) (ss_one (s_ret (e_asx (e_bl)))) (ss_nil)) (ss_cons (s_if (t_not (t_val (e_frz (callP_ hgd h__law_like hr tkC (a_cons (caught_ (k := 60) (defScope (top 83)) Fc ac Ze hts TB rfl okt.1 okt.2 hr (fun A outer s H E f c' hr2 => call_ h_need_finite hr2 tkL (a_cons (v_ 2) (a_nil)))) (a_cons (v_ 7) (a_nil))))))) (ss_one (s_ret (e_asx (e_bl)))) (ss_nil)) (ss_cons (s_asgT (e_frz (callS_ h__law_of hr tkC (ast_ 1 (a_cons (v_ 3) (a_nil))))) (tg_tup rfl rfl (tgs_cons (tn_ 9 sc_law.nd) (tgs_cons (tn_ 10 sc_law.nd) (tgs_nil))))) (ss_cons (s_if (t_not (t_val (e_frz (callP_ hgd h__law_like hr tkC (a_cons (e_frz (call_ h_part_at hr tkC (a_cons (v_ 2) (a_cons (v_ 9) (a_nil))))) (a_cons (v_ 10) (a_nil))))))) (ss_one (s_ret (e_asx (e_bl)))) (ss_nil)) (ss_cons (as_ 8 sc_law.nd (e_asx (e_frz (callS_ h__law_of hr tkC (ast_ 1 (a_cons (e_frz (e_lst (a_cons (e_frz (cat_ (v_ 9) (e_tup (a_cons (e_int) (a_nil))))) (a_cons (e_tup (a_nil)) (a_cons (e_tup (a_cons (e_int) (a_cons (e_int) (a_nil)))) (a_cons (e_frz (e_lst (a_cons (e_int) (a_nil)))) (a_cons (e_non) (a_cons (e_tup (a_cons (e_bl) (a_nil))) (a_cons (e_tup (a_cons (e_int) (a_cons (neg_ (e_int)) (a_nil)))) (a_cons (e_frz (cat_ (e_frz (sl_ (v_ 9) (o_none) (o_some (neg_ (e_int))))) (e_tup (a_cons (neg_ (e_int)) (a_nil))))) (a_nil))))))))))) (a_nil))))))) (ss_cons (s_if (t_not (t_val (e_frz (callP_ hgd h__law_like hr tkC (a_cons (caught_ (k := 60) (defScope (top 83)) Fc ac Ze hts TB rfl okt.1 okt.2 hr (fun A outer s H E f c' hr2 => call_ h_part_at hr2 tkL (a_cons (v_ 2) (a_cons (v_ 8) (a_nil))))) (a_cons (e_tup (a_cons (e_str) (a_cons (v_ 8) (a_cons (e_bl) (a_nil))))) (a_nil))))))) (ss_one (s_ret (e_asx (e_bl)))) (ss_nil)) (ss_cons (s_if (t_not (t_val (e_frz (callP_ hgd h__law_like hr tkC (a_cons (caught_ (k := 60) (defScope (top 83)) Fc ac Ze hts TB rfl okt.1 okt.2 hr (fun A outer s H E f c' hr2 => call_ h_put_at hr2 tkL (a_cons (v_ 2) (a_cons (v_ 8) (a_cons (v_ 10) (a_nil)))))) (a_cons (e_tup (a_cons (e_str) (a_cons (v_ 8) (a_cons (e_bl) (a_nil))))) (a_nil))))))) (ss_one (s_ret (e_asx (e_bl)))) (ss_nil)) (ss_one (s_ret (callQS_ hgd h__law_put_right okt2 hr tkC (ast_ 1 (a_cons (v_ 2) (a_cons (v_ 3) (a_nil))))))))))))))))))))))))))
end
end Pn

set_option maxHeartbeats 4000001
namespace Pn
open L2 PyProof.Rows PySem.Spec PySem
def lawR : List Sl := [.no, .st, .no, .no, .no, .no, .no, .no, .no, .no, .no, .no]
/-- the run of the law's rest at a script -/
def LawGood (ns : List Int) : Prop := ∃ c, m_law ⟨lawR, ⟨cellsOf ns, leftsOf ns, 0⟩⟩ = .ok (.rt (.sh (.bool true))) c
def qLaw : Str := (envOfC "law" (defScope (top 83)) 0 0 .none).qual ++ "<lambda>"
def qPut : Str := (envOfC "_law_put_right" (defScope (top 82)) 0 0 .none).qual ++ "<lambda>"
def spLaw (K : PySem.W.Frag) (Pt Pp : Addr) : Sp := fun vs H Q _ => ∃ a ns, vs = [.ref a] ∧ SqL K H a (ns.map V.int) ∧ ns.length ≤ 1000 ∧ SeqAt.shaped (.list (ns.map PyData.int)) = true ∧ H Pt = some (.tbl #[]) ∧ H Pp = some (.tbl #[]) ∧ LawGood ns ∧ ∀ H', Q (.bl true) H'
section
variable {P : Program} {w : World} {K : PySem.W.Frag} {mg : Str → Option Value} {base : Heap} {C : Cls}
theorem ok_law {f g c Pt Pp B fb : Addr} {cE : Nat → Addr} {fd fdb : FuncData} {oc : Value} {od an : Option Addr} {osl : Array (Option Value)} {kV doc pm ct : Value} (lk : K.lookup f = some ⟨oc, od, .func (PySem.W.fnOf "law" "law" (defArgs (top 83)) (defBody (top 83)) (defScope (top 83)) .none kV doc pm an (.ref c) ct), osl⟩) (hcd : PySem.W.codeIn K (.ref c) "law" = true)
    (hne : Pt ≠ Pp) (Fb : Fun K "_law_begin" "_law_begin" (top 65) fb fdb) (ab : At K mg "_law_begin" fb fdb ["script"])
    (Fc : Fun K "_law_caught" "_law_caught" (top 81) g fd) (ac : At K mg "_law_caught" g fd ["call"]) (Ze : Errs K mg C B cE) (hts : Tells K C clauL (tellL cE)) (TB : LamX.TabB base mg c Pt) (Z : Glo K mg)
    (h_need_program : Has P w K mg base C "need_program" 60 1 g_need_program) (h_parts_of : Has P w K mg base C "parts_of" 60 1 g_parts_of) (h_measures : Has P w K mg base C "measures" 60 1 g_measures) (h_free_names : Has P w K mg base C "free_names" 60 1 g_free_names) (h_is_finite : Has P w K mg base C "is_finite" 60 1 g_is_finite) (h_need_finite : Has P w K mg base C "need_finite" 60 1 g_need_finite) (h_part_at : Has P w K mg base C "part_at" 60 2 g_part_at) (h_put_at : Has P w K mg base C "put_at" 60 3 (g_put_at g_part_at)) (h__law_whole : Has P w K mg base C "_law_whole" 60 1 g__law_whole) (h__law_deep : Has P w K mg base C "_law_deep" 60 1 (g__law_deep 30)) (h__law_free : Has P w K mg base C "_law_free" 60 1 (g__law_free 30))
    (h__law_program : HasG P w K mg base C true false "_law_program" 60 1 g__law_program) (h__law_of : HasG P w K mg base C true false "_law_of" 60 1 g__law_of) (h__law_like : HasQ P w K mg base C false (fun _ => True) "_law_like" 1 2 g__law_like) (h__law_put_right : HasQ P w K mg base C true (okT__law_put_right Pp) "_law_put_right" 71 2 (g__law_put_right (g_put_at g_part_at))) :
    FnG P w K mg base (L2.CX P w) 73 f (PySem.W.fnOf "law" "law" (defArgs (top 83)) (defBody (top 83)) (defScope (top 83)) .none kV doc pm an (.ref c) ct) ["script"] (spLaw K Pt Pp) := by
  have nq : ∀ q : Addr × Str, q ∈ [(Pt, qLaw), (Pp, qPut)] → q.1 = Pt → q.2 = qLaw := fun q hq h => by
    (rcases List.mem_cons.mp hq with rfl | hq)
    · rfl
    · have e := List.mem_singleton.mp hq
      subst e
      exact absurd h.symm hne
  have nq2 : ∀ q : Addr × Str, q ∈ [(Pt, qLaw), (Pp, qPut)] → q.1 = Pp → q.2 = qPut := fun q hq h => by
    (rcases List.mem_cons.mp hq with rfl | hq)
    · exact absurd h hne
    · have e := List.mem_singleton.mp hq
      subst e
      rfl
  refine fnG_core lk hcd sc_law (fun vs H Q E ⟨a, ns, h, _⟩ => by rw [h]; rfl) (fun A outer s H0 vs Q E hgd hr h => ?_)
  have Fbeg : FnOk P w K mg base (L2.CX P w) 2 fb fdb ["script"] (spBegin K) := ok__law_begin Fb Z
  refine ⟨_, pss_cons (ps_set (i := 1) sc_law.nd rfl (.inl rfl) (pe_callS Fbeg (hr.mono (by decide)) rfl ab.m ab.k ab.b (fun σ => passAt (tkC) σ) (pa_cons (pe_var (i := 0) rfl (.inl rfl)) pa_nil)))
    (t := _) (u := fun D σ H => ∃ sa sc sl G0 H0, T (frG K C true false sa sc sl 0 [(Pt, qLaw), (Pp, qPut)] G0 H0) (fun cls d _ H => E cls d H) m_law D σ H)
    ⟨fun pins s1 σ H D I ⟨sa, sc, sl, G0, H0, z⟩ => (ps_law hgd ⟨List.mem_cons_self, nq⟩ ⟨List.mem_cons_of_mem _ List.mem_cons_self, nq2⟩ hr Fc ac Ze hts TB Z h_need_program h_parts_of h_measures h_free_names h_is_finite h_need_finite h_part_at h_put_at h__law_whole h__law_deep h__law_free h__law_program h__law_of h__law_like h__law_put_right).run pins s1 σ H D I z⟩, ?_⟩
  obtain ⟨a, ns, rfl, hq, hlen, hsh, ht, hp, ⟨cf, run⟩, fin⟩ := h
  refine ⟨.ref a, rfl, ?_⟩
  refine ⟨a, ns, rfl, hq, hlen, hsh, fun sa sc sl H2 s02 fa fc fl nn e1 e2 e3 => ?_⟩
  refine ⟨sa, sc, sl, fun _ => none, H2, fun _ => none, ⟨lawR, ⟨cellsOf ns, leftsOf ns, 0⟩⟩, rel_bare rfl (fun i x e => ?_) (fun _ => ⟨e1, e2, e3, rfl, rfl, rfl, nn⟩) (fun q hq => ?_), ?_⟩
  · match i, e with
    | 1, e => cases e; exact .inr ⟨rfl, rfl, rfl⟩
    | 0, e => cases e; exact .inl rfl
    | 2, e => cases e; exact .inl rfl
    | 3, e => cases e; exact .inl rfl
    | 4, e => cases e; exact .inl rfl
    | 5, e => cases e; exact .inl rfl
    | 6, e => cases e; exact .inl rfl
    | 7, e => cases e; exact .inl rfl
    | 8, e => cases e; exact .inl rfl
    | 9, e => cases e; exact .inl rfl
    | 10, e => cases e; exact .inl rfl
    | 11, e => cases e; exact .inl rfl
  · refine ⟨?_, rfl⟩
    (rcases List.mem_cons.mp hq with rfl | hq)
    · exact LamX.TabS.nil (s02 _ _ ht)
    · have e := List.mem_singleton.mp hq
      subst e
      exact LamX.TabS.nil (s02 _ _ hp)
  · rw [run]
    intro x σ' G' H' r' q
    have q : Rp K G' x (.bool true) := q
    cases q
    exact fin H'
end
end Pn

/-! the runs of the defs: what simp does with them -/
namespace Pn
open L2 PyProof.Rows PySem.Spec PySem
section
variable {α β : Type} {c : Cfg}
@[simp] theorem x_ret (a : α) : ret a c = .ok a c := rfl
@[simp] theorem x_bad : (bad : M α) c = .bad := rfl
@[simp] theorem x_bind (m : M α) (f : α → M β) : M.bind m f c = (match m c with
  | .ok a c' => f a c'
  | .exc k d c' => .exc k d c'
  | .bad => .bad) := rfl
@[simp] theorem x_rd (i : Nat) : rd i c = (match c.r[i]? with
  | some (.sh d) => .ok d c
  | _ => .bad) := rfl
@[simp] theorem x_m2 (f : Dat → Dat → M Dat) (a b : M Dat) : m2 f a b c = M.bind a (fun x => M.bind b fun y => f x y) c := rfl
@[simp] theorem x_toB (m : M Dat) : toB m c = M.bind m asB c := rfl
@[simp] theorem x_asB (b : Bool) : asB (.bool b) = ret b := rfl
@[simp] theorem x_notB (m : M Bool) : notB m c = M.bind m (fun b => ret (!b)) c := rfl
@[simp] theorem x_andB (a b : M Bool) : andB a b c = M.bind a (fun x => if x = true then b else ret false) c := rfl
@[simp] theorem x_orB (a b : M Bool) : orB a b c = M.bind a (fun x => if x = true then ret true else b) c := rfl
@[simp] theorem x_andV (a b : M Dat) : andV a b c = M.bind a (fun x => M.bind (asB x) fun k => if k = true then b else ret (.bool false)) c := rfl
@[simp] theorem x_orV (a b : M Dat) : orV a b c = M.bind a (fun x => M.bind (asB x) fun k => if k = true then ret (.bool true) else b) c := rfl
@[simp] theorem x_notV (a : M Dat) : notV a c = M.bind a (fun x => M.bind (asB x) fun k => ret (.bool (!k))) c := rfl
@[simp] theorem x_ifE (t : M Bool) (a b : M α) : ifE t a b c = M.bind t (fun k => if k = true then a else b) c := rfl
@[simp] theorem x_ifS (t : M Bool) (a b : M Ctl) : ifS t a b c = M.bind t (fun k => if k = true then a else b) c := rfl
@[simp] theorem x_seq (a b : M Ctl) : seq a b c = (match a c with
  | .ok .nx c' => b c'
  | r => r) := rfl
@[simp] theorem x_frz (m : M RV) : frz m c = M.bind m (fun v => ret v.dat) c := rfl
@[simp] theorem x_asx (m : M Dat) : asx m c = M.bind m (fun d => ret (.sh d)) c := rfl
@[simp] theorem x_dat1 (d : Dat) : (RV.sh d).dat = d := rfl
@[simp] theorem x_dat2 (l : List Dat) : (RV.fr l).dat = .list l := rfl
@[simp] theorem x_aNil : aNil c = .ok [] c := rfl
@[simp] theorem x_aCons (a : M Dat) (r : M (List Dat)) : aCons a r c = M.bind a (fun x => M.bind r fun xs => ret (x :: xs)) c := rfl
@[simp] theorem x_callN (n : Nat) (g : List Dat → PR) (ms : M (List Dat)) : callN n g ms c = M.bind ms (fun ds => if ds.length = n then callP g ds else bad) c := rfl
@[simp] theorem x_callP (g : List Dat → PR) (ds : List Dat) : callP g ds c = (match g ds with
  | .ok v => .ok v c
  | .exc k d => .exc k d c
  | .bad => .bad) := rfl
@[simp] theorem x_retS (m : M RV) : retS m c = M.bind m (fun v => ret (.rt v)) c := rfl
@[simp] theorem x_slOf1 (d : Dat) : slOf (.sh d) = .sh d := rfl
@[simp] theorem x_slOf2 (l : List Dat) : slOf (.fr l) = .own l := rfl
@[simp] theorem x_asg (i : Nat) (v : RV) : asg i v c = (match c.r[i]? with
  | some (.io _) => .bad
  | some .st => .bad
  | none => .bad
  | some _ => .ok .nx { c with r := c.r.set i (slOf v) }) := rfl
@[simp] theorem x_tupD (l : List Dat) : tupD l c = if many l = true then .ok (.tuple l) c else .bad := by
  unfold tupD
  by_cases h : many l = true <;> simp only [h, if_true, if_false] <;> rfl
@[simp] theorem x_lstD (l : List Dat) : lstD l c = if many l = true then .ok (.fr l) c else .bad := by
  unfold lstD
  by_cases h : many l = true <;> simp only [h, if_true, if_false] <;> rfl
@[simp] theorem x_many (l : List Dat) : many l = decide (l.length ≤ 100000) := rfl
@[simp] theorem x_ixD (a b : M Dat) : ixD a b c = M.bind a (fun x => M.bind b fun y => M.bind (rowOf x) fun k => ixR k y) c := rfl
@[simp] theorem x_inM (neg : Bool) (a : M Dat) (b : M Row) : inM neg a b c = M.bind a (fun x => M.bind b fun k => inR neg x k) c := rfl
@[simp] theorem x_rowOfT (l : List Dat) : rowOf (.tuple l) = ret (true, l) := rfl
@[simp] theorem x_rowOfL (l : List Dat) : rowOf (.list l) = ret (false, l) := rfl
@[simp] theorem x_rowD (m : M Dat) : rowD m c = M.bind m rowOf c := rfl
@[simp] theorem x_rowX (m : M RV) : rowX m c = M.bind m (fun v => match v with
  | .sh d => rowOf d
  | .fr l => ret (false, l)) c := rfl
@[simp] theorem x_rowVar (i : Nat) : rowVar i c = (match c.r[i]? with
  | some (.sh d) => rowOf d c
  | some (.own l) => .ok (false, l) c
  | some (.io l) => .ok (false, l) c
  | _ => .bad) := rfl
theorem atI_nat {γ : Type} (l : List γ) (n : Nat) (h : n < l.length) : atI l (n : Int) = l[n]? := by
  unfold atI ixN
  (rw [if_pos (by omega), if_pos (by omega)])
  rfl
theorem ixR_at {r : Row} {i : Int} {d : Dat} (h : atI r.2 i = some d) : ixR r (.int i) = ret d := by
  unfold ixR
  simp only [h]
@[simp] theorem x_ix0 (b : Bool) (x : Dat) (l : List Dat) : ixR (b, x :: l) (.int 0) = ret x := ixR_at ((atI_nat _ 0 (by simp)).trans rfl)
@[simp] theorem x_ix1 (b : Bool) (x y : Dat) (l : List Dat) : ixR (b, x :: y :: l) (.int 1) = ret y := ixR_at ((atI_nat _ 1 (by simp)).trans rfl)
@[simp] theorem x_ix2 (b : Bool) (x y z : Dat) (l : List Dat) : ixR (b, x :: y :: z :: l) (.int 2) = ret z := ixR_at ((atI_nat _ 2 (by simp)).trans rfl)
@[simp] theorem x_ix3 (b : Bool) (x y z u : Dat) (l : List Dat) : ixR (b, x :: y :: z :: u :: l) (.int 3) = ret u := ixR_at ((atI_nat _ 3 (by simp)).trans rfl)
@[simp] theorem x_lenR (r : Row) : lenR r = ret (.int (r.2.length : Nat)) := rfl
@[simp] theorem x_tupR (r : Row) : tupR r = ret (.tuple r.2) := rfl
@[simp] theorem x_lstR (r : Row) : lstR r = ret (.fr r.2) := rfl
@[simp] theorem x_truR (r : Row) : truR r = ret (!r.2.isEmpty) := rfl
@[simp] theorem x_itL (l : List Dat) : itL (.list l) = ret l := rfl
@[simp] theorem x_itT (l : List Dat) : itT (.tuple l) = ret l := rfl
@[simp] theorem x_enT (l : List Dat) : enT (.tuple l) = ret (pairsF 0 l) := rfl
@[simp] theorem x_enL (l : List Dat) : enL (.list l) = ret (pairsF 0 l) := rfl
@[simp] theorem x_pairs0 (i : Nat) : pairsF i [] = [] := rfl
@[simp] theorem x_pairs1 (i : Nat) (d : Dat) (l : List Dat) : pairsF i (d :: l) = .tuple [.int (i : Int), d] :: pairsF (i + 1) l := rfl
@[simp] theorem x_itBackL (l : List Dat) : itBack (.list l) = ret l.reverse := rfl
@[simp] theorem x_itBackT (l : List Dat) : itBack (.tuple l) = ret l.reverse := rfl
@[simp] theorem x_forN (b : Dat → Cfg → Option Cfg) (m : M Ctl) : forL b m [] c = .ok .nx c := rfl
@[simp] theorem x_forC (b : Dat → Cfg → Option Cfg) (m : M Ctl) (d : Dat) (ds : List Dat) : forL b m (d :: ds) c = (match b d c with
  | none => .bad
  | some c1 => match m c1 with
    | .ok .nx c2 => forL b m ds c2
    | .ok .ct c2 => forL b m ds c2
    | .ok .bk c2 => .ok .nx c2
    | r => r) := rfl
@[simp] theorem x_put (i : Nat) (d : Dat) : put i d c = (match c.r[i]? with
  | some (.io _) => none
  | some .st => none
  | none => none
  | some _ => some { c with r := c.r.set i (.sh d) }) := rfl
@[simp] theorem x_putNil : putNil [] c = some c := rfl
@[simp] theorem x_putCons (b : Dat → Cfg → Option Cfg) (r : List Dat → Cfg → Option Cfg) (d : Dat) (ds : List Dat) : putCons b r (d :: ds) c = (b d c).bind fun c1 => r ds c1 := rfl
@[simp] theorem x_putTup (n : Nat) (r : List Dat → Cfg → Option Cfg) (l : List Dat) : putTup n r (.tuple l) c = if l.length = n then r l c else none := rfl
@[simp] theorem x_tgtM (b : Dat → Cfg → Option Cfg) (d : Dat) : tgtM b d c = (match b d c with
  | some c' => .ok .nx c'
  | none => .bad) := rfl
@[simp] theorem x_dropS (m : M α) : dropS m c = M.bind m (fun _ => ret .nx) c := rfl
@[simp] theorem x_excM (k : Nat) (d : Dat) : (excM k d : M α) c = .exc k d c := rfl
@[simp] theorem x_heldM (i : Nat) : heldM i c = (match held i c with
  | some l => .ok l c
  | none => .bad) := rfl
@[simp] theorem x_wrM (i : Nat) (l : List Dat) : wrM i l c = .ok .none (wr i l c) := rfl
@[simp] theorem x_appV (i : Nat) (m : M Dat) : appV i m c = M.bind (heldM i) (fun _ => M.bind m fun d => M.bind (heldM i) fun l => if l.length < 100000 then wrM i (l ++ [d]) else bad) c := rfl
@[simp] theorem x_extV (i : Nat) (m : M Row) : extV i m c = M.bind (heldM i) (fun _ => M.bind m fun k => M.bind (heldM i) fun l => if k.1 = false ∧ l.length < 100000 ∧ k.2.length < 100000 then wrM i (l ++ k.2) else bad) c := rfl
@[simp] theorem x_addI (i j : Int) : addI (.int i) (.int j) = ret (.int (i + j)) := rfl
@[simp] theorem x_subI (i j : Int) : subI (.int i) (.int j) = ret (.int (i - j)) := rfl
@[simp] theorem x_ltI (i j : Int) : ltI (.int i) (.int j) = ret (.bool (decide (i < j))) := rfl
@[simp] theorem x_leI (i j : Int) : leI (.int i) (.int j) = ret (.bool (decide (i ≤ j))) := rfl
@[simp] theorem x_gtI (i j : Int) : gtI (.int i) (.int j) = ret (.bool (decide (j < i))) := rfl
@[simp] theorem x_geI (i j : Int) : geI (.int i) (.int j) = ret (.bool (decide (j ≤ i))) := rfl
@[simp] theorem x_isi (T : String) (d : Dat) : isiR T d = ret (.bool (isTy d T)) := rfl
theorem x_catT (a b : List Dat) (ha : a.length ≤ 100000) (hb : b.length ≤ 100000) : catD (.tuple a) (.tuple b) = ret (.sh (.tuple (a ++ b))) := by
  unfold catD
  simp [many, ha, hb]
theorem x_catL (a b : List Dat) (ha : a.length ≤ 100000) (hb : b.length ≤ 100000) : catD (.list a) (.list b) = ret (.fr (a ++ b)) := by
  unfold catD
  simp [many, ha, hb]
theorem sh_int (i : Int) : SeqAt.shaped (.int i) = true := rfl
@[simp] theorem x_eqI (i j : Int) : eqD (.int i) (.int j) = ret (.bool (i == j)) := rfl
@[simp] theorem x_neI (i j : Int) : neD (.int i) (.int j) = ret (.bool (!(i == j))) := rfl
@[simp] theorem x_runP (n : Nat) (m : M Ctl) (ds : List Dat) : runP n m ds = (match m ⟨initR n ds, ⟨[], [], 0⟩⟩ with
  | .ok .nx _ => .ok (.sh .none)
  | .ok (.rt v) _ => .ok v
  | .ok _ _ => .bad
  | .exc k d _ => .exc k d
  | .bad => .bad) := rfl
@[simp] theorem x_initR (n : Nat) (ds : List Dat) : initR n ds = ds.map Sl.sh ++ List.replicate (n - ds.length) Sl.no := rfl
end
/-- a comprehension whose parts keep what is around, with a test -/
theorem lcL_sift {b : Dat → Cfg → Option Cfg} {mt : M Bool} {me : M Dat} {vs : List Nat} {t : Dat → Bool} {f : Dat → Dat} {c : Cfg} : ∀ {items acc : List Dat}, (∀ d ∈ items, ∃ c1 c2 c3, b d c = some c1 ∧ mt c1 = .ok (t d) c2 ∧ (t d = true → me c2 = .ok (f d) c3 ∧ { c3 with r := clr vs c3.r } = c) ∧ (t d = false → { c2 with r := clr vs c2.r } = c)) → acc.length + items.length ≤ 100000 →
    lcL b mt me vs items acc c = .ok (acc ++ (items.filter t).map f) c
  | [], acc, _, _ => by
    simp [lcL]
  | d :: ds, acc, h, hl => by
    obtain ⟨c1, c2, c3, e1, e2, e3, e4⟩ := h d List.mem_cons_self
    rw [List.length_cons] at hl
    have h' := fun x hx => h x (List.mem_cons_of_mem d hx)
    unfold lcL
    simp only [e1, e2]
    cases ht : t d with
    | true =>
      obtain ⟨e5, e6⟩ := e3 ht
      simp only [e5]
      rw [if_pos (by omega), e6, lcL_sift h' (by rw [List.length_append, List.length_singleton]; omega), List.filter_cons, ht, if_pos rfl, List.map_cons, List.append_assoc]
      rfl
    | false =>
      simp only [e4 ht]
      rw [lcL_sift h' (by omega), List.filter_cons, ht]
      rfl
theorem lcM_sift {b : Dat → Cfg → Option Cfg} {mt : M Bool} {me : M Dat} {vs : List Nat} {t : Dat → Bool} {f : Dat → Dat} {c : Cfg} {items : List Dat} (q : vs.all (fun v => quiet c.r[v]?) = true)
    (h : ∀ d ∈ items, ∃ c1 c2 c3, b d { c with r := clr vs c.r } = some c1 ∧ mt c1 = .ok (t d) c2 ∧ (t d = true → me c2 = .ok (f d) c3 ∧ { c3 with r := clr vs c3.r } = { c with r := clr vs c.r }) ∧ (t d = false → { c2 with r := clr vs c2.r } = { c with r := clr vs c.r })) (hl : items.length ≤ 100000)
    (hb : back vs c.r (clr vs c.r) = c.r) : lcM vs b mt me items c = .ok (.fr ((items.filter t).map f)) c := by
  have z := lcL_sift (acc := []) h (by rw [List.length_nil]; omega)
  unfold lcM
  rw [if_pos q, z, List.nil_append]
  show Res.ok (RV.fr ((items.filter t).map f)) { r := back vs c.r (clr vs c.r), s := c.s } = _
  rw [hb]
theorem lcL_rel {R : Dat → Dat → Prop} {b : Dat → Cfg → Option Cfg} {me : M Dat} {vs : List Nat} {c : Cfg} (h : ∀ d y, R d y → ∃ c1 c3, b d c = some c1 ∧ me c1 = .ok y c3 ∧ { c3 with r := clr vs c3.r } = c) : ∀ {items ys acc : List Dat}, Paired R items ys → acc.length + items.length ≤ 100000 →
    lcL b (ret true) me vs items acc c = .ok (acc ++ ys) c
  | _, _, acc, .nil, _ => by
    rw [List.append_nil]
    rfl
  | _ :: ds, _ :: ys, acc, .cons (a := d) (b := y) r t, hl => by
    obtain ⟨c1, c3, e1, e2, e3⟩ := h d y r
    rw [List.length_cons] at hl
    have ih := lcL_rel h (items := ds) (ys := ys) (acc := acc ++ [y]) t (by rw [List.length_append, List.length_singleton]; omega)
    unfold lcL
    simp only [e1, ret, e2]
    rw [if_pos (by omega), e3, ih, List.append_assoc]
    rfl
theorem lcM_rel {R : Dat → Dat → Prop} {b : Dat → Cfg → Option Cfg} {me : M Dat} {vs : List Nat} {c : Cfg} {items ys : List Dat} (z : Paired R items ys) (h : ∀ d y, R d y → ∃ c1 c3, b d { c with r := clr vs c.r } = some c1 ∧ me c1 = .ok y c3 ∧ { c3 with r := clr vs c3.r } = { c with r := clr vs c.r })
    (q : vs.all (fun v => quiet c.r[v]?) = true) (hl : items.length ≤ 100000) (hb : back vs c.r (clr vs c.r) = c.r) : lcM vs b (ret true) me items c = .ok (.fr ys) c := by
  have z := lcL_rel (acc := []) h z (by rw [List.length_nil]; omega)
  unfold lcM
  rw [if_pos q, z, List.nil_append]
  show Res.ok (RV.fr ys) { r := back vs c.r (clr vs c.r), s := c.s } = _
  rw [hb]
end Pn

/-! pieces as a type of their own -/
namespace Pn
open L2 PyProof.Rows PySem.Spec PySem
inductive Pc where
  | stop | wait (p : Pc) | send (a b : Nat) (p : Pc) | take (a x : Nat) (p : Pc) | tst (w : Bool) (a b : Nat) (p : Pc)
  | two (p q : Pc) | bes (p q : Pc) | new (x : Nat) (p : Pc) | call (d : Nat) (ns : List Nat) | seven
abbrev dn (n : Nat) : Dat := .int (n : Int)
def enc : Pc → Dat
  | .stop => .tuple [.str "one", .tuple []]
  | .wait p => .tuple [.str "wait", enc p]
  | .send a b p => .tuple [.str "send", dn a, dn b, enc p]
  | .take a x p => .tuple [.str "take", dn a, dn x, enc p]
  | .tst true a b p => .tuple [.str "alike", dn a, dn b, enc p]
  | .tst false a b p => .tuple [.str "unlike", dn a, dn b, enc p]
  | .two p q => .tuple [.str "one", .tuple [enc p, enc q]]
  | .bes p q => .tuple [.str "beside", .tuple [enc p, enc q]]
  | .new x p => .tuple [.str "new", dn x, enc p]
  | .call d ns => .tuple [.str "call", dn d, .tuple (ns.map dn)]
  | .seven => .int 7
def kids : Pc → List (List Nat × Pc)
  | .wait p => [([1], p)]
  | .send _ _ p => [([3], p)]
  | .take _ _ p => [([3], p)]
  | .tst _ _ _ p => [([3], p)]
  | .two p q => [([1, 0], p), ([1, 1], q)]
  | .bes p q => [([1, 0], p), ([1, 1], q)]
  | .new _ p => [([2], p)]
  | _ => []
abbrev dp (l : List Nat) : Dat := .tuple (l.map dn)
def encK (q : List Nat × Pc) : Dat := .tuple [dp q.1, enc q.2]
/-- what a run tells, as data -/
def Is (r : PR) (d : Dat) : Prop := ∃ v, r = .ok v ∧ v.dat = d
theorem run_parts_below : ∀ p : Pc, p ≠ .seven → g_parts_below [enc p] = .ok (.fr ((kids p).map encK))
  | .stop, _ => by kernel_rfl
  | .wait p, _ => by kernel_rfl
  | .send a b p, _ => by kernel_rfl
  | .take a x p, _ => by kernel_rfl
  | .tst true a b p, _ => by kernel_rfl
  | .tst false a b p, _ => by kernel_rfl
  | .two p q, _ => by kernel_rfl
  | .bes p q, _ => by kernel_rfl
  | .new x p, _ => by kernel_rfl
  | .call d ns, _ => by kernel_rfl
  | .seven, h => absurd rfl h
theorem run_inside : ∀ p : Pc, p ≠ .seven → Is (g__law_inside [enc p]) (.list ((kids p).map encK))
  | .stop, _ => ⟨.fr _, by kernel_rfl, rfl⟩
  | .wait p, _ => ⟨.sh _, by kernel_rfl, rfl⟩
  | .send a b p, _ => ⟨.sh _, by kernel_rfl, rfl⟩
  | .take a x p, _ => ⟨.sh _, by kernel_rfl, rfl⟩
  | .tst true a b p, _ => ⟨.sh _, by kernel_rfl, rfl⟩
  | .tst false a b p, _ => ⟨.sh _, by kernel_rfl, rfl⟩
  | .two p q, _ => ⟨.fr _, by kernel_rfl, rfl⟩
  | .bes p q, _ => ⟨.fr _, by kernel_rfl, rfl⟩
  | .new x p, _ => ⟨.sh _, by kernel_rfl, rfl⟩
  | .call d ns, _ => ⟨.sh _, by kernel_rfl, rfl⟩
  | .seven, h => absurd rfl h
/-! ### depth -/
def dep : Pc → Nat
  | .wait p => dep p + 1
  | .send _ _ p => dep p + 1
  | .take _ _ p => dep p + 1
  | .tst _ _ _ p => dep p + 1
  | .two p q => max (dep p) (dep q) + 1
  | .bes p q => max (dep p) (dep q) + 1
  | .new _ p => dep p + 1
  | _ => 1
def noSev : Pc → Bool
  | .wait p => noSev p
  | .send _ _ p => noSev p
  | .take _ _ p => noSev p
  | .tst _ _ _ p => noSev p
  | .two p q => noSev p && noSev q
  | .bes p q => noSev p && noSev q
  | .new _ p => noSev p
  | .seven => false
  | _ => true
theorem noSev_ne {p : Pc} (h : noSev p = true) : p ≠ .seven := fun e => by rw [e] at h; cases h
theorem kids_noSev {p : Pc} (h : noSev p = true) : ∀ q ∈ kids p, noSev q.2 = true := by
  cases p <;> simp_all [kids, noSev]
/-- the parts, each with what is told of it -/
def kidR (g : List Dat → PR) (f : Pc → Dat) : Dat → Dat → Prop := fun d y => ∃ q : List Nat × Pc, d = encK q ∧ y = f q.2 ∧ Is (g [enc q.2]) (f q.2)
theorem kids_paired {g : List Dat → PR} {f : Pc → Dat} : ∀ (l : List (List Nat × Pc)), (∀ q ∈ l, Is (g [enc q.2]) (f q.2)) → Paired (kidR g f) (l.map encK) (l.map fun q => f q.2)
  | [], _ => .nil
  | q :: l, h => .cons ⟨q, rfl, rfl, h q List.mem_cons_self⟩ (kids_paired l fun x hx => h x (List.mem_cons_of_mem _ hx))
theorem Is.of {r : PR} {d : Dat} (h : r = .ok (.sh d)) : Is r d := ⟨_, h, rfl⟩
theorem frz_call {g : List Dat → PR} {n : Nat} {ms : M (List Dat)} {c c' : Cfg} {ds : List Dat} {d : Dat} (h : ms c = .ok ds c') (hn : ds.length = n) (hg : Is (g ds) d) : frz (callN n g ms) c = .ok d c' := by
  obtain ⟨v, e1, e2⟩ := hg
  simp [h, hn, e1, e2]
theorem intL_dn (l : List Nat) : intL (l.map dn) = some (l.map fun n : Nat => (n : Int)) := by
  have := intL_map (l.map fun n : Nat => (n : Int))
  rw [List.map_map] at this
  exact this
theorem topI_dn : ∀ (l : List Nat) (a : Nat), (l.map fun n : Nat => (n : Int)).foldl max (a : Int) = ((l.foldl max a : Nat) : Int)
  | [], a => rfl
  | b :: l, a => by
    rw [List.map_cons, List.foldl_cons, List.foldl_cons]
    have e : max (a : Int) (b : Int) = ((max a b : Nat) : Int) := by omega
    rw [e]
    exact topI_dn l (max a b)
theorem maxDf_dn (l : List Nat) (c : Cfg) : maxDfR 0 (false, l.map dn) c = .ok (dn (l.foldl max 0)) c := by
  unfold maxDfR
  simp only [intL_dn]
  cases l with
  | nil => rfl
  | cons a l =>
    show Res.ok (PyData.int (topI ((a : Int) :: l.map fun n : Nat => (n : Int)))) c = _
    rw [topI, topI_dn, List.foldl_cons, Nat.zero_max]
theorem dep_kids (p : Pc) : dep p = 1 + ((kids p).map fun q => dep q.2).foldl max 0 := by
  cases p <;> simp [dep, kids] <;> omega
theorem run_depth : ∀ (k : Nat) (p : Pc), noSev p = true → dep p ≤ k → g_depth_below k [enc p] = .ok (.sh (dn (dep p)))
  | 0, p, _, h => by cases p <;> simp [dep] at h
  | k + 1, p, hs, h => by
    have ih : ∀ q ∈ kids p, Is (g_depth_below k [enc q.2]) (dn (dep q.2)) := fun q hq => .of (run_depth k q.2 (kids_noSev hs q hq) (by
      cases p <;> simp [kids, dep] at hq h <;> (try (rcases hq with rfl | rfl)) <;> (try subst hq) <;> simp <;> omega))
    have z := kids_paired (f := fun q => dn (dep q)) (kids p) ih
    have lc : lcM [1, 2] (putTup 2 (putCons (put 1) (putCons (put 2) (putNil)))) (ret true) (frz (callN 1 (g_depth_below k) (aCons (rd 2) (aNil)))) ((kids p).map encK) ⟨[.sh (enc p), .no, .no], ⟨[], [], 0⟩⟩ = .ok (.fr ((kids p).map fun q => dn (dep q.2))) ⟨[.sh (enc p), .no, .no], ⟨[], [], 0⟩⟩ :=
      lcM_rel z (fun d y ⟨q, e1, e2, hq⟩ => ⟨⟨[.sh (enc p), .sh (dp q.1), .sh (enc q.2)], ⟨[], [], 0⟩⟩, ⟨[.sh (enc p), .sh (dp q.1), .sh (enc q.2)], ⟨[], [], 0⟩⟩, by rw [e1]; rfl, by rw [e2]; exact frz_call rfl rfl hq, rfl⟩) rfl (by cases p <;> simp [kids]) rfl
    have mx : ∀ c, maxDfR 0 (false, (kids p).map fun q => dn (dep q.2)) c = .ok (dn (((kids p).map fun q => dep q.2).foldl max 0)) c := fun c => by
      have e : ((kids p).map fun q => dn (dep q.2)) = ((kids p).map fun q => dep q.2).map dn := by rw [List.map_map]; rfl
      rw [e]
      exact maxDf_dn _ c
    show runP 3 (m_depth_below (g_depth_below k)) [enc p] = _
    simp [m_depth_below, run_parts_below p (noSev_ne hs), lc, mx]
    rw [dep_kids p]
    omega
theorem kid_dep {p : Pc} {k : Nat} (h : dep p ≤ k + 1) : ∀ q ∈ kids p, dep q.2 ≤ k := fun q hq => by
  cases p <;> simp [kids, dep] at hq h <;> (try (rcases hq with rfl | rfl)) <;> (try subst hq) <;> simp <;> omega
theorem run_ldeep : ∀ (k : Nat) (p : Pc), noSev p = true → dep p ≤ k → g__law_deep k [enc p] = .ok (.sh (dn (dep p)))
  | 0, p, _, h => by cases p <;> simp [dep] at h
  | k + 1, p, hs, h => by
    have ih : ∀ q ∈ kids p, Is (g__law_deep k [enc q.2]) (dn (dep q.2)) := fun q hq => .of (run_ldeep k q.2 (kids_noSev hs q hq) (kid_dep h q hq))
    have z := kids_paired (f := fun q => dn (dep q)) (kids p) ih
    have lc : lcM [1, 2] (putTup 2 (putCons (put 1) (putCons (put 2) (putNil)))) (ret true) (frz (callN 1 (g__law_deep k) (aCons (rd 2) (aNil)))) ((kids p).map encK) ⟨[.sh (enc p), .no, .no], ⟨[], [], 0⟩⟩ = .ok (.fr ((kids p).map fun q => dn (dep q.2))) ⟨[.sh (enc p), .no, .no], ⟨[], [], 0⟩⟩ :=
      lcM_rel z (fun d y ⟨q, e1, e2, hq⟩ => ⟨⟨[.sh (enc p), .sh (dp q.1), .sh (enc q.2)], ⟨[], [], 0⟩⟩, ⟨[.sh (enc p), .sh (dp q.1), .sh (enc q.2)], ⟨[], [], 0⟩⟩, by rw [e1]; rfl, by rw [e2]; exact frz_call rfl rfl hq, rfl⟩) rfl (by cases p <;> simp [kids]) rfl
    have mx : ∀ c, maxR (false, PyData.int 0 :: (kids p).map fun q => dn (dep q.2)) c = .ok (dn (((kids p).map fun q => dep q.2).foldl max 0)) c := fun c => by
      have e : (PyData.int 0 :: (kids p).map fun q => dn (dep q.2)) = (0 :: (kids p).map fun q => dep q.2).map dn := by rw [List.map_cons, List.map_map]; rfl
      rw [e]
      unfold maxR
      simp only [intL_dn]
      show Res.ok (PyData.int (topI ((0 : Int) :: ((kids p).map fun q => dep q.2).map fun n : Nat => (n : Int)))) c = _
      rw [topI]
      exact congrArg (fun z => Res.ok (PyData.int z) c) (topI_dn _ 0)
    have len : ((kids p).map fun q => dn (dep q.2)).length ≤ 100000 := by cases p <;> simp [kids]
    have len2 : (kids p).length ≤ 100000 := by cases p <;> simp [kids]
    obtain ⟨v, e1, e2⟩ := run_inside p (noSev_ne hs)
    show runP 3 (m__law_deep (g__law_deep k)) [enc p] = _
    simp [m__law_deep, e1, e2, lc]
    rw [x_catL _ _ (by simp) len]
    simp [mx]
    rw [dep_kids p]
    omega
/-! ### free names -/
def fv : Pc → List Int
  | .stop => upI []
  | .wait p => upI (fv p)
  | .send a b p => upI ((a : Int) :: (b : Int) :: fv p)
  | .take a x p => upI ((a : Int) :: (fv p).filter (fun y => !(y == (x : Int))))
  | .tst _ a b p => upI ((a : Int) :: (b : Int) :: fv p)
  | .two p q => upI (fv p ++ fv q)
  | .bes p q => upI (fv p ++ fv q)
  | .new x p => upI ((fv p).filter (fun y => !(y == (x : Int))))
  | .call _ ns => upI (ns.map fun n : Nat => (n : Int))
  | .seven => []
theorem upI_len_le (l : List Int) : (upI l).length ≤ l.length := by
  have ins : ∀ (x : Int) (m : List Int), (insI x m).length ≤ m.length + 1 := by
    intro x m
    induction m with
    | nil => simp [insI]
    | cons y m ih =>
      unfold insI
      split
      · simp
      · split <;> simp <;> omega
  induction l with
  | nil => simp [upI]
  | cons x l ih =>
    have := ins x (upI l)
    simp only [upI, List.length_cons]
    omega
def sz : Pc → Nat
  | .wait p => sz p + 1
  | .send _ _ p => sz p + 2
  | .take _ _ p => sz p + 2
  | .tst _ _ _ p => sz p + 2
  | .two p q => sz p + sz q + 1
  | .bes p q => sz p + sz q + 1
  | .new _ p => sz p + 1
  | .call _ ns => ns.length + 1
  | _ => 1
theorem fv_len (p : Pc) : (fv p).length ≤ sz p := by
  have fl : ∀ (l : List Int) (x : Int), (l.filter (fun y => !(y == x))).length ≤ l.length := fun l x => List.length_filter_le _ _
  induction p with
  | stop => simp [fv, upI, sz]
  | seven => simp [fv, sz]
  | call d ns => have := upI_len_le (ns.map fun n : Nat => (n : Int)); simp [fv, sz] at *; omega
  | wait p ih => have := upI_len_le (fv p); simp only [fv, sz]; omega
  | send a b p ih => have := upI_len_le ((a : Int) :: (b : Int) :: fv p); simp only [fv, sz, List.length_cons] at *; omega
  | tst w a b p ih => have := upI_len_le ((a : Int) :: (b : Int) :: fv p); simp only [fv, sz, List.length_cons] at *; omega
  | take a x p ih => have := upI_len_le ((a : Int) :: (fv p).filter (fun y => !(y == (x : Int)))); have := fl (fv p) x; simp only [fv, sz, List.length_cons] at *; omega
  | new x p ih => have := upI_len_le ((fv p).filter (fun y => !(y == (x : Int)))); have := fl (fv p) x; simp only [fv, sz] at *; omega
  | two p q ih ih2 => have := upI_len_le (fv p ++ fv q); simp only [fv, sz, List.length_append] at *; omega
  | bes p q ih ih2 => have := upI_len_le (fv p ++ fv q); simp only [fv, sz, List.length_append] at *; omega
abbrev lints (l : List Int) : List Dat := l.map PyData.int
theorem setSort_ints (b : Bool) (l : List Int) (c : Cfg) (h : l.length < 64) : setSortR (b, lints l) c = .ok (.fr (lints (upI l))) c := by
  unfold setSortR
  simp only [intL_map]
  rw [if_pos h]
  rfl
/-- names that are not a certain one -/
theorem lc_ne {i : Nat} {mb : M Dat} {d : Dat} {l : List Int} {t : Int → Bool} {c : Cfg} (h5 : c.r[i]? = some .no) (hb : ∀ x : Int, mb { c with r := (clr [i] c.r).set i (.sh (.int x)) } = .ok d { c with r := (clr [i] c.r).set i (.sh (.int x)) }) (ht : ∀ x : Int, neD (.int x) d = ret (.bool (t x))) (hl : l.length ≤ 100000)
    (hk : back [i] c.r (clr [i] c.r) = c.r) : lcM [i] (put i) (toB (m2 neD (rd i) mb)) (rd i) (lints l) c = .ok (.fr (lints (l.filter t))) c := by
  have hi : i < c.r.length := (List.getElem?_eq_some_iff.mp h5).1
  have hc : (clr [i] c.r)[i]? = some .no := by
    show (c.r.set i .no)[i]? = _
    rw [List.getElem?_set_self hi]
  have e : (lints l).filter (fun d => match d with | .int x => t x | _ => false) = lints (l.filter t) := by
    induction l with
    | nil => rfl
    | cons x l ih =>
      have ih := ih (by simp at hl; omega)
      show (PyData.int x :: lints l).filter _ = _
      (rw [List.filter_cons, List.filter_cons])
      cases ht2 : t x with
      | true => simp only [ht2, if_true]; rw [ih]; rfl
      | false => simp only [ht2]; rw [if_neg (by decide), if_neg (by decide), ih]
  have z := lcM_sift (b := put i) (mt := toB (m2 neD (rd i) mb)) (me := rd i) (vs := [i]) (t := fun d => match d with | .int x => t x | _ => false) (f := fun d => d) (c := c) (items := lints l) (by simp [h5, quiet]) (fun d hd => by
    obtain ⟨x, _, rfl⟩ := List.mem_map.mp hd
    have hs : ((clr [i] c.r).set i (Sl.sh (PyData.int x)))[i]? = some (.sh (.int x)) := List.getElem?_set_self (by rw [clr_len]; exact hi)
    have hcl : clr [i] ((clr [i] c.r).set i (Sl.sh (PyData.int x))) = clr [i] c.r := by
      show ((c.r.set i .no).set i _).set i .no = c.r.set i .no
      rw [List.set_set, List.set_set]
    refine ⟨{ c with r := (clr [i] c.r).set i (.sh (.int x)) }, { c with r := (clr [i] c.r).set i (.sh (.int x)) }, { c with r := (clr [i] c.r).set i (.sh (.int x)) }, ?_, ?_, fun _ => ⟨?_, ?_⟩, fun _ => ?_⟩
    · simp [hc]
    · simp [hs, hb x, ht x]
    · simp [hs]
    · rw [hcl]
    · rw [hcl]) (by rw [List.length_map]; exact hl) hk
  rw [z, List.map_id'', e]
  exact fun _ => rfl
end Pn

namespace Pn
open L2 PyProof.Rows PySem.Spec PySem
def ownN : Pc → List Nat
  | .send a b _ => [a, b]
  | .take a _ _ => [a]
  | .tst _ a b _ => [a, b]
  | .call _ ns => ns
  | _ => []
def bnd : Pc → Dat
  | .take _ x _ => dn x
  | .new x _ => dn x
  | _ => .none
theorem run_own : ∀ p : Pc, p ≠ .seven → g_own_names [enc p] = .ok (.sh (.tuple ((ownN p).map dn)))
  | .stop, _ => by kernel_rfl
  | .wait p, _ => by kernel_rfl
  | .send a b p, _ => by kernel_rfl
  | .take a x p, _ => by kernel_rfl
  | .tst true a b p, _ => by kernel_rfl
  | .tst false a b p, _ => by kernel_rfl
  | .two p q, _ => by kernel_rfl
  | .bes p q, _ => by kernel_rfl
  | .new x p, _ => by kernel_rfl
  | .call d ns, _ => by kernel_rfl
  | .seven, h => absurd rfl h
theorem run_bnd : ∀ p : Pc, p ≠ .seven → g_bound_name [enc p] = .ok (.sh (bnd p))
  | .stop, _ => by kernel_rfl
  | .wait p, _ => by kernel_rfl
  | .send a b p, _ => by kernel_rfl
  | .take a x p, _ => by kernel_rfl
  | .tst true a b p, _ => by kernel_rfl
  | .tst false a b p, _ => by kernel_rfl
  | .two p q, _ => by kernel_rfl
  | .bes p q, _ => by kernel_rfl
  | .new x p, _ => by kernel_rfl
  | .call d ns, _ => by kernel_rfl
  | .seven, h => absurd rfl h
/-- the row of the names that a piece binds -/
def bnds (p : Pc) : Dat := match bnd p with
  | .int x => .tuple [.int x]
  | _ => .tuple []
theorem run_bnds : ∀ p : Pc, p ≠ .seven → g_bound_names [enc p] = .ok (.sh (bnds p))
  | .stop, _ => by kernel_rfl
  | .wait p, _ => by kernel_rfl
  | .send a b p, _ => by kernel_rfl
  | .take a x p, _ => by kernel_rfl
  | .tst true a b p, _ => by kernel_rfl
  | .tst false a b p, _ => by kernel_rfl
  | .two p q, _ => by kernel_rfl
  | .bes p q, _ => by kernel_rfl
  | .new x p, _ => by kernel_rfl
  | .call d ns, _ => by kernel_rfl
  | .seven, h => absurd rfl h
/-- what is left of a part's free names -/
def keepB : Dat → Int → Bool
  | .int i, x => !(x == i)
  | _, _ => true
theorem nin_one (x y : Int) (b : Bool) : inR true (.int x) (b, [.int y]) = ret (.bool (!(x == y))) := by
  have e : inF (.int x) [.int y] = (x == y) := by
    show (decide (y = x) || false) = _
    rw [Bool.or_false, Bool.eq_iff_iff]
    simp
    exact ⟨fun h => h.symm, fun h => h.symm⟩
  show ret (PyData.bool (!inF (.int x) [.int y])) = _
  rw [e]
theorem nin_bnds (p : Pc) (x : Int) : ∃ r, bnds p = .tuple r ∧ inR true (.int x) (true, r) = ret (.bool (keepB (bnd p) x)) := by
  cases p <;> first | exact ⟨_, rfl, nin_one x _ _⟩ | exact ⟨_, rfl, rfl⟩
theorem filt_all (l : List Int) : l.filter (fun _ => true) = l := by induction l <;> simp_all
theorem keepB_none : keepB .none = fun _ => true := by
  funext x
  rfl
theorem keepB_dn (n : Nat) : keepB (dn n) = fun y => !(y == (n : Int)) := by
  funext x
  rfl
def fvB (p : Pc) : List Int := (ownN p).map (fun n : Nat => (n : Int)) ++ (kids p).flatMap fun q => (fv q.2).filter (keepB (bnd p))
theorem fv_eq : ∀ p : Pc, p ≠ .seven → fv p = upI (fvB p)
  | .stop, _ => rfl
  | .wait p, _ => by simp [fv, fvB, ownN, kids, bnd, keepB_none, keepB_dn, filt_all]
  | .send a b p, _ => by simp [fv, fvB, ownN, kids, bnd, keepB_none, keepB_dn, filt_all]
  | .take a x p, _ => by simp [fv, fvB, ownN, kids, bnd, keepB_none, keepB_dn, filt_all]
  | .tst w a b p, _ => by simp [fv, fvB, ownN, kids, bnd, keepB_none, keepB_dn, filt_all]
  | .two p q, _ => by simp [fv, fvB, ownN, kids, bnd, keepB_none, keepB_dn, filt_all]
  | .bes p q, _ => by simp [fv, fvB, ownN, kids, bnd, keepB_none, keepB_dn, filt_all]
  | .new x p, _ => by simp [fv, fvB, ownN, kids, bnd, keepB_none, keepB_dn, filt_all]
  | .call d ns, _ => by simp [fv, fvB, ownN, kids, bnd, keepB_none, keepB_dn, filt_all]
  | .seven, h => absurd rfl h
theorem kid_sz {p : Pc} {n : Nat} (h : sz p ≤ n + 1) : ∀ q ∈ kids p, sz q.2 ≤ n := fun q hq => by
  cases p <;> simp [kids, sz] at hq h <;> (try (rcases hq with rfl | rfl)) <;> (try subst hq) <;> simp <;> omega
theorem fvB_len (p : Pc) : (fvB p).length ≤ sz p := by
  have fl : ∀ (t : Int → Bool) (q : Pc), ((fv q).filter t).length ≤ sz q := fun t q => Nat.le_trans (List.length_filter_le _ _) (fv_len q)
  cases p with
  | wait p => have := fl (keepB .none) p; simp [fvB, ownN, kids, bnd, sz] at *; omega
  | send a b p => have := fl (keepB .none) p; simp [fvB, ownN, kids, bnd, sz] at *; omega
  | take a x p => have := fl (keepB (dn x)) p; simp [fvB, ownN, kids, bnd, sz] at *; omega
  | tst w a b p => have := fl (keepB .none) p; simp [fvB, ownN, kids, bnd, sz] at *; omega
  | two p q => have := fl (keepB .none) p; have := fl (keepB .none) q; simp [fvB, ownN, kids, bnd, sz] at *; omega
  | bes p q => have := fl (keepB .none) p; have := fl (keepB .none) q; simp [fvB, ownN, kids, bnd, sz] at *; omega
  | new x p => have := fl (keepB (dn x)) p; simp [fvB, ownN, kids, bnd, sz] at *; omega
  | call d ns => simp [fvB, ownN, kids, sz]
  | stop => simp [fvB, ownN, kids, sz]
  | seven => simp [fvB, ownN, kids, sz]
theorem lc_nin {i : Nat} {mb : M Row} {r : Row} {l : List Int} {t : Int → Bool} {c : Cfg} (h5 : c.r[i]? = some .no) (hb : ∀ x : Int, mb { c with r := (clr [i] c.r).set i (.sh (.int x)) } = .ok r { c with r := (clr [i] c.r).set i (.sh (.int x)) }) (ht : ∀ x : Int, inR true (.int x) r = ret (.bool (t x))) (hl : l.length ≤ 100000)
    (hk : back [i] c.r (clr [i] c.r) = c.r) : lcM [i] (put i) (toB (inM true (rd i) mb)) (rd i) (lints l) c = .ok (.fr (lints (l.filter t))) c := by
  have hi : i < c.r.length := (List.getElem?_eq_some_iff.mp h5).1
  have hc : (clr [i] c.r)[i]? = some .no := by
    show (c.r.set i .no)[i]? = _
    rw [List.getElem?_set_self hi]
  have e : (lints l).filter (fun d => match d with | .int x => t x | _ => false) = lints (l.filter t) := by
    induction l with
    | nil => rfl
    | cons x l ih =>
      have ih := ih (by simp at hl; omega)
      show (PyData.int x :: lints l).filter _ = _
      (rw [List.filter_cons, List.filter_cons])
      cases ht2 : t x with
      | true => simp only [ht2, if_true]; rw [ih]; rfl
      | false => simp only [ht2]; rw [if_neg (by decide), if_neg (by decide), ih]
  have z := lcM_sift (b := put i) (mt := toB (inM true (rd i) mb)) (me := rd i) (vs := [i]) (t := fun d => match d with | .int x => t x | _ => false) (f := fun d => d) (c := c) (items := lints l) (by simp [h5, quiet]) (fun d hd => by
    obtain ⟨x, _, rfl⟩ := List.mem_map.mp hd
    have hs : ((clr [i] c.r).set i (Sl.sh (PyData.int x)))[i]? = some (.sh (.int x)) := List.getElem?_set_self (by rw [clr_len]; exact hi)
    have hcl : clr [i] ((clr [i] c.r).set i (Sl.sh (PyData.int x))) = clr [i] c.r := by
      show ((c.r.set i .no).set i _).set i .no = c.r.set i .no
      rw [List.set_set, List.set_set]
    refine ⟨{ c with r := (clr [i] c.r).set i (.sh (.int x)) }, { c with r := (clr [i] c.r).set i (.sh (.int x)) }, { c with r := (clr [i] c.r).set i (.sh (.int x)) }, ?_, ?_, fun _ => ⟨?_, ?_⟩, fun _ => ?_⟩
    · simp [hc]
    · simp [hs, hb x, ht x]
    · simp [hs]
    · rw [hcl]
    · rw [hcl]) (by rw [List.length_map]; exact hl) hk
  rw [z, List.map_id'', e]
  exact fun _ => rfl
abbrev freeC (X : Dat) (B : List Dat) (l : List Dat) (a b : Sl) : Cfg := ⟨[.sh X, .own l, .sh (.tuple B), a, b, .no], ⟨[], [], 0⟩⟩
/-- the walk over the parts -/
theorem free_for {rec : List Dat → PR} {X : Dat} {B : List Dat} {t : Int → Bool} (ht : ∀ x : Int, inR true (.int x) (true, B) = ret (.bool (t x))) : ∀ (qs : List (List Nat × Pc)) (l : List Int) (a b : Sl), (∀ q ∈ qs, rec [enc q.2] = .ok (.sh (.tuple (lints (fv q.2)))) ∧ (fv q.2).length ≤ 1000) → l.length + 1000 * qs.length ≤ 90000 → (a = .no ∨ ∃ d, a = .sh d) → (b = .no ∨ ∃ d, b = .sh d) →
    ∃ a' b', forL (putTup 2 (putCons (put 3) (putCons (put 4) (putNil)))) (dropS (extV 1 (rowX (M.bind (M.bind (frz (callN 1 rec (aCons (rd 4) (aNil)))) itT) (lcM [5] (put 5) (toB (inM true (rd 5) (rowVar 2))) (rd 5)))))) (qs.map encK) (freeC X B (lints l) a b) = .ok .nx (freeC X B (lints (l ++ qs.flatMap fun q => (fv q.2).filter t)) a' b')
  | [], l, a, b, _, _, _, _ => ⟨a, b, by simp⟩
  | q :: qs, l, a, b, h, hl, ha, hb => by
    obtain ⟨h1, h2⟩ := h q List.mem_cons_self
    have fl : ((fv q.2).filter t).length ≤ 1000 := Nat.le_trans (List.length_filter_le _ _) h2
    rw [List.length_cons] at hl
    obtain ⟨a', b', ih⟩ := free_for (rec := rec) (X := X) (B := B) ht qs (l ++ (fv q.2).filter t) (.sh (dp q.1)) (.sh (enc q.2)) (fun x hx => h x (List.mem_cons_of_mem _ hx)) (by rw [List.length_append]; omega) (.inr ⟨_, rfl⟩) (.inr ⟨_, rfl⟩)
    refine ⟨a', b', ?_⟩
    have lc : lcM [5] (put 5) (toB (inM true (rd 5) (rowVar 2))) (rd 5) (lints (fv q.2)) (freeC X B (lints l) (.sh (dp q.1)) (.sh (enc q.2))) = .ok (.fr (lints ((fv q.2).filter t))) (freeC X B (lints l) (.sh (dp q.1)) (.sh (enc q.2))) :=
      lc_nin (r := (true, B)) rfl (fun x => rfl) ht (by omega) rfl
    have e : lints l ++ lints ((fv q.2).filter t) = lints (l ++ (fv q.2).filter t) := by rw [← List.map_append]
    rw [List.flatMap_cons, ← List.append_assoc]
    have hb2 : putTup 2 (putCons (put 3) (putCons (put 4) (putNil))) (encK q) (freeC X B (lints l) a b) = some (freeC X B (lints l) (.sh (dp q.1)) (.sh (enc q.2))) := by
      rcases ha with rfl | ⟨d, rfl⟩ <;> rcases hb with rfl | ⟨d2, rfl⟩ <;> rfl
    have hbody : dropS (extV 1 (rowX (M.bind (M.bind (frz (callN 1 rec (aCons (rd 4) (aNil)))) itT) (lcM [5] (put 5) (toB (inM true (rd 5) (rowVar 2))) (rd 5))))) (freeC X B (lints l) (.sh (dp q.1)) (.sh (enc q.2))) = .ok .nx (freeC X B (lints (l ++ (fv q.2).filter t)) (.sh (dp q.1)) (.sh (enc q.2))) := by
      have e1 : (lints l).length < 100000 := by rw [List.length_map]; omega
      have e2 : (lints ((fv q.2).filter t)).length < 100000 := by rw [List.length_map]; omega
      have e3 : rowX (M.bind (M.bind (frz (callN 1 rec (aCons (rd 4) (aNil)))) itT) (lcM [5] (put 5) (toB (inM true (rd 5) (rowVar 2))) (rd 5))) (freeC X B (lints l) (.sh (dp q.1)) (.sh (enc q.2))) = .ok (false, lints ((fv q.2).filter t)) (freeC X B (lints l) (.sh (dp q.1)) (.sh (enc q.2))) := by
        simp [h1, lc]
      rw [List.length_map] at e1 e2
      simp only [x_dropS, x_bind, x_extV, x_heldM, held, List.getElem?_cons_succ, List.getElem?_cons_zero, e3]
      simp [e1, e2, wr]
    rw [List.map_cons, x_forC, hb2]
    simp only [hbody]
    exact ih
theorem run_free : ∀ (k : Nat) (p : Pc), noSev p = true → dep p ≤ k → sz p ≤ 63 → g_free_of k [enc p] = .ok (.sh (.tuple (lints (fv p))))
  | 0, p, _, h, _ => by cases p <;> simp [dep] at h
  | k + 1, p, hs, h, hz => by
    have ne := noSev_ne hs
    have ih : ∀ q ∈ kids p, g_free_of k [enc q.2] = .ok (.sh (.tuple (lints (fv q.2)))) ∧ (fv q.2).length ≤ 1000 := fun q hq =>
      ⟨run_free k q.2 (kids_noSev hs q hq) (kid_dep h q hq) (by have := kid_sz (n := 62) (by omega) q hq; omega), by have := fv_len q.2; have := kid_sz (n := 62) (by omega) q hq; omega⟩
    have own : (ownN p).length ≤ 63 := by cases p <;> simp [ownN, sz] at * <;> omega
    have k2 : (kids p).length ≤ 2 := by cases p <;> simp [kids]
    obtain ⟨B, eB, hB⟩ : ∃ B, bnds p = .tuple B ∧ ∀ x : Int, inR true (.int x) (true, B) = ret (.bool (keepB (bnd p) x)) := by
      obtain ⟨B, h1, _⟩ := nin_bnds p 0
      refine ⟨B, h1, fun x => ?_⟩
      obtain ⟨B2, h3, h4⟩ := nin_bnds p x
      rw [h1] at h3
      cases h3
      exact h4
    have rb : g_bound_names [enc p] = .ok (.sh (.tuple B)) := by rw [run_bnds p ne, eB]
    obtain ⟨a', b', fo⟩ := free_for (X := enc p) (B := B) (t := keepB (bnd p)) hB (kids p) ((ownN p).map fun n : Nat => (n : Int)) .no .no ih (by rw [List.length_map]; omega) (.inl rfl) (.inl rfl)
    have eo : lints ((ownN p).map fun n : Nat => (n : Int)) = (ownN p).map dn := by show List.map PyData.int _ = _; rw [List.map_map]; rfl
    rw [eo] at fo
    have so := fun c => setSort_ints false (fvB p) c (by have := fvB_len p; omega)
    show runP 6 (m_free_of (g_free_of k)) [enc p] = _
    have fo2 : forL (putTup 2 (putCons (put 3) (putCons (put 4) putNil))) (dropS (extV 1 (rowX (M.bind (M.bind (frz (callN 1 (g_free_of k) (aCons (rd 4) aNil))) itT) (lcM [5] (put 5) (toB (inM true (rd 5) (rowVar 2))) (rd 5)))))) ((kids p).map encK) ⟨[.sh (enc p), .own ((ownN p).map dn), .sh (.tuple B), .no, .no, .no], ⟨[], [], 0⟩⟩ = .ok .nx (freeC (enc p) B (lints (fvB p)) a' b') := fo
    simp [m_free_of, run_own p ne, rb, run_parts_below p ne, fo2, so]
    rw [fv_eq p ne]
end Pn

namespace Pn
open L2 PyProof.Rows PySem.Spec PySem
@[simp] theorem q_send_call : eqD (.str "send") (.str "call") = ret (.bool false) := by kernel_rfl
@[simp] theorem q_send_new : eqD (.str "send") (.str "new") = ret (.bool false) := by kernel_rfl
@[simp] theorem q_send_take : eqD (.str "send") (.str "take") = ret (.bool false) := by kernel_rfl
@[simp] theorem q_send_one : eqD (.str "send") (.str "one") = ret (.bool false) := by kernel_rfl
@[simp] theorem q_send_wait : eqD (.str "send") (.str "wait") = ret (.bool false) := by kernel_rfl
@[simp] theorem q_send_beside : eqD (.str "send") (.str "beside") = ret (.bool false) := by kernel_rfl
@[simp] theorem q_take_call : eqD (.str "take") (.str "call") = ret (.bool false) := by kernel_rfl
@[simp] theorem q_take_new : eqD (.str "take") (.str "new") = ret (.bool false) := by kernel_rfl
@[simp] theorem q_take_take : eqD (.str "take") (.str "take") = ret (.bool true) := by kernel_rfl
@[simp] theorem q_take_one : eqD (.str "take") (.str "one") = ret (.bool false) := by kernel_rfl
@[simp] theorem q_take_wait : eqD (.str "take") (.str "wait") = ret (.bool false) := by kernel_rfl
@[simp] theorem q_take_beside : eqD (.str "take") (.str "beside") = ret (.bool false) := by kernel_rfl
@[simp] theorem q_wait_call : eqD (.str "wait") (.str "call") = ret (.bool false) := by kernel_rfl
@[simp] theorem q_wait_new : eqD (.str "wait") (.str "new") = ret (.bool false) := by kernel_rfl
@[simp] theorem q_wait_take : eqD (.str "wait") (.str "take") = ret (.bool false) := by kernel_rfl
@[simp] theorem q_wait_one : eqD (.str "wait") (.str "one") = ret (.bool false) := by kernel_rfl
@[simp] theorem q_wait_wait : eqD (.str "wait") (.str "wait") = ret (.bool true) := by kernel_rfl
@[simp] theorem q_wait_beside : eqD (.str "wait") (.str "beside") = ret (.bool false) := by kernel_rfl
@[simp] theorem q_alike_call : eqD (.str "alike") (.str "call") = ret (.bool false) := by kernel_rfl
@[simp] theorem q_alike_new : eqD (.str "alike") (.str "new") = ret (.bool false) := by kernel_rfl
@[simp] theorem q_alike_take : eqD (.str "alike") (.str "take") = ret (.bool false) := by kernel_rfl
@[simp] theorem q_alike_one : eqD (.str "alike") (.str "one") = ret (.bool false) := by kernel_rfl
@[simp] theorem q_alike_wait : eqD (.str "alike") (.str "wait") = ret (.bool false) := by kernel_rfl
@[simp] theorem q_alike_beside : eqD (.str "alike") (.str "beside") = ret (.bool false) := by kernel_rfl
@[simp] theorem q_unlike_call : eqD (.str "unlike") (.str "call") = ret (.bool false) := by kernel_rfl
@[simp] theorem q_unlike_new : eqD (.str "unlike") (.str "new") = ret (.bool false) := by kernel_rfl
@[simp] theorem q_unlike_take : eqD (.str "unlike") (.str "take") = ret (.bool false) := by kernel_rfl
@[simp] theorem q_unlike_one : eqD (.str "unlike") (.str "one") = ret (.bool false) := by kernel_rfl
@[simp] theorem q_unlike_wait : eqD (.str "unlike") (.str "wait") = ret (.bool false) := by kernel_rfl
@[simp] theorem q_unlike_beside : eqD (.str "unlike") (.str "beside") = ret (.bool false) := by kernel_rfl
@[simp] theorem q_one_call : eqD (.str "one") (.str "call") = ret (.bool false) := by kernel_rfl
@[simp] theorem q_one_new : eqD (.str "one") (.str "new") = ret (.bool false) := by kernel_rfl
@[simp] theorem q_one_take : eqD (.str "one") (.str "take") = ret (.bool false) := by kernel_rfl
@[simp] theorem q_one_one : eqD (.str "one") (.str "one") = ret (.bool true) := by kernel_rfl
@[simp] theorem q_one_wait : eqD (.str "one") (.str "wait") = ret (.bool false) := by kernel_rfl
@[simp] theorem q_one_beside : eqD (.str "one") (.str "beside") = ret (.bool false) := by kernel_rfl
@[simp] theorem q_beside_call : eqD (.str "beside") (.str "call") = ret (.bool false) := by kernel_rfl
@[simp] theorem q_beside_new : eqD (.str "beside") (.str "new") = ret (.bool false) := by kernel_rfl
@[simp] theorem q_beside_take : eqD (.str "beside") (.str "take") = ret (.bool false) := by kernel_rfl
@[simp] theorem q_beside_one : eqD (.str "beside") (.str "one") = ret (.bool false) := by kernel_rfl
@[simp] theorem q_beside_wait : eqD (.str "beside") (.str "wait") = ret (.bool false) := by kernel_rfl
@[simp] theorem q_beside_beside : eqD (.str "beside") (.str "beside") = ret (.bool true) := by kernel_rfl
@[simp] theorem q_new_call : eqD (.str "new") (.str "call") = ret (.bool false) := by kernel_rfl
@[simp] theorem q_new_new : eqD (.str "new") (.str "new") = ret (.bool true) := by kernel_rfl
@[simp] theorem q_new_take : eqD (.str "new") (.str "take") = ret (.bool false) := by kernel_rfl
@[simp] theorem q_new_one : eqD (.str "new") (.str "one") = ret (.bool false) := by kernel_rfl
@[simp] theorem q_new_wait : eqD (.str "new") (.str "wait") = ret (.bool false) := by kernel_rfl
@[simp] theorem q_new_beside : eqD (.str "new") (.str "beside") = ret (.bool false) := by kernel_rfl
@[simp] theorem q_call_call : eqD (.str "call") (.str "call") = ret (.bool true) := by kernel_rfl
@[simp] theorem q_call_new : eqD (.str "call") (.str "new") = ret (.bool false) := by kernel_rfl
@[simp] theorem q_call_take : eqD (.str "call") (.str "take") = ret (.bool false) := by kernel_rfl
@[simp] theorem q_call_one : eqD (.str "call") (.str "one") = ret (.bool false) := by kernel_rfl
@[simp] theorem q_call_wait : eqD (.str "call") (.str "wait") = ret (.bool false) := by kernel_rfl
@[simp] theorem q_call_beside : eqD (.str "call") (.str "beside") = ret (.bool false) := by kernel_rfl
@[simp] theorem n_send_x1 : inR false (.str "send") (true, [.str "send", .str "alike", .str "unlike"]) = ret (.bool true) := by kernel_rfl
@[simp] theorem n_send_tests : inR false (.str "send") (true, [.str "alike", .str "unlike"]) = ret (.bool false) := by kernel_rfl
@[simp] theorem n_send_pref : inR false (.str "send") (true, [.str "send", .str "take", .str "wait", .str "sends", .str "takes"]) = ret (.bool true) := by kernel_rfl
@[simp] theorem n_take_x1 : inR false (.str "take") (true, [.str "send", .str "alike", .str "unlike"]) = ret (.bool false) := by kernel_rfl
@[simp] theorem n_take_tests : inR false (.str "take") (true, [.str "alike", .str "unlike"]) = ret (.bool false) := by kernel_rfl
@[simp] theorem n_take_pref : inR false (.str "take") (true, [.str "send", .str "take", .str "wait", .str "sends", .str "takes"]) = ret (.bool true) := by kernel_rfl
@[simp] theorem n_wait_x1 : inR false (.str "wait") (true, [.str "send", .str "alike", .str "unlike"]) = ret (.bool false) := by kernel_rfl
@[simp] theorem n_wait_tests : inR false (.str "wait") (true, [.str "alike", .str "unlike"]) = ret (.bool false) := by kernel_rfl
@[simp] theorem n_wait_pref : inR false (.str "wait") (true, [.str "send", .str "take", .str "wait", .str "sends", .str "takes"]) = ret (.bool true) := by kernel_rfl
@[simp] theorem n_alike_x1 : inR false (.str "alike") (true, [.str "send", .str "alike", .str "unlike"]) = ret (.bool true) := by kernel_rfl
@[simp] theorem n_alike_tests : inR false (.str "alike") (true, [.str "alike", .str "unlike"]) = ret (.bool true) := by kernel_rfl
@[simp] theorem n_alike_pref : inR false (.str "alike") (true, [.str "send", .str "take", .str "wait", .str "sends", .str "takes"]) = ret (.bool false) := by kernel_rfl
@[simp] theorem n_unlike_x1 : inR false (.str "unlike") (true, [.str "send", .str "alike", .str "unlike"]) = ret (.bool true) := by kernel_rfl
@[simp] theorem n_unlike_tests : inR false (.str "unlike") (true, [.str "alike", .str "unlike"]) = ret (.bool true) := by kernel_rfl
@[simp] theorem n_unlike_pref : inR false (.str "unlike") (true, [.str "send", .str "take", .str "wait", .str "sends", .str "takes"]) = ret (.bool false) := by kernel_rfl
@[simp] theorem n_one_x1 : inR false (.str "one") (true, [.str "send", .str "alike", .str "unlike"]) = ret (.bool false) := by kernel_rfl
@[simp] theorem n_one_tests : inR false (.str "one") (true, [.str "alike", .str "unlike"]) = ret (.bool false) := by kernel_rfl
@[simp] theorem n_one_pref : inR false (.str "one") (true, [.str "send", .str "take", .str "wait", .str "sends", .str "takes"]) = ret (.bool false) := by kernel_rfl
@[simp] theorem n_beside_x1 : inR false (.str "beside") (true, [.str "send", .str "alike", .str "unlike"]) = ret (.bool false) := by kernel_rfl
@[simp] theorem n_beside_tests : inR false (.str "beside") (true, [.str "alike", .str "unlike"]) = ret (.bool false) := by kernel_rfl
@[simp] theorem n_beside_pref : inR false (.str "beside") (true, [.str "send", .str "take", .str "wait", .str "sends", .str "takes"]) = ret (.bool false) := by kernel_rfl
@[simp] theorem n_new_x1 : inR false (.str "new") (true, [.str "send", .str "alike", .str "unlike"]) = ret (.bool false) := by kernel_rfl
@[simp] theorem n_new_tests : inR false (.str "new") (true, [.str "alike", .str "unlike"]) = ret (.bool false) := by kernel_rfl
@[simp] theorem n_new_pref : inR false (.str "new") (true, [.str "send", .str "take", .str "wait", .str "sends", .str "takes"]) = ret (.bool false) := by kernel_rfl
@[simp] theorem n_call_x1 : inR false (.str "call") (true, [.str "send", .str "alike", .str "unlike"]) = ret (.bool false) := by kernel_rfl
@[simp] theorem n_call_tests : inR false (.str "call") (true, [.str "alike", .str "unlike"]) = ret (.bool false) := by kernel_rfl
@[simp] theorem n_call_pref : inR false (.str "call") (true, [.str "send", .str "take", .str "wait", .str "sends", .str "takes"]) = ret (.bool false) := by kernel_rfl
theorem upI_eq {l m : List Int} (h : ∀ x, x ∈ l ↔ x ∈ m) : upI l = upI m := up_only (upI_up l) (upI_up m) fun x => by rw [upI_mem, upI_mem, h x]
abbrev lfC (X : Dat) (l : List Dat) (a b : Sl) : Cfg := ⟨[.sh X, .sh (.list l), a, b, .no], ⟨[], [], 0⟩⟩
theorem lfree_for {rec : List Dat → PR} {X : Dat} : ∀ (qs : List (List Nat × Pc)) (l : List Int) (a b : Sl), (∀ q ∈ qs, rec [enc q.2] = .ok (.fr (lints (fv q.2))) ∧ (fv q.2).length ≤ 1000) → l.length + 1000 * qs.length ≤ 90000 → (a = .no ∨ ∃ d, a = .sh d) → (b = .no ∨ ∃ d, b = .sh d) →
    ∃ a' b', forL (putTup 2 (putCons (put 2) (putCons (put 3) (putNil)))) (M.bind (asx (frz (M.bind (rd 1) fun x => M.bind (frz (callN 1 rec (aCons (rd 3) (aNil)))) fun y => catD x y))) (asg 1)) (qs.map encK) (lfC X (lints l) a b) = .ok .nx (lfC X (lints (l ++ qs.flatMap fun q => fv q.2)) a' b')
  | [], l, a, b, _, _, _, _ => ⟨a, b, by simp⟩
  | q :: qs, l, a, b, h, hl, ha, hb => by
    obtain ⟨h1, h2⟩ := h q List.mem_cons_self
    rw [List.length_cons] at hl
    obtain ⟨a', b', ih⟩ := lfree_for (rec := rec) (X := X) qs (l ++ fv q.2) (.sh (dp q.1)) (.sh (enc q.2)) (fun x hx => h x (List.mem_cons_of_mem _ hx)) (by rw [List.length_append]; omega) (.inr ⟨_, rfl⟩) (.inr ⟨_, rfl⟩)
    refine ⟨a', b', ?_⟩
    rw [List.flatMap_cons, ← List.append_assoc]
    have hb2 : putTup 2 (putCons (put 2) (putCons (put 3) (putNil))) (encK q) (lfC X (lints l) a b) = some (lfC X (lints l) (.sh (dp q.1)) (.sh (enc q.2))) := by
      rcases ha with rfl | ⟨d, rfl⟩ <;> rcases hb with rfl | ⟨d2, rfl⟩ <;> rfl
    have hbody : M.bind (asx (frz (M.bind (rd 1) fun x => M.bind (frz (callN 1 rec (aCons (rd 3) (aNil)))) fun y => catD x y))) (asg 1) (lfC X (lints l) (.sh (dp q.1)) (.sh (enc q.2))) = .ok .nx (lfC X (lints (l ++ fv q.2)) (.sh (dp q.1)) (.sh (enc q.2))) := by
      simp [h1, x_catL (lints l) (lints (fv q.2)) (by rw [List.length_map]; omega) (by rw [List.length_map]; omega)]
    rw [List.map_cons, x_forC, hb2]
    simp only [hbody]
    exact ih
theorem ne_dn (x : Int) (b : Nat) : neD (.int x) (dn b) = ret (.bool (!(x == (b : Int)))) := rfl
theorem run_lfree : ∀ (k : Nat) (p : Pc), noSev p = true → dep p ≤ k → sz p ≤ 61 → g__law_free k [enc p] = .ok (.fr (lints (fv p)))
  | 0, p, _, h, _ => by cases p <;> simp [dep] at h
  | k + 1, p, hs, h, hz => by
    have ne := noSev_ne hs
    have ih : ∀ q ∈ kids p, g__law_free k [enc q.2] = .ok (.fr (lints (fv q.2))) ∧ (fv q.2).length ≤ 1000 := fun q hq =>
      ⟨run_lfree k q.2 (kids_noSev hs q hq) (kid_dep h q hq) (by have := kid_sz (n := 60) (by omega) q hq; omega), by have := fv_len q.2; have := kid_sz (n := 60) (by omega) q hq; omega⟩
    have k2 : (kids p).length ≤ 2 := by cases p <;> simp [kids]
    obtain ⟨a', b', fo⟩ := lfree_for (X := enc p) (kids p) [] .no .no ih (by simp; omega) (.inl rfl) (.inl rfl)
    rw [List.nil_append] at fo
    have fo2 : forL (putTup 2 (putCons (put 2) (putCons (put 3) putNil))) (M.bind (asx (frz (M.bind (rd 1) fun x => M.bind (frz (callN 1 (g__law_free k) (aCons (rd 3) aNil))) fun y => catD x y))) (asg 1)) ((kids p).map encK) ⟨[.sh (enc p), .sh (.list []), .no, .no, .no], ⟨[], [], 0⟩⟩ = .ok .nx (lfC (enc p) (lints ((kids p).flatMap fun q => fv q.2)) a' b') := fo
    obtain ⟨v, e1, e2⟩ := run_inside p ne
    show runP 5 (m__law_free (g__law_free k)) [enc p] = _
    cases p with
    | seven => exact absurd rfl ne
    | stop =>
      simp [m__law_free, e1, e2, fo2]
      have so : ∀ c, setSortR (false, ([] : List Dat)) c = .ok (.fr (lints (upI []))) c := fun c => setSort_ints false [] c (by simp)
      simp [enc, kids, so, fv]
    | wait p =>
      have so := fun c => setSort_ints false (fv p) c (by have := fv_len p; simp only [sz] at hz; omega)
      simp [m__law_free, e1, e2, fo2]
      simp [enc, kids, so, fv]
    | two p q =>
      have so := fun c => setSort_ints false (fv p ++ fv q) c (by have := fv_len p; have := fv_len q; simp only [sz] at hz; rw [List.length_append]; omega)
      simp only [lints, List.map_append] at so
      simp [m__law_free, e1, e2, fo2]
      simp [enc, kids, so, fv]
    | bes p q =>
      have so := fun c => setSort_ints false (fv p ++ fv q) c (by have := fv_len p; have := fv_len q; simp only [sz] at hz; rw [List.length_append]; omega)
      simp only [lints, List.map_append] at so
      simp [m__law_free, e1, e2, fo2]
      simp [enc, kids, so, fv]
    | send a b p =>
      have so := fun c => setSort_ints false (fv p ++ [(a : Int), (b : Int)]) c (by have := fv_len p; simp only [sz] at hz; simp; omega)
      simp only [lints, List.map_append, List.map_cons, List.map_nil] at so
      simp [m__law_free, e1, e2, fo2]
      simp [enc, kids, x_catL (lints (fv p)) [dn a, dn b] (by rw [List.length_map]; have := fv_len p; simp only [sz] at hz; omega) (by simp), so, fv]
      exact congrArg (List.map PyData.int) (upI_eq fun x => by simp only [List.mem_append, List.mem_cons, List.not_mem_nil, or_false]; constructor <;> rintro (h | h | h) <;> simp [h])
    | tst w a b p =>
      have so := fun c => setSort_ints false (fv p ++ [(a : Int), (b : Int)]) c (by have := fv_len p; simp only [sz] at hz; simp; omega)
      simp only [lints, List.map_append, List.map_cons, List.map_nil] at so
      simp [m__law_free, e1, e2, fo2]
      cases w
      · simp [enc, kids, x_catL (lints (fv p)) [dn a, dn b] (by rw [List.length_map]; have := fv_len p; simp only [sz] at hz; omega) (by simp), so, fv]
        exact congrArg (List.map PyData.int) (upI_eq fun x => by simp only [List.mem_append, List.mem_cons, List.not_mem_nil, or_false]; constructor <;> rintro (h | h | h) <;> simp [h])
      · simp [enc, kids, x_catL (lints (fv p)) [dn a, dn b] (by rw [List.length_map]; have := fv_len p; simp only [sz] at hz; omega) (by simp), so, fv]
        exact congrArg (List.map PyData.int) (upI_eq fun x => by simp only [List.mem_append, List.mem_cons, List.not_mem_nil, or_false]; constructor <;> rintro (h | h | h) <;> simp [h])
    | call d ns =>
      have em : ns.map dn = List.map PyData.int (ns.map fun n : Nat => (n : Int)) := by rw [List.map_map]; rfl
      have so : ∀ c, setSortR (false, ns.map dn) c = .ok (.fr (lints (upI (ns.map fun n : Nat => (n : Int))))) c := fun c => by
        rw [em]
        exact setSort_ints false (ns.map fun n : Nat => (n : Int)) c (by simp only [sz] at hz; rw [List.length_map]; omega)
      simp [m__law_free, e1, e2, fo2]
      simp [enc, kids, fv, so]
    | new x p =>
      have hl := fv_len p
      simp only [sz] at hz
      have lc : lcM [4] (put 4) (toB (m2 neD (rd 4) (ixD (rd 0) (ret (.int 1))))) (rd 4) (lints (fv p)) (lfC (.tuple [.str "new", dn x, enc p]) (lints (fv p)) a' b') = .ok (.fr (lints ((fv p).filter fun y => !(y == (x : Int))))) (lfC (.tuple [.str "new", dn x, enc p]) (lints (fv p)) a' b') :=
        lc_ne rfl (fun y => rfl) (fun y => ne_dn y x) (by omega) rfl
      have so := fun c => setSort_ints false ((fv p).filter fun y => !(y == (x : Int))) c (by have := List.length_filter_le (fun y => !(y == (x : Int))) (fv p); omega)
      simp [m__law_free, e1, e2, fo2]
      simp [enc, kids, lc, so, fv]
    | take a x p =>
      have hl := fv_len p
      simp only [sz] at hz
      have lc : lcM [4] (put 4) (toB (m2 neD (rd 4) (ixD (rd 0) (ret (.int 2))))) (rd 4) (lints (fv p)) (lfC (.tuple [.str "take", dn a, dn x, enc p]) (lints (fv p)) a' b') = .ok (.fr (lints ((fv p).filter fun y => !(y == (x : Int))))) (lfC (.tuple [.str "take", dn a, dn x, enc p]) (lints (fv p)) a' b') :=
        lc_ne rfl (fun y => rfl) (fun y => ne_dn y x) (by omega) rfl
      have fl := List.length_filter_le (fun y => !(y == (x : Int))) (fv p)
      have so := fun c => setSort_ints false ((a : Int) :: (fv p).filter fun y => !(y == (x : Int))) c (by rw [List.length_cons]; omega)
      simp only [lints, List.map_cons] at so
      have ct := x_catL [dn a] (lints ((fv p).filter fun y => !(y == (x : Int)))) (by simp) (by rw [List.length_map]; omega)
      simp [m__law_free, e1, e2, fo2]
      simp [enc, kids, lc, ct, so, fv]
end Pn

namespace Pn
open L2 PyProof.Rows PySem.Spec PySem
/-! ### the parts in the order of the walk -/
def lst : Pc → List Nat → List (List Nat × Pc)
  | .wait p, w => (w, .wait p) :: lst p (w ++ [1])
  | .send a b p, w => (w, .send a b p) :: lst p (w ++ [3])
  | .take a x p, w => (w, .take a x p) :: lst p (w ++ [3])
  | .tst v a b p, w => (w, .tst v a b p) :: lst p (w ++ [3])
  | .two p q, w => (w, .two p q) :: (lst p (w ++ [1, 0]) ++ lst q (w ++ [1, 1]))
  | .bes p q, w => (w, .bes p q) :: (lst p (w ++ [1, 0]) ++ lst q (w ++ [1, 1]))
  | .new x p, w => (w, .new x p) :: lst p (w ++ [2])
  | p, w => [(w, p)]
theorem lst_kids (p : Pc) (w : List Nat) : lst p w = (w, p) :: (kids p).flatMap fun q => lst q.2 (w ++ q.1) := by
  cases p <;> simp [lst, kids]
def cnt : Pc → Nat
  | .wait p => cnt p + 1
  | .send _ _ p => cnt p + 1
  | .take _ _ p => cnt p + 1
  | .tst _ _ _ p => cnt p + 1
  | .two p q => cnt p + cnt q + 1
  | .bes p q => cnt p + cnt q + 1
  | .new _ p => cnt p + 1
  | _ => 1
theorem lst_len (p : Pc) : ∀ w, (lst p w).length = cnt p := by
  induction p <;> intro w <;> simp [lst, cnt, *]
abbrev liC (X W : Dat) (l : List Dat) (a b : Sl) : Cfg := ⟨[.sh X, .sh W, .sh (.list l), a, b], ⟨[], [], 0⟩⟩
theorem listed_for {rec : List Dat → PR} {X : Dat} {w : List Nat} (hw : w.length ≤ 1000) : ∀ (qs : List (List Nat × Pc)) (l : List (List Nat × Pc)) (a b : Sl), (∀ q ∈ qs, Is (rec [enc q.2, dp (w ++ q.1)]) (.list ((lst q.2 (w ++ q.1)).map encK)) ∧ (lst q.2 (w ++ q.1)).length ≤ 1000 ∧ q.1.length ≤ 1000) → l.length + 1000 * qs.length ≤ 90000 → (a = .no ∨ ∃ d, a = .sh d) → (b = .no ∨ ∃ d, b = .sh d) →
    ∃ a' b', forL (putTup 2 (putCons (put 3) (putCons (put 4) (putNil)))) (M.bind (asx (frz (M.bind (rd 2) fun x => M.bind (frz (callN 2 rec (aCons (rd 4) (aCons (frz (M.bind (rd 1) fun x => M.bind (rd 3) fun y => catD x y)) (aNil))))) fun y => catD x y))) (asg 2)) (qs.map encK) (liC X (dp w) (l.map encK) a b) = .ok .nx (liC X (dp w) ((l ++ qs.flatMap fun q => lst q.2 (w ++ q.1)).map encK) a' b')
  | [], l, a, b, _, _, _, _ => ⟨a, b, by simp⟩
  | q :: qs, l, a, b, h, hl, ha, hb => by
    obtain ⟨⟨v, h1, hv⟩, h2, h3⟩ := h q List.mem_cons_self
    rw [List.length_cons] at hl
    obtain ⟨a', b', ih⟩ := listed_for (rec := rec) (X := X) hw qs (l ++ lst q.2 (w ++ q.1)) (.sh (dp q.1)) (.sh (enc q.2)) (fun x hx => h x (List.mem_cons_of_mem _ hx)) (by rw [List.length_append]; omega) (.inr ⟨_, rfl⟩) (.inr ⟨_, rfl⟩)
    refine ⟨a', b', ?_⟩
    rw [List.flatMap_cons, ← List.append_assoc]
    have hb2 : putTup 2 (putCons (put 3) (putCons (put 4) (putNil))) (encK q) (liC X (dp w) (l.map encK) a b) = some (liC X (dp w) (l.map encK) (.sh (dp q.1)) (.sh (enc q.2))) := by
      rcases ha with rfl | ⟨d, rfl⟩ <;> rcases hb with rfl | ⟨d2, rfl⟩ <;> rfl
    have ct := x_catT (w.map dn) (q.1.map dn) (by rw [List.length_map]; omega) (by rw [List.length_map]; omega)
    have cl := x_catL (l.map encK) ((lst q.2 (w ++ q.1)).map encK) (by rw [List.length_map]; omega) (by rw [List.length_map]; omega)
    rw [show dp (w ++ q.1) = .tuple (w.map dn ++ q.1.map dn) by rw [← List.map_append]] at h1
    have hbody : M.bind (asx (frz (M.bind (rd 2) fun x => M.bind (frz (callN 2 rec (aCons (rd 4) (aCons (frz (M.bind (rd 1) fun x => M.bind (rd 3) fun y => catD x y)) (aNil))))) fun y => catD x y))) (asg 2) (liC X (dp w) (l.map encK) (.sh (dp q.1)) (.sh (enc q.2))) = .ok .nx (liC X (dp w) ((l ++ lst q.2 (w ++ q.1)).map encK) (.sh (dp q.1)) (.sh (enc q.2))) := by
      simp [ct, h1, hv, cl]
    rw [List.map_cons, x_forC, hb2]
    simp only [hbody]
    exact ih
theorem kid_cnt {p : Pc} {n : Nat} (h : cnt p ≤ n + 1) : ∀ q ∈ kids p, cnt q.2 ≤ n := fun q hq => by
  cases p <;> simp [kids, cnt] at hq h <;> (try (rcases hq with rfl | rfl)) <;> (try subst hq) <;> simp <;> omega
theorem kid_len {p : Pc} : ∀ q ∈ kids p, q.1.length ≤ 2 := fun q hq => by
  cases p <;> simp [kids] at hq <;> (try (rcases hq with rfl | rfl)) <;> (try subst hq) <;> simp
theorem run_listed : ∀ (k : Nat) (p : Pc) (w : List Nat), noSev p = true → dep p ≤ k → cnt p ≤ 900 → w.length + 2 * k ≤ 900 → g__law_listed k [enc p, dp w] = .ok (.sh (.list ((lst p w).map encK)))
  | 0, p, _, _, h, _, _ => by cases p <;> simp [dep] at h
  | k + 1, p, w, hs, h, hc, hw => by
    have ne := noSev_ne hs
    have ih : ∀ q ∈ kids p, Is (g__law_listed k [enc q.2, dp (w ++ q.1)]) (.list ((lst q.2 (w ++ q.1)).map encK)) ∧ (lst q.2 (w ++ q.1)).length ≤ 1000 ∧ q.1.length ≤ 1000 := fun q hq => by
      have := kid_len q hq
      have := kid_cnt (n := 899) (by omega) q hq
      exact ⟨.of (run_listed k q.2 (w ++ q.1) (kids_noSev hs q hq) (kid_dep h q hq) (by omega) (by rw [List.length_append]; omega)), by rw [lst_len]; omega, by omega⟩
    have k2 : (kids p).length ≤ 2 := by cases p <;> simp [kids]
    obtain ⟨a', b', fo⟩ := listed_for (X := enc p) (w := w) (by omega) (kids p) [(w, p)] .no .no ih (by simp; omega) (.inl rfl) (.inl rfl)
    have fo2 : forL (putTup 2 (putCons (put 3) (putCons (put 4) putNil))) (M.bind (asx (frz (M.bind (rd 2) fun x => M.bind (frz (callN 2 (g__law_listed k) (aCons (rd 4) (aCons (frz (M.bind (rd 1) fun x => M.bind (rd 3) fun y => catD x y)) aNil)))) fun y => catD x y))) (asg 2)) ((kids p).map encK) ⟨[.sh (enc p), .sh (dp w), .sh (.list [.tuple [dp w, enc p]]), .no, .no], ⟨[], [], 0⟩⟩ = .ok .nx (liC (enc p) (dp w) (((w, p) :: (kids p).flatMap fun q => lst q.2 (w ++ q.1)).map encK) a' b') := fo
    rw [← lst_kids] at fo2
    obtain ⟨v, e1, e2⟩ := run_inside p ne
    show runP 5 (m__law_listed (g__law_listed k)) [enc p, dp w] = _
    simp [m__law_listed, e1, e2, fo2]
end Pn

namespace Pn
open L2 PyProof.Rows PySem.Spec PySem
@[simp] theorem n_send_two : inR false (.str "send") (true, [.str "send", .str "take", .str "alike", .str "unlike"]) = ret (.bool true) := by kernel_rfl
@[simp] theorem n_send_br : inR false (.str "send") (true, [.str "send", .str "take", .str "wait", .str "sends", .str "takes", .str "alike", .str "unlike"]) = ret (.bool true) := by kernel_rfl
@[simp] theorem ne_send_beside : neD (.str "send") (.str "beside") = ret (.bool true) := by kernel_rfl
@[simp] theorem ne_send_call : neD (.str "send") (.str "call") = ret (.bool true) := by kernel_rfl
@[simp] theorem n_take_two : inR false (.str "take") (true, [.str "send", .str "take", .str "alike", .str "unlike"]) = ret (.bool true) := by kernel_rfl
@[simp] theorem n_take_br : inR false (.str "take") (true, [.str "send", .str "take", .str "wait", .str "sends", .str "takes", .str "alike", .str "unlike"]) = ret (.bool true) := by kernel_rfl
@[simp] theorem ne_take_beside : neD (.str "take") (.str "beside") = ret (.bool true) := by kernel_rfl
@[simp] theorem ne_take_call : neD (.str "take") (.str "call") = ret (.bool true) := by kernel_rfl
@[simp] theorem n_wait_two : inR false (.str "wait") (true, [.str "send", .str "take", .str "alike", .str "unlike"]) = ret (.bool false) := by kernel_rfl
@[simp] theorem n_wait_br : inR false (.str "wait") (true, [.str "send", .str "take", .str "wait", .str "sends", .str "takes", .str "alike", .str "unlike"]) = ret (.bool true) := by kernel_rfl
@[simp] theorem ne_wait_beside : neD (.str "wait") (.str "beside") = ret (.bool true) := by kernel_rfl
@[simp] theorem ne_wait_call : neD (.str "wait") (.str "call") = ret (.bool true) := by kernel_rfl
@[simp] theorem n_alike_two : inR false (.str "alike") (true, [.str "send", .str "take", .str "alike", .str "unlike"]) = ret (.bool true) := by kernel_rfl
@[simp] theorem n_alike_br : inR false (.str "alike") (true, [.str "send", .str "take", .str "wait", .str "sends", .str "takes", .str "alike", .str "unlike"]) = ret (.bool true) := by kernel_rfl
@[simp] theorem ne_alike_beside : neD (.str "alike") (.str "beside") = ret (.bool true) := by kernel_rfl
@[simp] theorem ne_alike_call : neD (.str "alike") (.str "call") = ret (.bool true) := by kernel_rfl
@[simp] theorem n_unlike_two : inR false (.str "unlike") (true, [.str "send", .str "take", .str "alike", .str "unlike"]) = ret (.bool true) := by kernel_rfl
@[simp] theorem n_unlike_br : inR false (.str "unlike") (true, [.str "send", .str "take", .str "wait", .str "sends", .str "takes", .str "alike", .str "unlike"]) = ret (.bool true) := by kernel_rfl
@[simp] theorem ne_unlike_beside : neD (.str "unlike") (.str "beside") = ret (.bool true) := by kernel_rfl
@[simp] theorem ne_unlike_call : neD (.str "unlike") (.str "call") = ret (.bool true) := by kernel_rfl
@[simp] theorem n_one_two : inR false (.str "one") (true, [.str "send", .str "take", .str "alike", .str "unlike"]) = ret (.bool false) := by kernel_rfl
@[simp] theorem n_one_br : inR false (.str "one") (true, [.str "send", .str "take", .str "wait", .str "sends", .str "takes", .str "alike", .str "unlike"]) = ret (.bool false) := by kernel_rfl
@[simp] theorem ne_one_beside : neD (.str "one") (.str "beside") = ret (.bool true) := by kernel_rfl
@[simp] theorem ne_one_call : neD (.str "one") (.str "call") = ret (.bool true) := by kernel_rfl
@[simp] theorem n_beside_two : inR false (.str "beside") (true, [.str "send", .str "take", .str "alike", .str "unlike"]) = ret (.bool false) := by kernel_rfl
@[simp] theorem n_beside_br : inR false (.str "beside") (true, [.str "send", .str "take", .str "wait", .str "sends", .str "takes", .str "alike", .str "unlike"]) = ret (.bool false) := by kernel_rfl
@[simp] theorem ne_beside_beside : neD (.str "beside") (.str "beside") = ret (.bool false) := by kernel_rfl
@[simp] theorem ne_beside_call : neD (.str "beside") (.str "call") = ret (.bool true) := by kernel_rfl
@[simp] theorem n_new_two : inR false (.str "new") (true, [.str "send", .str "take", .str "alike", .str "unlike"]) = ret (.bool false) := by kernel_rfl
@[simp] theorem n_new_br : inR false (.str "new") (true, [.str "send", .str "take", .str "wait", .str "sends", .str "takes", .str "alike", .str "unlike"]) = ret (.bool false) := by kernel_rfl
@[simp] theorem ne_new_beside : neD (.str "new") (.str "beside") = ret (.bool true) := by kernel_rfl
@[simp] theorem ne_new_call : neD (.str "new") (.str "call") = ret (.bool true) := by kernel_rfl
@[simp] theorem n_call_two : inR false (.str "call") (true, [.str "send", .str "take", .str "alike", .str "unlike"]) = ret (.bool false) := by kernel_rfl
@[simp] theorem n_call_br : inR false (.str "call") (true, [.str "send", .str "take", .str "wait", .str "sends", .str "takes", .str "alike", .str "unlike"]) = ret (.bool false) := by kernel_rfl
@[simp] theorem ne_call_beside : neD (.str "call") (.str "beside") = ret (.bool true) := by kernel_rfl
@[simp] theorem ne_call_call : neD (.str "call") (.str "call") = ret (.bool false) := by kernel_rfl
@[simp] theorem qw_body_body : eqD (.str "body") (.str "body") = ret (.bool true) := by kernel_rfl
@[simp] theorem nw_body_body : neD (.str "body") (.str "body") = ret (.bool false) := by kernel_rfl
@[simp] theorem qw_body_main : eqD (.str "body") (.str "main") = ret (.bool false) := by kernel_rfl
@[simp] theorem nw_body_main : neD (.str "body") (.str "main") = ret (.bool true) := by kernel_rfl
@[simp] theorem qw_body_holed_main : eqD (.str "body") (.str "holed main") = ret (.bool false) := by kernel_rfl
@[simp] theorem nw_body_holed_main : neD (.str "body") (.str "holed main") = ret (.bool true) := by kernel_rfl
@[simp] theorem qw_main_body : eqD (.str "main") (.str "body") = ret (.bool false) := by kernel_rfl
@[simp] theorem nw_main_body : neD (.str "main") (.str "body") = ret (.bool true) := by kernel_rfl
@[simp] theorem qw_main_main : eqD (.str "main") (.str "main") = ret (.bool true) := by kernel_rfl
@[simp] theorem nw_main_main : neD (.str "main") (.str "main") = ret (.bool false) := by kernel_rfl
@[simp] theorem qw_main_holed_main : eqD (.str "main") (.str "holed main") = ret (.bool false) := by kernel_rfl
@[simp] theorem nw_main_holed_main : neD (.str "main") (.str "holed main") = ret (.bool true) := by kernel_rfl
theorem is_name_ok : ∀ a : Nat, a < 10 → g_is_name [dn a] = .ok (.sh (.bool true))
  | 0, _ => by kernel_rfl
  | 1, _ => by kernel_rfl
  | 2, _ => by kernel_rfl
  | 3, _ => by kernel_rfl
  | 4, _ => by kernel_rfl
  | 5, _ => by kernel_rfl
  | 6, _ => by kernel_rfl
  | 7, _ => by kernel_rfl
  | 8, _ => by kernel_rfl
  | 9, _ => by kernel_rfl
  | n + 10, h => absurd h (by omega)
@[simp] theorem row_of (l : List Dat) (n : Int) : g_is_row_of [.tuple l, .int n] = .ok (.sh (.bool ((l.length : Int) == n))) := by
  simp [g_is_row_of, m_is_row_of, isTy, tyN]
@[simp] theorem row_up (l : List Dat) (n : Int) : g_is_row_up_to [.tuple l, .int n] = .ok (.sh (.bool (decide ((l.length : Int) ≤ n)))) := by
  simp [g_is_row_up_to, m_is_row_up_to, isTy, tyN]
theorem bools_true : ∀ l : List Nat, bools (l.map fun _ => PyData.bool true) = some (l.map fun _ => true)
  | [] => rfl
  | _ :: l => by
    rw [List.map_cons, bools, bools_true l]
    rfl
theorem is_names_ok (l : List Nat) (h : ∀ a ∈ l, a < 10) (hl : l.length ≤ 1000) : g_are_names [dp l] = .ok (.sh (.bool true)) := by
  have lc : lcM [1] (put 1) (ret true) (frz (callN 1 g_is_name (aCons (rd 1) (aNil)))) (l.map dn) ⟨[.sh (dp l), .no], ⟨[], [], 0⟩⟩ = .ok (.fr ((l.map dn).map fun _ => .bool true)) ⟨[.sh (dp l), .no], ⟨[], [], 0⟩⟩ :=
    lcM_map (f := fun _ => .bool true) rfl (fun d hd => by
      obtain ⟨a, ha, rfl⟩ := List.mem_map.mp hd
      exact ⟨⟨[.sh (dp l), .sh (dn a)], ⟨[], [], 0⟩⟩, ⟨[.sh (dp l), .sh (dn a)], ⟨[], [], 0⟩⟩, rfl, frz_call rfl rfl (.of (is_name_ok a (h a ha))), rfl⟩) (by rw [List.length_map]; omega) rfl
  have e : (l.map dn).map (fun _ => PyData.bool true) = l.map fun _ => PyData.bool true := by rw [List.map_map]; rfl
  rw [e] at lc
  have al : ∀ c, allR (false, l.map fun _ => PyData.bool true) c = .ok (.bool true) c := fun c => by
    unfold allR
    simp only [bools_true]
    have : (l.map fun _ => true).all id = true := by simp
    first | (rw [this]; rfl) | (simp)
  simp [g_are_names, m_are_names, isTy, tyN, lc, al]
/-! ### what may stand at a place -/
def letP (cs : List Nat) (main : Bool) : Pc → Bool → Bool → Bool
  | .stop, due, _ => !due
  | .wait _, _, _ => true
  | .send a b _, _, _ => decide (a < 10) && decide (b < 10)
  | .take a b _, _, _ => decide (a < 10) && decide (b < 10)
  | .tst _ a b _, _, _ => decide (a < 10) && decide (b < 10)
  | .two _ _, due, _ => !due
  | .bes _ _, due, _ => !due && main
  | .new x _, due, _ => !due && decide (x < 10)
  | .call d ns, due, g => !due && (main || g) && (cs[d]? == some ns.length) && ns.all (fun a => decide (a < 10))
  | .seven, _, _ => false
def whr (main : Bool) : Dat := if main = true then .str "main" else .str "body"
end Pn

namespace Pn
open L2 PyProof.Rows PySem.Spec PySem
theorem is_below_ok (a b : Nat) (h : a < b) : g_is_below [dn a, dn b] = .ok (.sh (.bool true)) := by
  have e : g_is_from_zero [dn a] = .ok (.sh (.bool true)) := by kernel_rfl
  simp [g_is_below, m_is_below, e]
  exact h
theorem ixR_dn (b : Bool) (l : List Nat) (i n : Nat) (h : l[i]? = some n) : ixR (b, l.map dn) (dn i) = ret (dn n) := by
  refine ixR_at ?_
  have hl : i < (l.map dn).length := by rw [List.length_map]; exact (List.getElem?_eq_some_iff.mp h).1
  rw [atI_nat _ _ hl, List.getElem?_map, h]
  rfl
theorem is_call_ok (d : Nat) (ns cs : List Nat) (h : cs[d]? = some ns.length) (hn : ∀ a ∈ ns, a < 10) (hl : ns.length ≤ 1000) : g_is_call [dn d, dp ns, dp cs] = .ok (.sh (.bool true)) := by
  have e1 := is_below_ok d cs.length (List.getElem?_eq_some_iff.mp h).1
  have e2 := is_names_ok ns hn hl
  simp [g_is_call, m_is_call, e1, e2, ixR_dn true cs d _ h]
def szC : Pc → Nat
  | .call _ ns => ns.length
  | _ => 0
theorem run_form (cs : List Nat) (main : Bool) (p : Pc) (due g : Bool) (h : letP cs main p due g = true) (hz : szC p ≤ 1000) : g_has_form [enc p, dp cs] = .ok (.sh (.bool true)) := by
  cases p with
  | seven => cases h
  | stop => kernel_rfl
  | wait p => kernel_rfl
  | two p q => kernel_rfl
  | bes p q => kernel_rfl
  | send a b p =>
    simp only [letP, Bool.and_eq_true, decide_eq_true_eq] at h
    simp [g_has_form, m_has_form, enc, isTy, tyN, d_WITH_TWO_NAMES, is_name_ok a h.1, is_name_ok b h.2]
  | take a b p =>
    simp only [letP, Bool.and_eq_true, decide_eq_true_eq] at h
    simp [g_has_form, m_has_form, enc, isTy, tyN, d_WITH_TWO_NAMES, is_name_ok a h.1, is_name_ok b h.2]
  | tst w a b p =>
    simp only [letP, Bool.and_eq_true, decide_eq_true_eq] at h
    cases w <;> simp [g_has_form, m_has_form, enc, isTy, tyN, d_WITH_TWO_NAMES, is_name_ok a h.1, is_name_ok b h.2]
  | new x p =>
    simp only [letP, Bool.and_eq_true, decide_eq_true_eq] at h
    simp [g_has_form, m_has_form, enc, isTy, tyN, d_WITH_TWO_NAMES, is_name_ok x h.2]
  | call d ns =>
    simp only [letP, Bool.and_eq_true, List.all_eq_true, decide_eq_true_eq, beq_iff_eq] at h
    simp [g_has_form, m_has_form, enc, isTy, tyN, d_WITH_TWO_NAMES, is_call_ok d ns cs h.1.2 h.2 hz]
theorem hole_no : ∀ p : Pc, g_is_hole [enc p] = .ok (.sh (.bool false))
  | .stop => by kernel_rfl
  | .wait p => by kernel_rfl
  | .send a b p => by kernel_rfl
  | .take a x p => by kernel_rfl
  | .tst true a b p => by kernel_rfl
  | .tst false a b p => by kernel_rfl
  | .two p q => by kernel_rfl
  | .bes p q => by kernel_rfl
  | .new x p => by kernel_rfl
  | .call d ns => by kernel_rfl
  | .seven => by kernel_rfl
@[simp] theorem x_inBody : inR false (.str "body") (true, [.str "body", d_ROW_BODY]) = ret (.bool true) := by kernel_rfl
@[simp] theorem x_inMain : inR false (.str "main") (true, [.str "body", d_ROW_BODY]) = ret (.bool false) := by kernel_rfl
@[simp] theorem x_ninBody : inR true (.str "body") (true, [.str "body", d_ROW_BODY]) = ret (.bool false) := by kernel_rfl
@[simp] theorem x_ninMain : inR true (.str "main") (true, [.str "body", d_ROW_BODY]) = ret (.bool true) := by kernel_rfl
theorem run_let (cs : List Nat) (main : Bool) (p : Pc) (due g : Bool) (h : letP cs main p due g = true) (hz : szC p ≤ 1000) : g_is_let [enc p, dp cs, whr main, .bool due, .bool g] = .ok (.sh (.bool true)) := by
  have e1 := run_form cs main p due g h hz
  have e2 := hole_no p
  cases p with
  | seven => cases h
  | tst w a b p =>
    cases main <;> cases due <;> cases g <;> cases w <;> simp [g_is_let, m_is_let, e1, e2] <;> simp [enc, d_BRANCHES, d_BODY, whr]
  | stop =>
    simp only [letP, Bool.not_eq_true'] at h
    subst h
    cases main <;> cases g <;> simp [g_is_let, m_is_let, e1, e2] <;> simp [enc, d_BRANCHES, d_BODY, whr]
  | two p q =>
    simp only [letP, Bool.not_eq_true'] at h
    subst h
    cases main <;> cases g <;> simp [g_is_let, m_is_let, e1, e2] <;> simp [enc, d_BRANCHES, d_BODY, whr]
  | bes p q =>
    simp only [letP, Bool.and_eq_true, Bool.not_eq_true'] at h
    obtain ⟨h1, h2⟩ := h
    subst h1
    subst h2
    cases g <;> simp [g_is_let, m_is_let, e1, e2] <;> simp [enc, d_BRANCHES, d_BODY, whr]
  | new x p =>
    simp only [letP, Bool.and_eq_true, Bool.not_eq_true'] at h
    obtain ⟨h1, h2⟩ := h
    subst h1
    cases main <;> cases g <;> simp [g_is_let, m_is_let, e1, e2] <;> simp [enc, d_BRANCHES, d_BODY, whr]
  | call d ns =>
    simp only [letP, Bool.and_eq_true, Bool.not_eq_true', Bool.or_eq_true] at h
    obtain ⟨⟨⟨h1, h2⟩, _⟩, _⟩ := h
    subst h1
    cases main with
    | true => cases g <;> simp [g_is_let, m_is_let, e1, e2] <;> simp [enc, d_BRANCHES, d_BODY, whr]
    | false =>
      rcases h2 with h2 | h2
      · cases h2
      · subst h2
        simp [g_is_let, m_is_let, e1, e2] <;> simp [enc, d_BRANCHES, d_BODY, whr]
  | wait p => cases main <;> cases due <;> cases g <;> simp [g_is_let, m_is_let, e1, e2] <;> simp [enc, d_BRANCHES, d_BODY, whr]
  | send a b p => cases main <;> cases due <;> cases g <;> simp [g_is_let, m_is_let, e1, e2] <;> simp [enc, d_BRANCHES, d_BODY, whr]
  | take a b p => cases main <;> cases due <;> cases g <;> simp [g_is_let, m_is_let, e1, e2] <;> simp [enc, d_BRANCHES, d_BODY, whr]
theorem let_seven (cs : List Nat) (main due g : Bool) : g_is_let [enc .seven, dp cs, whr main, .bool due, .bool g] = .ok (.sh (.bool false)) := by
  cases main <;> cases due <;> cases g <;> kernel_rfl
end Pn

set_option maxHeartbeats 2000003
namespace Pn
open L2 PyProof.Rows PySem.Spec PySem
/-! ### the walk -/
def wBody : M Ctl := (seq (M.bind (popV 5) (tgtM (putTup 5 (putCons (put 8) (putCons (put 9) (putCons (put 10) (putCons (put 11) (putCons (put 12) (putNil))))))))) (seq (ifS (toB (m2 gtI (rd 10) (ret d_MOST_DEEP))) (M.bind (ret d_MOST_DEEP) fun d => excM 5 d) (ret .nx)) (seq (ifS (toB (m2 eqD (M.bind (rowVar 4) lenR) (ret d_MOST_PARTS))) (M.bind (ret d_MOST_PARTS) fun d => excM 5 d) (ret .nx)) (seq (ifS (notB (toB (frz (callN 5 g_is_let (aCons (rd 9) (aCons (rd 2) (aCons (rd 3) (aCons (rd 11) (aCons (rd 12) (aNil)))))))))) (M.bind (rd 8) fun d => excM 1 d) (ret .nx)) (seq (dropS (appV 4 (M.bind (aCons (rd 8) (aCons (rd 9) (aNil))) tupD))) (seq (M.bind (asx (orV (m2 eqD (ixD (rd 9) (ret (.int 0))) (ret (.str "one"))) (inM false (ixD (rd 9) (ret (.int 0))) (rowD (ret d_TESTS))))) (asg 6)) (seq (M.bind (asx (orV (rd 12) (inM false (ixD (rd 9) (ret (.int 0))) (rowD (ret d_PREFIXES))))) (asg 7)) (M.bind (M.bind (frz (callN 1 g_parts_below (aCons (rd 9) (aNil)))) itBack) fun items => forL (putTup 2 (putCons (put 13) (putCons (put 14) (putNil)))) (dropS (appV 5 (M.bind (aCons (frz (M.bind (rd 8) fun x => M.bind (rd 13) fun y => catD x y)) (aCons (rd 14) (aCons (m2 addI (rd 10) (ret (.int 1))) (aCons (rd 6) (aCons (rd 7) (aNil)))))) tupD))) items))))))))
def wInit : M Ctl := (M.bind (M.bind (aCons (M.bind (aCons (rd 1) (aCons (rd 0) (aCons (ret (.int 1)) (aCons (ret (.bool false)) (aCons (inM true (rd 3) (rowD (M.bind (aCons (ret d_BODY) (aCons (ret d_ROW_BODY) (aNil))) tupD))) (aNil)))))) tupD) (aNil)) lstD) (asg 5))
def wSl : List Nat := [6, 7, 8, 9, 10, 11, 12, 13, 14]
theorem m_walk_eq : m_walk = seq wInit (whileL wSl (M.bind (rowVar 5) truR) wBody 200) := rfl
structure It where
  w : List Nat
  p : Pc
  deep : Nat
  due : Bool
  g : Bool
def encI (i : It) : Dat := .tuple [dp i.w, enc i.p, dn i.deep, .bool i.due, .bool i.g]
def dueOf : Pc → Bool
  | .stop => true
  | .two _ _ => true
  | .tst _ _ _ _ => true
  | _ => false
def isPre : Pc → Bool
  | .send _ _ _ => true
  | .take _ _ _ => true
  | .wait _ => true
  | _ => false
def kidI (i : It) : List It := (kids i.p).map fun q => ⟨i.w ++ q.1, q.2, i.deep + 1, dueOf i.p, i.g || isPre i.p⟩
abbrev wC (R W : Dat) (cs : List Nat) (main : Bool) (met A : List Dat) (t : List Sl) : Cfg := ⟨[.sh R, .sh W, .sh (dp cs), .sh (whr main), .io met, .own A] ++ t, ⟨[], [], 0⟩⟩
abbrev no9 : List Sl := [.no, .no, .no, .no, .no, .no, .no, .no, .no]
@[simp] theorem x_popV (i : Nat) (c : Cfg) : popV i c = M.bind (heldM i) (fun l => match l.getLast? with
  | some d => M.bind (wrM i l.dropLast) fun _ => ret d
  | none => bad) c := rfl
def t9 (i : It) : List Sl := [.sh (.bool (dueOf i.p)), .sh (.bool (i.g || isPre i.p)), .sh (dp i.w), .sh (enc i.p), .sh (dn i.deep), .sh (.bool i.due), .sh (.bool i.g)] ++ (match kids i.p with
  | [] => [.no, .no]
  | q :: _ => [.sh (dp q.1), .sh (enc q.2)])
theorem x_catP (u v : List Nat) (hu : u.length ≤ 100000) (hv : v.length ≤ 100000) : catD (dp u) (dp v) = ret (.sh (dp (u ++ v))) := by
  show catD (.tuple (u.map dn)) (.tuple (v.map dn)) = ret (.sh (.tuple ((u ++ v).map dn)))
  rw [x_catT _ _ (by rw [List.length_map]; exact hu) (by rw [List.length_map]; exact hv), List.map_append]
theorem walk_turn (R W : Dat) (cs : List Nat) (main : Bool) (met A : List Dat) (i : It) (hd : i.deep ≤ 12) (hm : met.length < 80) (hl : g_is_let [enc i.p, dp cs, whr main, .bool i.due, .bool i.g] = .ok (.sh (.bool true))) (ne : i.p ≠ .seven) (hw : i.w.length ≤ 1000) (hA : A.length ≤ 1000) :
    wBody (wC R W cs main met (A ++ [encI i]) no9) = .ok .nx (wC R W cs main (met ++ [encK (i.w, i.p)]) (A ++ (kidI i).reverse.map encI) (t9 i)) := by
  obtain ⟨w, p, deep, due, g⟩ := i
  have hd2 : ¬ (12 : Int) < (deep : Int) := by simp only at hd; omega
  have hm2 : ¬ ((met.length : Int) = 80) := by omega
  have pb := run_parts_below p ne
  simp only at hl ne hw
  have hm3 : met.length < 100000 := by omega
  have hA3 : A.length < 100000 := by omega
  have hA4 : A.length + 1 < 100000 := by omega
  have ct1 := x_catP w [1] (by omega) (by simp)
  have ct2 := x_catP w [2] (by omega) (by simp)
  have ct3 := x_catP w [3] (by omega) (by simp)
  have ct4 := x_catP w [1, 0] (by omega) (by simp)
  have ct5 := x_catP w [1, 1] (by omega) (by simp)
  cases p with
  | seven => exact absurd rfl ne
  | tst v a b p => cases v <;> cases g <;> simp only [enc] at hl pb <;> simp [wBody, encI, d_MOST_DEEP, d_MOST_PARTS, d_TESTS, d_PREFIXES, hd2, hm2, hl, pb, hm3, hA3, ct3, held, wr, kids, encK, enc, kidI, t9, dueOf, isPre]
  | two p q => cases g <;> simp only [enc] at hl pb <;> simp [wBody, encI, d_MOST_DEEP, d_MOST_PARTS, d_TESTS, d_PREFIXES, hd2, hm2, hl, pb, hm3, hA3, hA4, ct4, ct5, held, wr, kids, encK, enc, kidI, t9, dueOf, isPre]
  | bes p q => cases g <;> simp only [enc] at hl pb <;> simp [wBody, encI, d_MOST_DEEP, d_MOST_PARTS, d_TESTS, d_PREFIXES, hd2, hm2, hl, pb, hm3, hA3, hA4, ct4, ct5, held, wr, kids, encK, enc, kidI, t9, dueOf, isPre]
  | _ => cases g <;> simp only [enc] at hl pb <;> simp [wBody, encI, d_MOST_DEEP, d_MOST_PARTS, d_TESTS, d_PREFIXES, hd2, hm2, hl, pb, hm3, hA3, ct1, ct2, ct3, held, wr, kids, encK, enc, kidI, t9, dueOf, isPre]
end Pn

set_option maxHeartbeats 2000003
namespace Pn
open L2 PyProof.Rows PySem.Spec PySem
def okAt (cs : List Nat) (main : Bool) : Pc → Bool → Bool → Bool
  | .wait p, due, g => letP cs main (.wait p) due g && okAt cs main p false true
  | .send a b p, due, g => letP cs main (.send a b p) due g && okAt cs main p false true
  | .take a x p, due, g => letP cs main (.take a x p) due g && okAt cs main p false true
  | .tst w a b p, due, g => letP cs main (.tst w a b p) due g && okAt cs main p true g
  | .two p q, due, g => letP cs main (.two p q) due g && (okAt cs main p true g && okAt cs main q true g)
  | .bes p q, due, g => letP cs main (.bes p q) due g && (okAt cs main p false g && okAt cs main q false g)
  | .new x p, due, g => letP cs main (.new x p) due g && okAt cs main p false g
  | p, due, g => letP cs main p due g
theorem okAt_let {cs : List Nat} {main : Bool} {p : Pc} {due g : Bool} (h : okAt cs main p due g = true) : letP cs main p due g = true := by
  cases p <;> simp_all [okAt]
theorem okAt_kids {cs : List Nat} {main : Bool} {p : Pc} {due g : Bool} (h : okAt cs main p due g = true) : ∀ q ∈ kids p, okAt cs main q.2 (dueOf p) (g || isPre p) = true := fun q hq => by
  cases p <;> simp [kids] at hq <;> (try (rcases hq with rfl | rfl)) <;> (try subst hq) <;> simp_all [okAt, dueOf, isPre]
theorem let_ne {cs : List Nat} {main : Bool} {p : Pc} {due g : Bool} (h : letP cs main p due g = true) : p ≠ .seven := fun e => by
  rw [e] at h
  cases h
theorem sz_szC (p : Pc) : szC p ≤ sz p := by cases p <;> simp [szC, sz]
theorem dep_pos (p : Pc) : 1 ≤ dep p := by cases p <;> simp [dep]
theorem cnt_pos (p : Pc) : 1 ≤ cnt p := by cases p <;> simp [cnt]
/-- how many parts there are in what is ahead -/
def sumC : List It → Nat
  | [] => 0
  | i :: r => cnt i.p + sumC r
theorem sumC_app : ∀ a b : List It, sumC (a ++ b) = sumC a + sumC b
  | [], b => by simp [sumC]
  | i :: a, b => by rw [List.cons_append, sumC, sumC, sumC_app a b]; omega
theorem sumC_kids (i : It) : sumC (kidI i) + 1 = cnt i.p := by
  obtain ⟨w, p, d, u, g⟩ := i
  cases p <;> simp [kidI, kids, sumC, cnt] <;> omega
theorem len_sumC : ∀ a : List It, a.length ≤ sumC a
  | [] => Nat.le_refl _
  | i :: a => by
    have := len_sumC a
    have := cnt_pos i.p
    rw [List.length_cons, sumC]
    omega
structure okI (cs : List Nat) (main : Bool) (i : It) : Prop where
  ok : okAt cs main i.p i.due i.g = true
  dp : i.deep + dep i.p ≤ 13
  w : i.w.length + 2 * dep i.p ≤ 1000
  z : sz i.p ≤ 1000
theorem okI.kid {cs : List Nat} {main : Bool} {i : It} (h : okI cs main i) : ∀ j ∈ kidI i, okI cs main j := fun j hj => by
  obtain ⟨q, hq, rfl⟩ := List.mem_map.mp hj
  have d := kid_dep (k := dep i.p - 1) (by have := dep_pos i.p; omega) q hq
  have l := kid_len q hq
  have s := kid_sz (n := 999) (by have := h.z; omega) q hq
  have d1 := dep_pos i.p
  have d2 := dep_pos q.2
  have h1 := h.dp
  have h2 := h.w
  refine ⟨okAt_kids h.ok q hq, ?_, ?_, ?_⟩
  · show i.deep + 1 + dep q.2 ≤ 13
    omega
  · show (i.w ++ q.1).length + 2 * dep q.2 ≤ 1000
    rw [List.length_append]
    omega
  · show sz q.2 ≤ 1000
    omega
theorem stack_top (i : It) (r : List It) : ((i :: r).reverse.map encI) = r.reverse.map encI ++ [encI i] := by
  rw [List.reverse_cons, List.map_append]
  rfl
theorem stack_kids (i : It) (r : List It) : r.reverse.map encI ++ (kidI i).reverse.map encI = (kidI i ++ r).reverse.map encI := by
  rw [List.reverse_append, List.map_append]
abbrev wT : M Bool := M.bind (rowVar 5) truR
theorem wT_top (R W : Dat) (cs : List Nat) (main : Bool) (met A : List Dat) (d : Dat) : wT (wC R W cs main met (A ++ [d]) no9) = .ok true (wC R W cs main met (A ++ [d]) no9) := by
  simp
theorem wT_nil (R W : Dat) (cs : List Nat) (main : Bool) (met : List Dat) : wT (wC R W cs main met [] no9) = .ok false (wC R W cs main met [] no9) := rfl
theorem clr_t9 (R W : Dat) (cs : List Nat) (main : Bool) (met A : List Dat) (i : It) : { (wC R W cs main met A (t9 i)) with r := clr wSl (wC R W cs main met A (t9 i)).r } = wC R W cs main met A no9 := by
  obtain ⟨w, p, d, u, g⟩ := i
  cases p <;> rfl
/-- a turn that is well -/
theorem while_turn (R W : Dat) (cs : List Nat) (main : Bool) (met : List Dat) (i : It) (r : List It) (n : Nat) (hd : i.deep ≤ 12) (hm : met.length < 80) (hl : g_is_let [enc i.p, dp cs, whr main, .bool i.due, .bool i.g] = .ok (.sh (.bool true))) (ne : i.p ≠ .seven) (hw : i.w.length ≤ 1000) (hA : r.length ≤ 1000) :
    whileL wSl wT wBody (n + 1) (wC R W cs main met ((i :: r).reverse.map encI) no9) = whileL wSl wT wBody n (wC R W cs main (met ++ [encK (i.w, i.p)]) ((kidI i ++ r).reverse.map encI) no9) := by
  rw [stack_top]
  have t := walk_turn R W cs main met (r.reverse.map encI) i hd hm hl ne hw (by rw [List.length_map, List.length_reverse]; exact hA)
  rw [stack_kids] at t
  show M.bind wT _ _ = _
  rw [x_bind, wT_top]
  show (match wBody (wC R W cs main met (r.reverse.map encI ++ [encI i]) no9) with
    | .ok .nx c2 => whileL wSl wT wBody n { c2 with r := clr wSl c2.r }
    | .ok .ct c2 => whileL wSl wT wBody n { c2 with r := clr wSl c2.r }
    | .ok .bk c2 => .ok .nx c2
    | r => r) = _
  rw [t]
  show whileL wSl wT wBody n { (wC R W cs main (met ++ [encK (i.w, i.p)]) ((kidI i ++ r).reverse.map encI) (t9 i)) with r := clr wSl (wC R W cs main (met ++ [encK (i.w, i.p)]) ((kidI i ++ r).reverse.map encI) (t9 i)).r } = _
  rw [clr_t9]
def lstI (st : List It) : List (List Nat × Pc) := st.flatMap fun i => lst i.p i.w
theorem lstI_kids (i : It) (r : List It) : lstI (i :: r) = (i.w, i.p) :: lstI (kidI i ++ r) := by
  unfold lstI
  rw [List.flatMap_cons, lst_kids, List.flatMap_append, List.cons_append]
  congr 2
  unfold kidI
  rw [List.flatMap_map]
theorem while_ok (R W : Dat) (cs : List Nat) (main : Bool) : ∀ (n : Nat) (st : List It) (met : List Dat), (∀ i ∈ st, okI cs main i) → sumC st < n → met.length + sumC st ≤ 80 →
    whileL wSl wT wBody n (wC R W cs main met (st.reverse.map encI) no9) = .ok .nx (wC R W cs main (met ++ (lstI st).map encK) [] no9)
  | 0, _, _, _, h, _ => absurd h (Nat.not_lt_zero _)
  | n + 1, [], met, _, _, _ => by
    show whileL wSl wT wBody (n + 1) (wC R W cs main met [] no9) = .ok .nx (wC R W cs main (met ++ []) [] no9)
    rw [List.append_nil]
    rfl
  | n + 1, i :: r, met, h, hn, hm => by
    have hi := h i List.mem_cons_self
    have c1 := cnt_pos i.p
    have sk := sumC_kids i
    rw [sumC] at hn hm
    have lr := len_sumC r
    have hl := run_let cs main i.p i.due i.g (okAt_let hi.ok) (Nat.le_trans (sz_szC _) hi.z)
    have d1 := dep_pos i.p
    have hd := hi.dp
    have hw := hi.w
    rw [while_turn R W cs main met i r n (by omega) (by omega) hl (let_ne (okAt_let hi.ok)) (by omega) (by omega)]
    rw [while_ok R W cs main n (kidI i ++ r) (met ++ [encK (i.w, i.p)]) (fun j hj => by
      rcases List.mem_append.mp hj with z | z
      · exact hi.kid j z
      · exact h j (List.mem_cons_of_mem _ z)) (by rw [sumC_app]; omega) (by rw [sumC_app, List.length_append, List.length_singleton]; omega), lstI_kids, List.map_cons, List.append_assoc]
    rfl
/-! ### what stops the walk -/
inductive Fails (cs : List Nat) (main : Bool) : Nat → List It → Nat → Dat → Prop
  | deep {i : It} {r : List It} (h : 12 < i.deep) : Fails cs main 0 (i :: r) 5 (.int 12)
  | bad {i : It} {r : List It} (h : i.deep ≤ 12) (hl : g_is_let [enc i.p, dp cs, whr main, .bool i.due, .bool i.g] = .ok (.sh (.bool false))) (hw : i.w.length ≤ 1000) (hr : r.length ≤ 1000) : Fails cs main 0 (i :: r) 1 (dp i.w)
  | step {n : Nat} {i : It} {r : List It} {k : Nat} {d : Dat} (h : i.deep ≤ 12) (hl : g_is_let [enc i.p, dp cs, whr main, .bool i.due, .bool i.g] = .ok (.sh (.bool true))) (ne : i.p ≠ .seven) (hw : i.w.length ≤ 1000) (hr : r.length ≤ 1000) (f : Fails cs main n (kidI i ++ r) k d) : Fails cs main (n + 1) (i :: r) k d
theorem turn_deep (R W : Dat) (cs : List Nat) (main : Bool) (met A : List Dat) (i : It) (h : 12 < i.deep) : wBody (wC R W cs main met (A ++ [encI i]) no9) = .exc 5 (.int 12) (wC R W cs main met A [.no, .no, .sh (dp i.w), .sh (enc i.p), .sh (dn i.deep), .sh (.bool i.due), .sh (.bool i.g), .no, .no]) := by
  have h2 : (12 : Int) < (i.deep : Int) := by omega
  simp [wBody, encI, d_MOST_DEEP, h2, held, wr]
theorem turn_bad (R W : Dat) (cs : List Nat) (main : Bool) (met A : List Dat) (i : It) (h : i.deep ≤ 12) (hm : met.length < 80) (hl : g_is_let [enc i.p, dp cs, whr main, .bool i.due, .bool i.g] = .ok (.sh (.bool false))) : wBody (wC R W cs main met (A ++ [encI i]) no9) = .exc 1 (dp i.w) (wC R W cs main met A [.no, .no, .sh (dp i.w), .sh (enc i.p), .sh (dn i.deep), .sh (.bool i.due), .sh (.bool i.g), .no, .no]) := by
  have h2 : ¬ (12 : Int) < (i.deep : Int) := by omega
  have hm2 : ¬ ((met.length : Int) = 80) := by omega
  simp [wBody, encI, d_MOST_DEEP, d_MOST_PARTS, h2, hm2, hl, held, wr]
theorem turn_exc (R W : Dat) (cs : List Nat) (main : Bool) (met A : List Dat) (i : It) (t : List Sl) (n k : Nat) (d : Dat) (h : wBody (wC R W cs main met (A ++ [encI i]) no9) = .exc k d (wC R W cs main met A t)) : whileL wSl wT wBody (n + 1) (wC R W cs main met (A ++ [encI i]) no9) = .exc k d (wC R W cs main met A t) := by
  show M.bind wT _ _ = _
  rw [x_bind, wT_top]
  show (match wBody (wC R W cs main met (A ++ [encI i]) no9) with
    | .ok .nx c2 => whileL wSl wT wBody n { c2 with r := clr wSl c2.r }
    | .ok .ct c2 => whileL wSl wT wBody n { c2 with r := clr wSl c2.r }
    | .ok .bk c2 => .ok .nx c2
    | r => r) = _
  rw [h]
theorem while_fails (R W : Dat) {cs : List Nat} {main : Bool} {m : Nat} {st : List It} {k : Nat} {d : Dat} (f : Fails cs main m st k d) : ∀ (n : Nat) (met : List Dat), m < n → met.length + m < 80 →
    ∃ met' A t, whileL wSl wT wBody n (wC R W cs main met (st.reverse.map encI) no9) = .exc k d (wC R W cs main met' A t) := by
  induction f with
  | @deep i r h =>
    intro n met hn hm
    obtain ⟨n, rfl⟩ : ∃ j, n = j + 1 := ⟨n - 1, by omega⟩
    rw [stack_top]
    exact ⟨_, _, _, turn_exc R W cs main met _ i _ n 5 _ (turn_deep R W cs main met _ i h)⟩
  | @bad i r h hl hw hr =>
    intro n met hn hm
    obtain ⟨n, rfl⟩ : ∃ j, n = j + 1 := ⟨n - 1, by omega⟩
    rw [stack_top]
    exact ⟨_, _, _, turn_exc R W cs main met _ i _ n 1 _ (turn_bad R W cs main met _ i h (by omega) hl)⟩
  | @step m i r k d h hl ne hw hr f ih =>
    intro n met hn hm
    obtain ⟨n, rfl⟩ : ∃ j, n = j + 1 := ⟨n - 1, by omega⟩
    rw [while_turn R W cs main met i r n h (by omega) hl ne hw hr]
    exact ih n _ (by omega) (by rw [List.length_append, List.length_singleton]; omega)
/-- what is well ahead of what fails -/
theorem fails_behind {cs : List Nat} {main : Bool} {m : Nat} {r : List It} {k : Nat} {d : Dat} (f : Fails cs main m r k d) : ∀ (N : Nat) (st : List It), sumC st = N → (∀ i ∈ st, okI cs main i) → N + r.length ≤ 900 → Fails cs main (m + N) (st ++ r) k d
  | 0, st, e, _, _ => by
    cases st with
    | nil => exact f
    | cons i st => have := cnt_pos i.p; rw [sumC] at e; omega
  | N + 1, [], e, _, _ => by rw [sumC] at e; omega
  | N + 1, i :: st, e, h, hl => by
    have hi := h i List.mem_cons_self
    have sk := sumC_kids i
    rw [sumC] at e
    have c1 := cnt_pos i.p
    have l1 := len_sumC st
    have hd := hi.dp
    have hw := hi.w
    have d1 := dep_pos i.p
    have z := fails_behind f N (kidI i ++ st) (by rw [sumC_app]; omega) (fun j hj => by
      rcases List.mem_append.mp hj with z | z
      · exact hi.kid j z
      · exact h j (List.mem_cons_of_mem _ z)) (by omega)
    rw [List.append_assoc] at z
    exact .step (by omega) (run_let cs main i.p i.due i.g (okAt_let hi.ok) (Nat.le_trans (sz_szC _) hi.z)) (let_ne (okAt_let hi.ok)) (by omega) (by show (st ++ r).length ≤ 1000; rw [List.length_append]; omega) z
/-! ### walk, whole -/
def rootI (p : Pc) (w : List Nat) (main : Bool) : It := ⟨w, p, 1, false, main⟩
theorem init_run (p : Pc) (w cs : List Nat) (main : Bool) (met : List Dat) : wInit ⟨initG false true 15 [enc p, dp w, dp cs, whr main] met, ⟨[], [], 0⟩⟩ = .ok .nx (wC (enc p) (dp w) cs main met ([rootI p w main].reverse.map encI) no9) := by
  cases main <;> simp [wInit, initG, d_BODY, whr, rootI, encI]
theorem run_walk_ok (cs : List Nat) (main : Bool) (p : Pc) (w : List Nat) (met : List Dat) (h : okI cs main (rootI p w main)) (hm : met.length + cnt p ≤ 80) :
    g_walk [enc p, dp w, dp cs, whr main] met ⟨[], [], 0⟩ = .ok (.sh .none) (met ++ (lst p w).map encK) ⟨[], [], 0⟩ := by
  have z := while_ok (enc p) (dp w) cs main 200 [rootI p w main] met (fun i hi => by rw [List.mem_singleton.mp hi]; exact h) (by show cnt p + 0 < 200; omega) (by show met.length + (cnt p + 0) ≤ 80; omega)
  have e : lstI [rootI p w main] = lst p w := by simp [lstI, rootI]
  rw [e] at z
  have run : m_walk ⟨initG false true 15 [enc p, dp w, dp cs, whr main] met, ⟨[], [], 0⟩⟩ = .ok .nx (wC (enc p) (dp w) cs main (met ++ (lst p w).map encK) [] no9) := by
    rw [m_walk_eq, x_seq, init_run]
    exact z
  unfold g_walk runG
  rw [run]
  rfl
theorem run_walk_fails {cs : List Nat} {main : Bool} {p : Pc} {w : List Nat} {n k : Nat} {d : Dat} (met : List Dat) (f : Fails cs main n [rootI p w main] k d) (hn : n < 200) (hm : met.length + n < 80) :
    ∃ met', g_walk [enc p, dp w, dp cs, whr main] met ⟨[], [], 0⟩ = .exc k d met' ⟨[], [], 0⟩ := by
  obtain ⟨met', A, t, z⟩ := while_fails (enc p) (dp w) f 200 met hn hm
  refine ⟨met', ?_⟩
  have run : m_walk ⟨initG false true 15 [enc p, dp w, dp cs, whr main] met, ⟨[], [], 0⟩⟩ = .exc k d (wC (enc p) (dp w) cs main met' A t) := by
    rw [m_walk_eq, x_seq, init_run]
    exact z
  unfold g_walk runG
  rw [run]
  rfl
end Pn

set_option maxHeartbeats 2000003
namespace Pn
open L2 PyProof.Rows PySem.Spec PySem
/-! ### parts within, others in their place -/
inductive Sub : Pc → List Nat → Pc → Prop
  | here (p : Pc) : Sub p [] p
  | kid {p : Pc} {q : List Nat × Pc} {rel : List Nat} {s : Pc} (h : q ∈ kids p) (t : Sub q.2 rel s) : Sub p (q.1 ++ rel) s
inductive Rep (q : Pc) : Pc → List Nat → Pc → Prop
  | here (p : Pc) : Rep q p [] q
  | wait {p p' : Pc} {r : List Nat} (h : Rep q p r p') : Rep q (.wait p) (1 :: r) (.wait p')
  | send {p p' : Pc} {r : List Nat} (a b : Nat) (h : Rep q p r p') : Rep q (.send a b p) (3 :: r) (.send a b p')
  | take {p p' : Pc} {r : List Nat} (a b : Nat) (h : Rep q p r p') : Rep q (.take a b p) (3 :: r) (.take a b p')
  | tst {p p' : Pc} {r : List Nat} (w : Bool) (a b : Nat) (h : Rep q p r p') : Rep q (.tst w a b p) (3 :: r) (.tst w a b p')
  | two1 {p p' : Pc} {r : List Nat} (o : Pc) (h : Rep q p r p') : Rep q (.two p o) (1 :: 0 :: r) (.two p' o)
  | two2 {p p' : Pc} {r : List Nat} (o : Pc) (h : Rep q p r p') : Rep q (.two o p) (1 :: 1 :: r) (.two o p')
  | bes1 {p p' : Pc} {r : List Nat} (o : Pc) (h : Rep q p r p') : Rep q (.bes p o) (1 :: 0 :: r) (.bes p' o)
  | bes2 {p p' : Pc} {r : List Nat} (o : Pc) (h : Rep q p r p') : Rep q (.bes o p) (1 :: 1 :: r) (.bes o p')
  | new {p p' : Pc} {r : List Nat} (x : Nat) (h : Rep q p r p') : Rep q (.new x p) (2 :: r) (.new x p')
theorem mem_lst : ∀ (p : Pc) (w x : List Nat) (s : Pc), (x, s) ∈ lst p w → ∃ rel, x = w ++ rel ∧ Sub p rel s := by
  have go : ∀ (n : Nat) (p : Pc) (w x : List Nat) (s : Pc), dep p ≤ n → (x, s) ∈ lst p w → ∃ rel, x = w ++ rel ∧ Sub p rel s := by
    intro n
    induction n with
    | zero => intro p _ _ _ h; have := dep_pos p; omega
    | succ n ih =>
      intro p w x s h m
      rw [lst_kids] at m
      rcases List.mem_cons.mp m with e | m
      · cases e
        exact ⟨[], (List.append_nil _).symm, .here _⟩
      · obtain ⟨q, hq, m⟩ := List.mem_flatMap.mp m
        obtain ⟨rel, e, t⟩ := ih q.2 (w ++ q.1) x s (kid_dep h q hq) m
        exact ⟨q.1 ++ rel, by rw [e, List.append_assoc], .kid hq t⟩
  exact fun p w x s => go (dep p) p w x s (Nat.le_refl _)
theorem Sub.rep {p : Pc} {rel : List Nat} {s : Pc} (h : Sub p rel s) (q : Pc) : ∃ p', Rep q p rel p' := by
  induction h with
  | here p => exact ⟨q, .here p⟩
  | @kid p k rel s hk t ih =>
    obtain ⟨p', z⟩ := ih
    cases p <;> simp [kids] at hk <;> (try (rcases hk with rfl | rfl)) <;> (try subst hk)
    · exact ⟨_, .wait z⟩
    · exact ⟨_, .send _ _ z⟩
    · exact ⟨_, .take _ _ z⟩
    · exact ⟨_, .tst _ _ _ z⟩
    · exact ⟨_, .two1 _ z⟩
    · exact ⟨_, .two2 _ z⟩
    · exact ⟨_, .bes1 _ z⟩
    · exact ⟨_, .bes2 _ z⟩
    · exact ⟨_, .new _ z⟩
theorem Sub.same {p : Pc} {rel : List Nat} {s : Pc} (h : Sub p rel s) : Rep s p rel p := by
  induction h with
  | here p => exact .here p
  | @kid p k rel s hk t ih =>
    cases p <;> simp [kids] at hk <;> (try (rcases hk with rfl | rfl)) <;> (try subst hk)
    · exact .wait ih
    · exact .send _ _ ih
    · exact .take _ _ ih
    · exact .tst _ _ _ ih
    · exact .two1 _ ih
    · exact .two2 _ ih
    · exact .bes1 _ ih
    · exact .bes2 _ ih
    · exact .new _ ih
section
variable {q p p' : Pc} {r : List Nat}
theorem Rep.cnt (h : Rep q p r p') : cnt p' ≤ cnt p + cnt q := by
  induction h with
  | here p => omega
  | _ => simp only [Pn.cnt] at *; omega
theorem Rep.dep (h : Rep q p r p') : dep p' ≤ dep p + dep q := by
  induction h with
  | here p => omega
  | _ => simp only [Pn.dep] at *; omega
theorem Rep.sz (h : Rep q p r p') : sz p' ≤ sz p + sz q := by
  induction h with
  | here p => omega
  | _ => simp only [Pn.sz] at *; omega
theorem Rep.noSev (h : Rep q p r p') (hp : noSev p = true) (hq : noSev q = true) : noSev p' = true := by
  induction h <;> simp_all [Pn.noSev]
theorem Rep.okAt (h : Rep q p r p') {cs : List Nat} {main : Bool} (hq : ∀ due g, okAt cs main q due g = true) : ∀ {due g : Bool}, okAt cs main p due g = true → okAt cs main p' due g = true := by
  induction h with
  | here p => exact fun _ => hq _ _
  | wait h ih => intro due g hp; simp only [Pn.okAt, Bool.and_eq_true] at hp ⊢; exact ⟨hp.1, ih hp.2⟩
  | send a b h ih => intro due g hp; simp only [Pn.okAt, Bool.and_eq_true] at hp ⊢; exact ⟨hp.1, ih hp.2⟩
  | take a b h ih => intro due g hp; simp only [Pn.okAt, Bool.and_eq_true] at hp ⊢; exact ⟨hp.1, ih hp.2⟩
  | tst w a b h ih => intro due g hp; simp only [Pn.okAt, Bool.and_eq_true] at hp ⊢; exact ⟨hp.1, ih hp.2⟩
  | new x h ih => intro due g hp; simp only [Pn.okAt, Bool.and_eq_true] at hp ⊢; exact ⟨hp.1, ih hp.2⟩
  | two1 o h ih => intro due g hp; simp only [Pn.okAt, Bool.and_eq_true] at hp ⊢; exact ⟨hp.1, ih hp.2.1, hp.2.2⟩
  | bes1 o h ih => intro due g hp; simp only [Pn.okAt, Bool.and_eq_true] at hp ⊢; exact ⟨hp.1, ih hp.2.1, hp.2.2⟩
  | two2 o h ih => intro due g hp; simp only [Pn.okAt, Bool.and_eq_true] at hp ⊢; exact ⟨hp.1, hp.2.1, ih hp.2.2⟩
  | bes2 o h ih => intro due g hp; simp only [Pn.okAt, Bool.and_eq_true] at hp ⊢; exact ⟨hp.1, hp.2.1, ih hp.2.2⟩
theorem Rep.fv (h : Rep q p r p') : ∀ x ∈ fv p', x ∈ fv p ∨ x ∈ fv q := by
  induction h with
  | here p => exact fun x hx => .inr hx
  | wait h ih => intro x hx; simp only [Pn.fv, upI_mem] at *; exact ih x hx
  | send a b h ih =>
    intro x hx
    simp only [Pn.fv, upI_mem, List.mem_cons] at *
    rcases hx with hx | hx | hx
    · exact .inl (.inl hx)
    · exact .inl (.inr (.inl hx))
    · exact (ih x hx).imp (fun z => .inr (.inr z)) id
  | tst w a b h ih =>
    intro x hx
    simp only [Pn.fv, upI_mem, List.mem_cons] at *
    rcases hx with hx | hx | hx
    · exact .inl (.inl hx)
    · exact .inl (.inr (.inl hx))
    · exact (ih x hx).imp (fun z => .inr (.inr z)) id
  | take a b h ih =>
    intro x hx
    simp only [Pn.fv, upI_mem, List.mem_cons, List.mem_filter] at *
    rcases hx with hx | hx
    · exact .inl (.inl hx)
    · exact (ih x hx.1).imp (fun z => .inr ⟨z, hx.2⟩) id
  | new a h ih =>
    intro x hx
    simp only [Pn.fv, upI_mem, List.mem_filter] at *
    exact (ih x hx.1).imp (fun z => ⟨z, hx.2⟩) id
  | two1 o h ih =>
    intro x hx
    simp only [Pn.fv, upI_mem, List.mem_append] at *
    rcases hx with hx | hx
    · exact (ih x hx).imp .inl id
    · exact .inl (.inr hx)
  | bes1 o h ih =>
    intro x hx
    simp only [Pn.fv, upI_mem, List.mem_append] at *
    rcases hx with hx | hx
    · exact (ih x hx).imp .inl id
    · exact .inl (.inr hx)
  | two2 o h ih =>
    intro x hx
    simp only [Pn.fv, upI_mem, List.mem_append] at *
    rcases hx with hx | hx
    · exact .inl (.inl hx)
    · exact (ih x hx).imp .inr id
  | bes2 o h ih =>
    intro x hx
    simp only [Pn.fv, upI_mem, List.mem_append] at *
    rcases hx with hx | hx
    · exact .inl (.inl hx)
    · exact (ih x hx).imp .inr id
end
/-! ### what does not go -/
theorem fails_deep {cs : List Nat} {main : Bool} : ∀ (p : Pc) (w : List Nat) (d : Nat) (due g : Bool) (r : List It), okAt cs main p due g = true → d ≤ 13 → 13 < d + dep p → w.length + 2 * dep p ≤ 900 → sz p ≤ 900 → cnt p + r.length ≤ 800 → ∃ n, n ≤ cnt p ∧ Fails cs main n (⟨w, p, d, due, g⟩ :: r) 5 (.int 12) := by
  intro p
  induction p with
  | stop => intro w d due g r _ _ h _ _ _; exact ⟨0, Nat.zero_le _, .deep (by simp only [dep] at h; show 12 < d; omega)⟩
  | call a b => intro w d due g r _ _ h _ _ _; exact ⟨0, Nat.zero_le _, .deep (by simp only [dep] at h; show 12 < d; omega)⟩
  | seven => intro w d due g r _ _ h _ _ _; exact ⟨0, Nat.zero_le _, .deep (by simp only [dep] at h; show 12 < d; omega)⟩
  | wait p ih =>
    intro w d due g r ok hd h hw hz hc
    by_cases e : 12 < d
    · exact ⟨0, Nat.zero_le _, .deep e⟩
    · have ok2 := okAt_kids ok _ (List.mem_cons_self)
      have lt := okAt_let ok
      simp only [dep, sz, cnt] at h hw hz hc
      obtain ⟨n, hn, f⟩ := ih (w ++ [1]) (d + 1) _ _ r ok2 (by omega) (by omega) (by rw [List.length_append, List.length_singleton]; omega) (by omega) (by omega)
      exact ⟨n + 1, by simp only [cnt]; omega, .step (i := ⟨w, .wait p, d, due, g⟩) (by show d ≤ 12; omega) (run_let cs main _ due g lt (by simp [szC])) (by simp) (by show w.length ≤ 1000; omega) (by omega) f⟩
  | send a b p ih =>
    intro w d due g r ok hd h hw hz hc
    by_cases e : 12 < d
    · exact ⟨0, Nat.zero_le _, .deep e⟩
    · have ok2 := okAt_kids ok _ (List.mem_cons_self)
      have lt := okAt_let ok
      simp only [dep, sz, cnt] at h hw hz hc
      obtain ⟨n, hn, f⟩ := ih (w ++ [3]) (d + 1) _ _ r ok2 (by omega) (by omega) (by rw [List.length_append, List.length_singleton]; omega) (by omega) (by omega)
      exact ⟨n + 1, by simp only [cnt]; omega, .step (i := ⟨w, .send a b p, d, due, g⟩) (by show d ≤ 12; omega) (run_let cs main _ due g lt (by simp [szC])) (by simp) (by show w.length ≤ 1000; omega) (by omega) f⟩
  | take a b p ih =>
    intro w d due g r ok hd h hw hz hc
    by_cases e : 12 < d
    · exact ⟨0, Nat.zero_le _, .deep e⟩
    · have ok2 := okAt_kids ok _ (List.mem_cons_self)
      have lt := okAt_let ok
      simp only [dep, sz, cnt] at h hw hz hc
      obtain ⟨n, hn, f⟩ := ih (w ++ [3]) (d + 1) _ _ r ok2 (by omega) (by omega) (by rw [List.length_append, List.length_singleton]; omega) (by omega) (by omega)
      exact ⟨n + 1, by simp only [cnt]; omega, .step (i := ⟨w, .take a b p, d, due, g⟩) (by show d ≤ 12; omega) (run_let cs main _ due g lt (by simp [szC])) (by simp) (by show w.length ≤ 1000; omega) (by omega) f⟩
  | tst v a b p ih =>
    intro w d due g r ok hd h hw hz hc
    by_cases e : 12 < d
    · exact ⟨0, Nat.zero_le _, .deep e⟩
    · have ok2 := okAt_kids ok _ (List.mem_cons_self)
      have lt := okAt_let ok
      simp only [dep, sz, cnt] at h hw hz hc
      obtain ⟨n, hn, f⟩ := ih (w ++ [3]) (d + 1) _ _ r ok2 (by omega) (by omega) (by rw [List.length_append, List.length_singleton]; omega) (by omega) (by omega)
      exact ⟨n + 1, by simp only [cnt]; omega, .step (i := ⟨w, .tst v a b p, d, due, g⟩) (by show d ≤ 12; omega) (run_let cs main _ due g lt (by simp [szC])) (by simp) (by show w.length ≤ 1000; omega) (by omega) f⟩
  | new x p ih =>
    intro w d due g r ok hd h hw hz hc
    by_cases e : 12 < d
    · exact ⟨0, Nat.zero_le _, .deep e⟩
    · have ok2 := okAt_kids ok _ (List.mem_cons_self)
      have lt := okAt_let ok
      simp only [dep, sz, cnt] at h hw hz hc
      obtain ⟨n, hn, f⟩ := ih (w ++ [2]) (d + 1) _ _ r ok2 (by omega) (by omega) (by rw [List.length_append, List.length_singleton]; omega) (by omega) (by omega)
      exact ⟨n + 1, by simp only [cnt]; omega, .step (i := ⟨w, .new x p, d, due, g⟩) (by show d ≤ 12; omega) (run_let cs main _ due g lt (by simp [szC])) (by simp) (by show w.length ≤ 1000; omega) (by omega) f⟩
  | two p q ih1 ih2 =>
    intro w d due g r ok hd h hw hz hc
    by_cases e : 12 < d
    · exact ⟨0, Nat.zero_le _, .deep e⟩
    · have ok1 := okAt_kids ok _ (List.mem_cons_self)
      have ok2 := okAt_kids ok _ (List.mem_cons_of_mem _ List.mem_cons_self)
      have lt := okAt_let ok
      simp only [dep, sz, cnt] at h hw hz hc
      have c1 := cnt_pos p
      have c2 := cnt_pos q
      by_cases e1 : 13 < d + 1 + dep p
      · obtain ⟨n, hn, f⟩ := ih1 (w ++ [1, 0]) (d + 1) _ _ (⟨w ++ [1, 1], q, d + 1, dueOf (.two p q), g || isPre (.two p q)⟩ :: r) ok1 (by omega) e1 (by rw [List.length_append]; simp; omega) (by omega) (by rw [List.length_cons]; omega)
        exact ⟨n + 1, by simp only [cnt]; omega, .step (i := ⟨w, .two p q, d, due, g⟩) (by show d ≤ 12; omega) (run_let cs main _ due g lt (by simp [szC])) (by simp) (by show w.length ≤ 1000; omega) (by omega) f⟩
      · obtain ⟨n, hn, f⟩ := ih2 (w ++ [1, 1]) (d + 1) _ _ r ok2 (by omega) (by omega) (by rw [List.length_append]; simp; omega) (by omega) (by omega)
        have f2 := fails_behind f (cnt p) [⟨w ++ [1, 0], p, d + 1, dueOf (.two p q), g || isPre (.two p q)⟩] (by simp [sumC]) (fun i hi => by
          rw [List.mem_singleton.mp hi]
          exact ⟨ok1, by show d + 1 + dep p ≤ 13; omega, by show (w ++ [1, 0]).length + 2 * dep p ≤ 1000; rw [List.length_append]; simp; omega, by show sz p ≤ 1000; omega⟩) (by rw [List.length_cons]; omega)
        exact ⟨n + cnt p + 1, by simp only [cnt]; omega, .step (i := ⟨w, .two p q, d, due, g⟩) (by show d ≤ 12; omega) (run_let cs main _ due g lt (by simp [szC])) (by simp) (by show w.length ≤ 1000; omega) (by omega) f2⟩
  | bes p q ih1 ih2 =>
    intro w d due g r ok hd h hw hz hc
    by_cases e : 12 < d
    · exact ⟨0, Nat.zero_le _, .deep e⟩
    · have ok1 := okAt_kids ok _ (List.mem_cons_self)
      have ok2 := okAt_kids ok _ (List.mem_cons_of_mem _ List.mem_cons_self)
      have lt := okAt_let ok
      simp only [dep, sz, cnt] at h hw hz hc
      have c1 := cnt_pos p
      have c2 := cnt_pos q
      by_cases e1 : 13 < d + 1 + dep p
      · obtain ⟨n, hn, f⟩ := ih1 (w ++ [1, 0]) (d + 1) _ _ (⟨w ++ [1, 1], q, d + 1, dueOf (.bes p q), g || isPre (.bes p q)⟩ :: r) ok1 (by omega) e1 (by rw [List.length_append]; simp; omega) (by omega) (by rw [List.length_cons]; omega)
        exact ⟨n + 1, by simp only [cnt]; omega, .step (i := ⟨w, .bes p q, d, due, g⟩) (by show d ≤ 12; omega) (run_let cs main _ due g lt (by simp [szC])) (by simp) (by show w.length ≤ 1000; omega) (by omega) f⟩
      · obtain ⟨n, hn, f⟩ := ih2 (w ++ [1, 1]) (d + 1) _ _ r ok2 (by omega) (by omega) (by rw [List.length_append]; simp; omega) (by omega) (by omega)
        have f2 := fails_behind f (cnt p) [⟨w ++ [1, 0], p, d + 1, dueOf (.bes p q), g || isPre (.bes p q)⟩] (by simp [sumC]) (fun i hi => by
          rw [List.mem_singleton.mp hi]
          exact ⟨ok1, by show d + 1 + dep p ≤ 13; omega, by show (w ++ [1, 0]).length + 2 * dep p ≤ 1000; rw [List.length_append]; simp; omega, by show sz p ≤ 1000; omega⟩) (by rw [List.length_cons]; omega)
        exact ⟨n + cnt p + 1, by simp only [cnt]; omega, .step (i := ⟨w, .bes p q, d, due, g⟩) (by show d ≤ 12; omega) (run_let cs main _ due g lt (by simp [szC])) (by simp) (by show w.length ≤ 1000; omega) (by omega) f2⟩
theorem fails_seven {cs : List Nat} {main : Bool} {p p' : Pc} {rel : List Nat} (h : Rep .seven p rel p') : ∀ (w : List Nat) (d : Nat) (due g : Bool) (st : List It), okAt cs main p due g = true → d + dep p ≤ 13 → w.length + 2 * dep p ≤ 900 → sz p ≤ 900 → cnt p + st.length ≤ 800 → ∃ n, n ≤ cnt p ∧ Fails cs main n (⟨w, p', d, due, g⟩ :: st) 1 (dp (w ++ rel)) := by
  induction h with
  | here p =>
    intro w d due g st ok hd hw hz hc
    have d1 := dep_pos p
    rw [List.append_nil]
    exact ⟨0, Nat.zero_le _, .bad (i := ⟨w, .seven, d, due, g⟩) (by show d ≤ 12; omega) (let_seven cs main due g) (by show w.length ≤ 1000; omega) (by omega)⟩
  | @wait p p' r h ih =>
    intro w d due g st ok hd hw hz hc
    have ok2 := okAt_kids ok _ (List.mem_cons_self)
    have lt := okAt_let ok
    simp only [dep, sz, cnt] at hd hw hz hc
    obtain ⟨n, hn, f⟩ := ih (w ++ [1]) (d + 1) _ _ st ok2 (by omega) (by rw [List.length_append]; simp; omega) (by omega) (by omega)
    rw [List.append_assoc] at f
    exact ⟨n + 1, by simp only [cnt]; omega, .step (i := ⟨w, .wait p', d, due, g⟩) (by show d ≤ 12; omega) (run_let cs main (.wait p') due g lt (by simp [szC])) (by simp) (by show w.length ≤ 1000; omega) (by omega) f⟩
  | @send p p' r a b h ih =>
    intro w d due g st ok hd hw hz hc
    have ok2 := okAt_kids ok _ (List.mem_cons_self)
    have lt := okAt_let ok
    simp only [dep, sz, cnt] at hd hw hz hc
    obtain ⟨n, hn, f⟩ := ih (w ++ [3]) (d + 1) _ _ st ok2 (by omega) (by rw [List.length_append]; simp; omega) (by omega) (by omega)
    rw [List.append_assoc] at f
    exact ⟨n + 1, by simp only [cnt]; omega, .step (i := ⟨w, .send a b p', d, due, g⟩) (by show d ≤ 12; omega) (run_let cs main (.send a b p') due g lt (by simp [szC])) (by simp) (by show w.length ≤ 1000; omega) (by omega) f⟩
  | @take p p' r a b h ih =>
    intro w d due g st ok hd hw hz hc
    have ok2 := okAt_kids ok _ (List.mem_cons_self)
    have lt := okAt_let ok
    simp only [dep, sz, cnt] at hd hw hz hc
    obtain ⟨n, hn, f⟩ := ih (w ++ [3]) (d + 1) _ _ st ok2 (by omega) (by rw [List.length_append]; simp; omega) (by omega) (by omega)
    rw [List.append_assoc] at f
    exact ⟨n + 1, by simp only [cnt]; omega, .step (i := ⟨w, .take a b p', d, due, g⟩) (by show d ≤ 12; omega) (run_let cs main (.take a b p') due g lt (by simp [szC])) (by simp) (by show w.length ≤ 1000; omega) (by omega) f⟩
  | @tst p p' r v a b h ih =>
    intro w d due g st ok hd hw hz hc
    have ok2 := okAt_kids ok _ (List.mem_cons_self)
    have lt := okAt_let ok
    simp only [dep, sz, cnt] at hd hw hz hc
    obtain ⟨n, hn, f⟩ := ih (w ++ [3]) (d + 1) _ _ st ok2 (by omega) (by rw [List.length_append]; simp; omega) (by omega) (by omega)
    rw [List.append_assoc] at f
    exact ⟨n + 1, by simp only [cnt]; omega, .step (i := ⟨w, .tst v a b p', d, due, g⟩) (by show d ≤ 12; omega) (run_let cs main (.tst v a b p') due g lt (by simp [szC])) (by simp) (by show w.length ≤ 1000; omega) (by omega) f⟩
  | @new p p' r x h ih =>
    intro w d due g st ok hd hw hz hc
    have ok2 := okAt_kids ok _ (List.mem_cons_self)
    have lt := okAt_let ok
    simp only [dep, sz, cnt] at hd hw hz hc
    obtain ⟨n, hn, f⟩ := ih (w ++ [2]) (d + 1) _ _ st ok2 (by omega) (by rw [List.length_append]; simp; omega) (by omega) (by omega)
    rw [List.append_assoc] at f
    exact ⟨n + 1, by simp only [cnt]; omega, .step (i := ⟨w, .new x p', d, due, g⟩) (by show d ≤ 12; omega) (run_let cs main (.new x p') due g lt (by simp [szC])) (by simp) (by show w.length ≤ 1000; omega) (by omega) f⟩
  | @two1 p p' r o h ih =>
    intro w d due g st ok hd hw hz hc
    have ok1 := okAt_kids ok _ (List.mem_cons_self)
    have lt := okAt_let ok
    simp only [dep, sz, cnt] at hd hw hz hc
    have c1 := cnt_pos p
    have c2 := cnt_pos o
    obtain ⟨n, hn, f⟩ := ih (w ++ [1, 0]) (d + 1) _ _ (⟨w ++ [1, 1], o, d + 1, dueOf (.two p' o), g || isPre (.two p' o)⟩ :: st) ok1 (by omega) (by rw [List.length_append]; simp; omega) (by omega) (by rw [List.length_cons]; omega)
    rw [List.append_assoc] at f
    exact ⟨n + 1, by simp only [cnt]; omega, .step (i := ⟨w, .two p' o, d, due, g⟩) (by show d ≤ 12; omega) (run_let cs main (.two p' o) due g lt (by simp [szC])) (by simp) (by show w.length ≤ 1000; omega) (by omega) f⟩
  | @two2 p p' r o h ih =>
    intro w d due g st ok hd hw hz hc
    have ok1 := okAt_kids ok _ (List.mem_cons_self)
    have ok2 := okAt_kids ok _ (List.mem_cons_of_mem _ List.mem_cons_self)
    have lt := okAt_let ok
    simp only [dep, sz, cnt] at hd hw hz hc
    have c1 := cnt_pos p
    have c2 := cnt_pos o
    obtain ⟨n, hn, f⟩ := ih (w ++ [1, 1]) (d + 1) _ _ st ok2 (by omega) (by rw [List.length_append]; simp; omega) (by omega) (by omega)
    rw [List.append_assoc] at f
    have f2 := fails_behind f (cnt o) [⟨w ++ [1, 0], o, d + 1, dueOf (.two o p'), g || isPre (.two o p')⟩] (by simp [sumC]) (fun i hi => by
      rw [List.mem_singleton.mp hi]
      exact ⟨ok1, by show d + 1 + dep o ≤ 13; omega, by show (w ++ [1, 0]).length + 2 * dep o ≤ 1000; rw [List.length_append]; simp; omega, by show sz o ≤ 1000; omega⟩) (by rw [List.length_cons]; omega)
    exact ⟨n + cnt o + 1, by simp only [cnt]; omega, .step (i := ⟨w, .two o p', d, due, g⟩) (by show d ≤ 12; omega) (run_let cs main (.two o p') due g lt (by simp [szC])) (by simp) (by show w.length ≤ 1000; omega) (by omega) f2⟩
  | @bes1 p p' r o h ih =>
    intro w d due g st ok hd hw hz hc
    have ok1 := okAt_kids ok _ (List.mem_cons_self)
    have lt := okAt_let ok
    simp only [dep, sz, cnt] at hd hw hz hc
    have c1 := cnt_pos p
    have c2 := cnt_pos o
    obtain ⟨n, hn, f⟩ := ih (w ++ [1, 0]) (d + 1) _ _ (⟨w ++ [1, 1], o, d + 1, dueOf (.bes p' o), g || isPre (.bes p' o)⟩ :: st) ok1 (by omega) (by rw [List.length_append]; simp; omega) (by omega) (by rw [List.length_cons]; omega)
    rw [List.append_assoc] at f
    exact ⟨n + 1, by simp only [cnt]; omega, .step (i := ⟨w, .bes p' o, d, due, g⟩) (by show d ≤ 12; omega) (run_let cs main (.bes p' o) due g lt (by simp [szC])) (by simp) (by show w.length ≤ 1000; omega) (by omega) f⟩
  | @bes2 p p' r o h ih =>
    intro w d due g st ok hd hw hz hc
    have ok1 := okAt_kids ok _ (List.mem_cons_self)
    have ok2 := okAt_kids ok _ (List.mem_cons_of_mem _ List.mem_cons_self)
    have lt := okAt_let ok
    simp only [dep, sz, cnt] at hd hw hz hc
    have c1 := cnt_pos p
    have c2 := cnt_pos o
    obtain ⟨n, hn, f⟩ := ih (w ++ [1, 1]) (d + 1) _ _ st ok2 (by omega) (by rw [List.length_append]; simp; omega) (by omega) (by omega)
    rw [List.append_assoc] at f
    have f2 := fails_behind f (cnt o) [⟨w ++ [1, 0], o, d + 1, dueOf (.bes o p'), g || isPre (.bes o p')⟩] (by simp [sumC]) (fun i hi => by
      rw [List.mem_singleton.mp hi]
      exact ⟨ok1, by show d + 1 + dep o ≤ 13; omega, by show (w ++ [1, 0]).length + 2 * dep o ≤ 1000; rw [List.length_append]; simp; omega, by show sz o ≤ 1000; omega⟩) (by rw [List.length_cons]; omega)
    exact ⟨n + cnt o + 1, by simp only [cnt]; omega, .step (i := ⟨w, .bes o p', d, due, g⟩) (by show d ≤ 12; omega) (run_let cs main (.bes o p') due g lt (by simp [szC])) (by simp) (by show w.length ≤ 1000; omega) (by omega) f2⟩
end Pn

set_option maxHeartbeats 2000003
namespace Pn
open L2 PyProof.Rows PySem.Spec PySem
/-! ### another thing at a place of a datum -/
inductive DRep (q : Dat) : Dat → List Nat → Dat → Prop
  | here (d : Dat) : DRep q d [] q
  | at {xs : List Dat} {n : Nat} {x y : Dat} {r : List Nat} (h : xs[n]? = some x) (hl : xs.length ≤ 1000) (t : DRep q x r y) : DRep q (.tuple xs) (n :: r) (.tuple (xs.take n ++ (y :: xs.drop (n + 1))))
theorem sIx_nat (l d n : Nat) : HT.sIx l d (some (n : Int)) = min n l := by
  unfold HT.sIx
  simp only
  rw [if_neg (by omega)]
  rfl
theorem cut_to (xs : List Dat) (n : Nat) (h : n ≤ xs.length) : cutL xs none (some (n : Int)) = xs.take n := by
  unfold cutL
  rw [sIx_nat]
  show List.take (min n xs.length - 0) (List.drop 0 xs) = _
  rw [Nat.min_eq_left h]
  rfl
theorem cut_from (xs : List Dat) (n : Nat) (h : n ≤ xs.length) : cutL xs (some (n : Int)) none = xs.drop n := by
  unfold cutL
  rw [sIx_nat]
  show List.take (xs.length - min n xs.length) (List.drop (min n xs.length) xs) = _
  rw [Nat.min_eq_left h, List.take_of_length_le]
  rw [List.length_drop]
  omega
@[simp] theorem x_slM (m : M Dat) (l h : M (Option Int)) (c : Cfg) : slM m l h c = M.bind m (fun d => M.bind l fun lo => M.bind h fun hi => slD d lo hi) c := rfl
@[simp] theorem x_slT (l : List Dat) (lo hi : Option Int) : slD (.tuple l) lo hi = ret (.sh (.tuple (cutL l lo hi))) := rfl
@[simp] theorem x_partO (m : M Dat) (c : Cfg) : partO m c = M.bind m (fun d => match d with
  | .int i => ret (some i)
  | _ => bad) c := rfl
theorem cut_tail (x : Dat) (l : List Dat) : cutL (x :: l) (some 1) none = l := cut_from (x :: l) 1 (by simp)
theorem cut_toI {xs : List Dat} {n : Nat} (h : n ≤ xs.length) {i : Int} (e : i = (n : Int)) : cutL xs none (some i) = xs.take n := by
  rw [e, cut_to xs n h]
theorem cut_fromI {xs : List Dat} {n : Nat} (h : n + 1 ≤ xs.length) {i : Int} (e : i = (n : Int) + 1) : cutL xs (some i) none = xs.drop (n + 1) := by
  rw [e]
  exact cut_from xs (n + 1) h
theorem ixR_nat {b : Bool} {xs : List Dat} {n : Nat} {x : Dat} (h : xs[n]? = some x) : ixR (b, xs) (dn n) = ret x := ixR_at (by rw [atI_nat _ _ (List.getElem?_eq_some_iff.mp h).1, h])
theorem run_with : ∀ (k : Nat) {d d' q : Dat} {r : List Nat}, DRep q d r d' → r.length < k → g_with_part_at k [d, dp r, q] = .ok (.sh d')
  | 0, _, _, _, _, _, h => absurd h (Nat.not_lt_zero _)
  | k + 1, _, _, q, _, .here d, _ => by
    show runP 4 (m_with_part_at (g_with_part_at k)) [d, dp [], q] = _
    simp [m_with_part_at]
  | k + 1, _, _, q, _, .at (xs := xs) (n := n) (x := x) (y := y) (r := r) h hl t, hk => by
    have ih := run_with k t (by simp at hk; omega)
    have lt := (List.getElem?_eq_some_iff.mp h).1
    show runP 4 (m_with_part_at (g_with_part_at k)) [.tuple xs, .tuple (dn n :: r.map dn), q] = _
    have e3 := cut_tail (dn n) (r.map dn)
    simp [m_with_part_at, ixR_nat (b := true) h, cut_to xs n (by omega), e3, ih]
    rw [x_catT _ _ (by rw [List.length_take]; omega) (by simp)]
    simp
    rw [cut_from xs (n + 1) (by omega) |> fun e => (by simpa using e : cutL xs (some ((n : Int) + 1)) none = xs.drop (n + 1))]
    rw [x_catT _ _ (by simp; omega) (by rw [List.length_drop]; omega)]
    simp
theorem canLay_dn : ∀ l : List Nat, PyData.canLayAll0 (l.map dn) = true
  | [] => rfl
  | _ :: l => by
    rw [List.map_cons, PyData.canLayAll0, canLay_dn l]
    rfl
theorem depth_dn : ∀ l : List Nat, PyData.depthAll (l.map dn) = 0
  | [] => rfl
  | _ :: l => by
    rw [List.map_cons, PyData.depthAll, depth_dn l]
    rfl
theorem shaped_dp (l : List Nat) : SeqAt.shaped (dp l) = true := by
  unfold SeqAt.shaped
  rw [PyData.canLay0, PyData.depth, canLay_dn, depth_dn]
  rfl
theorem eq_nil_dp : ∀ r : List Nat, eqD (dp r) (.tuple []) = ret (.bool r.isEmpty)
  | [] => by kernel_rfl
  | a :: r => by
    unfold eqD
    have e : SeqAt.shaped (.tuple []) = true := rfl
    rw [shaped_dp, e]
    rfl
theorem run_exch : ∀ (k : Nat) {d d' q : Dat} {r : List Nat}, DRep q d r d' → r.length < k → g__law_exchanged k [d, dp r, q] = .ok (.sh d')
  | 0, _, _, _, _, _, h => absurd h (Nat.not_lt_zero _)
  | k + 1, _, _, q, _, .here d, _ => by
    show runP 4 (m__law_exchanged (g__law_exchanged k)) [d, .tuple [], q] = _
    have e : eqD (.tuple []) (.tuple []) = ret (.bool true) := eq_nil_dp []
    simp [m__law_exchanged, e]
  | k + 1, _, _, q, _, .at (xs := xs) (n := n) (x := x) (y := y) (r := r) h hl t, hk => by
    have ih := run_exch k t (by simp at hk; omega)
    have lt := (List.getElem?_eq_some_iff.mp h).1
    show runP 4 (m__law_exchanged (g__law_exchanged k)) [.tuple xs, .tuple (dn n :: r.map dn), q] = _
    have e3 := cut_tail (dn n) (r.map dn)
    have e4 : eqD (.tuple (dn n :: r.map dn)) (.tuple []) = ret (.bool false) := eq_nil_dp (n :: r)
    have e5 : cutL xs (some ((n : Int) + 1)) none = xs.drop (n + 1) := by simpa using cut_from xs (n + 1) (by omega)
    simp [m__law_exchanged, ixR_nat (b := true) h, cut_to xs n (by omega), e3, e4, ih]
    rw [x_catT _ _ (by rw [List.length_take]; omega) (by simp)]
    simp
    rw [e5, x_catT _ _ (by simp; omega) (by rw [List.length_drop]; omega)]
    simp
theorem Rep.drep {q p p' : Pc} {r : List Nat} (h : Rep q p r p') : DRep (enc q) (enc p) r (enc p') := by
  induction h with
  | here p => exact .here _
  | wait h ih => exact .at (xs := [.str "wait", _]) rfl (by simp) ih
  | send a b h ih => exact .at (xs := [.str "send", dn a, dn b, _]) rfl (by simp) ih
  | take a b h ih => exact .at (xs := [.str "take", dn a, dn b, _]) rfl (by simp) ih
  | tst w a b h ih =>
    cases w
    · exact .at (xs := [.str "unlike", dn a, dn b, _]) rfl (by simp) ih
    · exact .at (xs := [.str "alike", dn a, dn b, _]) rfl (by simp) ih
  | two1 o h ih => exact .at (xs := [.str "one", .tuple [_, enc o]]) rfl (by simp) (.at (xs := [_, enc o]) rfl (by simp) ih)
  | two2 o h ih => exact .at (xs := [.str "one", .tuple [enc o, _]]) rfl (by simp) (.at (xs := [enc o, _]) rfl (by simp) ih)
  | bes1 o h ih => exact .at (xs := [.str "beside", .tuple [_, enc o]]) rfl (by simp) (.at (xs := [_, enc o]) rfl (by simp) ih)
  | bes2 o h ih => exact .at (xs := [.str "beside", .tuple [enc o, _]]) rfl (by simp) (.at (xs := [enc o, _]) rfl (by simp) ih)
  | new x h ih => exact .at (xs := [.str "new", dn x, _]) rfl (by simp) ih
end Pn

set_option maxHeartbeats 2000003
namespace Pn
open L2 PyProof.Rows PySem.Spec PySem
/-! ### what can be shown -/
structure Gd (n w : Nat) (d : Dat) : Prop where
  lay : d.canLay0 = true
  dp : d.depth ≤ n
  can : d.showable = true
  len : d.shown.length ≤ w
def lens : List Str → Nat
  | [] => 0
  | s :: l => s.length + 2 + lens l
structure GdL (n w : Nat) (l : List Dat) : Prop where
  lay : PyData.canLayAll0 l = true
  dp : PyData.depthAll l ≤ n
  can : PyData.showableAll l = true
  len : lens (PyData.shownAll l) ≤ w
theorem Gd.mono {n w n' w' : Nat} {d : Dat} (h : Gd n w d) (a : n ≤ n') (b : w ≤ w') : Gd n' w' d := ⟨h.lay, Nat.le_trans h.dp a, h.can, Nat.le_trans h.len b⟩
theorem GdL.mono {n w n' w' : Nat} {d : List Dat} (h : GdL n w d) (a : n ≤ n') (b : w ≤ w') : GdL n' w' d := ⟨h.lay, Nat.le_trans h.dp a, h.can, Nat.le_trans h.len b⟩
theorem gd_nil {n w : Nat} : GdL n w [] := ⟨rfl, Nat.zero_le _, rfl, Nat.zero_le _⟩
theorem gd_cons {n a b w : Nat} {d : Dat} {l : List Dat} (h : Gd n a d) (t : GdL n b l) (e : a + 2 + b ≤ w) : GdL n w (d :: l) where
  lay := by rw [PyData.canLayAll0, h.lay, t.lay]; rfl
  dp := by rw [PyData.depthAll]; have := h.dp; have := t.dp; omega
  can := by rw [PyData.showableAll, h.can, t.can]; rfl
  len := by rw [PyData.shownAll, lens]; have := h.len; have := t.len; omega
theorem join_len : ∀ l : List Str, (Str.join ", " l).length ≤ lens l
  | [] => Nat.zero_le _
  | [x] => by
    show x.length ≤ x.length + 2 + 0
    omega
  | x :: y :: l => by
    have ih := join_len (y :: l)
    have c : ((", " : String) : Str).length = 2 := by decide +kernel
    show (x ++ ((", " : String) : Str) ++ Str.join ", " (y :: l)).length ≤ x.length + 2 + lens (y :: l)
    rw [Str.length_append, Str.length_append, c]
    omega
theorem from_len : ∀ (l : List Str) (k : Nat) (acc : Str), (textFrom k acc l).length ≤ acc.length + lens l
  | [], _, acc => Nat.le_refl _
  | t :: l, k, acc => by
    have c : ((if k > 0 then ", " else "" : String) : Str).length ≤ 2 := by
      split <;> decide +kernel
    have ih := from_len l (k + 1) (acc ++ ((if k > 0 then ", " else "" : String) : Str) ++ t)
    rw [Str.length_append, Str.length_append] at ih
    rw [textFrom, lens]
    omega
theorem gd_tup {n w m v : Nat} {l : List Dat} (h : GdL n w l) (a : n + 1 ≤ m) (b : w + 3 ≤ v) : Gd m v (.tuple l) where
  lay := h.lay
  dp := by rw [PyData.depth]; have := h.dp; omega
  can := h.can
  len := by
    rw [PyData.shown, tupleText, Str.length_append, Str.length_append]
    have c1 : (("(" : String) : Str).length = 1 := by decide +kernel
    have c2 : ((if (PyData.shownAll l).length == 1 then ",)" else ")" : String) : Str).length ≤ 2 := by split <;> decide +kernel
    have j := join_len (PyData.shownAll l)
    have := h.len
    omega
theorem gd_lst {n w m v : Nat} {l : List Dat} (h : GdL n w l) (a : n + 1 ≤ m) (b : w + 3 ≤ v) : Gd m v (.list l) where
  lay := h.lay
  dp := by rw [PyData.depth]; have := h.dp; omega
  can := h.can
  len := by
    rw [PyData.shown, listText, Str.length_append]
    have c1 : (("[" : String) : Str).length = 1 := by decide +kernel
    have c2 : (("]" : String) : Str).length = 1 := by decide +kernel
    have j := from_len (PyData.shownAll l) 0 "["
    have := h.len
    omega
theorem gd_bool (b : Bool) (n : Nat) : Gd n 5 (.bool b) := ⟨rfl, Nat.zero_le _, rfl, by cases b <;> decide +kernel⟩
theorem gd_none (n : Nat) : Gd n 4 .none := ⟨rfl, Nat.zero_le _, rfl, by decide +kernel⟩
theorem int_len : ∀ a : Nat, a < 100 → (PyData.shown (.int (a : Int))).length ≤ 4 := by decide +kernel
theorem int_can : ∀ a : Nat, a < 100 → PyData.showable (.int (a : Int)) = true := by decide +kernel
theorem gd_dn (a n : Nat) (h : a < 100) : Gd n 4 (dn a) := ⟨rfl, Nat.zero_le _, int_can a h, int_len a h⟩
theorem gd_neg1 (n : Nat) : Gd n 4 (.int (-1)) := ⟨rfl, Nat.zero_le _, by decide +kernel, by decide +kernel⟩
def wordOk (x : Str) : Bool := (PyData.str x).canLay0 && decide ((PyData.str x).shown.length ≤ 10)
theorem gd_str (x : Str) (n : Nat) (h : wordOk x = true) : Gd n 10 (.str x) := by
  have z := Bool.and_eq_true_iff.mp h
  exact ⟨z.1, Nat.zero_le _, rfl, of_decide_eq_true z.2⟩
theorem gd_dns (n : Nat) : ∀ (l : List Nat), (∀ a ∈ l, a < 100) → GdL n (6 * l.length) (l.map dn)
  | [], _ => gd_nil
  | a :: l, h => gd_cons (gd_dn a n (h a List.mem_cons_self)) (gd_dns n l fun b hb => h b (List.mem_cons_of_mem _ hb)) (by rw [List.length_cons]; omega)
theorem gd_dp (n : Nat) (l : List Nat) (h : ∀ a ∈ l, a < 100) : Gd (n + 1) (6 * l.length + 3) (dp l) := gd_tup (gd_dns n l h) (Nat.le_refl _) (Nat.le_refl _)
theorem wk : [("one" : Str), "wait", "send", "take", "alike", "unlike", "beside", "new", "call", "told", "piece", "program", "great", "infinite", "index", "bad"].all wordOk = true := by decide +kernel
end Pn

set_option maxHeartbeats 2000003
namespace Pn
open L2 PyProof.Rows PySem.Spec PySem
/-! ### programs -/
structure Pg where
  defs : List (Nat × Pc)
  main : Pc
def pars (w : Nat) : Dat := dp (List.range w)
def encD (q : Nat × Pc) : Dat := .tuple [pars q.1, enc q.2]
def encG (g : Pg) : Dat := .tuple [.tuple (g.defs.map encD), enc g.main]
def Wd (w : Nat) : Prop := w = 1 ∨ w = 2
theorem need_defs0 (m : Dat) : g_need_definitions [.tuple [.tuple [], m]] = .ok (.sh .none) := by kernel_rfl
theorem need_defs1 (m b : Dat) : ∀ w, Wd w → g_need_definitions [.tuple [.tuple [.tuple [pars w, b]], m]] = .ok (.sh .none)
  | _, .inl rfl => by kernel_rfl
  | _, .inr rfl => by kernel_rfl
theorem need_defs2 (m b c : Dat) : ∀ w v, Wd w → Wd v → g_need_definitions [.tuple [.tuple [.tuple [pars w, b], .tuple [pars v, c]], m]] = .ok (.sh .none)
  | _, _, .inl rfl, .inl rfl => by kernel_rfl
  | _, _, .inl rfl, .inr rfl => by kernel_rfl
  | _, _, .inr rfl, .inl rfl => by kernel_rfl
  | _, _, .inr rfl, .inr rfl => by kernel_rfl
theorem in_pars {w : Nat} (h : Wd w) : ∀ n, n < w → inR false (.int (n : Int)) (true, (List.range w).map dn) = ret (.bool true)
  | 0, _ => by rcases h with rfl | rfl <;> kernel_rfl
  | 1, e => by
    rcases h with rfl | rfl
    · omega
    · kernel_rfl
  | n + 2, e => by rcases h with rfl | rfl <;> omega
theorem nin_pars {w : Nat} (h : Wd w) : ∀ n, n < w → inR true (.int (n : Int)) (true, (List.range w).map dn) = ret (.bool false)
  | 0, _ => by rcases h with rfl | rfl <;> kernel_rfl
  | 1, e => by
    rcases h with rfl | rfl
    · omega
    · kernel_rfl
  | n + 2, e => by rcases h with rfl | rfl <;> omega
abbrev s0 : DS := ⟨[], [], 0⟩
theorem row_pars (w : Nat) : rowOf (pars w) = ret (true, (List.range w).map dn) := rfl
def trues (l : List Int) : List Dat := l.map fun _ => .bool true
theorem all_in {w : Nat} (hw : Wd w) {l : List Int} (h : ∀ x ∈ l, ∃ n, n < w ∧ x = (n : Int)) (hl : l.length ≤ 1000) (a0 a1 a2 a3 a4 a5 a6 a7 a8 a9 : Sl) :
    lcM [11] (put 11) (ret true) (inM false (rd 11) (rowVar 10)) (lints l) ⟨[a0, a1, a2, a3, a4, a5, a6, a7, a8, a9, .sh (pars w), .no], s0⟩ = .ok (.fr (trues l)) ⟨[a0, a1, a2, a3, a4, a5, a6, a7, a8, a9, .sh (pars w), .no], s0⟩ := by
  have z := lcM_map (b := put 11) (me := inM false (rd 11) (rowVar 10)) (f := fun _ => PyData.bool true) (vs := [11]) (items := lints l) (c := ⟨[a0, a1, a2, a3, a4, a5, a6, a7, a8, a9, .sh (pars w), .no], s0⟩) rfl (fun d hd => by
    obtain ⟨x, hx, rfl⟩ := List.mem_map.mp hd
    obtain ⟨n, hn, rfl⟩ := h x hx
    refine ⟨⟨[a0, a1, a2, a3, a4, a5, a6, a7, a8, a9, .sh (pars w), .sh (dn n)], s0⟩, ⟨[a0, a1, a2, a3, a4, a5, a6, a7, a8, a9, .sh (pars w), .sh (dn n)], s0⟩, rfl, ?_, rfl⟩
    simp [row_pars, in_pars hw n hn]) (by rw [List.length_map]; omega) rfl
  rw [List.map_map] at z
  exact z
theorem bools_trueI : ∀ l : List Int, bools (trues l) = some (l.map fun _ => true)
  | [] => rfl
  | _ :: l => by
    show bools (PyData.bool true :: trues l) = _
    rw [bools, bools_trueI l]
    rfl
theorem all_trueI (l : List Int) (c : Cfg) : allR (false, trues l) c = .ok (.bool true) c := by
  unfold allR
  simp only [bools_trueI]
  have : (l.map fun _ => true).all id = true := by simp
  first | (rw [this]; rfl) | (simp)
@[simp] theorem x_callIM (i n : Nat) (g : List Dat → List Dat → DS → GR) (ms : M (List Dat)) (c : Cfg) : callIM i n g ms c = M.bind ms (fun ds => if ds.length = n then callI i g ds else bad) c := rfl
@[simp] theorem x_callI (i : Nat) (g : List Dat → List Dat → DS → GR) (ds : List Dat) (c : Cfg) : callI i g ds c = (match held i c with
  | none => .bad
  | some l => match g ds l ⟨[], [], 0⟩ with
    | .ok v l' _ => .ok v (wr i l' c)
    | .exc k d l' _ => .exc k d (wr i l' c)
    | .bad => .bad) := rfl
@[simp] theorem x_ioArg (i : Nat) (c : Cfg) : ioArg i c = (match held i c with
  | some l => .ok [] c
  | none => .bad) := by
  show M.bind (heldM i) (fun _ => ret []) c = _
  rw [x_bind, x_heldM]
  cases held i c <;> rfl
@[simp] theorem x_outV (i : Nat) (c : Cfg) : outV i c = (match c.r[i]? with
  | some (.sh d) => .ok (.sh d) c
  | some (.own l) => .ok (.fr l) { c with r := c.r.set i .no }
  | _ => .bad) := rfl
abbrev lenLc : List Dat → M RV := lcM [10, 8] (putTup 2 (putCons (put 10) (putCons (put 8) (putNil)))) (ret true) (M.bind (rowVar 10) lenR)
@[simp] theorem x_eqMainRow : eqD (.str "main") d_ROW_MAIN = ret (.bool false) := by kernel_rfl
theorem lens0 (a0 a1 a2 a3 a4 a5 a6 : Sl) : lenLc [] ⟨[a0, a1, a2, a3, a4, a5, a6, .no, .no, .no, .no, .no], s0⟩ = .ok (.fr []) ⟨[a0, a1, a2, a3, a4, a5, a6, .no, .no, .no, .no, .no], s0⟩ := by kernel_rfl
theorem lens1 (a0 a1 a2 a3 a4 a5 a6 : Sl) (b : Dat) : ∀ w, Wd w → lenLc [.tuple [pars w, b]] ⟨[a0, a1, a2, a3, a4, a5, a6, .no, .no, .no, .no, .no], s0⟩ = .ok (.fr [dn w]) ⟨[a0, a1, a2, a3, a4, a5, a6, .no, .no, .no, .no, .no], s0⟩
  | _, .inl rfl => by kernel_rfl
  | _, .inr rfl => by kernel_rfl
theorem lens2 (a0 a1 a2 a3 a4 a5 a6 : Sl) (b c : Dat) : ∀ w v, Wd w → Wd v → lenLc [.tuple [pars w, b], .tuple [pars v, c]] ⟨[a0, a1, a2, a3, a4, a5, a6, .no, .no, .no, .no, .no], s0⟩ = .ok (.fr [dn w, dn v]) ⟨[a0, a1, a2, a3, a4, a5, a6, .no, .no, .no, .no, .no], s0⟩
  | _, _, .inl rfl, .inl rfl => by kernel_rfl
  | _, _, .inl rfl, .inr rfl => by kernel_rfl
  | _, _, .inr rfl, .inl rfl => by kernel_rfl
  | _, _, .inr rfl, .inr rfl => by kernel_rfl
theorem chk0 {m : Pc} {l : List Dat} (hw : g_walk [enc m, dp [1], dp [], whr true] [] s0 = .ok (.sh .none) l s0) : g_checked_parts [encG ⟨[], m⟩, .str "main"] = .ok (.fr l) := by
  have hw2 : g_walk [enc m, .tuple [.int 1], .tuple [], .str "main"] [] s0 = _ := hw
  simp [g_checked_parts, m_checked_parts, encG, need_defs0, lens0, held, wr, hw2]
theorem chk0x {m : Pc} {l : List Dat} {k : Nat} {d : Dat} (hw : g_walk [enc m, dp [1], dp [], whr true] [] s0 = .exc k d l s0) : g_checked_parts [encG ⟨[], m⟩, .str "main"] = .exc k d := by
  have hw2 : g_walk [enc m, .tuple [.int 1], .tuple [], .str "main"] [] s0 = _ := hw
  simp [g_checked_parts, m_checked_parts, encG, need_defs0, lens0, held, wr, hw2]
section
variable {w : Nat} (h : Wd w) {b m : Pc} {l l2 : List Dat} {k : Nat} {d : Dat}
include h
theorem chk1b (hw : g_walk [enc b, dp [0, 0, 1], dp [w], whr false] [] s0 = .exc k d l s0) : g_checked_parts [encG ⟨[(w, b)], m⟩, .str "main"] = .exc k d := by
  have hw2 : g_walk [enc b, .tuple [.int 0, .int 0, .int 1], .tuple [dn w], .str "body"] [] s0 = _ := hw
  simp [g_checked_parts, m_checked_parts, encG, encD, need_defs1 _ _ w h, lens1 _ _ _ _ _ _ _ _ w h, d_BODY, held, wr, hw2]
theorem chk1m (hb : g_walk [enc b, dp [0, 0, 1], dp [w], whr false] [] s0 = .ok (.sh .none) l s0) (hw : g_walk [enc m, dp [1], dp [w], whr true] l s0 = .exc k d l2 s0) : g_checked_parts [encG ⟨[(w, b)], m⟩, .str "main"] = .exc k d := by
  have hw2 : g_walk [enc b, .tuple [.int 0, .int 0, .int 1], .tuple [dn w], .str "body"] [] s0 = _ := hb
  have hw3 : g_walk [enc m, .tuple [.int 1], .tuple [dn w], .str "main"] l s0 = _ := hw
  simp [g_checked_parts, m_checked_parts, encG, encD, need_defs1 _ _ w h, lens1 _ _ _ _ _ _ _ _ w h, d_BODY, held, wr, hw2, hw3]
theorem chk1 (hb : g_walk [enc b, dp [0, 0, 1], dp [w], whr false] [] s0 = .ok (.sh .none) l s0) (hw : g_walk [enc m, dp [1], dp [w], whr true] l s0 = .ok (.sh .none) l2 s0)
    (hf : g_free_of 30 [enc b] = .ok (.sh (.tuple (lints (fv b))))) (hs : ∀ x ∈ fv b, ∃ n, n < w ∧ x = (n : Int)) (hl : (fv b).length ≤ 1000) : g_checked_parts [encG ⟨[(w, b)], m⟩, .str "main"] = .ok (.fr l2) := by
  have hw2 : g_walk [enc b, .tuple [.int 0, .int 0, .int 1], .tuple [dn w], .str "body"] [] s0 = _ := hb
  have hw3 : g_walk [enc m, .tuple [.int 1], .tuple [dn w], .str "main"] l s0 = _ := hw
  simp [g_checked_parts, m_checked_parts, encG, encD, need_defs1 _ _ w h, lens1 _ _ _ _ _ _ _ _ w h, d_BODY, held, wr, hw2, hw3, hf, all_in h hs hl, all_trueI]
end
section
variable {w v : Nat} (h : Wd w) (h2 : Wd v) {b c m : Pc} {l l2 l3 : List Dat} {k : Nat} {d : Dat}
include h h2
theorem chk2b (hw : g_walk [enc b, dp [0, 0, 1], dp [w, v], whr false] [] s0 = .exc k d l s0) : g_checked_parts [encG ⟨[(w, b), (v, c)], m⟩, .str "main"] = .exc k d := by
  have hw2 : g_walk [enc b, .tuple [.int 0, .int 0, .int 1], .tuple [dn w, dn v], .str "body"] [] s0 = _ := hw
  simp [g_checked_parts, m_checked_parts, encG, encD, need_defs2 _ _ _ w v h h2, lens2 _ _ _ _ _ _ _ _ _ w v h h2, d_BODY, held, wr, hw2]
theorem chk2c (hb : g_walk [enc b, dp [0, 0, 1], dp [w, v], whr false] [] s0 = .ok (.sh .none) l s0) (hw : g_walk [enc c, dp [0, 1, 1], dp [w, v], whr false] l s0 = .exc k d l2 s0) : g_checked_parts [encG ⟨[(w, b), (v, c)], m⟩, .str "main"] = .exc k d := by
  have hw2 : g_walk [enc b, .tuple [.int 0, .int 0, .int 1], .tuple [dn w, dn v], .str "body"] [] s0 = _ := hb
  have hw3 : g_walk [enc c, .tuple [.int 0, .int 1, .int 1], .tuple [dn w, dn v], .str "body"] l s0 = _ := hw
  simp [g_checked_parts, m_checked_parts, encG, encD, need_defs2 _ _ _ w v h h2, lens2 _ _ _ _ _ _ _ _ _ w v h h2, d_BODY, held, wr, hw2, hw3]
theorem chk2m (hb : g_walk [enc b, dp [0, 0, 1], dp [w, v], whr false] [] s0 = .ok (.sh .none) l s0) (hc : g_walk [enc c, dp [0, 1, 1], dp [w, v], whr false] l s0 = .ok (.sh .none) l2 s0) (hw : g_walk [enc m, dp [1], dp [w, v], whr true] l2 s0 = .exc k d l3 s0) : g_checked_parts [encG ⟨[(w, b), (v, c)], m⟩, .str "main"] = .exc k d := by
  have hw2 : g_walk [enc b, .tuple [.int 0, .int 0, .int 1], .tuple [dn w, dn v], .str "body"] [] s0 = _ := hb
  have hw3 : g_walk [enc c, .tuple [.int 0, .int 1, .int 1], .tuple [dn w, dn v], .str "body"] l s0 = _ := hc
  have hw4 : g_walk [enc m, .tuple [.int 1], .tuple [dn w, dn v], .str "main"] l2 s0 = _ := hw
  simp [g_checked_parts, m_checked_parts, encG, encD, need_defs2 _ _ _ w v h h2, lens2 _ _ _ _ _ _ _ _ _ w v h h2, d_BODY, held, wr, hw2, hw3, hw4]
theorem chk2 (hb : g_walk [enc b, dp [0, 0, 1], dp [w, v], whr false] [] s0 = .ok (.sh .none) l s0) (hc : g_walk [enc c, dp [0, 1, 1], dp [w, v], whr false] l s0 = .ok (.sh .none) l2 s0) (hw : g_walk [enc m, dp [1], dp [w, v], whr true] l2 s0 = .ok (.sh .none) l3 s0)
    (hf : g_free_of 30 [enc b] = .ok (.sh (.tuple (lints (fv b))))) (hs : ∀ x ∈ fv b, ∃ n, n < w ∧ x = (n : Int)) (hl : (fv b).length ≤ 1000)
    (hf2 : g_free_of 30 [enc c] = .ok (.sh (.tuple (lints (fv c))))) (hs2 : ∀ x ∈ fv c, ∃ n, n < v ∧ x = (n : Int)) (hl2 : (fv c).length ≤ 1000) : g_checked_parts [encG ⟨[(w, b), (v, c)], m⟩, .str "main"] = .ok (.fr l3) := by
  have hw2 : g_walk [enc b, .tuple [.int 0, .int 0, .int 1], .tuple [dn w, dn v], .str "body"] [] s0 = _ := hb
  have hw3 : g_walk [enc c, .tuple [.int 0, .int 1, .int 1], .tuple [dn w, dn v], .str "body"] l s0 = _ := hc
  have hw4 : g_walk [enc m, .tuple [.int 1], .tuple [dn w, dn v], .str "main"] l2 s0 = _ := hw
  simp [g_checked_parts, m_checked_parts, encG, encD, need_defs2 _ _ _ w v h h2, lens2 _ _ _ _ _ _ _ _ _ w v h h2, d_BODY, held, wr, hw2, hw3, hw4, hf, hf2, all_in h hs hl, all_in h2 hs2 hl2, all_trueI]
end
end Pn

set_option maxHeartbeats 2000003
namespace Pn
open L2 PyProof.Rows PySem.Spec PySem
def Pg.cs (g : Pg) : List Nat := g.defs.map (·.1)
def bodyRows : Nat → List (Nat × Pc) → List (List Nat × Pc)
  | _, [] => []
  | i, d :: l => lst d.2 [0, i, 1] ++ bodyRows (i + 1) l
def rows (g : Pg) : List (List Nat × Pc) := bodyRows 0 g.defs ++ lst g.main [1]
structure BOk (cs : List Nat) (d : Nat × Pc) : Prop where
  wd : Wd d.1
  ok : okAt cs false d.2 false false = true
  dpt : dep d.2 ≤ 12
  cnt : Pn.cnt d.2 ≤ 14
  sz : Pn.sz d.2 ≤ 61
  ns : noSev d.2 = true
  fv : ∀ x ∈ Pn.fv d.2, ∃ n, n < d.1 ∧ x = (n : Int)
structure MOk (cs : List Nat) (p : Pc) : Prop where
  ok : okAt cs true p false true = true
  cnt : Pn.cnt p ≤ 40
  sz : Pn.sz p ≤ 61
  ns : noSev p = true
  dpt : dep p ≤ 12
structure PgOk (g : Pg) : Prop where
  nd : g.defs.length ≤ 2
  b : ∀ d ∈ g.defs, BOk g.cs d
  m : MOk g.cs g.main
theorem BOk.root {cs : List Nat} {d : Nat × Pc} (h : BOk cs d) (i : Nat) : okI cs false (rootI d.2 [0, i, 1] false) := ⟨h.ok, by show 1 + dep d.2 ≤ 13; have := h.dpt; omega, by show 3 + 2 * dep d.2 ≤ 1000; have := h.dpt; omega, by show Pn.sz d.2 ≤ 1000; have := h.sz; omega⟩
theorem BOk.walk {cs : List Nat} {d : Nat × Pc} (h : BOk cs d) (i : Nat) (met : List Dat) (hm : met.length ≤ 60) : g_walk [enc d.2, dp [0, i, 1], dp cs, whr false] met s0 = .ok (.sh .none) (met ++ (lst d.2 [0, i, 1]).map encK) s0 :=
  run_walk_ok cs false d.2 [0, i, 1] met (h.root i) (by have := h.cnt; omega)
theorem BOk.free {cs : List Nat} {d : Nat × Pc} (h : BOk cs d) : g_free_of 30 [enc d.2] = .ok (.sh (.tuple (lints (Pn.fv d.2)))) := run_free 30 d.2 h.ns (by have := h.dpt; omega) (by have := h.sz; omega)
theorem BOk.flen {cs : List Nat} {d : Nat × Pc} (h : BOk cs d) : (Pn.fv d.2).length ≤ 1000 := by have := fv_len d.2; have := h.sz; omega
theorem MOk.root {cs : List Nat} {p : Pc} (h : MOk cs p) : okI cs true (rootI p [1] true) := ⟨h.ok, by show 1 + dep p ≤ 13; have := h.dpt; omega, by show 1 + 2 * dep p ≤ 1000; have := h.dpt; omega, by show Pn.sz p ≤ 1000; have := h.sz; omega⟩
theorem MOk.walk {cs : List Nat} {p : Pc} (h : MOk cs p) (met : List Dat) (hm : met.length ≤ 40) : g_walk [enc p, dp [1], dp cs, whr true] met s0 = .ok (.sh .none) (met ++ (lst p [1]).map encK) s0 :=
  run_walk_ok cs true p [1] met h.root (by have := h.cnt; omega)
theorem encK_len {p : Pc} {w : List Nat} : ((lst p w).map encK).length = cnt p := by rw [List.length_map, lst_len]
theorem pg_ok {g : Pg} (h : PgOk g) : g_checked_parts [encG g, .str "main"] = .ok (.fr ((rows g).map encK)) := by
  obtain ⟨defs, m⟩ := g
  match defs, h with
  | [], h =>
    exact chk0 (h.m.walk [] (by simp))
  | [(w, b)], h =>
    have ha := h.b (w, b) List.mem_cons_self
    have ca : cnt b ≤ 14 := ha.cnt
    have h1 := ha.walk 0 [] (by simp)
    have h2 := h.m.walk ([] ++ (lst b [0, 0, 1]).map encK) (by simp [lst_len]; omega)
    have z := chk1 ha.wd h1 h2 ha.free ha.fv ha.flen
    have e : (rows ⟨[(w, b)], m⟩).map encK = [] ++ (lst b [0, 0, 1]).map encK ++ (lst m [1]).map encK := by simp [rows, bodyRows]
    rw [e]
    exact z
  | [(w, b), (v, c)], h =>
    have ha := h.b (w, b) List.mem_cons_self
    have hc := h.b (v, c) (List.mem_cons_of_mem _ List.mem_cons_self)
    have ca : cnt b ≤ 14 := ha.cnt
    have cc : cnt c ≤ 14 := hc.cnt
    have h1 := ha.walk 0 [] (by simp)
    have h2 := hc.walk 1 ([] ++ (lst b [0, 0, 1]).map encK) (by simp [lst_len]; omega)
    have h3 := h.m.walk ([] ++ (lst b [0, 0, 1]).map encK ++ (lst c [0, 1, 1]).map encK) (by simp [lst_len]; omega)
    have z := chk2 ha.wd hc.wd h1 h2 h3 ha.free ha.fv ha.flen hc.free hc.fv hc.flen
    have e : (rows ⟨[(w, b), (v, c)], m⟩).map encK = [] ++ (lst b [0, 0, 1]).map encK ++ (lst c [0, 1, 1]).map encK ++ (lst m [1]).map encK := by simp [rows, bodyRows]
    rw [e]
    exact z
  | _ :: _ :: _ :: _, h => exact absurd h.nd (by simp)
/-- a piece of the program's own: MAIN or a body -/
inductive Sel (g : Pg) : List Nat → Pc → Bool → (Pc → Pg) → Prop
  | main : Sel g [1] g.main true (fun q => ⟨g.defs, q⟩)
  | body (i w : Nat) (b : Pc) (h : g.defs[i]? = some (w, b)) : Sel g [0, i, 1] b false (fun q => ⟨g.defs.set i (w, q), g.main⟩)
theorem set_cs {g : Pg} {pre : List Nat} {p : Pc} {mn : Bool} {st : Pc → Pg} (s : Sel g pre p mn st) (q : Pc) : (st q).cs = g.cs := by
  cases s with
  | main => rfl
  | body i w b h =>
    show (g.defs.set i (w, q)).map (·.1) = g.defs.map (·.1)
    rw [List.map_set]
    (refine List.ext_getElem? fun j => ?_)
    rw [List.getElem?_set]
    split
    · rename_i e
      subst e
      rw [List.length_map, if_pos (List.getElem?_eq_some_iff.mp h).1, List.getElem?_map, h]
      rfl
    · rfl
theorem set_same {g : Pg} {pre : List Nat} {p : Pc} {mn : Bool} {st : Pc → Pg} (s : Sel g pre p mn st) : st p = g := by
  cases s with
  | main => rfl
  | body i w b h =>
    show (⟨g.defs.set i (w, p), g.main⟩ : Pg) = g
    have e : g.defs.set i (w, p) = g.defs := by
      (refine List.ext_getElem? fun j => ?_)
      rw [List.getElem?_set]
      split
      · rename_i e
        subst e
        rw [if_pos (List.getElem?_eq_some_iff.mp h).1, h]
      · rfl
    rw [e]
theorem pg_fails {g : Pg} (h : PgOk g) {pre : List Nat} {p p' : Pc} {mn : Bool} {st : Pc → Pg} (s : Sel g pre p mn st) {n k : Nat} {d : Dat} (f : Fails g.cs mn n [rootI p' pre mn] k d) (hn : n ≤ bif mn then 40 else 14) : g_checked_parts [encG (st p'), .str "main"] = .exc k d := by
  have hm := h.m.cnt
  cases s with
  | main =>
    have hn : n ≤ 40 := hn
    obtain ⟨defs, m⟩ := g
    match defs, h with
    | [], h =>
      obtain ⟨l, z⟩ := run_walk_fails [] f (by omega) (by simp; omega)
      exact chk0x z
    | [(w, b)], h =>
      have ha := h.b (w, b) List.mem_cons_self
      have ca : cnt b ≤ 14 := ha.cnt
      have h1 := ha.walk 0 [] (by simp)
      obtain ⟨l, z⟩ := run_walk_fails ([] ++ (lst b [0, 0, 1]).map encK) f (by omega) (by simp [lst_len]; omega)
      exact chk1m ha.wd h1 z
    | [(w, b), (v, c)], h =>
      have ha := h.b (w, b) List.mem_cons_self
      have hc := h.b (v, c) (List.mem_cons_of_mem _ List.mem_cons_self)
      have ca : cnt b ≤ 14 := ha.cnt
      have cc : cnt c ≤ 14 := hc.cnt
      have h1 := ha.walk 0 [] (by simp)
      have h2 := hc.walk 1 ([] ++ (lst b [0, 0, 1]).map encK) (by simp [lst_len]; omega)
      obtain ⟨l, z⟩ := run_walk_fails ([] ++ (lst b [0, 0, 1]).map encK ++ (lst c [0, 1, 1]).map encK) f (by omega) (by simp [lst_len]; omega)
      exact chk2m ha.wd hc.wd h1 h2 z
    | _ :: _ :: _ :: _, h => exact absurd h.nd (by simp)
  | body i w b e =>
    have hn : n ≤ 14 := hn
    obtain ⟨defs, m⟩ := g
    match defs, i, h, e, f with
    | [], _, h, e, f => cases e
    | [(w, b)], 0, h, rfl, f =>
      have ha := h.b (w, b) List.mem_cons_self
      have ca : cnt b ≤ 14 := ha.cnt
      obtain ⟨l, z⟩ := run_walk_fails [] f (by omega) (by simp; omega)
      exact chk1b ha.wd z
    | [_], i + 1, h, e, f => cases e
    | [(w, b), (v, c)], 0, h, rfl, f =>
      have ha := h.b (w, b) List.mem_cons_self
      have hc := h.b (v, c) (List.mem_cons_of_mem _ List.mem_cons_self)
      have ca : cnt b ≤ 14 := ha.cnt
      obtain ⟨l, z⟩ := run_walk_fails [] f (by omega) (by simp; omega)
      exact chk2b ha.wd hc.wd z
    | [(v, c), (w, b)], 1, h, rfl, f =>
      have ha := h.b (v, c) List.mem_cons_self
      have hc := h.b (w, b) (List.mem_cons_of_mem _ List.mem_cons_self)
      have ca : cnt c ≤ 14 := ha.cnt
      have cc : cnt b ≤ 14 := hc.cnt
      have h1 := ha.walk 0 [] (by simp)
      obtain ⟨l, z⟩ := run_walk_fails ([] ++ (lst c [0, 0, 1]).map encK) f (by omega) (by simp [lst_len]; omega)
      exact chk2c ha.wd hc.wd h1 z
    | [_, _], i + 2, h, e, f => cases e
    | _ :: _ :: _ :: _, _, h, _, _ => exact absurd h.nd (by simp)
end Pn

set_option maxHeartbeats 2000003
namespace Pn
open L2 PyProof.Rows PySem.Spec PySem
theorem need_ok {g : Pg} (h : PgOk g) : g_need_program [encG g] = .ok (.sh (encG g)) := by
  have z := pg_ok h
  simp [g_need_program, m_need_program, d_MAIN, z]
theorem need_exc {d : Dat} {k : Nat} {e : Dat} (h : g_checked_parts [d, .str "main"] = .exc k e) : g_need_program [d] = .exc k e := by
  simp [g_need_program, m_need_program, d_MAIN, h]
theorem parts_ok {g : Pg} (h : PgOk g) : g_parts_of [encG g] = .ok (.fr ((rows g).map encK)) := by
  have z := pg_ok h
  simp [g_parts_of, m_parts_of, d_MAIN, z]
structure PgW (g : Pg) : Prop where
  nd : g.defs.length ≤ 2
  b : ∀ d ∈ g.defs, BOk g.cs d
  cnt : Pn.cnt g.main ≤ 40
  ns : noSev g.main = true
  dpt : dep g.main ≤ 20
theorem PgOk.pw {g : Pg} (h : PgOk g) : PgW g := ⟨h.nd, h.b, h.m.cnt, h.m.ns, by have := h.m.dpt; omega⟩
theorem whole_w {g : Pg} (h : PgW g) : g__law_whole [encG g] = .ok (.fr ((rows g).map encK)) := by
  obtain ⟨defs, m⟩ := g
  have cm : cnt m ≤ 40 := h.cnt
  have hm : g__law_listed 30 [enc m, .tuple [.int 1]] = .ok (.sh (.list ((lst m [1]).map encK))) := run_listed 30 m [1] h.ns (by have : dep m ≤ 20 := h.dpt; omega) (by omega) (by decide)
  have lm := lst_len m [1]
  match defs, h with
  | [], h =>
    simp [g__law_whole, m__law_whole, encG, hm, rows, bodyRows]
    rw [x_catL _ _ (by simp) (by simp; omega)]
    simp
  | [(w, b)], h =>
    have ha := h.b (w, b) List.mem_cons_self
    have ca : cnt b ≤ 14 := ha.cnt
    have lb := lst_len b [0, 0, 1]
    have hb : g__law_listed 30 [enc b, .tuple [.int 0, .int 0, .int 1]] = .ok (.sh (.list ((lst b [0, 0, 1]).map encK))) := run_listed 30 b [0, 0, 1] ha.ns (by have : dep b ≤ 12 := ha.dpt; omega) (by omega) (by decide)
    have c1 := x_catL [] ((lst b [0, 0, 1]).map encK) (by simp) (by simp; omega)
    have c2 := x_catL ((lst b [0, 0, 1]).map encK) ((lst m [1]).map encK) (by simp; omega) (by simp; omega)
    simp only [List.nil_append] at c1
    simp [g__law_whole, m__law_whole, encG, encD, hm, hb, rows, bodyRows, c1, c2]
  | [(w, b), (v, c)], h =>
    have ha := h.b (w, b) List.mem_cons_self
    have hc := h.b (v, c) (List.mem_cons_of_mem _ List.mem_cons_self)
    have ca : cnt b ≤ 14 := ha.cnt
    have cc : cnt c ≤ 14 := hc.cnt
    have lb := lst_len b [0, 0, 1]
    have lc := lst_len c [0, 1, 1]
    have hb : g__law_listed 30 [enc b, .tuple [.int 0, .int 0, .int 1]] = .ok (.sh (.list ((lst b [0, 0, 1]).map encK))) := run_listed 30 b [0, 0, 1] ha.ns (by have : dep b ≤ 12 := ha.dpt; omega) (by omega) (by decide)
    have hc2 : g__law_listed 30 [enc c, .tuple [.int 0, .int 1, .int 1]] = .ok (.sh (.list ((lst c [0, 1, 1]).map encK))) := run_listed 30 c [0, 1, 1] hc.ns (by have : dep c ≤ 12 := hc.dpt; omega) (by omega) (by decide)
    have c1 := x_catL [] ((lst b [0, 0, 1]).map encK) (by simp) (by simp; omega)
    have c2 := x_catL ((lst b [0, 0, 1]).map encK) ((lst c [0, 1, 1]).map encK) (by simp; omega) (by simp; omega)
    have c3 := x_catL ((lst b [0, 0, 1]).map encK ++ (lst c [0, 1, 1]).map encK) ((lst m [1]).map encK) (by simp; omega) (by simp; omega)
    simp only [List.nil_append] at c1
    simp [g__law_whole, m__law_whole, encG, encD, hm, hb, hc2, rows, bodyRows, c1, c2]
    rw [c3]
    simp
  | _ :: _ :: _ :: _, h => exact absurd h.nd (by simp)
theorem whole_ok {g : Pg} (h : PgOk g) : g__law_whole [encG g] = .ok (.fr ((rows g).map encK)) := whole_w h.pw
theorem free_ok {g : Pg} (h : PgOk g) : g_free_names [encG g] = .ok (.sh (.tuple (lints (fv g.main)))) := by
  have z := need_ok h
  have f := run_free 30 g.main h.m.ns (by have := h.m.dpt; omega) (by have := h.m.sz; omega)
  have e : encG g = .tuple [.tuple (g.defs.map encD), enc g.main] := rfl
  simp only [g_free_names, m_free_names]
  simp [z]
  rw [e]
  simp [f]
theorem foldl_max_swap (ls : List Nat) (a b : Nat) : ls.foldl max (max a b) = max a (ls.foldl max b) := by
  induction ls generalizing b with
  | nil => rfl
  | cons x l ih =>
    rw [List.foldl_cons, List.foldl_cons, Nat.max_assoc]
    exact ih _
def deepest (g : Pg) : Nat := (g.defs.map fun d => dep d.2).foldl max (dep g.main)
theorem maxR_dn (a : Nat) (l : List Nat) (c : Cfg) : maxR (false, PyData.int (a : Int) :: l.map dn) c = .ok (dn (l.foldl max a)) c := by
  unfold maxR
  have e : intL (PyData.int (a : Int) :: l.map dn) = some ((a : Int) :: l.map fun n : Nat => (n : Int)) := intL_dn (a :: l)
  simp only [e]
  show Res.ok (PyData.int (topI ((a : Int) :: l.map fun n : Nat => (n : Int)))) c = _
  rw [topI]
  exact congrArg (fun z => Res.ok (PyData.int z) c) (topI_dn _ a)
theorem measures_ok {g : Pg} (h : PgOk g) : g_measures [encG g] = .ok (.sh (.tuple [dn (rows g).length, dn (deepest g)])) := by
  have z := parts_ok h
  have dm : g_depth_below 30 [enc g.main] = .ok (.sh (dn (dep g.main))) := run_depth 30 g.main h.m.ns (by have := h.m.dpt; omega)
  have lc : ∀ a0 a1 a3 a4 : Sl, lcM [5, 6] (putTup 2 (putCons (put 5) (putCons (put 6) (putNil)))) (ret true) (frz (callN 1 (g_depth_below 30) (aCons (rd 6) (aNil)))) (g.defs.map encD) ⟨[a0, a1, .no, a3, a4, .no, .no], s0⟩ = .ok (.fr (g.defs.map fun d => dn (dep d.2))) ⟨[a0, a1, .no, a3, a4, .no, .no], s0⟩ := fun a0 a1 a3 a4 => by
    have zz : Paired (fun d y => ∃ q : Nat × Pc, d = encD q ∧ y = dn (dep q.2) ∧ g_depth_below 30 [enc q.2] = .ok (.sh (dn (dep q.2)))) (g.defs.map encD) (g.defs.map fun d => dn (dep d.2)) := by
      have go : ∀ l : List (Nat × Pc), (∀ d ∈ l, BOk g.cs d) → Paired (fun d y => ∃ q : Nat × Pc, d = encD q ∧ y = dn (dep q.2) ∧ g_depth_below 30 [enc q.2] = .ok (.sh (dn (dep q.2)))) (l.map encD) (l.map fun d => dn (dep d.2)) := by
        intro l
        induction l with
        | nil => exact fun _ => .nil
        | cons d l ih => exact fun hb => .cons ⟨d, rfl, rfl, run_depth 30 d.2 (hb d List.mem_cons_self).ns (by have := (hb d List.mem_cons_self).dpt; omega)⟩ (ih fun x hx => hb x (List.mem_cons_of_mem _ hx))
      exact go g.defs h.b
    exact lcM_rel zz (fun d y ⟨q, e1, e2, hq⟩ => ⟨⟨[a0, a1, .no, a3, a4, .sh (pars q.1), .sh (enc q.2)], s0⟩, ⟨[a0, a1, .no, a3, a4, .sh (pars q.1), .sh (enc q.2)], s0⟩, by rw [e1]; rfl, by rw [e2]; exact frz_call rfl rfl (.of hq), rfl⟩) rfl (by rw [List.length_map]; have := h.nd; omega) rfl
  have mx := fun c => maxR_dn (dep g.main) (g.defs.map fun d => dep d.2) c
  rw [List.map_map] at mx
  have e : encG g = .tuple [.tuple (g.defs.map encD), enc g.main] := rfl
  simp only [g_measures, m_measures]
  simp [z]
  rw [e]
  simp [lc, dm]
  rw [x_catL _ _ (by simp) (by simp; have := h.nd; omega)]
  simp
  have mx2 : ∀ c, maxR (false, dn (dep g.main) :: g.defs.map fun d => dn (dep d.2)) c = .ok (dn (deepest g)) c := mx
  simp [mx2]
end Pn

set_option maxHeartbeats 2000003
namespace Pn
open L2 PyProof.Rows PySem.Spec PySem
/-! ### what stands at a path -/
def atD : Dat → List Nat → Option Dat
  | d, [] => some d
  | .tuple xs, n :: r => match xs[n]? with
    | some x => atD x r
    | none => none
  | _, _ :: _ => none
theorem atD_app : ∀ (a b : List Nat) (d x : Dat), atD d a = some x → atD d (a ++ b) = atD x b
  | [], _, _, _, h => by cases h; rfl
  | n :: a, b, d, x, h => by
    cases d with
    | tuple xs =>
      show (match xs[n]? with
        | some y => atD y (a ++ b)
        | none => none) = _
      have h : (match xs[n]? with
        | some y => atD y a
        | none => none) = some x := h
      cases e : xs[n]? with
      | none => (rw [e] at h; cases h)
      | some y =>
        rw [e] at h
        exact atD_app a b y x h
    | _ => cases h
theorem Sub.at {p : Pc} {rel : List Nat} {s : Pc} (h : Sub p rel s) : atD (enc p) rel = some (enc s) := by
  induction h with
  | here p => rfl
  | @kid p k rel s hk t ih =>
    have e : atD (enc p) k.1 = some (enc k.2) := by
      cases p <;> simp [kids] at hk <;> (try (rcases hk with rfl | rfl)) <;> (try subst hk) <;> (try rfl)
      rename_i w _ _ _
      cases w <;> rfl
    rw [atD_app _ _ _ _ e]
    exact ih
theorem Sub.small {p : Pc} {rel : List Nat} {s : Pc} (h : Sub p rel s) : (∀ a ∈ rel, a < 4) ∧ rel.length + 2 ≤ 2 * dep p := by
  induction h with
  | here p => exact ⟨fun a ha => (by cases ha), by have := dep_pos p; simp; omega⟩
  | @kid p k rel s hk t ih =>
    have e : (∀ a ∈ k.1, a < 4) ∧ k.1.length ≤ 2 := by
      cases p <;> simp [kids] at hk <;> (try (rcases hk with rfl | rfl)) <;> (try subst hk) <;> simp
    have d1 := dep_pos p
    have d := kid_dep (k := dep p - 1) (by omega) k hk
    refine ⟨fun a ha => ?_, ?_⟩
    · rcases List.mem_append.mp ha with z | z
      · exact e.1 a z
      · exact ih.1 a z
    · rw [List.length_append]
      have := ih.2
      have := e.2
      omega
theorem Sub.ns {p : Pc} {rel : List Nat} {s : Pc} (h : Sub p rel s) (n : noSev p = true) : noSev s = true := by
  induction h with
  | here p => exact n
  | kid hk t ih => exact ih (kids_noSev n _ hk)
theorem mem_body : ∀ (l : List (Nat × Pc)) (i : Nat) (x : List Nat) (s : Pc), (x, s) ∈ bodyRows i l → ∃ j w b rel, l[j]? = some (w, b) ∧ x = [0, i + j, 1] ++ rel ∧ Sub b rel s
  | [], _, _, _, h => (by cases h)
  | (w, b) :: l, i, x, s, h => by
    rcases List.mem_append.mp h with z | z
    · obtain ⟨rel, e, t⟩ := mem_lst b [0, i, 1] x s z
      exact ⟨0, w, b, rel, rfl, e, t⟩
    · obtain ⟨j, w', b', rel, e1, e2, t⟩ := mem_body l (i + 1) x s z
      exact ⟨j + 1, w', b', rel, e1, by rw [e2]; simp; omega, t⟩
theorem mem_rows {g : Pg} {x : List Nat} {s : Pc} (h : (x, s) ∈ rows g) : ∃ pre p mn st rel, Sel g pre p mn st ∧ x = pre ++ rel ∧ Sub p rel s := by
  rcases List.mem_append.mp h with z | z
  · obtain ⟨j, w, b, rel, e1, e2, t⟩ := mem_body g.defs 0 x s z
    rw [Nat.zero_add] at e2
    exact ⟨_, _, _, _, rel, .body j w b e1, e2, t⟩
  · obtain ⟨rel, e, t⟩ := mem_lst g.main [1] x s z
    exact ⟨_, _, _, _, rel, .main, e, t⟩
theorem Sel.at {g : Pg} {pre : List Nat} {p : Pc} {mn : Bool} {st : Pc → Pg} (h : Sel g pre p mn st) : atD (encG g) pre = some (enc p) := by
  cases h with
  | main => rfl
  | body i w b e =>
    have z : (g.defs.map encD)[i]? = some (encD (w, p)) := by rw [List.getElem?_map, e]; rfl
    show (match (g.defs.map encD)[i]? with
      | some x => atD x [1]
      | none => none) = _
    rw [z]
    rfl
theorem rows_at {g : Pg} {x : List Nat} {s : Pc} (h : (x, s) ∈ rows g) : atD (encG g) x = some (enc s) := by
  obtain ⟨pre, p, mn, st, rel, sl, rfl, t⟩ := mem_rows h
  rw [atD_app _ _ _ _ sl.at]
  exact t.at
theorem Sel.drep {g : Pg} {pre : List Nat} {p : Pc} {mn : Bool} {st : Pc → Pg} (h : Sel g pre p mn st) (hn : g.defs.length ≤ 2) {q p' : Pc} {rel : List Nat} (r : Rep q p rel p') : DRep (enc q) (encG g) (pre ++ rel) (encG (st p')) := by
  cases h with
  | main => exact .at (xs := [.tuple (g.defs.map encD), enc g.main]) rfl (by simp) r.drep
  | body i w b e =>
    have z : (g.defs.map encD)[i]? = some (encD (w, p)) := by rw [List.getElem?_map, e]; rfl
    have lt := (List.getElem?_eq_some_iff.mp e).1
    have d1 : DRep (enc q) (encD (w, p)) (1 :: rel) (encD (w, p')) := .at (xs := [pars w, enc p]) rfl (by simp) r.drep
    have d2 := DRep.at z (by simp; omega) d1
    have d3 := DRep.at (q := enc q) (xs := [.tuple (g.defs.map encD), enc g.main]) (n := 0) rfl (by simp) d2
    have e3 : (g.defs.set i (w, p')).map encD = (g.defs.map encD).take i ++ (encD (w, p') :: (g.defs.map encD).drop (i + 1)) := by
      rw [List.map_set, List.set_eq_take_append_cons_drop, if_pos (by rw [List.length_map]; exact lt)]
    show DRep (enc q) (encG g) (0 :: i :: 1 :: rel) (.tuple [.tuple ((g.defs.set i (w, p')).map encD), enc g.main])
    rw [e3]
    exact d3
theorem Sel.bok {g : Pg} (h : PgOk g) {pre : List Nat} {p : Pc} {mn : Bool} {st : Pc → Pg} (s : Sel g pre p mn st) : okAt g.cs mn p false mn = true ∧ dep p ≤ 12 ∧ cnt p ≤ 40 ∧ sz p ≤ 61 ∧ noSev p = true ∧ (∀ a ∈ pre, a < 2) ∧ pre.length ≤ 3 ∧ pre ≠ [] := by
  cases s with
  | main => exact ⟨h.m.ok, h.m.dpt, h.m.cnt, h.m.sz, h.m.ns, by simp, by simp, by simp⟩
  | body i w b e =>
    have hb := h.b (w, p) (List.mem_of_getElem? e)
    have lt := (List.getElem?_eq_some_iff.mp e).1
    have nd := h.nd
    have c : cnt p ≤ 14 := hb.cnt
    exact ⟨hb.ok, hb.dpt, by omega, hb.sz, hb.ns, by simp; omega, by simp, by simp⟩
/-- what is told of a row -/
theorem row_facts {g : Pg} (h : PgOk g) {x : List Nat} {s : Pc} (m : (x, s) ∈ rows g) : x ≠ [] ∧ (∀ a ∈ x, a < 4) ∧ x.length ≤ 26 ∧ noSev s = true := by
  obtain ⟨pre, p, mn, st, rel, sl, rfl, t⟩ := mem_rows m
  obtain ⟨_, d, _, _, n, a, l, ne⟩ := sl.bok h
  have sm := t.small
  refine ⟨fun e => ne (List.append_eq_nil_iff.mp e).1, fun b hb => ?_, by rw [List.length_append]; omega, t.ns n⟩
  rcases List.mem_append.mp hb with z | z
  · have := a b z; omega
  · exact sm.1 b z
/-! ### calls in MAIN -/
def isCall : Pc → Bool
  | .call _ _ => true
  | _ => false
def calls (g : Pg) : List (List Nat) := ((rows g).filter fun q => q.1.head? == some 1 && isCall q.2).map (·.1)
def tc : Dat → Bool
  | .tuple [.tuple (.int a :: _), .tuple (.str w :: _)] => (a == 1) && decide (w = "call")
  | _ => false
def fc : Dat → Dat
  | .tuple (x :: _) => x
  | _ => .none
theorem word_call : ∀ s : Pc, s ≠ .seven → ∃ (wd : Str) (rest : List Dat), enc s = .tuple (.str wd :: rest) ∧ eqD (.str wd) (.str "call") = ret (.bool (isCall s)) ∧ decide (wd = "call") = isCall s
  | .stop, _ => ⟨_, _, rfl, by kernel_rfl, by decide +kernel⟩
  | .wait p, _ => ⟨_, _, rfl, by kernel_rfl, by show decide (("wait" : Str) = "call") = false; decide +kernel⟩
  | .send a b p, _ => ⟨_, _, rfl, by kernel_rfl, by show decide (("send" : Str) = "call") = false; decide +kernel⟩
  | .take a x p, _ => ⟨_, _, rfl, by kernel_rfl, by show decide (("take" : Str) = "call") = false; decide +kernel⟩
  | .tst true a b p, _ => ⟨_, _, rfl, by kernel_rfl, by show decide (("alike" : Str) = "call") = false; decide +kernel⟩
  | .tst false a b p, _ => ⟨_, _, rfl, by kernel_rfl, by show decide (("unlike" : Str) = "call") = false; decide +kernel⟩
  | .two p q, _ => ⟨_, _, rfl, by kernel_rfl, by show decide (("one" : Str) = "call") = false; decide +kernel⟩
  | .bes p q, _ => ⟨_, _, rfl, by kernel_rfl, by show decide (("beside" : Str) = "call") = false; decide +kernel⟩
  | .new x p, _ => ⟨_, _, rfl, by kernel_rfl, by show decide (("new" : Str) = "call") = false; decide +kernel⟩
  | .call d ns, _ => ⟨_, _, rfl, by kernel_rfl, by show decide (("call" : Str) = "call") = true; decide +kernel⟩
  | .seven, h => absurd rfl h
theorem tc_row {x : List Nat} {s : Pc} (hx : x ≠ []) (hs : noSev s = true) : tc (encK (x, s)) = (x.head? == some 1 && isCall s) := by
  obtain ⟨wd, rest, e1, e2, e3⟩ := word_call s (noSev_ne hs)
  cases x with
  | nil => exact absurd rfl hx
  | cons a x =>
    show tc (.tuple [.tuple (dn a :: x.map dn), enc s]) = _
    rw [e1]
    show (((a : Int) == 1) && decide (wd = "call")) = _
    rw [e3]
    have : ((a : Int) == 1) = ((a :: x).head? == some 1) := by
      rw [Bool.eq_iff_iff, beq_iff_eq, beq_iff_eq, List.head?_cons, Option.some.injEq]
      omega
    rw [this]
theorem calls_dat {l : List (List Nat × Pc)} (h : ∀ q ∈ l, q.1 ≠ [] ∧ noSev q.2 = true) : ((l.map encK).filter tc).map fc = ((l.filter fun q => q.1.head? == some 1 && isCall q.2).map (·.1)).map dp := by
  induction l with
  | nil => rfl
  | cons q l ih =>
    have ih := ih fun x hx => h x (List.mem_cons_of_mem _ hx)
    obtain ⟨a, b⟩ := h q List.mem_cons_self
    rw [List.map_cons, List.filter_cons, List.filter_cons, tc_row a b]
    split
    · rw [List.map_cons, ih]
      rfl
    · exact ih
theorem rows_ok {g : Pg} (h : PgOk g) : ∀ q ∈ rows g, q.1 ≠ [] ∧ noSev q.2 = true := fun q hq => by
  obtain ⟨a, _, _, d⟩ := row_facts h (x := q.1) (s := q.2) hq
  exact ⟨a, d⟩
theorem bodyRows_len : ∀ (l : List (Nat × Pc)) (cs : List Nat) (i : Nat), (∀ d ∈ l, BOk cs d) → (bodyRows i l).length ≤ 14 * l.length
  | [], _, _, _ => Nat.le_refl _
  | d :: l, cs, i, h => by
    have ih := bodyRows_len l cs (i + 1) fun x hx => h x (List.mem_cons_of_mem _ hx)
    have c := (h d List.mem_cons_self).cnt
    rw [bodyRows, List.length_append, lst_len, List.length_cons]
    omega
theorem rows_len {g : Pg} (h : PgOk g) : (rows g).length ≤ 68 := by
  have b := bodyRows_len g.defs g.cs 0 h.b
  have n := h.nd
  have m := h.m.cnt
  rw [rows, List.length_append, lst_len]
  omega
theorem calls_lc {g : Pg} (h : PgOk g) (a : Sl) : lcM [1, 2] (putTup 2 (putCons (put 1) (putCons (put 2) (putNil)))) (andB (toB (m2 eqD (ixD (rd 1) (ret (.int 0))) (ret (.int 1)))) (toB (m2 eqD (ixD (rd 2) (ret (.int 0))) (ret (.str "call"))))) (rd 1) ((rows g).map encK) ⟨[a, .no, .no], s0⟩ = .ok (.fr ((calls g).map dp)) ⟨[a, .no, .no], s0⟩ := by
  have z := lcM_sift (b := putTup 2 (putCons (put 1) (putCons (put 2) (putNil)))) (mt := andB (toB (m2 eqD (ixD (rd 1) (ret (.int 0))) (ret (.int 1)))) (toB (m2 eqD (ixD (rd 2) (ret (.int 0))) (ret (.str "call"))))) (me := rd 1) (vs := [1, 2]) (t := tc) (f := fc) (c := ⟨[a, .no, .no], s0⟩) (items := (rows g).map encK) rfl (fun d hd => by
    obtain ⟨⟨x, s⟩, hq, rfl⟩ := List.mem_map.mp hd
    obtain ⟨hx, _, _, hs⟩ := row_facts h hq
    have t := tc_row hx hs
    obtain ⟨wd, rest, e1, e2, e3⟩ := word_call s (noSev_ne hs)
    cases x with
    | nil => exact absurd rfl hx
    | cons b x =>
      have hb : ((b : Int) == 1) = ((b :: x).head? == some 1) := by
        rw [Bool.eq_iff_iff, beq_iff_eq, beq_iff_eq, List.head?_cons, Option.some.injEq]
        omega
      refine ⟨⟨[a, .sh (dp (b :: x)), .sh (enc s)], s0⟩, ⟨[a, .sh (dp (b :: x)), .sh (enc s)], s0⟩, ⟨[a, .sh (dp (b :: x)), .sh (enc s)], s0⟩, rfl, ?_, fun _ => ⟨rfl, rfl⟩, fun _ => rfl⟩
      rw [t, ← hb]
      cases e : ((b : Int) == 1) <;> simp [e, e1, e2]) (by rw [List.length_map]; have := rows_len h; omega) rfl
  rw [calls_dat (rows_ok h)] at z
  exact z
theorem paths_ok {g : Pg} (h : PgOk g) : g_paths_of_calls [encG g] = .ok (.fr ((calls g).map dp)) := by
  have z := pg_ok h
  simp [g_paths_of_calls, m_paths_of_calls, d_MAIN, z, calls_lc h]
theorem finite_ok {g : Pg} (h : PgOk g) : g_is_finite [encG g] = .ok (.sh (.bool (calls g).isEmpty)) := by
  have z := paths_ok h
  simp [g_is_finite, m_is_finite, nrowV, z]
theorem needf_ok {g : Pg} (h : PgOk g) (e : calls g = []) : g_need_finite [encG g] = .ok (.sh (encG g)) := by
  have z := paths_ok h
  rw [e] at z
  simp [g_need_finite, m_need_finite, z]
theorem needf_exc {g : Pg} (h : PgOk g) {x : List Nat} {l : List (List Nat)} (e : calls g = x :: l) : g_need_finite [encG g] = .exc 4 (dp x) := by
  have z := paths_ok h
  rw [e] at z
  simp [g_need_finite, m_need_finite, z]
end Pn

set_option maxHeartbeats 2000003
namespace Pn
open L2 PyProof.Rows PySem.Spec PySem PnDict
/-! ### part_at -/
abbrev keyI (l : List Int) : List Key := l.map Sum.inl
abbrev upN (l : List Nat) : List Int := l.map fun n : Nat => (n : Int)
theorem keysD_ints : ∀ l : List Int, keysD (lints l) = some (keyI l)
  | [] => rfl
  | i :: l => by
    show (keysD (lints l)).map (Sum.inl i :: ·) = _
    rw [keysD_ints l]
    rfl
theorem dp_ints (l : List Nat) : l.map dn = lints (upN l) := by
  show l.map dn = (l.map fun n : Nat => (n : Int)).map PyData.int
  rw [List.map_map]
  rfl
def entr (q : List Nat × Pc) : List Key × Dat := (keyI (upN q.1), enc q.2)
theorem pairs_rows : ∀ l : List (List Nat × Pc), pairsD (l.map encK) = some (l.map entr)
  | [] => rfl
  | q :: l => by
    show (keyD (dp q.1)).bind (fun ks => (pairsD (l.map encK)).map fun z => (ks, enc q.2) :: z) = _
    have e : keyD (dp q.1) = some (keyI (upN q.1)) := by
      show keysD (q.1.map dn) = _
      rw [dp_ints]
      exact keysD_ints _
    rw [e, pairs_rows l]
    rfl
theorem lastK_none {k : List Key} : ∀ {l : List (List Key × Dat)}, (∀ e ∈ l, e.1 ≠ k) → lastK k l = none
  | [], _ => rfl
  | (j, v) :: l, h => by
    have ih : lastK k l = none := lastK_none fun e he => h e (List.mem_cons_of_mem _ he)
    rw [lastK_cons, ih]
    show (if j = k then some v else none) = none
    rw [if_neg (h (j, v) List.mem_cons_self)]
theorem lastK_same {k : List Key} {v : Dat} : ∀ {l : List (List Key × Dat)}, (∀ e ∈ l, e.1 = k → e.2 = v) → (∃ e ∈ l, e.1 = k) → lastK k l = some v
  | [], _, h => by obtain ⟨_, h, _⟩ := h; cases h
  | (j, u) :: l, h, ⟨e, he, hk⟩ => by
    rw [lastK_cons]
    by_cases x : ∃ e ∈ l, e.1 = k
    · have ih : lastK k l = some v := lastK_same (fun e he => h e (List.mem_cons_of_mem _ he)) x
      rw [ih]
    · have n : lastK k l = none := lastK_none fun e he hk => x ⟨e, he, hk⟩
      rw [n]
      rcases List.mem_cons.mp he with z | z
      · subst z
        show (if j = k then some u else none) = _
        have hk : j = k := hk
        rw [if_pos hk]
        exact congrArg some (h (j, u) List.mem_cons_self hk)
      · exact absurd ⟨e, z, hk⟩ x
theorem keyI_inj {a b : List Int} (h : keyI a = keyI b) : a = b := by
  have z := congrArg (List.map fun k : Key => match k with
    | .inl i => i
    | .inr _ => 0) h
  simpa [List.map_map, Function.comp_def] using z
theorem upN_inj {a b : List Nat} (h : upN a = upN b) : a = b := by
  have z := congrArg (List.map Int.toNat) h
  simpa [List.map_map, Function.comp_def] using z
/-! ### paths that are none -/
theorem from_zero_int (x : Int) : g_is_from_zero [.int x] = .ok (.sh (.bool (decide (0 ≤ x)))) := by
  simp [g_is_from_zero, m_is_from_zero, g_is_integer, m_is_integer, isTy, tyN]
theorem bools_of (f : Int → Bool) : ∀ l : List Int, bools (l.map fun x => PyData.bool (f x)) = some (l.map f)
  | [] => rfl
  | x :: l => by
    rw [List.map_cons, bools, bools_of f l]
    rfl
def geZ (l : List Int) : List Dat := l.map fun x => .bool (decide (0 ≤ x))
theorem from_zero_ints (l : List Int) (hl : l.length ≤ 1000) : g_are_from_zero [.tuple (lints l)] = .ok (.sh (.bool (l.all fun x => decide (0 ≤ x)))) := by
  have lc : lcM [1] (put 1) (ret true) (frz (callN 1 g_is_from_zero (aCons (rd 1) (aNil)))) (lints l) ⟨[.sh (.tuple (lints l)), .no], ⟨[], [], 0⟩⟩ = .ok (.fr (geZ l)) ⟨[.sh (.tuple (lints l)), .no], ⟨[], [], 0⟩⟩ := by
    have z := lcM_map (b := put 1) (me := frz (callN 1 g_is_from_zero (aCons (rd 1) (aNil)))) (vs := [1]) (f := fun d => match d with
      | .int x => PyData.bool (decide (0 ≤ x))
      | _ => .none) (items := lints l) (c := ⟨[.sh (.tuple (lints l)), .no], ⟨[], [], 0⟩⟩) rfl (fun d hd => by
      obtain ⟨a, ha, rfl⟩ := List.mem_map.mp hd
      exact ⟨⟨[.sh (.tuple (lints l)), .sh (.int a)], ⟨[], [], 0⟩⟩, ⟨[.sh (.tuple (lints l)), .sh (.int a)], ⟨[], [], 0⟩⟩, rfl, frz_call rfl rfl (.of (from_zero_int a)), rfl⟩) (by rw [List.length_map]; omega) rfl
    rw [List.map_map] at z
    exact z
  have al : ∀ c, allR (false, geZ l) c = .ok (.bool (l.all fun x => decide (0 ≤ x))) c := fun c => by
    unfold allR geZ
    simp only [bools_of]
    show Res.ok (PyData.bool ((l.map fun x => decide (0 ≤ x)).all id)) c = _
    rw [List.all_map]
    rfl
  simp only [g_are_from_zero, m_are_from_zero]
  simp [isTy, tyN, lc, al]
theorem from_zero_dp (x : List Nat) (hl : x.length ≤ 1000) : g_are_from_zero [dp x] = .ok (.sh (.bool true)) := by
  have z := from_zero_ints (upN x) (by rw [List.length_map]; exact hl)
  rw [← dp_ints] at z
  have e : (upN x).all (fun x => decide (0 ≤ x)) = true := by
    rw [List.all_eq_true]
    intro i hi
    obtain ⟨n, _, rfl⟩ := List.mem_map.mp hi
    exact decide_eq_true (Int.natCast_nonneg n)
  rw [e] at z
  exact z
@[simp] theorem x_partM (ps : List (List Key × Dat)) (c : Cfg) : partM ps c = (if 2 < c.r.length then (match (c.r[1]? : Option Sl) with
  | some (.sh d) => partK ps d { c with r := c.r.set 2 .no }
  | _ => .bad) else .bad) := rfl
@[simp] theorem x_partK (ps : List (List Key × Dat)) (d : Dat) (c : Cfg) : partK ps d c = M.bind (orB (notB (toB (frz (callN 1 g_are_from_zero (aCons (rd 1) aNil))))) (notInPs ps d)) (fun b => if b = true then M.bind (rd 1) fun d => excM 3 d else retS (asx (getPs ps d))) c := rfl
theorem keyD_dp (x : List Nat) : keyD (dp x) = some (keyI (upN x)) := by
  show keysD (x.map dn) = _
  rw [dp_ints]
  exact keysD_ints _
theorem part_ok {g : Pg} (h : PgOk g) {x : List Nat} {s : Pc} (m : (x, s) ∈ rows g) : g_part_at [encG g, dp x] = .ok (.sh (enc s)) := by
  have z := parts_ok h
  have pr := pairs_rows (rows g)
  have f := from_zero_dp x (by have := (row_facts h m).2.2.1; omega)
  have l : lastK (keyI (upN x)) ((rows g).map entr) = some (enc s) := lastK_same (fun e he hk => by
    obtain ⟨⟨y, t⟩, hq, rfl⟩ := List.mem_map.mp he
    have e : y = x := upN_inj (keyI_inj hk)
    subst e
    have a := rows_at hq
    rw [rows_at m] at a
    exact (Option.some.inj a).symm) ⟨entr (x, s), List.mem_map_of_mem m, rfl⟩
  have n : notInPs ((rows g).map entr) (dp x) = ret false := by
    unfold notInPs
    rw [keyD_dp]
    simp only [l]
    rfl
  have gt : getPs ((rows g).map entr) (dp x) = ret (enc s) := by
    unfold getPs
    rw [keyD_dp]
    simp only [l]
  simp only [g_part_at, m_part_at]
  simp [z, pr, f, n, gt]
theorem part_no {g : Pg} (h : PgOk g) {d : Dat} (f : g_are_from_zero [d] = .ok (.sh (.bool false))) : g_part_at [encG g, d] = .exc 3 d := by
  have z := parts_ok h
  have pr := pairs_rows (rows g)
  simp only [g_part_at, m_part_at]
  simp [z, pr, f]
theorem part_out {g : Pg} (h : PgOk g) {x : List Nat} (hl : x.length ≤ 1000) (o : ∀ s, (x, s) ∉ rows g) : g_part_at [encG g, dp x] = .exc 3 (dp x) := by
  have z := parts_ok h
  have pr := pairs_rows (rows g)
  have f := from_zero_dp x hl
  have l : lastK (keyI (upN x)) ((rows g).map entr) = none := lastK_none (fun e he hk => by
    obtain ⟨⟨y, t⟩, hq, rfl⟩ := List.mem_map.mp he
    have e : y = x := upN_inj (keyI_inj hk)
    subst e
    exact o t hq)
  have n : notInPs ((rows g).map entr) (dp x) = ret true := by
    unfold notInPs
    rw [keyD_dp]
    simp only [l]
    rfl
  simp only [g_part_at, m_part_at]
  simp [z, pr, f, n]
/-- no part has ten things -/
theorem enc_short : ∀ s : Pc, atD (enc s) [9] = none
  | .tst true _ _ _ => rfl
  | .tst false _ _ _ => rfl
  | .stop => rfl
  | .wait _ => rfl
  | .send _ _ _ => rfl
  | .take _ _ _ => rfl
  | .two _ _ => rfl
  | .bes _ _ => rfl
  | .new _ _ => rfl
  | .call _ _ => rfl
  | .seven => rfl
theorem out_nine {g : Pg} {x : List Nat} {s : Pc} (m : (x, s) ∈ rows g) : ∀ t, (x ++ [9], t) ∉ rows g := fun t ht => by
  have a := rows_at ht
  rw [atD_app _ _ _ _ (rows_at m), enc_short] at a
  cases a
theorem out_nil {g : Pg} : ∀ t, ([], t) ∉ rows g := fun t ht => by
  obtain ⟨pre, p, mn, st, rel, sl, e, t⟩ := mem_rows ht
  cases sl <;> cases e
theorem out_zero {g : Pg} : ∀ t, ([0, 0], t) ∉ rows g := fun t ht => by
  obtain ⟨pre, p, mn, st, rel, sl, e, t⟩ := mem_rows ht
  cases sl <;> simp at e
end Pn

set_option maxHeartbeats 2000003
namespace Pn
open L2 PyProof.Rows PySem.Spec PySem
/-! ### draws -/
theorem mul_l {i j : Int} (a : -18446744073709551616 < i) (b : i < 18446744073709551616) : mulI (.int i) (.int j) = ret (.int (i * j)) := by
  unfold mulI int2c
  have e : (decide (-(2 ^ 64 : Int) < i ∧ i < 2 ^ 64) || decide (-(2 ^ 64 : Int) < j ∧ j < 2 ^ 64)) = true := by
    rw [Bool.or_eq_true]
    exact .inl (decide_eq_true ⟨a, b⟩)
  simp only [e, if_true]
theorem mul_r {i j : Int} (a : -18446744073709551616 < j) (b : j < 18446744073709551616) : mulI (.int i) (.int j) = ret (.int (i * j)) := by
  unfold mulI int2c
  have e : (decide (-(2 ^ 64 : Int) < i ∧ i < 2 ^ 64) || decide (-(2 ^ 64 : Int) < j ∧ j < 2 ^ 64)) = true := by
    rw [Bool.or_eq_true]
    exact .inr (decide_eq_true ⟨a, b⟩)
  simp only [e, if_true]
theorem mod_n {i j : Int} (a : j ≠ 0) : modI (.int i) (.int j) = ret (.int (i.fmod j)) := by
  unfold modI int2c
  simp [a]
theorem fdiv_n {i j : Int} (a : j ≠ 0) (b : j.natAbs < 1073741824) : fdivI (.int i) (.int j) = ret (.int (i.fdiv j)) := by
  unfold fdivI int2c
  simp [a, b]
@[simp] theorem x_intR (i : Int) : intR (.int i) = ret (.int i) := rfl
theorem fmod_in (i : Int) {j : Int} (h : 0 < j) : 0 ≤ i.fmod j ∧ i.fmod j < j := ⟨Int.fmod_nonneg_of_pos i h, Int.fmod_lt_of_pos i h⟩
theorem run_mixed (cell k : Int) (h1 : 0 ≤ k) (h2 : k ≤ 1000000000) : ∃ m, g__law_mixed [.int cell, .int k] = .ok (.sh (.int m)) ∧ 0 ≤ m ∧ m < 2147483629 := by
  have c1 := fmod_in cell (j := 2147483647) (by decide)
  have e1 : mulI (.int 2) (.int k) = ret (.int (2 * k)) := mul_l (by decide) (by decide)
  have e2 : mulI (.int (2 * k)) (.int k) = ret (.int (2 * k * k)) := mul_r (by omega) (by omega)
  have e3 : mulI (.int (cell.fmod 2147483647)) (.int (48271 + 2 * k * k)) = ret (.int (cell.fmod 2147483647 * (48271 + 2 * k * k))) := mul_l (by omega) (by omega)
  have e4 : mulI (.int 69621) (.int k) = ret (.int (69621 * k)) := mul_l (by decide) (by decide)
  have e5 : ∀ i, mulI (.int i) (.int 69621) = ret (.int (i * 69621)) := fun i => mul_r (by decide) (by decide)
  have e6 : ∀ i, modI (.int i) (.int 2147483647) = ret (.int (i.fmod 2147483647)) := fun i => mod_n (by decide)
  have e7 : ∀ i, modI (.int i) (.int 2147483629) = ret (.int (i.fmod 2147483629)) := fun i => mod_n (by decide)
  refine ⟨((cell.fmod 2147483647 * (48271 + 2 * k * k) + 69621 * k + 11).fmod 2147483647 * 69621).fmod 2147483629, ?_, fmod_in _ (by decide)⟩
  simp only [g__law_mixed, m__law_mixed]
  simp [e1, e2, e3, e4, e5, e6, e7]
/-- cells to draw from, how often at most they were drawn from -/
structure St (s : DS) (a : Nat) : Prop where
  len : s.lefts.length = s.cells.length
  pos : 0 < s.cells.length
  left : ∀ x ∈ s.lefts, 0 ≤ x
  lo : 0 ≤ s.at_
  hi : s.at_ ≤ (a : Int)
theorem St.mono {s : DS} {a b : Nat} (h : St s a) (e : a ≤ b) : St s b := ⟨h.len, h.pos, h.left, h.lo, by have := h.hi; omega⟩
@[simp] theorem x_callSM (n : Nat) (g : List Dat → List Dat → DS → GR) (ms : M (List Dat)) (c : Cfg) : callSM n g ms c = M.bind ms (fun ds => if ds.length = n then callS g ds else bad) c := rfl
@[simp] theorem x_callS (g : List Dat → List Dat → DS → GR) (ds : List Dat) (c : Cfg) : callS g ds c = (match g ds [] c.s with
  | .ok v _ s => .ok v { c with s := s }
  | .exc k d _ s => .exc k d { c with s := s }
  | .bad => .bad) := rfl
@[simp] theorem x_stArg (i : Nat) (ms : M (List Dat)) (c : Cfg) : stArg i ms c = (match c.r[i]? with
  | some .st => ms c
  | _ => .bad) := rfl
@[simp] theorem x_stAt (i : Nat) (c : Cfg) : stAt i c = (match c.r[i]? with
  | some .st => .ok (.int c.s.at_) c
  | _ => .bad) := rfl
@[simp] theorem x_stRow (b : Bool) (i : Nat) (c : Cfg) : stRow b i c = (match c.r[i]? with
  | some .st => .ok (false, (rowSel b c.s).map PyData.int) c
  | _ => .bad) := rfl
@[simp] theorem x_stIx (b : Bool) (i : Nat) (m : M Dat) (c : Cfg) : stIx b i m c = (match c.r[i]? with
  | some .st => (match m c with
    | .ok d c' => (match c'.r[i]? with
      | some .st => (match d with
        | .int k => (match atI (rowSel b c'.s) k with
          | some n => .ok (.int n) c'
          | none => .bad)
        | _ => .bad)
      | _ => .bad)
    | .exc k d c' => .exc k d c'
    | .bad => .bad)
  | _ => .bad) := by kernel_rfl
@[simp] theorem x_putAt (i : Nat) (m : M Dat) (c : Cfg) : putAt i m c = (match m c with
  | .ok d c' => (match c'.r[i]? with
    | some .st => (match d with
      | .int n => .ok .nx { c' with s := { c'.s with at_ := n } }
      | _ => .bad)
    | _ => .bad)
  | .exc k d c' => .exc k d c'
  | .bad => .bad) := by kernel_rfl
@[simp] theorem x_putLeft (i : Nat) (m mk : M Dat) (c : Cfg) : putLeft i m mk c = (match m c with
  | .ok d c1 => (match d with
    | .int n => (match c1.r[i]? with
      | some .st => (match mk c1 with
        | .ok k c2 => (match c2.r[i]? with
          | some .st => (match k with
            | .int k => (match ixN c2.s.lefts.length k with
              | some j => .ok .nx { c2 with s := { c2.s with lefts := c2.s.lefts.set j n } }
              | none => .bad)
            | _ => .bad)
          | _ => .bad)
        | .exc k d c' => .exc k d c'
        | .bad => .bad)
      | _ => .bad)
    | _ => .bad)
  | .exc k d c' => .exc k d c'
  | .bad => .bad) := by
  show M.bind m _ c = _
  rw [x_bind]
  cases m c with
  | ok d c1 => cases d <;> kernel_rfl
  | _ => rfl
@[simp] theorem x_sel1 (s : DS) : rowSel true s = s.cells := rfl
@[simp] theorem x_sel2 (s : DS) : rowSel false s = s.lefts := rfl
theorem atI_in {l : List Int} {k : Int} (h : 0 ≤ k) (h2 : k < l.length) : ∃ n, atI l k = some n ∧ n ∈ l ∧ ixN l.length k = some k.toNat := by
  obtain ⟨m, rfl⟩ := Int.eq_ofNat_of_zero_le h
  have e : ixN l.length (m : Int) = some m := by
    unfold ixN
    (rw [if_pos (by omega), if_pos (by omega)])
    rfl
  have lt : m < l.length := by omega
  refine ⟨l[m], ?_, List.getElem_mem lt, e⟩
  unfold atI
  rw [e]
  exact List.getElem?_eq_getElem lt
theorem run_draw {s : DS} {a : Nat} (h : St s a) (ha : a ≤ 100000) (L : Nat) (hL : 0 < L) (hL2 : L ≤ 1000) : ∃ r s', g__law_draw [dn L] [] s = .ok (.sh (dn r)) [] s' ∧ r < L ∧ St s' (a + 1) := by
  obtain ⟨cells, lefts, at_⟩ := s
  obtain ⟨hlen, hpos, hleft, hlo, hhi⟩ := h
  simp only at hlen hpos hleft hlo hhi
  have fm := fmod_in at_ (j := (cells.length : Int)) (by omega)
  have e1 : modI (.int at_) (.int (cells.length : Int)) = ret (.int (at_.fmod (cells.length : Int))) := mod_n (by omega)
  obtain ⟨left, a1, a2, a3⟩ := atI_in (l := lefts) fm.1 (by omega)
  obtain ⟨cell, b1, b2, b3⟩ := atI_in (l := cells) fm.1 (by omega)
  have l0 := hleft left a2
  have e2 : fdivI (.int left) (.int (L : Int)) = ret (.int (left.fdiv L)) := fdiv_n (by omega) (by omega)
  have e3 : ∀ i, modI (.int i) (.int (L : Int)) = ret (.int (i.fmod L)) := fun i => mod_n (by omega)
  have fl : ∀ i : Int, ∃ r : Nat, i.fmod L = (r : Int) ∧ r < L := fun i => by
    have z := fmod_in i (j := (L : Int)) (by omega)
    obtain ⟨r, hr⟩ := Int.eq_ofNat_of_zero_le z.1
    exact ⟨r, hr, by omega⟩
  by_cases hp : 0 < left
  · obtain ⟨r, hr, hr2⟩ := fl left
    have hd : 0 ≤ left.fdiv L := Int.fdiv_nonneg l0 (by omega)
    refine ⟨r, ⟨cells, lefts.set (at_.fmod (cells.length : Int)).toNat (left.fdiv L), at_ + 1⟩, ?_, hr2, ⟨by simp [hlen], hpos, fun x hx => ?_, by show 0 ≤ at_ + 1; omega, by show at_ + 1 ≤ ((a + 1 : Nat) : Int); omega⟩⟩
    · simp only [g__law_draw, m__law_draw]
      simp [runG, initG, e1, e2, e3, a1, a3, hp, endG, hr]
    · rcases List.mem_or_eq_of_mem_set hx with z | z
      · exact hleft x z
      · rw [z]
        exact hd
  · obtain ⟨m1, q1, q2, q3⟩ := run_mixed cell at_ hlo (by omega)
    obtain ⟨m2, p1, p2, p3⟩ := run_mixed m1 (40 + at_) (by omega) (by omega)
    obtain ⟨m3, o1, o2, o3⟩ := run_mixed m2 (7 + at_) (by omega) (by omega)
    have e4 : mulI (.int m2) (.int 2147483647) = ret (.int (m2 * 2147483647)) := mul_r (by decide) (by decide)
    have e5 : fdivI (.int (m2 * 2147483647 + m3)) (.int 64) = ret (.int ((m2 * 2147483647 + m3).fdiv 64)) := fdiv_n (by decide) (by decide)
    obtain ⟨r, hr, hr2⟩ := fl ((m2 * 2147483647 + m3).fdiv 64)
    refine ⟨r, ⟨cells, lefts, at_ + 1⟩, ?_, hr2, ⟨hlen, hpos, hleft, by show 0 ≤ at_ + 1; omega, by show at_ + 1 ≤ ((a + 1 : Nat) : Int); omega⟩⟩
    simp only [g__law_draw, m__law_draw]
    simp [runG, initG, e1, e3, e4, e5, a1, b1, hp, q1, p1, o1, endG, hr]
end Pn

set_option maxHeartbeats 2000003
namespace Pn
open L2 PyProof.Rows PySem.Spec PySem
/-! ### how a draw goes on -/
theorem run_of {s : DS} {a : Nat} (h : St s a) (ha : a ≤ 100000) {l : List Dat} (h0 : l ≠ []) (hl : l.length ≤ 1000) : ∃ x s', g__law_of [.list l] [] s = .ok (.sh x) [] s' ∧ x ∈ l ∧ St s' (a + 1) := by
  have lp : 0 < l.length := List.length_pos_iff.mpr h0
  obtain ⟨r, s', e, hr, hs⟩ := run_draw h ha l.length lp hl
  have ix : ixR (false, l) (dn r) = ret l[r] := ixR_nat (List.getElem?_eq_getElem hr)
  refine ⟨l[r], s', ?_, List.getElem_mem hr, hs⟩
  simp only [g__law_of, m__law_of]
  simp [runG, initG, endG, e, ix]
@[simp] theorem x_parM (i j : Nat) (ms : M (List Dat)) (c : Cfg) : parM i j ms c = (match ms c with
  | .ok ds c => (match ds with
    | [d, e] => (match put i d c with
      | none => .bad
      | some c1 => match put j e c1 with
        | none => .bad
        | some c2 => .ok .nx c2)
    | _ => .bad)
  | .exc k d c' => .exc k d c'
  | .bad => .bad) := by kernel_rfl
section
variable {rb rq rp : GF} {s s1 s2 s3 s4 s5 : DS} {A C P Q x y b : Dat} {B : Bool} {n r k : Int} {l : List Dat}
theorem b_send (d1 : g__law_draw [.int 8] [] s = .ok (.sh (.int r)) [] s1) (hr : r < 3) (o1 : g__law_of [A] [] s1 = .ok (.sh x) [] s2) (o2 : g__law_of [A] [] s2 = .ok (.sh y) [] s3) (p : rp [A, .int (n - 1), C, .bool true] [] s3 = .ok (.sh P) [] s4) :
    runG true false 9 (m__law_branch rb rq rp) [A, .int n, C] [] s = .ok (.sh (.tuple [.str "send", x, y, P])) [] s4 := by
  simp [runG, initG, endG, m__law_branch, d1, hr, o1, o2, p]
theorem b_take1 (d1 : g__law_draw [.int 8] [] s = .ok (.sh (.int r)) [] s1) (hr : ¬ r < 3) (hr2 : r < 5) (o1 : g__law_of [.list l] [] s1 = .ok (.sh x) [] s2) (o2 : g__law_of [.list l] [] s2 = .ok (.sh y) [] s3) (d2 : g__law_draw [.int 5] [] s3 = .ok (.sh b) [] s4)
    (i : inR false b (false, l) = ret (.bool true)) (p : rp [.list l, .int (n - 1), C, .bool true] [] s4 = .ok (.sh P) [] s5) :
    runG true false 9 (m__law_branch rb rq rp) [.list l, .int n, C] [] s = .ok (.sh (.tuple [.str "take", x, b, P])) [] s5 := by
  simp [runG, initG, endG, m__law_branch, d1, hr, hr2, o1, o2, d2, i, p]
theorem b_take2 (d1 : g__law_draw [.int 8] [] s = .ok (.sh (.int r)) [] s1) (hr : ¬ r < 3) (hr2 : r < 5) (o1 : g__law_of [.list l] [] s1 = .ok (.sh x) [] s2) (o2 : g__law_of [.list l] [] s2 = .ok (.sh y) [] s3) (d2 : g__law_draw [.int 5] [] s3 = .ok (.sh b) [] s4)
    (i : inR false b (false, l) = ret (.bool false)) (hl : l.length ≤ 100000) (p : rp [.list (l ++ [b]), .int (n - 1), C, .bool true] [] s4 = .ok (.sh P) [] s5) :
    runG true false 9 (m__law_branch rb rq rp) [.list l, .int n, C] [] s = .ok (.sh (.tuple [.str "take", x, b, P])) [] s5 := by
  have c := x_catL l [b] hl (by simp)
  simp [runG, initG, endG, m__law_branch, d1, hr, hr2, o1, o2, d2, i, c, p]
theorem b_wait (d1 : g__law_draw [.int 8] [] s = .ok (.sh (.int 5)) [] s1) (o1 : g__law_of [A] [] s1 = .ok (.sh x) [] s2) (o2 : g__law_of [A] [] s2 = .ok (.sh y) [] s3) (p : rp [A, .int (n - 1), C, .bool true] [] s3 = .ok (.sh P) [] s4) :
    runG true false 9 (m__law_branch rb rq rp) [A, .int n, C] [] s = .ok (.sh (.tuple [.str "wait", P])) [] s4 := by
  simp [runG, initG, endG, m__law_branch, d1, o1, o2, p]
theorem b_alike (d1 : g__law_draw [.int 8] [] s = .ok (.sh (.int 6)) [] s1) (o1 : g__law_of [A] [] s1 = .ok (.sh x) [] s2) (o2 : g__law_of [A] [] s2 = .ok (.sh y) [] s3) (p : rq [A, .int n, C] [] s3 = .ok (.sh P) [] s4) :
    runG true false 9 (m__law_branch rb rq rp) [A, .int n, C] [] s = .ok (.sh (.tuple [.str "alike", x, y, P])) [] s4 := by
  simp [runG, initG, endG, m__law_branch, d1, o1, o2, p]
theorem b_unlike (d1 : g__law_draw [.int 8] [] s = .ok (.sh (.int 7)) [] s1) (o1 : g__law_of [A] [] s1 = .ok (.sh x) [] s2) (o2 : g__law_of [A] [] s2 = .ok (.sh y) [] s3) (p : rq [A, .int n, C] [] s3 = .ok (.sh P) [] s4) :
    runG true false 9 (m__law_branch rb rq rp) [A, .int n, C] [] s = .ok (.sh (.tuple [.str "unlike", x, y, P])) [] s4 := by
  simp [runG, initG, endG, m__law_branch, d1, o1, o2, p]
theorem p_send (d1 : g__law_draw [.int 3] [] s = .ok (.sh (.int 0)) [] s1) (o1 : g__law_of [A] [] s1 = .ok (.sh x) [] s2) (o2 : g__law_of [A] [] s2 = .ok (.sh y) [] s3) (p : rp [A, .int (n - 1), C, .bool true] [] s3 = .ok (.sh P) [] s4) :
    runG true false 8 (m__law_prefix rb rq rp) [A, .int n, C] [] s = .ok (.sh (.tuple [.str "send", x, y, P])) [] s4 := by
  simp [runG, initG, endG, m__law_prefix, d1, o1, o2, p]
theorem p_take1 (d1 : g__law_draw [.int 3] [] s = .ok (.sh (.int 1)) [] s1) (o1 : g__law_of [.list l] [] s1 = .ok (.sh x) [] s2) (d2 : g__law_draw [.int 5] [] s2 = .ok (.sh b) [] s3)
    (i : inR false b (false, l) = ret (.bool true)) (p : rp [.list l, .int (n - 1), C, .bool true] [] s3 = .ok (.sh P) [] s4) :
    runG true false 8 (m__law_prefix rb rq rp) [.list l, .int n, C] [] s = .ok (.sh (.tuple [.str "take", x, b, P])) [] s4 := by
  simp [runG, initG, endG, m__law_prefix, d1, o1, d2, i, p]
theorem p_take2 (d1 : g__law_draw [.int 3] [] s = .ok (.sh (.int 1)) [] s1) (o1 : g__law_of [.list l] [] s1 = .ok (.sh x) [] s2) (d2 : g__law_draw [.int 5] [] s2 = .ok (.sh b) [] s3)
    (i : inR false b (false, l) = ret (.bool false)) (hl : l.length ≤ 100000) (p : rp [.list (l ++ [b]), .int (n - 1), C, .bool true] [] s3 = .ok (.sh P) [] s4) :
    runG true false 8 (m__law_prefix rb rq rp) [.list l, .int n, C] [] s = .ok (.sh (.tuple [.str "take", x, b, P])) [] s4 := by
  have c := x_catL l [b] hl (by simp)
  simp [runG, initG, endG, m__law_prefix, d1, o1, d2, i, c, p]
theorem p_wait (d1 : g__law_draw [.int 3] [] s = .ok (.sh (.int 2)) [] s1) (o1 : g__law_of [A] [] s1 = .ok (.sh x) [] s2) (p : rp [A, .int (n - 1), C, .bool true] [] s2 = .ok (.sh P) [] s3) :
    runG true false 8 (m__law_prefix rb rq rp) [A, .int n, C] [] s = .ok (.sh (.tuple [.str "wait", P])) [] s3 := by
  simp [runG, initG, endG, m__law_prefix, d1, o1, p]
theorem c_stop1 (hn : n < 1) : runG true false 13 (m__law_piece rb rq rp) [A, .int n, C, .bool false] [] s = .ok (.sh (enc .stop)) [] s := by
  simp [runG, initG, endG, m__law_piece, hn, enc]
theorem c_stop2 (hn : n < 1) (hc : neD C (.list []) = ret (.bool false)) : runG true false 13 (m__law_piece rb rq rp) [A, .int n, C, .bool true] [] s = .ok (.sh (enc .stop)) [] s := by
  simp [runG, initG, endG, m__law_piece, hn, hc, enc]
theorem c_stop3 (hn : n < 1) (hc : neD C (.list []) = ret (.bool true)) (d1 : g__law_draw [.int 2] [] s = .ok (.sh (.int 1)) [] s1) : runG true false 13 (m__law_piece rb rq rp) [A, .int n, C, .bool true] [] s = .ok (.sh (enc .stop)) [] s1 := by
  simp [runG, initG, endG, m__law_piece, hn, hc, d1, enc]
theorem c_call1 (hn : n < 1) (hc : neD C (.list []) = ret (.bool true)) (d1 : g__law_draw [.int 2] [] s = .ok (.sh (.int 0)) [] s1) (o : g__law_of [C] [] s1 = .ok (.sh (.tuple [b, .int 1])) [] s2) (o1 : g__law_of [A] [] s2 = .ok (.sh x) [] s3) :
    runG true false 13 (m__law_piece rb rq rp) [A, .int n, C, .bool true] [] s = .ok (.sh (.tuple [.str "call", b, .tuple [x]])) [] s3 := by
  simp [runG, initG, endG, m__law_piece, hn, hc, d1, o, itR, numL, lcM, lcL, quiet, clr, back, o1]
theorem c_call2 (hn : n < 1) (hc : neD C (.list []) = ret (.bool true)) (d1 : g__law_draw [.int 2] [] s = .ok (.sh (.int 0)) [] s1) (o : g__law_of [C] [] s1 = .ok (.sh (.tuple [b, .int 2])) [] s2) (o1 : g__law_of [A] [] s2 = .ok (.sh x) [] s3) (o2 : g__law_of [A] [] s3 = .ok (.sh y) [] s4) :
    runG true false 13 (m__law_piece rb rq rp) [A, .int n, C, .bool true] [] s = .ok (.sh (.tuple [.str "call", b, .tuple [x, y]])) [] s4 := by
  have r2 : List.range 2 = [0, 1] := rfl
  simp [runG, initG, endG, m__law_piece, hn, hc, d1, o, itR, numL, r2, lcM, lcL, quiet, clr, back, o1, o2]
theorem c_one (hn : ¬ n < 1) (d1 : g__law_draw [.int 8] [] s = .ok (.sh (.int r)) [] s1) (hr : r < 4) (p : rb [A, .int n, C] [] s1 = .ok (.sh P) [] s2) : runG true false 13 (m__law_piece rb rq rp) [A, .int n, C, .bool B] [] s = .ok (.sh P) [] s2 := by
  simp [runG, initG, endG, m__law_piece, hn, d1, hr, p]
theorem c_one1 (d1 : g__law_draw [.int 8] [] s = .ok (.sh (.int r)) [] s1) (p : rb [A, .int 1, C] [] s1 = .ok (.sh P) [] s2) : runG true false 13 (m__law_piece rb rq rp) [A, .int 1, C, .bool B] [] s = .ok (.sh P) [] s2 := by
  by_cases hr : r < 4 <;> simp [runG, initG, endG, m__law_piece, d1, hr, p]
theorem c_new1 (hn : ¬ n < 1) (hn1 : n ≠ 1) (d1 : g__law_draw [.int 8] [] s = .ok (.sh (.int 4)) [] s1) (d2 : g__law_draw [.int 5] [] s1 = .ok (.sh b) [] s2) (i : inR false b (false, l) = ret (.bool true)) (p : rb [.list l, .int n, C] [] s2 = .ok (.sh P) [] s3) :
    runG true false 13 (m__law_piece rb rq rp) [.list l, .int n, C, .bool B] [] s = .ok (.sh (.tuple [.str "new", b, P])) [] s3 := by
  simp [runG, initG, endG, m__law_piece, hn, hn1, d1, d2, i, p]
theorem c_new2 (hn : ¬ n < 1) (hn1 : n ≠ 1) (d1 : g__law_draw [.int 8] [] s = .ok (.sh (.int 4)) [] s1) (d2 : g__law_draw [.int 5] [] s1 = .ok (.sh b) [] s2) (i : inR false b (false, l) = ret (.bool false)) (hl : l.length ≤ 100000) (p : rb [.list (l ++ [b]), .int n, C] [] s2 = .ok (.sh P) [] s3) :
    runG true false 13 (m__law_piece rb rq rp) [.list l, .int n, C, .bool B] [] s = .ok (.sh (.tuple [.str "new", b, P])) [] s3 := by
  have c := x_catL l [b] hl (by simp)
  simp [runG, initG, endG, m__law_piece, hn, hn1, d1, d2, i, c, p]
theorem c_two (hn : ¬ n < 1) (hn1 : n ≠ 1) (d1 : g__law_draw [.int 8] [] s = .ok (.sh (.int r)) [] s1) (hr : ¬ r < 4) (hr4 : r ≠ 4) (d2 : g__law_draw [.int (n - 1)] [] s1 = .ok (.sh (.int k)) [] s2) (p : rb [A, .int (1 + k), C] [] s2 = .ok (.sh P) [] s3) (q : rb [A, .int (n - (1 + k)), C] [] s3 = .ok (.sh Q) [] s4) :
    runG true false 13 (m__law_piece rb rq rp) [A, .int n, C, .bool B] [] s = .ok (.sh (.tuple [.str "one", .tuple [P, Q]])) [] s4 := by
  simp [runG, initG, endG, m__law_piece, hn, hn1, d1, hr, hr4, d2, p, q]
end
end Pn

set_option maxHeartbeats 2000003
namespace Pn
open L2 PyProof.Rows PySem.Spec PySem
structure Dr (cs N : List Nat) (mn due g : Bool) (D C Z : Nat) (p : Pc) : Prop where
  ok : okAt cs mn p due g = true
  ns : noSev p = true
  fv : ∀ x ∈ Pn.fv p, ∃ n, n ∈ N ∧ x = (n : Int)
  dpt : dep p ≤ D
  cnt : Pn.cnt p ≤ C
  sz : Pn.sz p ≤ Z
abbrev nmD (N : List Nat) : Dat := .list (N.map dn)
def cD (cl : Bool) (cs : List Nat) : Dat := if cl = true then .list (pairsF 0 (cs.map dn)) else .list []
section
variable {cs N N' : List Nat} {mn due g : Bool} {D C Z D2 C2 Z2 : Nat} {p q : Pc} {a b x : Nat}
theorem Dr.mono (h : Dr cs N mn due g D C Z p) (e1 : D ≤ D2) (e2 : C ≤ C2) (e3 : Z ≤ Z2) : Dr cs N mn due g D2 C2 Z2 p := ⟨h.ok, h.ns, h.fv, Nat.le_trans h.dpt e1, Nat.le_trans h.cnt e2, Nat.le_trans h.sz e3⟩
theorem dr_stop : Dr cs N mn false g 1 1 1 .stop := ⟨rfl, rfl, fun x h => by simp [Pn.fv, upI] at h, Nat.le_refl _, Nat.le_refl _, Nat.le_refl _⟩
theorem dr_send (hN : ∀ n ∈ N, n < 10) (ha : a ∈ N) (hb : b ∈ N) (h : Dr cs N mn false true D C Z p) : Dr cs N mn due g (D + 1) (C + 1) (Z + 2) (.send a b p) where
  ok := by simp [okAt, letP, hN a ha, hN b hb, h.ok]
  ns := h.ns
  fv := fun x hx => by
    simp only [Pn.fv, upI_mem, List.mem_cons] at hx
    rcases hx with rfl | rfl | hx
    · exact ⟨a, ha, rfl⟩
    · exact ⟨b, hb, rfl⟩
    · exact h.fv x hx
  dpt := by have := h.dpt; simp only [dep]; omega
  cnt := by have := h.cnt; simp only [Pn.cnt]; omega
  sz := by have := h.sz; simp only [Pn.sz]; omega
theorem dr_wait (h : Dr cs N mn false true D C Z p) : Dr cs N mn due g (D + 1) (C + 1) (Z + 2) (.wait p) where
  ok := by simp [okAt, letP, h.ok]
  ns := h.ns
  fv := fun x hx => by
    simp only [Pn.fv, upI_mem] at hx
    exact h.fv x hx
  dpt := by have := h.dpt; simp only [dep]; omega
  cnt := by have := h.cnt; simp only [Pn.cnt]; omega
  sz := by have := h.sz; simp only [Pn.sz]; omega
theorem dr_take (hN : ∀ n ∈ N, n < 10) (ha : a ∈ N) (hx : x < 10) (hN' : N' = N ∨ N' = N ++ [x]) (h : Dr cs N' mn false true D C Z p) : Dr cs N mn due g (D + 1) (C + 1) (Z + 2) (.take a x p) where
  ok := by simp [okAt, letP, hN a ha, hx, h.ok]
  ns := h.ns
  fv := fun y hy => by
    simp only [Pn.fv, upI_mem, List.mem_cons, List.mem_filter] at hy
    rcases hy with rfl | ⟨hy, e⟩
    · exact ⟨a, ha, rfl⟩
    · obtain ⟨n, hn, rfl⟩ := h.fv y hy
      rcases hN' with rfl | rfl
      · exact ⟨n, hn, rfl⟩
      · rcases List.mem_append.mp hn with z | z
        · exact ⟨n, z, rfl⟩
        · rw [List.mem_singleton.mp z] at e
          simp at e
  dpt := by have := h.dpt; simp only [dep]; omega
  cnt := by have := h.cnt; simp only [Pn.cnt]; omega
  sz := by have := h.sz; simp only [Pn.sz]; omega
theorem dr_new (hx : x < 10) (hN' : N' = N ∨ N' = N ++ [x]) (h : Dr cs N' mn false g D C Z p) : Dr cs N mn false g (D + 1) (C + 1) (Z + 1) (.new x p) where
  ok := by simp [okAt, letP, hx, h.ok]
  ns := h.ns
  fv := fun y hy => by
    simp only [Pn.fv, upI_mem, List.mem_filter] at hy
    obtain ⟨hy, e⟩ := hy
    obtain ⟨n, hn, rfl⟩ := h.fv y hy
    rcases hN' with rfl | rfl
    · exact ⟨n, hn, rfl⟩
    · rcases List.mem_append.mp hn with z | z
      · exact ⟨n, z, rfl⟩
      · rw [List.mem_singleton.mp z] at e
        simp at e
  dpt := by have := h.dpt; simp only [dep]; omega
  cnt := by have := h.cnt; simp only [Pn.cnt]; omega
  sz := by have := h.sz; simp only [Pn.sz]; omega
theorem dr_tst (w : Bool) (hN : ∀ n ∈ N, n < 10) (ha : a ∈ N) (hb : b ∈ N) (h : Dr cs N mn true g D C Z p) : Dr cs N mn due g (D + 1) (C + 1) (Z + 2) (.tst w a b p) where
  ok := by simp [okAt, letP, hN a ha, hN b hb, h.ok]
  ns := h.ns
  fv := fun x hx => by
    simp only [Pn.fv, upI_mem, List.mem_cons] at hx
    rcases hx with rfl | rfl | hx
    · exact ⟨a, ha, rfl⟩
    · exact ⟨b, hb, rfl⟩
    · exact h.fv x hx
  dpt := by have := h.dpt; simp only [dep]; omega
  cnt := by have := h.cnt; simp only [Pn.cnt]; omega
  sz := by have := h.sz; simp only [Pn.sz]; omega
theorem dr_two (h : Dr cs N mn true g D C Z p) (k : Dr cs N mn true g D2 C2 Z2 q) : Dr cs N mn false g (max D D2 + 1) (C + C2 + 1) (Z + Z2 + 1) (.two p q) where
  ok := by simp [okAt, letP, h.ok, k.ok]
  ns := by simp [noSev, h.ns, k.ns]
  fv := fun x hx => by
    simp only [Pn.fv, upI_mem, List.mem_append] at hx
    rcases hx with hx | hx
    · exact h.fv x hx
    · exact k.fv x hx
  dpt := by have := h.dpt; have := k.dpt; simp only [dep]; omega
  cnt := by have := h.cnt; have := k.cnt; simp only [Pn.cnt]; omega
  sz := by have := h.sz; have := k.sz; simp only [Pn.sz]; omega
theorem dr_bes (h : Dr cs N true false g D C Z p) (k : Dr cs N true false g D2 C2 Z2 q) : Dr cs N true false g (max D D2 + 1) (C + C2 + 1) (Z + Z2 + 1) (.bes p q) where
  ok := by simp [okAt, letP, h.ok, k.ok]
  ns := by simp [noSev, h.ns, k.ns]
  fv := fun x hx => by
    simp only [Pn.fv, upI_mem, List.mem_append] at hx
    rcases hx with hx | hx
    · exact h.fv x hx
    · exact k.fv x hx
  dpt := by have := h.dpt; have := k.dpt; simp only [dep]; omega
  cnt := by have := h.cnt; have := k.cnt; simp only [Pn.cnt]; omega
  sz := by have := h.sz; have := k.sz; simp only [Pn.sz]; omega
theorem dr_call {d : Nat} {ns : List Nat} (hN : ∀ n ∈ N, n < 10) (hg : (mn || g) = true) (hd : cs[d]? = some ns.length) (hn : ∀ n ∈ ns, n ∈ N) (hl : ns.length ≤ 2) : Dr cs N mn false g 1 1 3 (.call d ns) where
  ok := by
    simp only [okAt, letP, Bool.not_false, Bool.true_and, hg, hd, Bool.and_eq_true, List.all_eq_true, decide_eq_true_eq, beq_self_eq_true, true_and]
    exact fun x hx => hN x (hn x hx)
  ns := rfl
  fv := fun x hx => by
    simp only [Pn.fv, upI_mem, List.mem_map] at hx
    obtain ⟨n, h1, rfl⟩ := hx
    exact ⟨n, hn n h1, rfl⟩
  dpt := Nat.le_refl _
  cnt := Nat.le_refl _
  sz := by simp only [Pn.sz]; omega
end
/-- names to draw from -/
structure Nm (N : List Nat) (k : Nat) : Prop where
  lt : ∀ n ∈ N, n < 10
  ne : N ≠ []
  len : N.length + k ≤ 600
theorem Nm.more {N : List Nat} {k x : Nat} (h : Nm N (k + 1)) (hx : x < 10) : Nm (N ++ [x]) k where
  lt := fun n hn => by
    (rcases List.mem_append.mp hn with z | z)
    · exact h.lt n z
    · (rw [List.mem_singleton.mp z])
      exact hx
  ne := by simp
  len := by have := h.len; rw [List.length_append, List.length_singleton]; omega
theorem Nm.mono {N : List Nat} {k j : Nat} (h : Nm N k) (e : j ≤ k) : Nm N j := ⟨h.lt, h.ne, by have := h.len; omega⟩
theorem run_name {s : DS} {a k : Nat} (h : St s a) (ha : a ≤ 100000) {N : List Nat} (hN : Nm N k) : ∃ x s', g__law_of [nmD N] [] s = .ok (.sh (dn x)) [] s' ∧ x ∈ N ∧ St s' (a + 1) := by
  obtain ⟨d, s', e, hx, hs⟩ := run_of h ha (l := N.map dn) (by simp [hN.ne]) (by rw [List.length_map]; have := hN.len; omega)
  obtain ⟨n, hn, rfl⟩ := List.mem_map.mp hx
  exact ⟨n, s', e, hn, hs⟩
theorem in_names (b : Nat) (N : List Nat) : ∃ t, inR false (dn b) (false, N.map dn) = ret (.bool t) := by
  have e : (N.map dn).all flatD = true := by
    rw [List.all_map]
    simp [flatD]
  refine ⟨inF (dn b) (N.map dn), ?_⟩
  unfold inR
  have e2 : (flatD (dn b) && (false, N.map dn).2.all flatD) = true := by
    show (true && (N.map dn).all flatD) = true
    rw [e]
    rfl
  rw [if_pos e2]
  rfl
/-- a bound name: it is told which names there are behind it -/
theorem bound_names (b : Nat) (hb : b < 10) {N : List Nat} {k : Nat} (hN : Nm N (k + 1)) : (inR false (dn b) (false, N.map dn) = ret (.bool true)) ∨ (inR false (dn b) (false, N.map dn) = ret (.bool false) ∧ Nm (N ++ [b]) k) := by
  obtain ⟨t, e⟩ := in_names b N
  cases t with
  | true => exact .inl e
  | false => exact .inr ⟨e, hN.more hb⟩
theorem nm_app (N : List Nat) (b : Nat) : nmD (N ++ [b]) = .list (N.map dn ++ [dn b]) := by
  show PyData.list ((N ++ [b]).map dn) = _
  rw [List.map_append]
  rfl
theorem ne_nil (cl : Bool) (cs : List Nat) (hc : cs.length ≤ 2) (h : cl = true → cs ≠ []) : neD (cD cl cs) (.list []) = ret (.bool cl) := by
  cases cl with
  | false => kernel_rfl
  | true =>
    match cs, hc, h rfl with
    | [], _, h => exact absurd rfl h
    | [w], _, _ => kernel_rfl
    | [w, v], _, _ => kernel_rfl
    | _ :: _ :: _ :: _, h, _ => exact absurd h (by simp)
end Pn

set_option maxHeartbeats 2000003
namespace Pn
open L2 PyProof.Rows PySem.Spec PySem
structure CsOk (cl : Bool) (cs : List Nat) : Prop where
  len : cs.length ≤ 2
  ne : cl = true → cs ≠ []
  wd : ∀ w ∈ cs, Wd w
def BRun (cs : List Nat) (k : Nat) : Prop := ∀ (s : DS) (a : Nat) (N : List Nat) (m : Nat) (cl mn g : Bool), St s a → a + 16 * m + 10 ≤ 100000 → Nm N (3 * m + 2) → 3 * m + 3 ≤ k → CsOk cl cs → (cl = true → mn = true ∨ 0 = 0) →
  ∃ p s', g__law_branch k [nmD N, .int ((m : Int) + 1), cD cl cs] [] s = .ok (.sh (enc p)) [] s' ∧ St s' (a + 16 * m + 10) ∧ ∀ due, Dr cs N mn due g (3 * m + 3) (4 * m + 3) (7 * m + 7) p
def QRun (cs : List Nat) (k : Nat) : Prop := ∀ (s : DS) (a : Nat) (N : List Nat) (m : Nat) (cl mn g : Bool), St s a → a + 16 * m + 7 ≤ 100000 → Nm N (3 * m + 2) → 3 * m + 2 ≤ k → CsOk cl cs →
  ∃ p s', g__law_prefix k [nmD N, .int ((m : Int) + 1), cD cl cs] [] s = .ok (.sh (enc p)) [] s' ∧ St s' (a + 16 * m + 7) ∧ ∀ due, Dr cs N mn due g (3 * m + 2) (4 * m + 2) (7 * m + 5) p
def PRun (cs : List Nat) (k : Nat) : Prop := ∀ (s : DS) (a : Nat) (N : List Nat) (n : Nat) (cl bh mn g : Bool), St s a → a + 16 * n + 4 ≤ 100000 → Nm N (3 * n) → 3 * n + 1 ≤ k → CsOk cl cs → (bh = true → cl = true → (mn || g) = true) →
  ∃ p s', g__law_piece k [nmD N, dn n, cD cl cs, .bool bh] [] s = .ok (.sh (enc p)) [] s' ∧ St s' (a + 16 * n + 4) ∧ Dr cs N mn false g (3 * n + 1) (4 * n + 1) (7 * n + 3) p
theorem int_pred (m : Nat) : (m : Int) + 1 - 1 = (m : Int) := by omega
theorem b_step {cs : List Nat} {k : Nat} (hq : QRun cs k) (hp : PRun cs k) : BRun cs (k + 1) := by
  intro s a N m cl mn g h ha hN hk hc _
  obtain ⟨r, s1, d1, hr, h1⟩ := run_draw h (by omega) 8 (by omega) (by omega)
  obtain ⟨x, s2, o1, hx, h2⟩ := run_name h1 (by omega) hN
  obtain ⟨y, s3, o2, hy, h3⟩ := run_name h2 (by omega) hN
  have d1 : g__law_draw [.int 8] [] s = .ok (.sh (.int (r : Int))) [] s1 := d1
  by_cases c3 : r < 3
  · obtain ⟨p, s4, e, h4, dr⟩ := hp s3 (a + 1 + 1 + 1) N m cl true mn true h3 (by omega) (hN.mono (by omega)) (by omega) hc (fun _ _ => by simp)
    refine ⟨.send x y p, s4, ?_, h4.mono (by omega), fun due => (dr_send hN.lt hx hy dr).mono (by omega) (by omega) (by omega)⟩
    exact b_send d1 (by omega) o1 o2 (by rw [int_pred]; exact e)
  by_cases c5 : r < 5
  · obtain ⟨b, s4, d2, hb, h4⟩ := run_draw h3 (by omega) 5 (by omega) (by omega)
    have d2 : g__law_draw [.int 5] [] s3 = .ok (.sh (dn b)) [] s4 := d2
    rcases bound_names b (by omega) (k := 3 * m) (hN.mono (by omega)) with i | ⟨i, hN2⟩
    · obtain ⟨p, s5, e, h5, dr⟩ := hp s4 (a + 1 + 1 + 1 + 1) N m cl true mn true h4 (by omega) (hN.mono (by omega)) (by omega) hc (fun _ _ => by simp)
      refine ⟨.take x b p, s5, ?_, h5.mono (by omega), fun due => (dr_take hN.lt hx (by omega) (.inl rfl) dr).mono (by omega) (by omega) (by omega)⟩
      exact b_take1 d1 (by omega) (by omega) o1 o2 d2 i (by rw [int_pred]; exact e)
    · obtain ⟨p, s5, e, h5, dr⟩ := hp s4 (a + 1 + 1 + 1 + 1) (N ++ [b]) m cl true mn true h4 (by omega) hN2 (by omega) hc (fun _ _ => by simp)
      refine ⟨.take x b p, s5, ?_, h5.mono (by omega), fun due => (dr_take hN.lt hx (by omega) (.inr rfl) dr).mono (by omega) (by omega) (by omega)⟩
      rw [nm_app] at e
      exact b_take2 d1 (by omega) (by omega) o1 o2 d2 i (by rw [List.length_map]; have := hN.len; omega) (by rw [int_pred]; exact e)
  by_cases c6 : r = 5
  · subst c6
    obtain ⟨p, s4, e, h4, dr⟩ := hp s3 (a + 1 + 1 + 1) N m cl true mn true h3 (by omega) (hN.mono (by omega)) (by omega) hc (fun _ _ => by simp)
    refine ⟨.wait p, s4, ?_, h4.mono (by omega), fun due => (dr_wait dr).mono (by omega) (by omega) (by omega)⟩
    exact b_wait d1 o1 o2 (by rw [int_pred]; exact e)
  obtain ⟨p, s4, e, h4, dr⟩ := hq s3 (a + 1 + 1 + 1) N m cl mn g h3 (by omega) hN (by omega) hc
  by_cases c7 : r = 6
  · subst c7
    refine ⟨.tst true x y p, s4, ?_, h4.mono (by omega), fun due => (dr_tst true hN.lt hx hy (dr true)).mono (by omega) (by omega) (by omega)⟩
    exact b_alike d1 o1 o2 e
  · have c8 : r = 7 := by omega
    subst c8
    refine ⟨.tst false x y p, s4, ?_, h4.mono (by omega), fun due => (dr_tst false hN.lt hx hy (dr true)).mono (by omega) (by omega) (by omega)⟩
    exact b_unlike d1 o1 o2 e
theorem q_step {cs : List Nat} {k : Nat} (hp : PRun cs k) : QRun cs (k + 1) := by
  intro s a N m cl mn g h ha hN hk hc
  obtain ⟨r, s1, d1, hr, h1⟩ := run_draw h (by omega) 3 (by omega) (by omega)
  obtain ⟨x, s2, o1, hx, h2⟩ := run_name h1 (by omega) hN
  have d1 : g__law_draw [.int 3] [] s = .ok (.sh (.int (r : Int))) [] s1 := d1
  by_cases c0 : r = 0
  · subst c0
    obtain ⟨y, s3, o2, hy, h3⟩ := run_name h2 (by omega) hN
    obtain ⟨p, s4, e, h4, dr⟩ := hp s3 (a + 1 + 1 + 1) N m cl true mn true h3 (by omega) (hN.mono (by omega)) (by omega) hc (fun _ _ => by simp)
    refine ⟨.send x y p, s4, ?_, h4.mono (by omega), fun due => (dr_send hN.lt hx hy dr).mono (by omega) (by omega) (by omega)⟩
    exact p_send d1 o1 o2 (by rw [int_pred]; exact e)
  by_cases c1 : r = 1
  · subst c1
    obtain ⟨b, s3, d2, hb, h3⟩ := run_draw h2 (by omega) 5 (by omega) (by omega)
    have d2 : g__law_draw [.int 5] [] s2 = .ok (.sh (dn b)) [] s3 := d2
    rcases bound_names b (by omega) (k := 3 * m) (hN.mono (by omega)) with i | ⟨i, hN2⟩
    · obtain ⟨p, s4, e, h4, dr⟩ := hp s3 (a + 1 + 1 + 1) N m cl true mn true h3 (by omega) (hN.mono (by omega)) (by omega) hc (fun _ _ => by simp)
      refine ⟨.take x b p, s4, ?_, h4.mono (by omega), fun due => (dr_take hN.lt hx (by omega) (.inl rfl) dr).mono (by omega) (by omega) (by omega)⟩
      exact p_take1 d1 o1 d2 i (by rw [int_pred]; exact e)
    · obtain ⟨p, s4, e, h4, dr⟩ := hp s3 (a + 1 + 1 + 1) (N ++ [b]) m cl true mn true h3 (by omega) hN2 (by omega) hc (fun _ _ => by simp)
      refine ⟨.take x b p, s4, ?_, h4.mono (by omega), fun due => (dr_take hN.lt hx (by omega) (.inr rfl) dr).mono (by omega) (by omega) (by omega)⟩
      rw [nm_app] at e
      exact p_take2 d1 o1 d2 i (by rw [List.length_map]; have := hN.len; omega) (by rw [int_pred]; exact e)
  · have c2 : r = 2 := by omega
    subst c2
    obtain ⟨p, s3, e, h3, dr⟩ := hp s2 (a + 1 + 1) N m cl true mn true h2 (by omega) (hN.mono (by omega)) (by omega) hc (fun _ _ => by simp)
    refine ⟨.wait p, s3, ?_, h3.mono (by omega), fun due => (dr_wait dr).mono (by omega) (by omega) (by omega)⟩
    exact p_wait d1 o1 (by rw [int_pred]; exact e)
/-- a drawn call's definition -/
theorem run_callee {s : DS} {a : Nat} (h : St s a) (ha : a ≤ 100000) {cs : List Nat} (hc : CsOk true cs) : ∃ d w s', g__law_of [cD true cs] [] s = .ok (.sh (.tuple [dn d, dn w])) [] s' ∧ cs[d]? = some w ∧ Wd w ∧ St s' (a + 1) := by
  have main : ∀ l : List Dat, cD true cs = .list l → l ≠ [] → l.length ≤ 2 → (∀ x ∈ l, ∃ d w, x = .tuple [dn d, dn w] ∧ cs[d]? = some w) → ∃ d w s', g__law_of [cD true cs] [] s = .ok (.sh (.tuple [dn d, dn w])) [] s' ∧ cs[d]? = some w ∧ Wd w ∧ St s' (a + 1) := by
    intro l e h0 hl hx
    obtain ⟨x, s', e2, hm, hs⟩ := run_of h ha h0 (by omega)
    obtain ⟨d, w, rfl, hd⟩ := hx x hm
    exact ⟨d, w, s', by rw [e]; exact e2, hd, hc.wd w (List.mem_of_getElem? hd), hs⟩
  match cs, hc, main with
  | [], hc, _ => exact absurd rfl (hc.ne rfl)
  | [w], _, main => exact main [.tuple [dn 0, dn w]] rfl (by simp) (by simp) (fun x hx => ⟨0, w, List.mem_singleton.mp hx, rfl⟩)
  | [w, v], _, main => exact main [.tuple [dn 0, dn w], .tuple [dn 1, dn v]] rfl (by simp) (by simp) (fun x hx => by
      rcases List.mem_cons.mp hx with z | z
      · exact ⟨0, w, z, rfl⟩
      · exact ⟨1, v, List.mem_singleton.mp z, rfl⟩)
  | _ :: _ :: _ :: _, hc, _ => exact absurd hc.len (by simp)
theorem cl_step {cs : List Nat} {k : Nat} (hb : BRun cs k) : PRun cs (k + 1) := by
  intro s a N n cl bh mn g h ha hN hk hc hg
  cases n with
  | zero =>
    cases bh with
    | false => exact ⟨.stop, s, c_stop1 (rb := g__law_branch k) (rq := g__law_prefix k) (rp := g__law_piece k) (n := ((0 : Nat) : Int)) (by decide), h.mono (by omega), dr_stop.mono (by omega) (by omega) (by omega)⟩
    | true =>
      have nn := ne_nil cl cs hc.len hc.ne
      cases cl with
      | false => exact ⟨.stop, s, c_stop2 (rb := g__law_branch k) (rq := g__law_prefix k) (rp := g__law_piece k) (n := ((0 : Nat) : Int)) (by decide) nn, h.mono (by omega), dr_stop.mono (by omega) (by omega) (by omega)⟩
      | true =>
        obtain ⟨r, s1, d1, hr, h1⟩ := run_draw h (by omega) 2 (by omega) (by omega)
        by_cases c0 : r = 0
        · subst c0
          obtain ⟨d, w, s2, o, hd, hw, h2⟩ := run_callee h1 (by omega) hc
          obtain ⟨x, s3, o1, hx, h3⟩ := run_name h2 (by omega) hN
          rcases hw with rfl | rfl
          · refine ⟨.call d [x], s3, c_call1 (n := ((0 : Nat) : Int)) (by decide) nn d1 o o1, h3.mono (by omega), (dr_call hN.lt (hg rfl rfl) hd (fun n hn => by rw [List.mem_singleton.mp hn]; exact hx) (by simp)).mono (by omega) (by omega) (by omega)⟩
          · obtain ⟨y, s4, o2, hy, h4⟩ := run_name h3 (by omega) hN
            refine ⟨.call d [x, y], s4, c_call2 (n := ((0 : Nat) : Int)) (by decide) nn d1 o o1 o2, h4.mono (by omega), (dr_call hN.lt (hg rfl rfl) hd (fun n hn => by
              rcases List.mem_cons.mp hn with z | z
              · rw [z]; exact hx
              · rw [List.mem_singleton.mp z]; exact hy) (by simp)).mono (by omega) (by omega) (by omega)⟩
        · have c1 : r = 1 := by omega
          subst c1
          exact ⟨.stop, s1, c_stop3 (rb := g__law_branch k) (rq := g__law_prefix k) (rp := g__law_piece k) (n := ((0 : Nat) : Int)) (by decide) nn d1, h1.mono (by omega), dr_stop.mono (by omega) (by omega) (by omega)⟩
  | succ m =>
    obtain ⟨r, s1, d1, hr, h1⟩ := run_draw h (by omega) 8 (by omega) (by omega)
    have d1 : g__law_draw [.int 8] [] s = .ok (.sh (.int (r : Int))) [] s1 := d1
    have en : (dn (m + 1) : Dat) = .int ((m : Int) + 1) := rfl
    rw [en]
    by_cases c4 : r < 4
    · obtain ⟨p, s2, e, h2, dr⟩ := hb s1 (a + 1) N m cl mn g h1 (by omega) (hN.mono (by omega)) (by omega) hc (fun _ => .inr rfl)
      exact ⟨p, s2, c_one (by omega) d1 (by omega) e, h2.mono (by omega), (dr false).mono (by omega) (by omega) (by omega)⟩
    by_cases m0 : m = 0
    · subst m0
      obtain ⟨p, s2, e, h2, dr⟩ := hb s1 (a + 1) N 0 cl mn g h1 (by omega) (hN.mono (by omega)) (by omega) hc (fun _ => .inr rfl)
      exact ⟨p, s2, c_one1 d1 e, h2.mono (by omega), (dr false).mono (by omega) (by omega) (by omega)⟩
    by_cases c5 : r = 4
    · subst c5
      obtain ⟨b, s2, d2, hb2, h2⟩ := run_draw h1 (by omega) 5 (by omega) (by omega)
      have d2 : g__law_draw [.int 5] [] s1 = .ok (.sh (dn b)) [] s2 := d2
      rcases bound_names b (by omega) (k := 3 * m + 2) (hN.mono (by omega)) with i | ⟨i, hN2⟩
      · obtain ⟨p, s3, e, h3, dr⟩ := hb s2 (a + 1 + 1) N m cl mn g h2 (by omega) (hN.mono (by omega)) (by omega) hc (fun _ => .inr rfl)
        exact ⟨.new b p, s3, c_new1 (by omega) (by omega) d1 d2 i e, h3.mono (by omega), (dr_new (by omega) (.inl rfl) (dr false)).mono (by omega) (by omega) (by omega)⟩
      · obtain ⟨p, s3, e, h3, dr⟩ := hb s2 (a + 1 + 1) (N ++ [b]) m cl mn g h2 (by omega) hN2 (by omega) hc (fun _ => .inr rfl)
        rw [nm_app] at e
        exact ⟨.new b p, s3, c_new2 (by omega) (by omega) d1 d2 i (by rw [List.length_map]; have := hN.len; omega) e, h3.mono (by omega), (dr_new (by omega) (.inr rfl) (dr false)).mono (by omega) (by omega) (by omega)⟩
    · obtain ⟨j, s2, d2, hj, h2⟩ := run_draw h1 (by omega) m (by omega) (by have := hN.len; omega)
      obtain ⟨p, s3, e, h3, dr⟩ := hb s2 (a + 1 + 1) N j cl mn g h2 (by omega) (hN.mono (by omega)) (by omega) hc (fun _ => .inr rfl)
      obtain ⟨q, s4, e2, h4, dr2⟩ := hb s3 (a + 1 + 1 + 16 * j + 10) N (m - 1 - j) cl mn g h3 (by omega) (hN.mono (by omega)) (by omega) hc (fun _ => .inr rfl)
      refine ⟨.two p q, s4, c_two (k := (j : Int)) (by omega) (by omega) d1 (by omega) (by omega) (by rw [int_pred]; exact d2) (by rw [Int.add_comm]; exact e) ?_, h4.mono (by omega), (dr_two (dr true) (dr2 true)).mono (by omega) (by omega) (by omega)⟩
      have ee : (m : Int) + 1 - (1 + (j : Int)) = ((m - 1 - j : Nat) : Int) + 1 := by omega
      rw [ee]
      exact e2
theorem drawn_all (cs : List Nat) : ∀ k, BRun cs k ∧ QRun cs k ∧ PRun cs k
  | 0 => ⟨fun s a N m cl mn g h ha hN hk => absurd hk (by omega), fun s a N m cl mn g h ha hN hk => absurd hk (by omega), fun s a N n cl bh mn g h ha hN hk => absurd hk (by omega)⟩
  | k + 1 => by
    obtain ⟨b, q, p⟩ := drawn_all cs k
    exact ⟨b_step q p, q_step p, cl_step b⟩
end Pn

set_option maxHeartbeats 2000003
namespace Pn
open L2 PyProof.Rows PySem.Spec PySem
def tTail : M Ctl := (seq (M.bind (asx (frz (M.bind (rd 1) lsRgR))) (asg 5)) (seq (M.bind (asx (frz (callSM 4 (g__law_piece 20) (stArg 0 (aCons (rd 5) (aCons (ret (.int 1)) (aCons (rd 8) (aCons (ret (.bool true)) (aNil))))))))) (asg 6)) (seq (M.bind (frz (callSM 1 g__law_of (stArg 0 (aCons (rd 8) (aNil))))) (tgtM (putTup 2 (putCons (put 11) (putCons (put 4) (putNil)))))) (seq (M.bind (asx (M.bind (aCons (ret (.str "call")) (aCons (rd 11) (aCons (M.bind (rowX (M.bind (M.bind (aCons (rd 4) aNil) itR) (lcM [13] (put 13) (ret true) (frz (callSM 1 g__law_of (stArg 0 (aCons (rd 5) (aNil)))))))) tupR) (aNil)))) tupD)) (asg 7)) (seq (ifS (toB (m2 eqD (frz (callSM 1 g__law_draw (stArg 0 (aCons (ret (.int 2)) (aNil))))) (ret (.int 0)))) (retS (asx (M.bind (aCons (rd 9) (aCons (rd 7) (aNil))) tupD))) (ret .nx)) (retS (asx (M.bind (aCons (rd 9) (aCons (M.bind (aCons (ret (.str "beside")) (aCons (M.bind (aCons (rd 7) (aCons (ifE (toB (m2 gtI (rd 2) (ret (.int 0)))) (frz (callSM 4 (g__law_piece 20) (stArg 0 (aCons (rd 5) (aCons (rd 2) (aCons (frz (M.bind (aNil) lstD)) (aCons (ret (.bool true)) (aNil)))))))) (rd 6)) (aNil))) tupD) (aNil))) tupD) (aNil))) tupD))))))))
theorem told_eq : m__law_told = seq (M.bind (asx (frz (M.bind (M.bind (aCons (m2 addI (ret (.int 1)) (frz (callSM 1 g__law_draw (stArg 0 (aCons (ret (.int 2)) (aNil)))))) aNil) itR) (lcM [12] (put 12) (ret true) (m2 addI (ret (.int 1)) (frz (callSM 1 g__law_draw (stArg 0 (aCons (ret (.int 2)) (aNil)))))))))) (asg 3)) (seq (parM 8 9 (aCons (frz (M.bind (rd 3) lsEnR)) (aCons (M.bind (aNil) tupD) (aNil)))) (seq (M.bind (M.bind (rd 3) itL) fun items => forL (put 4) (seq (M.bind (asx (frz (M.bind (rd 4) lsRgR))) (asg 5)) (seq (M.bind (asx (frz (callSM 4 (g__law_piece 20) (stArg 0 (aCons (rd 5) (aCons (m2 addI (ret (.int 1)) (frz (callSM 1 g__law_draw (stArg 0 (aCons (ret (.int 2)) (aNil)))))) (aCons (rd 8) (aCons (ret (.bool false)) (aNil))))))))) (asg 10)) (M.bind (asx (frz (M.bind (rd 9) fun x => M.bind (M.bind (aCons (M.bind (aCons (M.bind (rowVar 5) tupR) (aCons (rd 10) (aNil))) tupD) (aNil)) tupD) fun y => catD x y))) (asg 9)))) items) tTail)) := rfl
def parsL (w : Nat) : List Dat := (List.range w).map dn
theorem rg_w : ∀ w : Nat, Wd w → lsRgR (dn w) = ret (.fr (parsL w))
  | _, .inl rfl => by kernel_rfl
  | _, .inr rfl => by kernel_rfl
theorem rg_3 : lsRgR (.int 3) = ret (.fr [.int 0, .int 1, .int 2]) := by kernel_rfl
@[simp] theorem x_lsEn (l : List Dat) : lsEnR (.list l) = ret (.fr (pairsF 0 l)) := rfl
@[simp] theorem x_min2 (i j : Int) : minI2 (.int i) (.int j) = ret (.int (if j < i then j else i)) := rfl
abbrev N3 : Dat := .list [.int 0, .int 1, .int 2]
section
variable {s s1 s2 s3 s4 s5 s6 s7 : DS} {P Q R x y W CD DEFS a4 a5 a10 d : Dat} {r k : Int}
theorem f_one (d1 : g__law_draw [.int 4] [] s = .ok (.sh (.int 0)) [] s1) (p : g__law_piece 20 [N3, .int 3, .list [], .bool true] [] s1 = .ok (.sh P) [] s2) : g__law_finite [.int 3, .int 4] [] s = .ok (.sh (.tuple [.tuple [], P])) [] s2 := by
  simp only [g__law_finite, m__law_finite]
  simp [runG, initG, endG, rg_3, d1, p]
theorem f_bes (d1 : g__law_draw [.int 4] [] s = .ok (.sh (.int r)) [] s1) (r0 : r ≠ 0) (r3 : r < 3) (d2 : g__law_draw [.int 3] [] s1 = .ok (.sh (.int k)) [] s2) (k0 : 0 ≤ k) (k3 : k < 3) (p : g__law_piece 20 [N3, .int (1 + k), .list [], .bool true] [] s2 = .ok (.sh P) [] s3) (q : g__law_piece 20 [N3, .int (4 - (1 + k)), .list [], .bool true] [] s3 = .ok (.sh Q) [] s4) :
    g__law_finite [.int 3, .int 4] [] s = .ok (.sh (.tuple [.tuple [], .tuple [.str "beside", .tuple [P, Q]]])) [] s4 := by
  have e1 : ¬ 3 < 1 + k := by omega
  have e2 : ¬ 3 < 4 - (1 + k) := by omega
  have e3 : ¬ r = 3 := by omega
  simp only [g__law_finite, m__law_finite]
  simp [runG, initG, endG, rg_3, d1, r0, r3, e3, d2, e1, e2, p, q]
theorem f_new (d1 : g__law_draw [.int 4] [] s = .ok (.sh (.int 3)) [] s1) (d2 : g__law_draw [.int 3] [] s1 = .ok (.sh (.int k)) [] s2) (k0 : 0 ≤ k) (k3 : k < 3) (p : g__law_piece 20 [.list [.int 0, .int 1, .int 2, .int 9], .int (1 + k), .list [], .bool true] [] s2 = .ok (.sh P) [] s3) (q : g__law_piece 20 [.list [.int 0, .int 1, .int 2, .int 9], .int (4 - (1 + k)), .list [], .bool true] [] s3 = .ok (.sh Q) [] s4) :
    g__law_finite [.int 3, .int 4] [] s = .ok (.sh (.tuple [.tuple [], .tuple [.str "new", .int 9, .tuple [.str "beside", .tuple [P, Q]]]])) [] s4 := by
  have e1 : ¬ 3 < 1 + k := by omega
  have e2 : ¬ 3 < 4 - (1 + k) := by omega
  have c := x_catL [.int 0, .int 1, .int 2] [.int 9] (by simp) (by simp)
  simp only [List.cons_append, List.nil_append] at c
  simp only [g__law_finite, m__law_finite]
  simp [runG, initG, endG, rg_3, d1, d2, e1, e2, c, p, q]
abbrev tC (W CD DEFS a4 a5 a10 : Dat) (s : DS) : Cfg := ⟨[.st, .sh (.int 3), .sh (.int 2), .sh W, .sh a4, .sh a5, .no, .no, .sh CD, .sh DEFS, .sh a10, .no, .no, .no], s⟩
def isRt (r : Res Ctl) (d : Dat) (s : DS) : Prop := match r with
  | .ok (.rt (.sh e)) c => e = d ∧ c.s = s
  | _ => False
theorem isRt_ok {r : Res Ctl} {d : Dat} {s : DS} (h : isRt r d s) : ∃ c, r = .ok (.rt (.sh d)) c ∧ c.s = s := by
  unfold isRt at h
  split at h
  · obtain ⟨rfl, e⟩ := h
    exact ⟨_, rfl, e⟩
  · exact h.elim
theorem r_2 : List.range 2 = [0, 1] := rfl
theorem r_14 : List.range 14 = [0, 1, 2, 3, 4, 5, 6, 7, 8, 9, 10, 11, 12, 13] := rfl
theorem tail1 (p : g__law_piece 20 [N3, .int 1, CD, .bool true] [] s = .ok (.sh P) [] s1) (o : g__law_of [CD] [] s1 = .ok (.sh (.tuple [d, .int 1])) [] s2) (o1 : g__law_of [N3] [] s2 = .ok (.sh x) [] s3) (d1 : g__law_draw [.int 2] [] s3 = .ok (.sh (.int 0)) [] s4) :
    isRt (tTail (tC W CD DEFS a4 a5 a10 s)) (.tuple [DEFS, .tuple [.str "call", d, .tuple [x]]]) s4 := by
  simp [isRt, tTail, rg_3, p, o, itR, numL, lcM, lcL, quiet, clr, back, o1, d1]
theorem tail2 (p : g__law_piece 20 [N3, .int 1, CD, .bool true] [] s = .ok (.sh P) [] s1) (o : g__law_of [CD] [] s1 = .ok (.sh (.tuple [d, .int 2])) [] s2) (o1 : g__law_of [N3] [] s2 = .ok (.sh x) [] s3) (o2 : g__law_of [N3] [] s3 = .ok (.sh y) [] s4) (d1 : g__law_draw [.int 2] [] s4 = .ok (.sh (.int 0)) [] s5) :
    isRt (tTail (tC W CD DEFS a4 a5 a10 s)) (.tuple [DEFS, .tuple [.str "call", d, .tuple [x, y]]]) s5 := by
  simp [isRt, tTail, rg_3, p, o, itR, numL, r_2, lcM, lcL, quiet, clr, back, o1, o2, d1]
theorem tail3 (p : g__law_piece 20 [N3, .int 1, CD, .bool true] [] s = .ok (.sh P) [] s1) (o : g__law_of [CD] [] s1 = .ok (.sh (.tuple [d, .int 1])) [] s2) (o1 : g__law_of [N3] [] s2 = .ok (.sh x) [] s3) (d1 : g__law_draw [.int 2] [] s3 = .ok (.sh (.int 1)) [] s4) (q : g__law_piece 20 [N3, .int 2, .list [], .bool true] [] s4 = .ok (.sh Q) [] s5) :
    isRt (tTail (tC W CD DEFS a4 a5 a10 s)) (.tuple [DEFS, .tuple [.str "beside", .tuple [.tuple [.str "call", d, .tuple [x]], Q]]]) s5 := by
  simp [isRt, tTail, rg_3, p, o, itR, numL, lcM, lcL, quiet, clr, back, o1, d1, q]
theorem tail4 (p : g__law_piece 20 [N3, .int 1, CD, .bool true] [] s = .ok (.sh P) [] s1) (o : g__law_of [CD] [] s1 = .ok (.sh (.tuple [d, .int 2])) [] s2) (o1 : g__law_of [N3] [] s2 = .ok (.sh x) [] s3) (o2 : g__law_of [N3] [] s3 = .ok (.sh y) [] s4) (d1 : g__law_draw [.int 2] [] s4 = .ok (.sh (.int 1)) [] s5) (q : g__law_piece 20 [N3, .int 2, .list [], .bool true] [] s5 = .ok (.sh Q) [] s6) :
    isRt (tTail (tC W CD DEFS a4 a5 a10 s)) (.tuple [DEFS, .tuple [.str "beside", .tuple [.tuple [.str "call", d, .tuple [x, y]], Q]]]) s6 := by
  simp [isRt, tTail, rg_3, p, o, itR, numL, r_2, lcM, lcL, quiet, clr, back, o1, o2, d1, q]
abbrev okT (d : Dat) (s : DS) : GR := .ok (.sh d) [] s
theorem told1 {w : Nat} (hw : Wd w) {k : Int} (d1 : g__law_draw [.int 2] [] s = .ok (.sh (.int 0)) [] s1) (d2 : g__law_draw [.int 2] [] s1 = .ok (.sh (.int r)) [] s2) (hr : 1 + r = (w : Int)) (d3 : g__law_draw [.int 2] [] s2 = .ok (.sh (.int k)) [] s3) (p : g__law_piece 20 [.list (parsL w), .int (1 + k), .list [.tuple [.int 0, dn w]], .bool false] [] s3 = .ok (.sh P) [] s4)
    (t : ∀ a4 a5 a10 : Dat, isRt (tTail (tC (.list [dn w]) (.list [.tuple [.int 0, dn w]]) (.tuple [.tuple [.tuple (parsL w), P]]) a4 a5 a10 s4)) d s5) : g__law_told [.int 3, .int 2] [] s = okT d s5 := by
  have c := x_catT [] [.tuple [.tuple (parsL w), P]] (by simp) (by simp)
  simp only [List.nil_append] at c
  obtain ⟨c', e, es⟩ := isRt_ok (t (dn w) (.list (parsL w)) P)
  simp only [g__law_told, told_eq]
  simp [runG, initG, endG, d1, d2, hr, d3, itR, numL, r_14, lcM, lcL, quiet, clr, back, rg_w w hw, p, c]
  simp [tC] at e
  rw [e]
  simp [es]
theorem told2 {w v : Nat} (hw : Wd w) (hv : Wd v) {k r2 k2 : Int} (d1 : g__law_draw [.int 2] [] s = .ok (.sh (.int 1)) [] s1) (d2 : g__law_draw [.int 2] [] s1 = .ok (.sh (.int r)) [] s2) (hr : 1 + r = (w : Int)) (d22 : g__law_draw [.int 2] [] s2 = .ok (.sh (.int r2)) [] s3) (hr2 : 1 + r2 = (v : Int))
    (d3 : g__law_draw [.int 2] [] s3 = .ok (.sh (.int k)) [] s4) (p : g__law_piece 20 [.list (parsL w), .int (1 + k), .list [.tuple [.int 0, dn w], .tuple [.int 1, dn v]], .bool false] [] s4 = .ok (.sh P) [] s5)
    (d4 : g__law_draw [.int 2] [] s5 = .ok (.sh (.int k2)) [] s6) (q : g__law_piece 20 [.list (parsL v), .int (1 + k2), .list [.tuple [.int 0, dn w], .tuple [.int 1, dn v]], .bool false] [] s6 = .ok (.sh Q) [] s7) {s8 : DS}
    (t : ∀ a4 a5 a10 : Dat, isRt (tTail (tC (.list [dn w, dn v]) (.list [.tuple [.int 0, dn w], .tuple [.int 1, dn v]]) (.tuple [.tuple [.tuple (parsL w), P], .tuple [.tuple (parsL v), Q]]) a4 a5 a10 s7)) d s8) : g__law_told [.int 3, .int 2] [] s = okT d s8 := by
  have c := x_catT [] [.tuple [.tuple (parsL w), P]] (by simp) (by simp)
  have c2 := x_catT [.tuple [.tuple (parsL w), P]] [.tuple [.tuple (parsL v), Q]] (by simp) (by simp)
  simp only [List.nil_append, List.cons_append] at c c2
  obtain ⟨c', e, es⟩ := isRt_ok (t (dn v) (.list (parsL v)) Q)
  simp only [g__law_told, told_eq]
  simp [runG, initG, endG, d1, d2, hr, d22, hr2, d3, d4, itR, numL, r_2, r_14, lcM, lcL, quiet, clr, back, rg_w w hw, rg_w v hv, p, q, c, c2]
  simp [tC] at e
  rw [e]
  simp [es]
end
end Pn

set_option maxHeartbeats 2000003
namespace Pn
open L2 PyProof.Rows PySem.Spec PySem
structure PgD (g : Pg) : Prop where
  nd : g.defs.length ≤ 2
  b : ∀ d ∈ g.defs, Wd d.1 ∧ Dr g.cs (List.range d.1) false false false 7 9 17 d.2
  m : Dr g.cs [0, 1, 2] true false true 12 20 36 g.main
  sh : g.defs ≠ [] → dep g.main ≤ 8
theorem nm3 {k : Nat} (h : k ≤ 500) : Nm [0, 1, 2] k := ⟨by simp, by simp, by simp; omega⟩
theorem nm9 {k : Nat} (h : k ≤ 500) : Nm [0, 1, 2, 9] k := ⟨by simp, by simp, by simp; omega⟩
theorem nmw {w k : Nat} (hw : Wd w) (h : k ≤ 500) : Nm (List.range w) k := by
  rcases hw with rfl | rfl
  · exact ⟨by simp [List.range_succ], by simp [List.range_succ], by simp; omega⟩
  · exact ⟨by simp [List.range_succ], by simp [List.range_succ], by simp; omega⟩
theorem cs0 (cs : List Nat) (h : cs.length ≤ 2) (w : ∀ x ∈ cs, Wd x) : CsOk false cs := ⟨h, fun e => (by cases e), w⟩
theorem run_tail {s : DS} {a : Nat} (h : St s a) (ha : a ≤ 1000) {cs : List Nat} (hc : CsOk true cs) (DEFS : Dat) : ∃ m s', (∀ W a4 a5 a10 : Dat, isRt (tTail (tC W (cD true cs) DEFS a4 a5 a10 s)) (.tuple [DEFS, enc m]) s') ∧ St s' (a + 200) ∧ Dr cs [0, 1, 2] true false true 8 11 24 m := by
  obtain ⟨p1, s1, e1, h1, dr1⟩ := (drawn_all cs 20).2.2 s a [0, 1, 2] 1 true true true true h (by omega) (nm3 (by omega)) (by omega) hc (fun _ _ => rfl)
  obtain ⟨d, u, s2, o, hd, hu, h2⟩ := run_callee h1 (by omega) hc
  obtain ⟨x, s3, o1, hx, h3⟩ := run_name h2 (by omega) (nm3 (k := 0) (by omega))
  rcases hu with rfl | rfl
  · have dc : Dr cs [0, 1, 2] true false true 1 1 3 (.call d [x]) := dr_call (nm3 (k := 0) (by omega)).lt rfl hd (fun n hn => by rw [List.mem_singleton.mp hn]; exact hx) (by simp)
    obtain ⟨r, s4, d1, hr, h4⟩ := run_draw h3 (by omega) 2 (by omega) (by omega)
    by_cases c0 : r = 0
    · subst c0
      exact ⟨.call d [x], s4, fun W a4 a5 a10 => tail1 e1 o o1 d1, h4.mono (by omega), dc.mono (by omega) (by omega) (by omega)⟩
    · have c1 : r = 1 := by omega
      subst c1
      obtain ⟨q, s5, e5, h5, dr5⟩ := (drawn_all cs 20).2.2 s4 _ [0, 1, 2] 2 false true true true h4 (by omega) (nm3 (by omega)) (by omega) (cs0 cs hc.len hc.wd) (fun _ _ => rfl)
      exact ⟨.bes (.call d [x]) q, s5, fun W a4 a5 a10 => tail3 e1 o o1 d1 e5, h5.mono (by omega), (dr_bes dc dr5).mono (by omega) (by omega) (by omega)⟩
  · obtain ⟨y, s4, o2, hy, h4⟩ := run_name h3 (by omega) (nm3 (k := 0) (by omega))
    have dc : Dr cs [0, 1, 2] true false true 1 1 3 (.call d [x, y]) := dr_call (nm3 (k := 0) (by omega)).lt rfl hd (fun n hn => by
      rcases List.mem_cons.mp hn with z | z
      · rw [z]; exact hx
      · rw [List.mem_singleton.mp z]; exact hy) (by simp)
    obtain ⟨r, s5, d1, hr, h5⟩ := run_draw h4 (by omega) 2 (by omega) (by omega)
    by_cases c0 : r = 0
    · subst c0
      exact ⟨.call d [x, y], s5, fun W a4 a5 a10 => tail2 e1 o o1 o2 d1, h5.mono (by omega), dc.mono (by omega) (by omega) (by omega)⟩
    · have c1 : r = 1 := by omega
      subst c1
      obtain ⟨q, s6, e6, h6, dr6⟩ := (drawn_all cs 20).2.2 s5 _ [0, 1, 2] 2 false true true true h5 (by omega) (nm3 (by omega)) (by omega) (cs0 cs hc.len hc.wd) (fun _ _ => rfl)
      exact ⟨.bes (.call d [x, y]) q, s6, fun W a4 a5 a10 => tail4 e1 o o1 o2 d1 e6, h6.mono (by omega), (dr_bes dc dr6).mono (by omega) (by omega) (by omega)⟩
theorem wide_of {r : Nat} (h : r < 2) : Wd (r + 1) := by
  unfold Wd
  omega
theorem run_told {s : DS} {a : Nat} (h : St s a) (ha : a ≤ 100) : ∃ g s', g__law_told [.int 3, .int 2] [] s = okT (encG g) s' ∧ St s' (a + 800) ∧ PgD g := by
  obtain ⟨j, s1, d1, hj, h1⟩ := run_draw h (by omega) 2 (by omega) (by omega)
  obtain ⟨r, s2, d2, hr, h2⟩ := run_draw h1 (by omega) 2 (by omega) (by omega)
  have hw := wide_of hr
  have er : 1 + (r : Int) = ((r + 1 : Nat) : Int) := by omega
  by_cases j0 : j = 0
  · subst j0
    have hc : CsOk true [r + 1] := ⟨by simp, fun _ => by simp, fun x hx => by rw [List.mem_singleton.mp hx]; exact hw⟩
    obtain ⟨k, s3, d3, hk, h3⟩ := run_draw h2 (by omega) 2 (by omega) (by omega)
    obtain ⟨b, s4, e4, h4, dr4⟩ := (drawn_all [r + 1] 20).2.2 s3 _ (List.range (r + 1)) (k + 1) true false false false h3 (by omega) (nmw hw (by omega)) (by omega) hc (fun z => by cases z)
    obtain ⟨m, s5, t, h5, dr5⟩ := run_tail h4 (by omega) hc (.tuple [.tuple [.tuple (parsL (r + 1)), enc b]])
    refine ⟨⟨[(r + 1, b)], m⟩, s5, ?_, h5.mono (by omega), ⟨by simp, fun d hd => ?_, dr5.mono (by omega) (by omega) (by omega), fun _ => dr5.dpt⟩⟩
    · exact told1 hw d1 d2 er d3 (by rw [show (1 : Int) + (k : Int) = ((k + 1 : Nat) : Int) by omega]; exact e4) (t _)
    · rw [List.mem_singleton.mp hd]
      exact ⟨hw, dr4.mono (by omega) (by omega) (by omega)⟩
  · have j1 : j = 1 := by omega
    subst j1
    obtain ⟨r2, s3, d22, hr2, h3⟩ := run_draw h2 (by omega) 2 (by omega) (by omega)
    have hv := wide_of hr2
    have er2 : 1 + (r2 : Int) = ((r2 + 1 : Nat) : Int) := by omega
    have hc : CsOk true [r + 1, r2 + 1] := ⟨by simp, fun _ => by simp, fun x hx => by
      rcases List.mem_cons.mp hx with z | z
      · rw [z]; exact hw
      · rw [List.mem_singleton.mp z]; exact hv⟩
    obtain ⟨k, s4, d3, hk, h4⟩ := run_draw h3 (by omega) 2 (by omega) (by omega)
    obtain ⟨b, s5, e5, h5, dr5⟩ := (drawn_all [r + 1, r2 + 1] 20).2.2 s4 _ (List.range (r + 1)) (k + 1) true false false false h4 (by omega) (nmw hw (by omega)) (by omega) hc (fun z => by cases z)
    obtain ⟨k2, s6, d4, hk2, h6⟩ := run_draw h5 (by omega) 2 (by omega) (by omega)
    obtain ⟨c, s7, e7, h7, dr7⟩ := (drawn_all [r + 1, r2 + 1] 20).2.2 s6 _ (List.range (r2 + 1)) (k2 + 1) true false false false h6 (by omega) (nmw hv (by omega)) (by omega) hc (fun z => by cases z)
    obtain ⟨m, s8, t, h8, dr8⟩ := run_tail h7 (by omega) hc (.tuple [.tuple [.tuple (parsL (r + 1)), enc b], .tuple [.tuple (parsL (r2 + 1)), enc c]])
    refine ⟨⟨[(r + 1, b), (r2 + 1, c)], m⟩, s8, ?_, h8.mono (by omega), ⟨by simp, fun d hd => ?_, dr8.mono (by omega) (by omega) (by omega), fun _ => dr8.dpt⟩⟩
    · exact told2 hw hv d1 d2 er d22 er2 d3 (by rw [show (1 : Int) + (k : Int) = ((k + 1 : Nat) : Int) by omega]; exact e5) d4 (by rw [show (1 : Int) + (k2 : Int) = ((k2 + 1 : Nat) : Int) by omega]; exact e7) (t _)
    · rcases List.mem_cons.mp hd with z | z
      · rw [z]
        exact ⟨hw, dr5.mono (by omega) (by omega) (by omega)⟩
      · (rw [List.mem_singleton.mp z])
        exact ⟨hv, dr7.mono (by omega) (by omega) (by omega)⟩
theorem run_finite {s : DS} {a : Nat} (h : St s a) (ha : a ≤ 100) : ∃ g s', g__law_finite [.int 3, .int 4] [] s = okT (encG g) s' ∧ St s' (a + 800) ∧ PgD g := by
  have hc : CsOk false [] := cs0 [] (by simp) (fun x hx => (by cases hx))
  obtain ⟨r, s1, d1, hr, h1⟩ := run_draw h (by omega) 4 (by omega) (by omega)
  by_cases r0 : r = 0
  · subst r0
    obtain ⟨p, s2, e, h2, dr⟩ := (drawn_all [] 20).2.2 s1 _ [0, 1, 2] 3 false true true true h1 (by omega) (nm3 (by omega)) (by omega) hc (fun _ _ => rfl)
    exact ⟨⟨[], p⟩, s2, f_one d1 e, h2.mono (by omega), ⟨by simp, fun d hd => (by cases hd), dr.mono (by omega) (by omega) (by omega), fun z => absurd rfl z⟩⟩
  obtain ⟨k, s2, d2, hk, h2⟩ := run_draw h1 (by omega) 3 (by omega) (by omega)
  have e1 : (1 : Int) + (k : Int) = ((k + 1 : Nat) : Int) := by omega
  have e2 : (4 : Int) - (1 + (k : Int)) = ((3 - k : Nat) : Int) := by omega
  by_cases r3 : r < 3
  · obtain ⟨p, s3, e, h3, dr⟩ := (drawn_all [] 20).2.2 s2 _ [0, 1, 2] (k + 1) false true true true h2 (by omega) (nm3 (by omega)) (by omega) hc (fun _ _ => rfl)
    obtain ⟨q, s4, e', h4, dr'⟩ := (drawn_all [] 20).2.2 s3 _ [0, 1, 2] (3 - k) false true true true h3 (by omega) (nm3 (by omega)) (by omega) hc (fun _ _ => rfl)
    exact ⟨⟨[], .bes p q⟩, s4, f_bes d1 (by omega) (by omega) d2 (by omega) (by omega) (by rw [e1]; exact e) (by rw [e2]; exact e'), h4.mono (by omega), ⟨by simp, fun d hd => (by cases hd), (dr_bes dr dr').mono (by omega) (by omega) (by omega), fun z => absurd rfl z⟩⟩
  · have r3 : r = 3 := by omega
    subst r3
    obtain ⟨p, s3, e, h3, dr⟩ := (drawn_all [] 20).2.2 s2 _ [0, 1, 2, 9] (k + 1) false true true true h2 (by omega) (nm9 (by omega)) (by omega) hc (fun _ _ => rfl)
    obtain ⟨q, s4, e', h4, dr'⟩ := (drawn_all [] 20).2.2 s3 _ [0, 1, 2, 9] (3 - k) false true true true h3 (by omega) (nm9 (by omega)) (by omega) hc (fun _ _ => rfl)
    exact ⟨⟨[], .new 9 (.bes p q)⟩, s4, f_new d1 d2 (by omega) (by omega) (by rw [e1]; exact e) (by rw [e2]; exact e'), h4.mono (by omega), ⟨by simp, fun d hd => (by cases hd), (dr_new (N := [0, 1, 2]) (by omega) (.inr rfl) (dr_bes dr dr')).mono (by omega) (by omega) (by omega), fun z => absurd rfl z⟩⟩
theorem run_program {s : DS} {a : Nat} (h : St s a) (ha : a ≤ 90) : ∃ g s', g__law_program [.int 4] [] s = okT (encG g) s' ∧ St s' (a + 900) ∧ PgD g := by
  obtain ⟨r, s1, d1, hr, h1⟩ := run_draw h (by omega) 2 (by omega) (by omega)
  by_cases r0 : r = 0
  · subst r0
    obtain ⟨g, s2, e, h2, pd⟩ := run_finite h1 (by omega)
    refine ⟨g, s2, ?_, h2.mono (by omega), pd⟩
    have d1 : g__law_draw [.int 2] [] s = .ok (.sh (.int 0)) [] s1 := d1
    simp only [g__law_program, m__law_program]
    simp [runG, initG, endG, d1, e]
  · have r1 : r = 1 := by omega
    subst r1
    obtain ⟨g, s2, e, h2, pd⟩ := run_told h1 (by omega)
    refine ⟨g, s2, ?_, h2.mono (by omega), pd⟩
    have d1 : g__law_draw [.int 2] [] s = .ok (.sh (.int 1)) [] s1 := d1
    simp only [g__law_program, m__law_program]
    simp [runG, initG, endG, d1, e]
end Pn

set_option maxHeartbeats 2000003
namespace Pn
open L2 PyProof.Rows PySem.Spec PySem
/-! ### another part at a path -/
theorem range_fv {w : Nat} {l : List Int} (h : ∀ x ∈ l, ∃ n, n ∈ List.range w ∧ x = (n : Int)) : ∀ x ∈ l, ∃ n, n < w ∧ x = (n : Int) := fun x hx => by
  obtain ⟨n, hn, e⟩ := h x hx
  exact ⟨n, List.mem_range.mp hn, e⟩
theorem PgD.bok {g : Pg} (h : PgD g) : ∀ d ∈ g.defs, BOk g.cs d := fun d hd => by
  obtain ⟨w, r⟩ := h.b d hd
  exact ⟨w, r.ok, by have := r.dpt; omega, by have := r.cnt; omega, by have := r.sz; omega, r.ns, range_fv r.fv⟩
theorem PgD.good {g : Pg} (h : PgD g) : PgOk g := ⟨h.nd, h.bok, ⟨h.m.ok, by have := h.m.cnt; omega, by have := h.m.sz; omega, h.m.ns, h.m.dpt⟩⟩
/-- what is put in: no moves behind it, no name but 0 -/
structure Put (cs : List Nat) (mn : Bool) (q : Pc) : Prop where
  ok : ∀ due g, okAt cs mn q due g = true
  ns : noSev q = true
  fv : ∀ x ∈ Pn.fv q, x = 0
  dpt : dep q ≤ 3
  cnt : Pn.cnt q ≤ 3
  sz : Pn.sz q ≤ 5
theorem put_wait (cs : List Nat) (mn : Bool) : Put cs mn (.wait .stop) := ⟨fun due g => by cases due <;> cases g <;> rfl, rfl, by decide, by decide, by decide, by decide⟩
theorem put_send (cs : List Nat) (mn : Bool) : Put cs mn (.send 0 0 (.take 0 1 .stop)) := ⟨fun due g => by cases due <;> cases g <;> rfl, rfl, by decide, by decide, by decide, by decide⟩
/-- what comes of it -/
structure Out (g : Pg) : Prop where
  pw : PgW g
  way : PgOk g ∨ (12 < dep g.main ∧ g_checked_parts [encG g, .str "main"] = .exc 5 (.int 12))
theorem put_out {g : Pg} (h : PgD g) {pre : List Nat} {p : Pc} {mn : Bool} {st : Pc → Pg} (s : Sel g pre p mn st) {q p' : Pc} {rel : List Nat} (hq : Put g.cs mn q) (r : Rep q p rel p') : Out (st p') := by
  have good := h.good
  have cs := set_cs s p'
  have ok' : ∀ {due gg : Bool}, okAt g.cs mn p due gg = true → okAt g.cs mn p' due gg = true := r.okAt hq.ok
  have ns' : noSev p = true → noSev p' = true := fun z => r.noSev z hq.ns
  have dp' := r.dep
  have cnt' := r.cnt
  have sz' := r.sz
  have d1 := hq.dpt
  have c1 := hq.cnt
  have z1 := hq.sz
  cases s with
  | main =>
    have m1 := h.m.dpt
    have m2 := h.m.cnt
    have m3 := h.m.sz
    have pw : PgW ⟨g.defs, p'⟩ := ⟨h.nd, good.b, by show cnt p' ≤ 40; omega, ns' h.m.ns, by show dep p' ≤ 20; omega⟩
    by_cases e : dep p' ≤ 12
    · exact ⟨pw, .inl ⟨h.nd, good.b, ⟨ok' h.m.ok, by show cnt p' ≤ 40; omega, by show sz p' ≤ 61; omega, ns' h.m.ns, e⟩⟩⟩
    · obtain ⟨n, hn, f⟩ := fails_deep (cs := g.cs) (main := true) p' [1] 1 false true [] (ok' h.m.ok) (by omega) (by omega) (by show 1 + 2 * dep p' ≤ 900; omega) (by omega) (by show cnt p' + 0 ≤ 800; omega)
      exact ⟨pw, .inr ⟨by show 12 < dep p'; omega, pg_fails (mn := true) good .main f (by show n ≤ 40; omega)⟩⟩
  | body i w b e =>
    obtain ⟨wd, dr⟩ := h.b (w, p) (List.mem_of_getElem? e)
    have m1 := dr.dpt
    have m2 := dr.cnt
    have m3 := dr.sz
    have bk : BOk g.cs (w, p') := ⟨wd, ok' dr.ok, by show dep p' ≤ 12; simp at m1; omega, by show cnt p' ≤ 14; simp at m2; omega, by show sz p' ≤ 61; simp at m3; omega, ns' dr.ns, fun x hx => by
      rcases r.fv x hx with z | z
      · exact range_fv dr.fv x z
      · exact ⟨0, by rcases wd with z | z <;> (have z : w = _ := z) <;> (show 0 < w; omega), hq.fv x z⟩⟩
    have bb : ∀ d ∈ g.defs.set i (w, p'), BOk g.cs d := fun d hd => by
      rcases List.mem_or_eq_of_mem_set hd with z | z
      · exact good.b d z
      · rw [z]
        exact bk
    have ok2 : PgOk ⟨g.defs.set i (w, p'), g.main⟩ := ⟨by show (g.defs.set i (w, p')).length ≤ 2; rw [List.length_set]; exact h.nd, by rw [cs]; exact bb, by rw [cs]; exact good.m⟩
    exact ⟨ok2.pw, .inl ok2⟩
theorem put_seven {g : Pg} (h : PgD g) {pre : List Nat} {p : Pc} {mn : Bool} {st : Pc → Pg} (s : Sel g pre p mn st) {p' : Pc} {rel : List Nat} (r : Rep .seven p rel p') : g_checked_parts [encG (st p'), .str "main"] = .exc 1 (dp (pre ++ rel)) := by
  have good := h.good
  obtain ⟨ok, d, c, z, ns, _, l, _⟩ := s.bok good
  obtain ⟨n, hn, f⟩ := fails_seven (cs := g.cs) (main := mn) r pre 1 false mn [] ok (by omega) (by omega) (by omega) (by show cnt p + 0 ≤ 800; omega)
  refine pg_fails good s f ?_
  cases s with
  | main => exact Nat.le_trans hn c
  | body i w b e =>
    have := (good.b (w, p) (List.mem_of_getElem? e)).cnt
    exact Nat.le_trans hn this
/-! ### put_at -/
theorem putat_ok {g g' : Pg} (h : PgOk g) {x : List Nat} {s : Pc} (m : (x, s) ∈ rows g) {q : Dat} (d : DRep q (encG g) x (encG g')) (h' : PgOk g') : g_put_at g_part_at [encG g, dp x, q] = .ok (.sh (encG g')) := by
  have e1 := part_ok h m
  have e2 := run_with 40 d (by have := (row_facts h m).2.2.1; omega)
  have e3 := need_ok h'
  simp only [g_put_at, m_put_at]
  simp [e1, e2, e3]
theorem putat_exc {g g' : Pg} (h : PgOk g) {x : List Nat} {s : Pc} (m : (x, s) ∈ rows g) {q : Dat} (d : DRep q (encG g) x (encG g')) {k : Nat} {e : Dat} (h' : g_checked_parts [encG g', .str "main"] = .exc k e) : g_put_at g_part_at [encG g, dp x, q] = .exc k e := by
  have e1 := part_ok h m
  have e2 := run_with 40 d (by have := (row_facts h m).2.2.1; omega)
  have e3 := need_exc h'
  simp only [g_put_at, m_put_at]
  simp [e1, e2, e3]
theorem putat_no {g : Pg} {x q : Dat} {k : Nat} {e : Dat} (h : g_part_at [encG g, x] = .exc k e) : g_put_at g_part_at [encG g, x, q] = .exc k e := by
  simp only [g_put_at, m_put_at]
  simp [h]
/-! ### what is shown -/
theorem gd_enc {cs : List Nat} (hc : cs.length ≤ 2) {mn : Bool} : ∀ (p : Pc) (due g : Bool), okAt cs mn p due g = true → Gd (2 * dep p) (40 * (cnt p + sz p)) (enc p) := by
  have ws : ∀ (x : Str) (n : Nat), x ∈ [("one" : Str), "wait", "send", "take", "alike", "unlike", "beside", "new", "call", "told", "piece", "program", "great", "infinite", "index", "bad"] → Gd n 10 (.str x) := fun x n h => gd_str x n (List.all_eq_true.mp wk x h)
  intro p
  induction p with
  | stop => exact fun _ _ _ => gd_tup (n := 1) (gd_cons (ws "one" 1 (by simp)) (gd_cons (gd_tup (n := 0) (w := 0) (m := 1) (v := 3) gd_nil (Nat.le_refl _) (Nat.le_refl _)) (gd_nil (w := 0)) (Nat.le_refl _)) (Nat.le_refl _)) (by decide) (by decide)
  | wait p ih =>
    intro due g h
    have i := ih _ _ (okAt_kids h _ List.mem_cons_self)
    simp only [dep, cnt, sz]
    exact gd_tup (n := 2 * dep p) (gd_cons (ws "wait" _ (by simp)) (gd_cons (i.mono (Nat.le_refl _) (Nat.le_refl _)) (gd_nil (w := 0)) (Nat.le_refl _)) (Nat.le_refl _)) (by omega) (by omega)
  | send a b p ih =>
    intro due g h
    have i := ih _ _ (okAt_kids h _ List.mem_cons_self)
    have l := okAt_let h
    simp only [letP, Bool.and_eq_true, decide_eq_true_eq] at l
    simp only [dep, cnt, sz]
    exact gd_tup (n := 2 * dep p) (gd_cons (ws "send" _ (by simp)) (gd_cons (gd_dn a _ (by omega)) (gd_cons (gd_dn b _ (by omega)) (gd_cons (i.mono (Nat.le_refl _) (Nat.le_refl _)) (gd_nil (w := 0)) (Nat.le_refl _)) (Nat.le_refl _)) (Nat.le_refl _)) (Nat.le_refl _)) (by omega) (by omega)
  | take a b p ih =>
    intro due g h
    have i := ih _ _ (okAt_kids h _ List.mem_cons_self)
    have l := okAt_let h
    simp only [letP, Bool.and_eq_true, decide_eq_true_eq] at l
    simp only [dep, cnt, sz]
    exact gd_tup (n := 2 * dep p) (gd_cons (ws "take" _ (by simp)) (gd_cons (gd_dn a _ (by omega)) (gd_cons (gd_dn b _ (by omega)) (gd_cons (i.mono (Nat.le_refl _) (Nat.le_refl _)) (gd_nil (w := 0)) (Nat.le_refl _)) (Nat.le_refl _)) (Nat.le_refl _)) (Nat.le_refl _)) (by omega) (by omega)
  | tst w a b p ih =>
    intro due g h
    have i := ih _ _ (okAt_kids h _ List.mem_cons_self)
    have l := okAt_let h
    simp only [letP, Bool.and_eq_true, decide_eq_true_eq] at l
    simp only [dep, cnt, sz]
    cases w
    · exact gd_tup (n := 2 * dep p) (gd_cons (ws "unlike" _ (by simp)) (gd_cons (gd_dn a _ (by omega)) (gd_cons (gd_dn b _ (by omega)) (gd_cons (i.mono (Nat.le_refl _) (Nat.le_refl _)) (gd_nil (w := 0)) (Nat.le_refl _)) (Nat.le_refl _)) (Nat.le_refl _)) (Nat.le_refl _)) (by omega) (by omega)
    · exact gd_tup (n := 2 * dep p) (gd_cons (ws "alike" _ (by simp)) (gd_cons (gd_dn a _ (by omega)) (gd_cons (gd_dn b _ (by omega)) (gd_cons (i.mono (Nat.le_refl _) (Nat.le_refl _)) (gd_nil (w := 0)) (Nat.le_refl _)) (Nat.le_refl _)) (Nat.le_refl _)) (Nat.le_refl _)) (by omega) (by omega)
  | new x p ih =>
    intro due g h
    have i := ih _ _ (okAt_kids h _ List.mem_cons_self)
    have l := okAt_let h
    simp only [letP, Bool.and_eq_true, decide_eq_true_eq] at l
    simp only [dep, cnt, sz]
    exact gd_tup (n := 2 * dep p) (gd_cons (ws "new" _ (by simp)) (gd_cons (gd_dn x _ (by omega)) (gd_cons (i.mono (Nat.le_refl _) (Nat.le_refl _)) (gd_nil (w := 0)) (Nat.le_refl _)) (Nat.le_refl _)) (Nat.le_refl _)) (by omega) (by omega)
  | two p q ih1 ih2 =>
    intro due g h
    have i := ih1 _ _ (okAt_kids h _ List.mem_cons_self)
    have j := ih2 _ _ (okAt_kids h _ (List.mem_cons_of_mem _ List.mem_cons_self))
    simp only [dep, cnt, sz]
    exact gd_tup (n := 2 * max (dep p) (dep q) + 1) (gd_cons (ws "one" _ (by simp)) (gd_cons (gd_tup (n := 2 * max (dep p) (dep q)) (gd_cons (i.mono (by omega) (Nat.le_refl _)) (gd_cons (j.mono (by omega) (Nat.le_refl _)) (gd_nil (w := 0)) (Nat.le_refl _)) (Nat.le_refl _)) (Nat.le_refl _) (Nat.le_refl _)) (gd_nil (w := 0)) (Nat.le_refl _)) (Nat.le_refl _)) (by omega) (by omega)
  | bes p q ih1 ih2 =>
    intro due g h
    have i := ih1 _ _ (okAt_kids h _ List.mem_cons_self)
    have j := ih2 _ _ (okAt_kids h _ (List.mem_cons_of_mem _ List.mem_cons_self))
    simp only [dep, cnt, sz]
    exact gd_tup (n := 2 * max (dep p) (dep q) + 1) (gd_cons (ws "beside" _ (by simp)) (gd_cons (gd_tup (n := 2 * max (dep p) (dep q)) (gd_cons (i.mono (by omega) (Nat.le_refl _)) (gd_cons (j.mono (by omega) (Nat.le_refl _)) (gd_nil (w := 0)) (Nat.le_refl _)) (Nat.le_refl _)) (Nat.le_refl _) (Nat.le_refl _)) (gd_nil (w := 0)) (Nat.le_refl _)) (Nat.le_refl _)) (by omega) (by omega)
  | call d ns =>
    intro due g h
    have l := okAt_let h
    simp only [letP, Bool.and_eq_true, List.all_eq_true, decide_eq_true_eq, beq_iff_eq] at l
    have lt := (List.getElem?_eq_some_iff.mp l.1.2).1
    simp only [dep, cnt, sz]
    exact gd_tup (n := 1) (gd_cons (ws "call" _ (by simp)) (gd_cons (gd_dn d _ (by omega)) (gd_cons (gd_dp 0 ns fun a ha => by have := l.2 a ha; omega) (gd_nil (w := 0)) (Nat.le_refl _)) (Nat.le_refl _)) (Nat.le_refl _)) (by omega) (by omega)
  | seven =>
    intro due g h
    cases okAt_let h
end Pn

set_option maxHeartbeats 2000003
namespace Pn
open L2 PyProof.Rows PySem.Spec PySem
theorem Sub.okA {cs : List Nat} {mn : Bool} {p : Pc} {rel : List Nat} {s : Pc} (h : Sub p rel s) : ∀ {due g : Bool}, okAt cs mn p due g = true → ∃ d2 g2, okAt cs mn s d2 g2 = true := by
  induction h with
  | here p => exact fun h => ⟨_, _, h⟩
  | kid hk t ih => exact fun h => ih (okAt_kids h _ hk)
theorem Sub.le {p : Pc} {rel : List Nat} {s : Pc} (h : Sub p rel s) : dep s ≤ dep p ∧ cnt s ≤ cnt p ∧ sz s ≤ sz p := by
  induction h with
  | here p => omega
  | @kid p k rel s hk t ih =>
    have e : dep k.2 ≤ dep p ∧ cnt k.2 ≤ cnt p ∧ sz k.2 ≤ sz p := by
      cases p <;> simp [kids] at hk <;> (try (rcases hk with rfl | rfl)) <;> (try subst hk) <;> simp [dep, cnt, sz] <;> omega
    omega
theorem gd_row {g : Pg} (h : PgOk g) {x : List Nat} {s : Pc} (m : (x, s) ∈ rows g) : Gd 24 4040 (enc s) ∧ Gd 1 160 (dp x) ∧ dep s ≤ 12 := by
  obtain ⟨_, b, c, _⟩ := row_facts h m
  obtain ⟨pre, p, mn, st, rel, sl, rfl, t⟩ := mem_rows m
  obtain ⟨ok, d, cn, z, _⟩ := sl.bok h
  obtain ⟨d2, g2, o2⟩ := t.okA ok
  obtain ⟨l1, l2, l3⟩ := t.le
  have cl : g.cs.length ≤ 2 := by rw [Pg.cs, List.length_map]; exact h.nd
  exact ⟨(gd_enc cl s d2 g2 o2).mono (by omega) (by omega), (gd_dp 0 _ fun a ha => by have := b a ha; omega).mono (by omega) (by omega), by omega⟩
theorem gd_all {n w : Nat} : ∀ (l : List Dat), (∀ d ∈ l, Gd n w d) → GdL n ((w + 2) * l.length) l
  | [], _ => gd_nil
  | d :: l, h => gd_cons (h d List.mem_cons_self) (gd_all l fun x hx => h x (List.mem_cons_of_mem _ hx)) (by rw [List.length_cons, Nat.mul_succ]; omega)
theorem gd_rows {g : Pg} (h : PgOk g) : Gd 26 400000 (.list ((rows g).map encK)) := by
  have z := gd_all (n := 25) (w := 4207) ((rows g).map encK) (fun d hd => by
    obtain ⟨⟨x, s⟩, hq, rfl⟩ := List.mem_map.mp hd
    obtain ⟨a, b, _⟩ := gd_row h hq
    exact gd_tup (n := 24) (gd_cons (b.mono (by omega) (Nat.le_refl _)) (gd_cons a (gd_nil (w := 0)) (Nat.le_refl _)) (Nat.le_refl _)) (by omega) (by omega))
  have l := rows_len h
  exact gd_lst z (by omega) (by rw [List.length_map]; omega)
theorem gd_prog {g : Pg} (h : PgOk g) : Gd 30 20000 (encG g) := by
  have cl : g.cs.length ≤ 2 := by rw [Pg.cs, List.length_map]; exact h.nd
  have zd := gd_all (n := 25) (w := 3100) (g.defs.map encD) (fun d hd => by
    obtain ⟨⟨w, b⟩, hq, rfl⟩ := List.mem_map.mp hd
    have bk := h.b _ hq
    have a := gd_enc cl b _ _ bk.ok
    have k1 := bk.dpt
    have k2 := bk.cnt
    have k3 := bk.sz
    simp only at k1 k2 k3
    have wl : w ≤ 2 := by
      have wd := bk.wd
      unfold Wd at wd
      simp only at wd
      omega
    have pr : Gd 1 15 (pars w) := (gd_dp 0 (List.range w) fun a ha => by have := List.mem_range.mp ha; omega).mono (by omega) (by rw [List.length_range]; omega)
    exact gd_tup (n := 24) (gd_cons (pr.mono (by omega) (Nat.le_refl _)) (gd_cons (a.mono (n' := 24) (w' := 3000) (by omega) (by omega)) (gd_nil (w := 0)) (Nat.le_refl _)) (Nat.le_refl _)) (by omega) (by omega))
  have a := gd_enc cl g.main _ _ h.m.ok
  have k1 := h.m.dpt
  have k2 := h.m.cnt
  have k3 := h.m.sz
  have nd := h.nd
  exact gd_tup (n := 29) (gd_cons (gd_tup (m := 29) (v := 6300) zd (by omega) (by rw [List.length_map]; omega)) (gd_cons (a.mono (n' := 29) (w' := 4040) (by omega) (by omega)) (gd_nil (w := 0)) (Nat.le_refl _)) (Nat.le_refl _)) (by omega) (by omega)
/-! ### like -/
def shk : Dat → Bool
  | .bool _ => true
  | .int _ => true
  | .list _ => true
  | .tuple _ => true
  | _ => false
theorem Gd.shaped {n w : Nat} {d : Dat} (h : Gd n w d) (hn : n ≤ 64) : SeqAt.shaped d = true := by
  unfold SeqAt.shaped
  rw [h.lay]
  exact decide_eq_true (Nat.le_trans h.dp hn)
theorem repr_gd {n w : Nat} {d : Dat} (h : Gd n w d) (hn : n ≤ 64) (hw : w ≤ 16777216) (k : shk d = true) : reprR d = ret (.str d.shown) := by
  have ok : reprOk d = true := by
    unfold reprOk
    rw [h.can, h.shaped hn]
    exact decide_eq_true (Nat.le_trans h.len hw)
  unfold reprR
  rw [if_pos ok]
  cases d <;> first | rfl | cases k
theorem run_like {n w : Nat} {d : Dat} (h : Gd n w d) (hn : n ≤ 64) (hw : w ≤ 16777216) (k : shk d = true) : g__law_like [d, d] [] s0 = .ok (.sh (.bool true)) [] s0 := by
  have e := repr_gd h hn hw k
  simp only [g__law_like, m__law_like]
  simp [runG, initG, endG, e, eqS]
@[simp] theorem x_callQM (n : Nat) (g : List Dat → List Dat → DS → GR) (ms : M (List Dat)) (c : Cfg) : callQM false n g ms c = (match ms c with
  | .ok ds c' => if ds.length = n then callQ g ds c' else .bad
  | .exc k d c' => .exc k d c'
  | .bad => .bad) := by
  show M.bind ms _ c = _
  rw [x_bind]
  cases ms c with
  | ok ds c' =>
    show (if ds.length = n then (if false = true then callS g ds else callQ g ds) else bad) c' = _
    by_cases e : ds.length = n
    · simp only [e, if_true]
      rfl
    · simp only [e, if_false]
      rfl
  | _ => rfl
@[simp] theorem x_callQ (g : List Dat → List Dat → DS → GR) (ds : List Dat) (c : Cfg) : callQ g ds c = (match g ds [] ⟨[], [], 0⟩ with
  | .ok v _ _ => .ok v c
  | .exc k d _ _ => .exc k d c
  | .bad => .bad) := rfl
@[simp] theorem x_caughtM (l : List Clause) (w : Str) (m : M RV) (c : Cfg) : caughtM l w m c = (match m c with
  | .ok v c' => .ok (.tuple [.str w, v.dat]) c'
  | .exc k d c' => (match findK k l with
    | some u => .ok (.tuple [.str u, d, .bool true]) c'
    | none => .bad)
  | .bad => .bad) := rfl
theorem fk1 : findK 1 clauL = some "piece" := rfl
theorem fk3 : findK 3 clauL = some "index" := rfl
theorem fk4 : findK 4 clauL = some "finite" := rfl
theorem fk5 : findK 5 clauL = some "great" := rfl
@[simp] theorem q_told : eqD (.str "told") (.str "told") = ret (.bool true) := by kernel_rfl
end Pn

set_option maxHeartbeats 4000003
namespace Pn
open L2 PyProof.Rows PySem.Spec PySem
theorem wf1 : wordOk "told" = true := by decide +kernel
theorem wf2 : wordOk "piece" = true := by decide +kernel
theorem wf3 : wordOk "finite" = true := by decide +kernel
theorem wf4 : wordOk "index" = true := by decide +kernel
theorem wf5 : wordOk "great" = true := by decide +kernel
theorem gd_told {d : Dat} (h : Gd 30 20000 d) : Gd 31 30000 (.tuple [.str "told", d]) := gd_tup (n := 30) (gd_cons (gd_str _ _ wf1) (gd_cons h (gd_nil (w := 0)) (Nat.le_refl _)) (Nat.le_refl _)) (by omega) (by omega)
theorem gd_three {x : Str} (e : wordOk x = true) {d : Dat} (h : Gd 30 20000 d) : Gd 31 30000 (.tuple [.str x, d, .bool true]) := gd_tup (n := 30) (gd_cons (gd_str _ _ e) (gd_cons h (gd_cons (gd_bool true _) (gd_nil (w := 0)) (Nat.le_refl _)) (Nat.le_refl _)) (Nat.le_refl _)) (by omega) (by omega)
/-! ### put_right -/
abbrev outLc : List Dat → M RV := lcM [12] (put 12) (toB (inM true (rd 12) (rowD (ixD (rd 10) (ret (.int 0)))))) (rd 12)
theorem out_none {w : Nat} (hw : Wd w) {l : List Int} (h : ∀ x ∈ l, ∃ n, n < w ∧ x = (n : Int)) (hl : l.length ≤ 1000) (a0 a1 a2 a3 a4 a5 a6 a7 a8 a9 a11 a13 a14 : Sl) (B : Dat) (s : DS) :
    outLc (lints l) ⟨[a0, a1, a2, a3, a4, a5, a6, a7, a8, a9, .sh (.tuple [pars w, B]), a11, .no, a13, a14], s⟩ = .ok (.fr []) ⟨[a0, a1, a2, a3, a4, a5, a6, a7, a8, a9, .sh (.tuple [pars w, B]), a11, .no, a13, a14], s⟩ := by
  have z := lcM_sift (b := put 12) (mt := toB (inM true (rd 12) (rowD (ixD (rd 10) (ret (.int 0)))))) (me := rd 12) (vs := [12]) (t := fun _ => false) (f := fun d => d) (items := lints l) (c := ⟨[a0, a1, a2, a3, a4, a5, a6, a7, a8, a9, .sh (.tuple [pars w, B]), a11, .no, a13, a14], s⟩) rfl (fun d hd => by
    obtain ⟨x, hx, rfl⟩ := List.mem_map.mp hd
    obtain ⟨n, hn, rfl⟩ := h x hx
    refine ⟨⟨[a0, a1, a2, a3, a4, a5, a6, a7, a8, a9, .sh (.tuple [pars w, B]), a11, .sh (dn n), a13, a14], s⟩, ⟨[a0, a1, a2, a3, a4, a5, a6, a7, a8, a9, .sh (.tuple [pars w, B]), a11, .sh (dn n), a13, a14], s⟩, ⟨[a0, a1, a2, a3, a4, a5, a6, a7, a8, a9, .sh (.tuple [pars w, B]), a11, .sh (dn n), a13, a14], s⟩, rfl, ?_, fun e => (by cases e), fun _ => rfl⟩
    simp [row_pars, nin_pars hw n hn]) (by rw [List.length_map]; omega) rfl
  have e : ((lints l).filter fun _ => false).map (fun d => d) = [] := by simp
  rw [e] at z
  exact z
theorem ne_nil2 : neD (.list []) (.list []) = ret (.bool false) := by kernel_rfl
abbrev outB : M Ctl := seq (M.bind (asx (frz (M.bind (M.bind (frz (callN 1 (g__law_free 30) (aCons (ixD (rd 10) (ret (.int 1))) (aNil)))) itL) outLc))) (asg 11)) (ifS (andB (toB (m2 neD (rd 11) (frz (M.bind (aNil) lstD)))) (toB (m2 eqD (ixD (rd 5) (ret (.int 0))) (ret (.str "told"))))) (M.bind (asx (M.bind (aCons (ret (.str "program")) (aCons (M.bind (aCons (ret (.int 0)) (aCons (rd 9) (aNil))) tupD) (aCons (ret (.bool true)) (aNil)))) tupD)) (asg 5)) (ret .nx))
abbrev outT : Dat → Cfg → Option Cfg := putTup 2 (putCons (put 9) (putCons (put 10) (putNil)))
def alike3 (x9 x10 x11 : Sl) : Prop := (x9 = .no ∧ x10 = .no ∧ x11 = .no) ∨ ∃ a b c, x9 = .sh a ∧ x10 = .sh b ∧ x11 = .sh c
theorem loop_ok {cs : List Nat} (a0 a1 a2 a3 a4 a5 a6 a7 a8 : Sl) (s : DS) : ∀ (l : List (Nat × Pc)) (i : Nat) (x9 x10 x11 : Sl), (∀ d ∈ l, BOk cs d) → alike3 x9 x10 x11 →
    ∃ y9 y10 y11, alike3 y9 y10 y11 ∧ forL outT outB (pairsF i (l.map encD)) ⟨[a0, a1, a2, a3, a4, a5, a6, a7, a8, x9, x10, x11, .no, .no, .no], s⟩ = .ok .nx ⟨[a0, a1, a2, a3, a4, a5, a6, a7, a8, y9, y10, y11, .no, .no, .no], s⟩
  | [], _, x9, x10, x11, _, h => ⟨x9, x10, x11, h, rfl⟩
  | (w, b) :: l, i, x9, x10, x11, hb, h => by
    have bk := hb (w, b) List.mem_cons_self
    have f : g__law_free 30 [enc b] = .ok (.fr (lints (fv b))) := run_lfree 30 b bk.ns (by have : dep b ≤ 12 := bk.dpt; omega) (by have : sz b ≤ 61 := bk.sz; omega)
    have fl : (fv b).length ≤ 1000 := bk.flen
    obtain ⟨y9, y10, y11, al, e⟩ := loop_ok a0 a1 a2 a3 a4 a5 a6 a7 a8 s l (i + 1) (.sh (.int (i : Int))) (.sh (.tuple [pars w, enc b])) (.sh (.list [])) (fun d hd => hb d (List.mem_cons_of_mem _ hd)) (.inr ⟨_, _, _, rfl, rfl, rfl⟩)
    refine ⟨y9, y10, y11, al, ?_⟩
    rw [← e]
    rcases h with ⟨rfl, rfl, rfl⟩ | ⟨a, b2, c, rfl, rfl, rfl⟩
    · have on := fun a11 => out_none (w := w) bk.wd bk.fv fl a0 a1 a2 a3 a4 a5 a6 a7 a8 (.sh (.int (i : Int))) a11 .no .no (enc b) s
      simp [encD, f, on, ne_nil2]
    · have on := fun a11 => out_none (w := w) bk.wd bk.fv fl a0 a1 a2 a3 a4 a5 a6 a7 a8 (.sh (.int (i : Int))) a11 .no .no (enc b) s
      simp [encD, f, on, ne_nil2]
def maxL : List Nat → Nat
  | [] => 0
  | a :: l => l.foldl max a
theorem foldl_le {n : Nat} : ∀ (l : List Nat) (a : Nat), l.foldl max a ≤ n ↔ a ≤ n ∧ ∀ x ∈ l, x ≤ n
  | [], a => by simp
  | b :: l, a => by
    rw [List.foldl_cons, foldl_le l]
    simp [Nat.max_le, and_assoc]
theorem maxL_le {n : Nat} {l : List Nat} (h : l ≠ []) : maxL l ≤ n ↔ ∀ x ∈ l, x ≤ n := by
  cases l with
  | nil => exact absurd rfl h
  | cons a l =>
    rw [maxL, foldl_le]
    simp
theorem max_list {l : List Nat} (h : l ≠ []) (c : Cfg) : maxR (false, l.map dn) c = .ok (dn (maxL l)) c := by
  cases l with
  | nil => exact absurd rfl h
  | cons a l => exact maxR_dn a l c
def deeps (g : Pg) : List Nat := (rows g).map fun q => dep q.2
theorem rows_main (g : Pg) : ([1], g.main) ∈ rows g := by
  refine List.mem_append_right _ ?_
  rw [lst_kids]
  exact List.mem_cons_self
theorem mem_rows_w {g : Pg} (h : PgW g) {x : List Nat} {s : Pc} (m : (x, s) ∈ rows g) : noSev s = true ∧ dep s ≤ 20 := by
  obtain ⟨pre, p, mn, st, rel, sl, rfl, t⟩ := mem_rows m
  cases sl with
  | main => exact ⟨t.ns h.ns, Nat.le_trans t.le.1 h.dpt⟩
  | body i w b e =>
    have bk := h.b (w, p) (List.mem_of_getElem? e)
    have : dep p ≤ 12 := bk.dpt
    exact ⟨t.ns bk.ns, by have := t.le.1; omega⟩
theorem deeps_lc {g : Pg} (h : PgW g) (hl : (rows g).length ≤ 100000) (a0 a1 a2 a3 a4 a5 a6 a7 a8 a9 a10 a11 a12 : Sl) (s : DS) :
    lcM [13, 14] (putTup 2 (putCons (put 13) (putCons (put 14) (putNil)))) (ret true) (frz (callN 1 (g__law_deep 30) (aCons (rd 14) (aNil)))) ((rows g).map encK) ⟨[a0, a1, a2, a3, a4, a5, a6, a7, a8, a9, a10, a11, a12, .no, .no], s⟩ = .ok (.fr ((deeps g).map dn)) ⟨[a0, a1, a2, a3, a4, a5, a6, a7, a8, a9, a10, a11, a12, .no, .no], s⟩ := by
  have zz : ∀ l : List (List Nat × Pc), (∀ q ∈ l, noSev q.2 = true ∧ dep q.2 ≤ 20) → Paired (kidR (g__law_deep 30) (fun p => dn (dep p))) (l.map encK) (l.map fun q => dn (dep q.2)) := fun l hq => kids_paired l fun q hm => .of (run_ldeep 30 q.2 (hq q hm).1 (by have := (hq q hm).2; omega))
  have z := lcM_rel (zz (rows g) fun q hq => mem_rows_w h (x := q.1) hq) (fun d y ⟨q, e1, e2, hq⟩ => ⟨⟨[a0, a1, a2, a3, a4, a5, a6, a7, a8, a9, a10, a11, a12, .sh (dp q.1), .sh (enc q.2)], s⟩, ⟨[a0, a1, a2, a3, a4, a5, a6, a7, a8, a9, a10, a11, a12, .sh (dp q.1), .sh (enc q.2)], s⟩, by rw [e1]; rfl, by rw [e2]; exact frz_call rfl rfl hq, rfl⟩) (vs := [13, 14]) (b := putTup 2 (putCons (put 13) (putCons (put 14) (putNil)))) (me := frz (callN 1 (g__law_deep 30) (aCons (rd 14) (aNil)))) (c := ⟨[a0, a1, a2, a3, a4, a5, a6, a7, a8, a9, a10, a11, a12, .no, .no], s⟩) rfl (by rw [List.length_map]; exact hl) rfl
  have e : (rows g).map (fun q => dn (dep q.2)) = (deeps g).map dn := by unfold deeps; rw [List.map_map]; rfl
  rw [e] at z
  exact z
end Pn

set_option maxHeartbeats 4000003
namespace Pn
open L2 PyProof.Rows PySem.Spec PySem
abbrev mores (S : Dat) : Dat := .list [enc (.wait .stop), enc (.send 0 0 (.take 0 1 .stop)), S, .int 7]
section
variable {s s1 s2 : DS} {P ROWS X S E Q : Dat}
theorem prA (o1 : g__law_of [ROWS] [] s = .ok (.sh (.tuple [X, S])) [] s1) (o2 : g__law_of [mores S] [] s1 = .ok (.sh (.int 7)) [] s2) (e : g__law_exchanged 40 [P, X, .int 7] = .ok (.sh E)) (p : g_put_at g_part_at [P, X, .int 7] = .exc 1 X)
    (k : g__law_like [.tuple [.str "piece", X, .bool true], .tuple [.str "piece", X, .bool true]] [] s0 = .ok (.sh (.bool true)) [] s0) : g__law_put_right (g_put_at g_part_at) [P, ROWS] [] s = .ok (.sh (.bool true)) [] s2 := by
  have o2 : g__law_of [.list [.tuple [.str "wait", .tuple [.str "one", .tuple []]], .tuple [.str "send", .int 0, .int 0, .tuple [.str "take", .int 0, .int 1, .tuple [.str "one", .tuple []]]], S, .int 7]] [] s1 = .ok (.sh (.int 7)) [] s2 := o2
  simp only [g__law_put_right, m__law_put_right]
  simp [runG, initG, endG, o1, o2, e, p, fk1, k]
theorem prB {g' : Pg} (o1 : g__law_of [ROWS] [] s = .ok (.sh (.tuple [X, S])) [] s1) (o2 : g__law_of [mores S] [] s1 = .ok (.sh Q) [] s2) (q7 : eqD Q (.int 7) = ret (.bool false)) (e : g__law_exchanged 40 [P, X, Q] = .ok (.sh (encG g')))
    (pw : PgW g') (hl : (rows g').length ≤ 100000) (ok : PgOk g') (p : g_put_at g_part_at [P, X, Q] = .ok (.sh (encG g'))) : g__law_put_right (g_put_at g_part_at) [P, ROWS] [] s = .ok (.sh (.bool true)) [] s2 := by
  have o2 : g__law_of [.list [.tuple [.str "wait", .tuple [.str "one", .tuple []]], .tuple [.str "send", .int 0, .int 0, .tuple [.str "take", .int 0, .int 1, .tuple [.str "one", .tuple []]]], S, .int 7]] [] s1 = .ok (.sh Q) [] s2 := o2
  have dne : deeps g' ≠ [] := fun z => by
    have m := List.mem_map_of_mem (f := fun q : List Nat × Pc => dep q.2) (rows_main g')
    have z : (rows g').map (fun q => dep q.2) = [] := z
    rw [z] at m
    cases m
  have w := whole_w pw
  have mx := fun c => max_list dne c
  have le : ¬ (12 : Int) < ((maxL (deeps g') : Nat) : Int) := by
    have z : maxL (deeps g') ≤ 12 := (maxL_le dne).mpr fun x hx => by
      obtain ⟨q, hq, rfl⟩ := List.mem_map.mp hx
      exact (gd_row ok (x := q.1) (s := q.2) hq).2.2
    omega
  have k := run_like (gd_told (gd_prog ok)) (by omega) (by omega) rfl
  obtain ⟨y9, y10, y11, al, lp⟩ := loop_ok (cs := g'.cs) .st (.sh P) (.sh ROWS) (.sh (.tuple [.str "one", .tuple []])) (.sh Q) (.sh (.tuple [.str "told", encG g'])) (.sh X) (.sh S) .no s2 g'.defs 0 .no .no .no pw.b (.inl ⟨rfl, rfl, rfl⟩)
  have rg : rowOf (encG g') = ret (true, [.tuple (g'.defs.map encD), enc g'.main]) := rfl
  have dl := fun a8 s => deeps_lc pw hl .st (.sh P) (.sh ROWS) (.sh (.tuple [.str "one", .tuple []])) (.sh Q) (.sh (.tuple [.str "told", encG g'])) (.sh X) (.sh S) a8 y9 y10 y11 .no s
  simp only [g__law_put_right, m__law_put_right]
  simp [runG, initG, endG, o1, o2, q7, e, rg, lp, w, dl, mx, le, p, k]
theorem prC {g' : Pg} (o1 : g__law_of [ROWS] [] s = .ok (.sh (.tuple [X, S])) [] s1) (o2 : g__law_of [mores S] [] s1 = .ok (.sh Q) [] s2) (q7 : eqD Q (.int 7) = ret (.bool false)) (e : g__law_exchanged 40 [P, X, Q] = .ok (.sh (encG g')))
    (pw : PgW g') (hl : (rows g').length ≤ 100000) (gt : 12 < dep g'.main) (p : g_put_at g_part_at [P, X, Q] = .exc 5 (.int 12)) : g__law_put_right (g_put_at g_part_at) [P, ROWS] [] s = .ok (.sh (.bool true)) [] s2 := by
  have o2 : g__law_of [.list [.tuple [.str "wait", .tuple [.str "one", .tuple []]], .tuple [.str "send", .int 0, .int 0, .tuple [.str "take", .int 0, .int 1, .tuple [.str "one", .tuple []]]], S, .int 7]] [] s1 = .ok (.sh Q) [] s2 := o2
  have dm := List.mem_map_of_mem (f := fun q : List Nat × Pc => dep q.2) (rows_main g')
  have dm : dep g'.main ∈ deeps g' := dm
  have dne : deeps g' ≠ [] := fun z => by
    rw [z] at dm
    cases dm
  have w := whole_w pw
  have mx := fun c => max_list dne c
  have le : (12 : Int) < ((maxL (deeps g') : Nat) : Int) := by
    have z : ¬ maxL (deeps g') ≤ 12 := fun z => by
      have := (maxL_le dne).mp z _ dm
      omega
    omega
  have k := run_like (d := .tuple [.str "great", .int 12, .bool true]) (gd_three wf5 ((gd_dn 12 30 (by omega)).mono (by omega) (by omega))) (by omega) (by omega) rfl
  obtain ⟨y9, y10, y11, al, lp⟩ := loop_ok (cs := g'.cs) .st (.sh P) (.sh ROWS) (.sh (.tuple [.str "one", .tuple []])) (.sh Q) (.sh (.tuple [.str "told", encG g'])) (.sh X) (.sh S) .no s2 g'.defs 0 .no .no .no pw.b (.inl ⟨rfl, rfl, rfl⟩)
  have rg : rowOf (encG g') = ret (true, [.tuple (g'.defs.map encD), enc g'.main]) := rfl
  have dl := fun a8 s => deeps_lc pw hl .st (.sh P) (.sh ROWS) (.sh (.tuple [.str "one", .tuple []])) (.sh Q) (.sh (.tuple [.str "told", encG g'])) (.sh X) (.sh S) a8 y9 y10 y11 .no s
  simp only [g__law_put_right, m__law_put_right]
  simp [runG, initG, endG, o1, o2, q7, e, rg, lp, w, dl, mx, le, p, fk5, k]
end
end Pn

set_option maxHeartbeats 4000003
namespace Pn
open L2 PyProof.Rows PySem.Spec PySem
theorem rows_len_w {g : Pg} (h : PgW g) : (rows g).length ≤ 100000 := by
  have b := bodyRows_len g.defs g.cs 0 h.b
  have n := h.nd
  have m := h.cnt
  rw [rows, List.length_append, lst_len]
  omega
theorem enc_tup : ∀ t : Pc, t ≠ .seven → ∃ l, enc t = .tuple l
  | .tst true _ _ _, _ => ⟨_, rfl⟩
  | .tst false _ _ _, _ => ⟨_, rfl⟩
  | .stop, _ => ⟨_, rfl⟩
  | .wait _, _ => ⟨_, rfl⟩
  | .send _ _ _, _ => ⟨_, rfl⟩
  | .take _ _ _, _ => ⟨_, rfl⟩
  | .two _ _, _ => ⟨_, rfl⟩
  | .bes _ _, _ => ⟨_, rfl⟩
  | .new _ _, _ => ⟨_, rfl⟩
  | .call _ _, _ => ⟨_, rfl⟩
  | .seven, h => absurd rfl h
theorem eq_seven {n w : Nat} {d : Dat} (h : Gd n w d) (hn : n ≤ 64) (l : List Dat) (e : d = .tuple l) : eqD d (.int 7) = ret (.bool false) := by
  unfold eqD
  rw [h.shaped hn, e]
  rfl
theorem run_put_right {g : Pg} (h : PgD g) {s : DS} {a : Nat} (hs : St s a) (ha : a ≤ 90000) : ∃ s2, g__law_put_right (g_put_at g_part_at) [encG g, .list ((rows g).map encK)] [] s = .ok (.sh (.bool true)) [] s2 := by
  have good := h.good
  have rl := rows_len good
  have rn : (rows g).map encK ≠ [] := fun e => by
    have m := List.mem_map_of_mem (f := encK) (rows_main g)
    rw [e] at m
    cases m
  obtain ⟨d, s1, o1, hd, h1⟩ := run_of hs (by omega) rn (by rw [List.length_map]; omega)
  obtain ⟨⟨x, t⟩, hm, rfl⟩ := List.mem_map.mp hd
  obtain ⟨xne, xsm, xl, tn⟩ := row_facts good hm
  obtain ⟨gt, gx, td⟩ := gd_row good hm
  have o1 : g__law_of [.list ((rows g).map encK)] [] s = .ok (.sh (.tuple [dp x, enc t])) [] s1 := o1
  obtain ⟨Q, s2, o2, hQ, h2⟩ := run_of h1 (by omega) (l := [enc (.wait .stop), enc (.send 0 0 (.take 0 1 .stop)), enc t, .int 7]) (by simp) (by simp)
  refine ⟨s2, ?_⟩
  obtain ⟨pre, p, mn, st, rel, sl, ex, sub⟩ := mem_rows hm
  have put : ∀ q : Pc, Put g.cs mn q → eqD (enc q) (.int 7) = ret (.bool false) → Q = enc q → g__law_put_right (g_put_at g_part_at) [encG g, .list ((rows g).map encK)] [] s = .ok (.sh (.bool true)) [] s2 := fun q hq q7 e => by
    rw [e] at o2
    obtain ⟨p', r⟩ := sub.rep q
    have dr := sl.drep h.nd r
    rw [← ex] at dr
    have out := put_out h sl hq r
    have e2 := run_exch 40 dr (by omega)
    rcases out.way with ok | ⟨deep, bad⟩
    · exact prB o1 o2 q7 e2 out.pw (rows_len_w out.pw) ok (putat_ok good hm dr ok)
    · exact prC o1 o2 q7 e2 out.pw (rows_len_w out.pw) deep (putat_exc good hm dr bad)
  simp only [List.mem_cons, List.mem_nil_iff, or_false] at hQ
  rcases hQ with e | e | e | e
  · exact put _ (put_wait _ _) (by kernel_rfl) e
  · exact put _ (put_send _ _) (by kernel_rfl) e
  · rw [e] at o2
    obtain ⟨l, el⟩ := enc_tup t (noSev_ne tn)
    have dr := sl.drep h.nd sub.same
    rw [← ex, set_same sl] at dr
    exact prB o1 o2 (eq_seven gt (by omega) l el) (run_exch 40 dr (by omega)) good.pw (by omega) good (putat_ok good hm dr good)
  · rw [e] at o2
    obtain ⟨p', r⟩ := sub.rep .seven
    have dr := sl.drep h.nd r
    have bad := put_seven h sl r
    rw [← ex] at dr bad
    exact prA o1 o2 (run_exch 40 dr (by omega)) (putat_exc good hm dr bad) (run_like (gd_three wf2 (gx.mono (by omega) (by omega))) (by omega) (by omega) rfl)
/-! ### the law -/
end Pn

set_option maxHeartbeats 4000003
namespace Pn
open L2 PyProof.Rows PySem.Spec PySem
def lawC : M Ctl := (seq (M.bind (frz (callSM 1 g__law_of (stArg 1 (aCons (rd 3) (aNil))))) (tgtM (putTup 2 (putCons (put 9) (putCons (put 10) (putNil)))))) (seq (ifS (notB (toB (frz (callQM false 2 g__law_like (aCons (frz (callN 2 g_part_at (aCons (rd 2) (aCons (rd 9) (aNil))))) (aCons (rd 10) (aNil))))))) (retS (asx (ret (.bool false)))) (ret .nx)) (seq (M.bind (asx (frz (callSM 1 g__law_of (stArg 1 (aCons (frz (M.bind (aCons (frz (M.bind (rd 9) fun x => M.bind (M.bind (aCons (ret (.int 9)) (aNil)) tupD) fun y => catD x y)) (aCons (M.bind (aNil) tupD) (aCons (M.bind (aCons (ret (.int 0)) (aCons (ret (.int 0)) (aNil))) tupD) (aCons (frz (M.bind (aCons (ret (.int 1)) (aNil)) lstD)) (aCons (ret .none) (aCons (M.bind (aCons (ret (.bool true)) (aNil)) tupD) (aCons (M.bind (aCons (ret (.int 1)) (aCons (negV (ret (.int 1))) (aNil))) tupD) (aCons (frz (M.bind (frz (slM (rd 9) (ret none) (partO (negV (ret (.int 1)))))) fun x => M.bind (M.bind (aCons (negV (ret (.int 1))) (aNil)) tupD) fun y => catD x y)) (aNil))))))))) lstD)) (aNil)))))) (asg 8)) (seq (ifS (notB (toB (frz (callQM false 2 g__law_like (aCons (caughtM clauL "told" (callN 2 g_part_at (aCons (rd 2) (aCons (rd 8) (aNil))))) (aCons (M.bind (aCons (ret (.str "index")) (aCons (rd 8) (aCons (ret (.bool true)) (aNil)))) tupD) (aNil))))))) (retS (asx (ret (.bool false)))) (ret .nx)) (seq (ifS (notB (toB (frz (callQM false 2 g__law_like (aCons (caughtM clauL "told" (callN 3 (g_put_at g_part_at) (aCons (rd 2) (aCons (rd 8) (aCons (rd 10) (aNil)))))) (aCons (M.bind (aCons (ret (.str "index")) (aCons (rd 8) (aCons (ret (.bool true)) (aNil)))) tupD) (aNil))))))) (retS (asx (ret (.bool false)))) (ret .nx)) (retS (callSM 2 (g__law_put_right (g_put_at g_part_at)) (stArg 1 (aCons (rd 2) (aCons (rd 3) (aNil)))))))))))
def lawB : M Ctl := (seq (M.bind (asx (frz (M.bind (M.bind (rd 3) itL) (lcM [9, 10] (putTup 2 (putCons (put 9) (putCons (put 10) (putNil)))) (andB (toB (m2 eqD (ixD (rd 9) (ret (.int 0))) (ret (.int 1)))) (toB (m2 eqD (ixD (rd 10) (ret (.int 0))) (ret (.str "call"))))) (rd 9))))) (asg 6)) (seq (M.bind (asx (ifE (toB (m2 eqD (rd 6) (frz (M.bind (aNil) lstD)))) (M.bind (aCons (ret (.str "told")) (aCons (rd 2) (aNil))) tupD) (M.bind (aCons (ret (.str "finite")) (aCons (ixD (rd 6) (ret (.int 0))) (aCons (ret (.bool true)) (aNil)))) tupD))) (asg 7)) (seq (ifS (notB (toB (frz (callQM false 2 g__law_like (aCons (frz (callN 1 g_is_finite (aCons (rd 2) (aNil)))) (aCons (m2 eqD (rd 6) (frz (M.bind (aNil) lstD))) (aNil))))))) (retS (asx (ret (.bool false)))) (ret .nx)) (seq (ifS (notB (toB (frz (callQM false 2 g__law_like (aCons (caughtM clauL "told" (callN 1 g_need_finite (aCons (rd 2) (aNil)))) (aCons (rd 7) (aNil))))))) (retS (asx (ret (.bool false)))) (ret .nx)) lawC))))
theorem m_law_eq : m_law = seq (M.bind (asx (frz (callSM 1 g__law_program (stArg 1 (aCons (ret (.int 4)) (aNil)))))) (asg 2)) (seq (M.bind (asx (frz (callN 1 g__law_whole (aCons (rd 2) (aNil))))) (asg 3)) (seq (ifS (notB (toB (frz (callQM false 2 g__law_like (aCons (frz (callN 1 g_need_program (aCons (rd 2) (aNil)))) (aCons (rd 2) (aNil))))))) (retS (asx (ret (.bool false)))) (ret .nx)) (seq (M.bind (callN 1 g_parts_of (aCons (rd 2) (aNil))) (asg 4)) (seq (ifS (orB (notB (toB (isiV 4 "list"))) (notB (toB (lendM 4 2 g__law_like (aCons (rd 3) (aNil)))))) (retS (asx (ret (.bool false)))) (ret .nx)) (seq (dropS (revV 4)) (seq (dropS (appV 4 (ixV 4 (ret (.int 0))))) (seq (ifS (notB (toB (frz (callQM false 2 g__law_like (aCons (frz (callN 1 g_parts_of (aCons (rd 2) (aNil)))) (aCons (rd 3) (aNil))))))) (retS (asx (ret (.bool false)))) (ret .nx)) (seq (M.bind (asx (M.bind (rowX (M.bind (frz (M.bind (M.bind (ixD (rd 2) (ret (.int 0))) itT) (lcM [11] (put 11) (ret true) (frz (callN 1 (g__law_deep 30) (aCons (ixD (rd 11) (ret (.int 1))) (aNil))))))) fun x => M.bind (frz (M.bind (aCons (frz (callN 1 (g__law_deep 30) (aCons (ixD (rd 2) (ret (.int 1))) (aNil)))) (aNil)) lstD)) fun y => catD x y)) maxR)) (asg 5)) (seq (ifS (notB (toB (frz (callQM false 2 g__law_like (aCons (frz (callN 1 g_measures (aCons (rd 2) (aNil)))) (aCons (M.bind (aCons (M.bind (rowVar 3) lenR) (aCons (rd 5) (aNil))) tupD) (aNil))))))) (retS (asx (ret (.bool false)))) (ret .nx)) (seq (ifS (notB (toB (frz (callQM false 2 g__law_like (aCons (frz (callN 1 g_free_names (aCons (rd 2) (aNil)))) (aCons (M.bind (rowX (callN 1 (g__law_free 30) (aCons (ixD (rd 2) (ret (.int 1))) (aNil)))) tupR) (aNil))))))) (retS (asx (ret (.bool false)))) (ret .nx)) lawB)))))))))) := rfl
@[simp] theorem x_isiV4 (i : Nat) (T : String) (c : Cfg) : isiV i T c = (match ownL i c with
  | some l => .ok (.bool (isTy (.list l) T)) c
  | none => .bad) := rfl
@[simp] theorem x_lendM (i n : Nat) (g : GF) (ms : M (List Dat)) (c : Cfg) : lendM i n g ms c = (match ownL i c with
  | none => .bad
  | some _ => (match ms c with
    | .ok ds c1 => (match ownL i c1 with
      | none => .bad
      | some l => if ds.length + 1 = n then (match g (.list l :: ds) [] ⟨[], [], 0⟩ with
        | .ok (.sh (.bool b)) _ _ => .ok (.bool b) c1
        | _ => .bad) else .bad)
    | .exc k d c' => .exc k d c'
    | .bad => .bad)) := by kernel_rfl
@[simp] theorem x_revV (i : Nat) (c : Cfg) : revV i c = (match held i c with
  | some l => .ok .none (wr i l.reverse c)
  | none => .bad) := by
  show M.bind (heldM i) (fun l => wrM i l.reverse) c = _
  rw [x_bind, x_heldM]
  cases held i c <;> rfl
@[simp] theorem x_ixV4 (i : Nat) (m : M Dat) (c : Cfg) : ixV i m c = M.bind (rowVar i) (fun x => M.bind m fun y => M.bind (rowVar i) fun k => ixR k y) c := rfl
theorem foldl_max_cons (l : List Nat) (a b : Nat) : l.foldl max (max a b) = max (l.foldl max a) b := by
  rw [Nat.max_comm a b, foldl_max_swap, Nat.max_comm]
theorem deepest_eq (g : Pg) : maxL (g.defs.map (fun d => dep d.2) ++ [dep g.main]) = deepest g := by
  have go : ∀ (l : List Nat) (m : Nat), maxL (l ++ [m]) = l.foldl max m := by
    intro l m
    cases l with
    | nil => rfl
    | cons a l =>
      show (l ++ [m]).foldl max a = (a :: l).foldl max m
      rw [List.foldl_append, List.foldl_cons, List.foldl_cons, List.foldl_nil, foldl_max_swap, Nat.max_comm]
  exact go _ _
theorem deepest_le {g : Pg} (h : PgOk g) : deepest g ≤ 12 := (foldl_le _ _).mpr ⟨h.m.dpt, fun x hx => by
  obtain ⟨d, hd, rfl⟩ := List.mem_map.mp hx
  exact (h.b d hd).dpt⟩
theorem defs_lc {g : Pg} (h : PgOk g) (a0 a1 a2 a3 a4 a5 a6 a7 a8 a9 a10 : Sl) (s : DS) :
    lcM [11] (put 11) (ret true) (frz (callN 1 (g__law_deep 30) (aCons (ixD (rd 11) (ret (.int 1))) (aNil)))) (g.defs.map encD) ⟨[a0, a1, a2, a3, a4, a5, a6, a7, a8, a9, a10, .no], s⟩ = .ok (.fr ((g.defs.map fun d => dep d.2).map dn)) ⟨[a0, a1, a2, a3, a4, a5, a6, a7, a8, a9, a10, .no], s⟩ := by
  have zz : Paired (fun d y => ∃ q : Nat × Pc, d = encD q ∧ y = dn (dep q.2) ∧ g__law_deep 30 [enc q.2] = .ok (.sh (dn (dep q.2)))) (g.defs.map encD) ((g.defs.map fun d => dep d.2).map dn) := by
    have go : ∀ l : List (Nat × Pc), (∀ d ∈ l, BOk g.cs d) → Paired (fun d y => ∃ q : Nat × Pc, d = encD q ∧ y = dn (dep q.2) ∧ g__law_deep 30 [enc q.2] = .ok (.sh (dn (dep q.2)))) (l.map encD) ((l.map fun d => dep d.2).map dn) := by
      intro l
      induction l with
      | nil => exact fun _ => .nil
      | cons d l ih => exact fun hb => .cons ⟨d, rfl, rfl, run_ldeep 30 d.2 (hb d List.mem_cons_self).ns (by have := (hb d List.mem_cons_self).dpt; omega)⟩ (ih fun x hx => hb x (List.mem_cons_of_mem _ hx))
    exact go g.defs h.b
  exact lcM_rel zz (fun d y ⟨q, e1, e2, hq⟩ => ⟨⟨[a0, a1, a2, a3, a4, a5, a6, a7, a8, a9, a10, .sh (encD q)], s⟩, ⟨[a0, a1, a2, a3, a4, a5, a6, a7, a8, a9, a10, .sh (encD q)], s⟩, by rw [e1]; rfl, by rw [e2]; simp [encD, hq], rfl⟩) rfl (by rw [List.length_map]; have := h.nd; omega) rfl
theorem law_core {P M : Dat} {D R ys F : List Dat} {dd : List Dat} {y : Dat} {m mx : Nat} {s s1 : DS} (pr : g__law_program [.int 4] [] s = okT P s1) (wh : g__law_whole [P] = .ok (.fr R)) (np : g_need_program [P] = .ok (.sh P)) (l1 : g__law_like [P, P] [] s0 = .ok (.sh (.bool true)) [] s0)
    (po : g_parts_of [P] = .ok (.fr R)) (l2 : g__law_like [.list R, .list R] [] s0 = .ok (.sh (.bool true)) [] s0) (rr : R.reverse = y :: ys) (rl : ys.length < 90000) (rg : rowOf P = ret (true, [.tuple D, M]))
    (dl : ∀ a4 : Sl, lcM [11] (put 11) (ret true) (frz (callN 1 (g__law_deep 30) (aCons (ixD (rd 11) (ret (.int 1))) (aNil)))) D ⟨[.no, .st, .sh P, .sh (.list R), a4, .no, .no, .no, .no, .no, .no, .no], s1⟩ = .ok (.fr dd) ⟨[.no, .st, .sh P, .sh (.list R), a4, .no, .no, .no, .no, .no, .no, .no], s1⟩)
    (dm : g__law_deep 30 [M] = .ok (.sh (dn m))) (hd : dd.length ≤ 100000) (mxl : ∀ c, maxR (false, dd ++ [dn m]) c = .ok (dn mx) c)
    (ms : g_measures [P] = .ok (.sh (.tuple [dn R.length, dn mx]))) (l3 : g__law_like [.tuple [dn R.length, dn mx], .tuple [dn R.length, dn mx]] [] s0 = .ok (.sh (.bool true)) [] s0)
    (fn : g_free_names [P] = .ok (.sh (.tuple F))) (lf : g__law_free 30 [M] = .ok (.fr F)) (l4 : g__law_like [.tuple F, .tuple F] [] s0 = .ok (.sh (.bool true)) [] s0) :
    m_law ⟨lawR, s⟩ = lawB ⟨[.no, .st, .sh P, .sh (.list R), .own (y :: ys ++ [y]), .sh (dn mx), .no, .no, .no, .no, .no, .no], s1⟩ := by
  have c := x_catL dd [dn m] hd (by simp)
  have rl2 : ys.length + 1 < 100000 := by omega
  rw [m_law_eq]
  simp [lawR, pr, wh, np, l1, po, isTy, tyN, ownL, l2, held, wr, rr, rl2, rg, dl, dm, c, mxl, ms, l3, fn, lf, l4]
end Pn

set_option maxHeartbeats 4000003
namespace Pn
open L2 PyProof.Rows PySem.Spec PySem
abbrev callLc : List Dat → M RV := lcM [9, 10] (putTup 2 (putCons (put 9) (putCons (put 10) (putNil)))) (andB (toB (m2 eqD (ixD (rd 9) (ret (.int 0))) (ret (.int 1)))) (toB (m2 eqD (ixD (rd 10) (ret (.int 0))) (ret (.str "call"))))) (rd 9)
theorem calls_lc2 {g : Pg} (h : PgOk g) (a0 a1 a2 a3 a4 a5 a6 a7 a8 a11 : Sl) (s : DS) : callLc ((rows g).map encK) ⟨[a0, a1, a2, a3, a4, a5, a6, a7, a8, .no, .no, a11], s⟩ = .ok (.fr ((calls g).map dp)) ⟨[a0, a1, a2, a3, a4, a5, a6, a7, a8, .no, .no, a11], s⟩ := by
  have z := lcM_sift (b := putTup 2 (putCons (put 9) (putCons (put 10) (putNil)))) (mt := andB (toB (m2 eqD (ixD (rd 9) (ret (.int 0))) (ret (.int 1)))) (toB (m2 eqD (ixD (rd 10) (ret (.int 0))) (ret (.str "call"))))) (me := rd 9) (vs := [9, 10]) (t := tc) (f := fc) (c := ⟨[a0, a1, a2, a3, a4, a5, a6, a7, a8, .no, .no, a11], s⟩) (items := (rows g).map encK) rfl (fun d hd => by
    obtain ⟨⟨x, p⟩, hq, rfl⟩ := List.mem_map.mp hd
    obtain ⟨hx, _, _, hs⟩ := row_facts h hq
    have t := tc_row hx hs
    obtain ⟨wd, rest, e1, e2, e3⟩ := word_call p (noSev_ne hs)
    cases x with
    | nil => exact absurd rfl hx
    | cons b x =>
      have hb : ((b : Int) == 1) = ((b :: x).head? == some 1) := by
        rw [Bool.eq_iff_iff, beq_iff_eq, beq_iff_eq, List.head?_cons, Option.some.injEq]
        omega
      refine ⟨⟨[a0, a1, a2, a3, a4, a5, a6, a7, a8, .sh (dp (b :: x)), .sh (enc p), a11], s⟩, ⟨[a0, a1, a2, a3, a4, a5, a6, a7, a8, .sh (dp (b :: x)), .sh (enc p), a11], s⟩, ⟨[a0, a1, a2, a3, a4, a5, a6, a7, a8, .sh (dp (b :: x)), .sh (enc p), a11], s⟩, rfl, ?_, fun _ => ⟨rfl, rfl⟩, fun _ => rfl⟩
      rw [t, ← hb]
      cases e : ((b : Int) == 1) <;> simp [e, e1, e2]) (by rw [List.length_map]; have := rows_len h; omega) rfl
  rw [calls_dat (rows_ok h)] at z
  exact z
section
variable {P X S L x5 : Dat} {R x4 CL l : List Dat} {x : Dat} {s s1 s2 : DS} {sl : Sl}
theorem law_b1 (lc : ∀ a6, callLc R ⟨[.no, .st, .sh P, .sh (.list R), .own x4, .sh x5, a6, .no, .no, .no, .no, .no], s⟩ = .ok (.fr []) ⟨[.no, .st, .sh P, .sh (.list R), .own x4, .sh x5, a6, .no, .no, .no, .no, .no], s⟩) (e : eqD (.list []) (.list []) = ret (.bool true)) (f : g_is_finite [P] = .ok (.sh (.bool true))) (l1 : g__law_like [.bool true, .bool true] [] s0 = .ok (.sh (.bool true)) [] s0)
    (n : g_need_finite [P] = .ok (.sh P)) (l2 : g__law_like [.tuple [.str "told", P], .tuple [.str "told", P]] [] s0 = .ok (.sh (.bool true)) [] s0) :
    ∃ x6 x7, lawB ⟨[.no, .st, .sh P, .sh (.list R), .own x4, .sh x5, .no, .no, .no, .no, .no, .no], s⟩ = lawC ⟨[.no, .st, .sh P, .sh (.list R), .own x4, .sh x5, .sh x6, .sh x7, .no, .no, .no, .no], s⟩ := by
  refine ⟨.list [], .tuple [.str "told", P], ?_⟩
  simp [lawB, lc, e, f, l1, n, l2]
theorem law_b2 (lc : ∀ a6, callLc R ⟨[.no, .st, .sh P, .sh (.list R), .own x4, .sh x5, a6, .no, .no, .no, .no, .no], s⟩ = .ok (.fr (x :: l)) ⟨[.no, .st, .sh P, .sh (.list R), .own x4, .sh x5, a6, .no, .no, .no, .no, .no], s⟩) (e : eqD (.list (x :: l)) (.list []) = ret (.bool false)) (f : g_is_finite [P] = .ok (.sh (.bool false))) (l1 : g__law_like [.bool false, .bool false] [] s0 = .ok (.sh (.bool true)) [] s0)
    (n : g_need_finite [P] = .exc 4 x) (l2 : g__law_like [.tuple [.str "finite", x, .bool true], .tuple [.str "finite", x, .bool true]] [] s0 = .ok (.sh (.bool true)) [] s0) :
    ∃ x6 x7, lawB ⟨[.no, .st, .sh P, .sh (.list R), .own x4, .sh x5, .no, .no, .no, .no, .no, .no], s⟩ = lawC ⟨[.no, .st, .sh P, .sh (.list R), .own x4, .sh x5, .sh x6, .sh x7, .no, .no, .no, .no], s⟩ := by
  refine ⟨.list (x :: l), .tuple [.str "finite", x, .bool true], ?_⟩
  simp [lawB, lc, e, f, l1, n, fk4, l2]
@[simp] theorem x_negV (m : M Dat) (c : Cfg) : negV m c = M.bind m (fun d => match d with
  | .int i => ret (.int (-i))
  | _ => bad) c := rfl
abbrev losts (X : List Dat) : Dat := .list [.tuple (X ++ [.int 9]), .tuple [], .tuple [.int 0, .int 0], .list [.int 1], .none, .tuple [.bool true], .tuple [.int 1, .int (-1)], .tuple (cutL X none (some (-1)) ++ [.int (-1)])]
theorem law_c {X : List Dat} {x6 x7 : Dat} (o : g__law_of [.list R] [] s = .ok (.sh (.tuple [.tuple X, S])) [] s1) (pa : g_part_at [P, .tuple X] = .ok (.sh S)) (l1 : g__law_like [S, S] [] s0 = .ok (.sh (.bool true)) [] s0) (hX : X.length ≤ 1000) (hX2 : (cutL X none (some (-1))).length ≤ 1000)
    (o2 : g__law_of [losts X] [] s1 = .ok (.sh L) [] s2) (pl : g_part_at [P, L] = .exc 3 L) (ul : g_put_at g_part_at [P, L, S] = .exc 3 L) (l2 : g__law_like [.tuple [.str "index", L, .bool true], .tuple [.str "index", L, .bool true]] [] s0 = .ok (.sh (.bool true)) [] s0)
    {s3 : DS} (pr : g__law_put_right (g_put_at g_part_at) [P, .list R] [] s2 = .ok (.sh (.bool true)) [] s3) :
    ∃ c, lawC ⟨[.no, .st, .sh P, .sh (.list R), .own x4, .sh x5, .sh x6, .sh x7, .no, .no, .no, .no], s⟩ = .ok (.rt (.sh (.bool true))) c := by
  have c1 := x_catT X [.int 9] (by omega) (by simp)
  have c2 := x_catT (cutL X none (some (-1))) [.int (-1)] (by omega) (by simp)
  refine ⟨⟨[.no, .st, .sh P, .sh (.list R), .own x4, .sh x5, .sh x6, .sh x7, .sh L, .sh (.tuple X), .sh S, .no], s3⟩, ?_⟩
  simp [lawC, o, pa, l1, c1, c2, o2, pl, ul, fk3, l2, pr]
end
end Pn

set_option maxHeartbeats 4000003
namespace Pn
open L2 PyProof.Rows PySem.Spec PySem
theorem cut_last (X : List Dat) : cutL X none (some (-1)) = X.take (X.length - 1) := by
  unfold cutL
  have e : HT.sIx X.length X.length (some (-1)) = X.length - 1 := by
    unfold HT.sIx
    simp only
    rw [if_pos (by decide)]
    omega
  rw [e]
  show List.take (X.length - 1 - 0) (List.drop 0 X) = _
  rfl
theorem no_list : g_are_from_zero [.list [.int 1]] = .ok (.sh (.bool false)) := by kernel_rfl
theorem no_none : g_are_from_zero [.none] = .ok (.sh (.bool false)) := by kernel_rfl
theorem no_true : g_are_from_zero [.tuple [.bool true]] = .ok (.sh (.bool false)) := by kernel_rfl
theorem no_neg : g_are_from_zero [.tuple [.int 1, .int (-1)]] = .ok (.sh (.bool false)) := by kernel_rfl
theorem no_last (x : List Nat) (h : x.length ≤ 900) : g_are_from_zero [.tuple (x.map dn ++ [.int (-1)])] = .ok (.sh (.bool false)) := by
  have z := from_zero_ints (upN x ++ [-1]) (by rw [List.length_append, List.length_map, List.length_singleton]; omega)
  have e : lints (upN x ++ [-1]) = x.map dn ++ [.int (-1)] := by
    show (upN x ++ [-1]).map PyData.int = _
    rw [List.map_append]
    show lints (upN x) ++ _ = _
    rw [← dp_ints]
    rfl
  rw [e] at z
  have f : ((upN x ++ [-1]).all fun x => decide (0 ≤ x)) = false := by
    rw [List.all_append]
    simp
  rw [f] at z
  exact z
theorem gd_ints {n : Nat} (l : List Int) (h : ∀ x ∈ l, ∃ k : Nat, k < 100 ∧ x = (k : Int)) : GdL n (6 * l.length) (lints l) := by
  have z := gd_all (n := n) (w := 4) (lints l) (fun d hd => by
    obtain ⟨x, hx, rfl⟩ := List.mem_map.mp hd
    obtain ⟨k, hk, rfl⟩ := h x hx
    exact gd_dn k n hk)
  rw [List.length_map] at z
  exact z
theorem lost_ok {g : Pg} (h : PgOk g) {x : List Nat} {s : Pc} (m : (x, s) ∈ rows g) {L : Dat} (hL : L ∈ [PyData.tuple (x.map dn ++ [.int 9]), .tuple [], .tuple [.int 0, .int 0], .list [.int 1], .none, .tuple [.bool true], .tuple [.int 1, .int (-1)], .tuple (cutL (x.map dn) none (some (-1)) ++ [.int (-1)])]) :
    g_part_at [encG g, L] = .exc 3 L ∧ Gd 30 20000 L := by
  obtain ⟨xne, xsm, xl, _⟩ := row_facts h m
  have gx : GdL 1 (6 * x.length) (x.map dn) := gd_dns 1 x fun a ha => by have := xsm a ha; omega
  have gcat : ∀ (l : List Nat) (d : Dat), (∀ a ∈ l, a < 100) → l.length ≤ 30 → Gd 1 4 d → Gd 30 20000 (.tuple (l.map dn ++ [d])) := fun l d hl hn hd => by
    have z := gd_all (n := 1) (w := 4) (l.map dn ++ [d]) (fun e he => by
      rcases List.mem_append.mp he with q | q
      · obtain ⟨a, ha, rfl⟩ := List.mem_map.mp q
        exact gd_dn a 1 (hl a ha)
      · rw [List.mem_singleton.mp q]
        exact hd)
    exact gd_tup z (by omega) (by rw [List.length_append, List.length_map, List.length_singleton]; omega)
  simp only [List.mem_cons, List.mem_nil_iff, or_false] at hL
  rcases hL with e | e | e | e | e | e | e | e
  · have ee : PyData.tuple (x.map dn ++ [.int 9]) = dp (x ++ [9]) := by
      show _ = PyData.tuple ((x ++ [9]).map dn)
      rw [List.map_append]
      rfl
    rw [e]
    refine ⟨?_, gcat x _ (fun a ha => by have := xsm a ha; omega) (by omega) (gd_dn 9 1 (by omega))⟩
    rw [ee]
    exact part_out h (by rw [List.length_append, List.length_singleton]; omega) (out_nine m)
  · rw [e]
    exact ⟨part_out (x := []) h (by simp) out_nil, gd_tup (n := 0) (w := 0) gd_nil (by omega) (by omega)⟩
  · rw [e]
    exact ⟨part_out (x := [0, 0]) h (by simp) out_zero, (gd_dp 0 [0, 0] (by simp)).mono (by omega) (by simp)⟩
  · rw [e]
    exact ⟨part_no h no_list, gd_lst (n := 0) (gd_cons (gd_dn 1 0 (by omega)) (gd_nil (w := 0)) (Nat.le_refl _)) (by omega) (by omega)⟩
  · rw [e]
    exact ⟨part_no h no_none, (gd_none 30).mono (by omega) (by omega)⟩
  · rw [e]
    exact ⟨part_no h no_true, gd_tup (n := 0) (gd_cons (gd_bool true 0) (gd_nil (w := 0)) (Nat.le_refl _)) (by omega) (by omega)⟩
  · rw [e]
    exact ⟨part_no h no_neg, gd_tup (n := 0) (gd_cons (gd_dn 1 0 (by omega)) (gd_cons (gd_neg1 0) (gd_nil (w := 0)) (Nat.le_refl _)) (Nat.le_refl _)) (by omega) (by omega)⟩
  · have ee : cutL (x.map dn) none (some (-1)) = (x.take (x.length - 1)).map dn := by
      rw [cut_last, List.length_map, List.map_take]
    rw [e, ee]
    have tl : (x.take (x.length - 1)).length ≤ 30 := by rw [List.length_take]; omega
    exact ⟨part_no h (no_last _ (by omega)), gcat _ _ (fun a ha => by have := xsm a (List.mem_of_mem_take ha); omega) tl ((gd_neg1 1).mono (Nat.le_refl _) (Nat.le_refl _))⟩
theorem st_begin (ns : List Int) : St ⟨cellsOf ns, leftsOf ns, 0⟩ 0 where
  len := by show ((cellsOf ns).map leftOf).length = _; rw [List.length_map]
  pos := by
    show 0 < (cellsOf ns).length
    unfold cellsOf
    split
    · decide
    · rename_i h
      exact List.length_pos_iff.mpr h
  left := fun x hx => by
    obtain ⟨c, _, rfl⟩ := List.mem_map.mp hx
    unfold leftOf
    split <;> omega
  lo := Int.le_refl _
  hi := Int.le_refl _
theorem law_good (ns : List Int) : LawGood ns := by
  obtain ⟨g, s1, pr, h1, pd⟩ := run_program (st_begin ns) (by omega)
  have h := pd.good
  have rl := rows_len h
  have fv3 : ∀ x ∈ fv g.main, ∃ k : Nat, k < 100 ∧ x = (k : Int) := fun x hx => by
    obtain ⟨n, hn, e⟩ := pd.m.fv x hx
    refine ⟨n, ?_, e⟩
    simp at hn
    omega
  have fl := fv_len g.main
  have msz := h.m.sz
  obtain ⟨y, ys, rr⟩ : ∃ y ys, ((rows g).map encK).reverse = y :: ys := by
    cases e : ((rows g).map encK).reverse with
    | nil =>
      have m := List.mem_map_of_mem (f := encK) (rows_main g)
      rw [List.reverse_eq_nil_iff.mp e] at m
      cases m
    | cons y ys =>
      exact ⟨y, ys, rfl⟩
  have yl : ys.length < 90000 := by
    have z := congrArg List.length rr
    rw [List.length_reverse, List.length_map, List.length_cons] at z
    omega
  have de := deepest_le h
  have dd := deepest_eq g
  have rln : ((rows g).map encK).length = (rows g).length := List.length_map _
  have mxl : ∀ c, maxR (false, ((g.defs.map fun d => dep d.2).map dn) ++ [dn (dep g.main)]) c = .ok (dn (deepest g)) c := fun c => by
    have z := max_list (l := g.defs.map (fun d => dep d.2) ++ [dep g.main]) (by simp) c
    rw [List.map_append, dd] at z
    exact z
  have core := law_core (s := ⟨cellsOf ns, leftsOf ns, 0⟩) pr (whole_ok h) (need_ok h) (run_like (gd_prog h) (by omega) (by omega) rfl) (parts_ok h) (run_like (gd_rows h) (by omega) (by omega) rfl) rr yl rfl (fun a4 => defs_lc h _ _ _ _ _ _ _ _ _ _ _ _)
    (run_ldeep 30 g.main h.m.ns (by have := h.m.dpt; omega)) (by rw [List.length_map, List.length_map]; have := h.nd; omega) mxl (by rw [rln]; exact measures_ok h)
    (run_like (gd_tup (n := 0) (gd_cons (gd_dn _ _ (by omega)) (gd_cons (gd_dn _ _ (by omega)) (gd_nil (w := 0)) (Nat.le_refl _)) (Nat.le_refl _)) (Nat.le_refl _) (Nat.le_refl _)) (by omega) (by omega) rfl)
    (free_ok h) (run_lfree 30 g.main h.m.ns (by have := h.m.dpt; omega) h.m.sz) (run_like (gd_tup (n := 0) (gd_ints (fv g.main) fv3) (Nat.le_refl _) (Nat.le_refl _)) (by omega) (by omega) rfl)
  have sb : ∀ x4, ∃ x6 x7, lawB ⟨[.no, .st, .sh (encG g), .sh (.list ((rows g).map encK)), .own x4, .sh (dn (deepest g)), .no, .no, .no, .no, .no, .no], s1⟩ = lawC ⟨[.no, .st, .sh (encG g), .sh (.list ((rows g).map encK)), .own x4, .sh (dn (deepest g)), .sh x6, .sh x7, .no, .no, .no, .no], s1⟩ := fun x4 => by
    have lc := fun a6 => calls_lc2 h .no .st (.sh (encG g)) (.sh (.list ((rows g).map encK))) (.own x4) (.sh (dn (deepest g))) a6 .no .no .no s1
    cases e : calls g with
    | nil =>
      rw [e] at lc
      have f := finite_ok h
      rw [e] at f
      exact law_b1 lc (by kernel_rfl) f (run_like (gd_bool true 0) (by omega) (by omega) rfl) (needf_ok h e) (run_like (gd_told (gd_prog h)) (by omega) (by omega) rfl)
    | cons x l =>
      have cr : ∀ z ∈ calls g, ∃ s, (z, s) ∈ rows g := fun z hz => by
        obtain ⟨q, hq, rfl⟩ := List.mem_map.mp hz
        exact ⟨q.2, (List.mem_filter.mp hq).1⟩
      obtain ⟨s, ms⟩ := cr x (by rw [e]; exact List.mem_cons_self)
      have gx := (gd_row h ms).2.1
      have gc : Gd 2 100000 (.list ((calls g).map dp)) := by
        have z := gd_all (n := 1) (w := 160) ((calls g).map dp) (fun d hd => by
          obtain ⟨z, hz, rfl⟩ := List.mem_map.mp hd
          obtain ⟨s, ms⟩ := cr z hz
          exact (gd_row h ms).2.1)
        have cl : (calls g).length ≤ 68 := by
          unfold calls
          rw [List.length_map]
          exact Nat.le_trans (List.length_filter_le _ _) rl
        exact gd_lst z (by omega) (by rw [List.length_map]; omega)
      rw [e] at lc gc
      have f := finite_ok h
      rw [e] at f
      have ev : eqD (.list ((x :: l).map dp)) (.list []) = ret (.bool false) := by
        unfold eqD
        rw [gc.shaped (by omega)]
        rfl
      exact law_b2 lc ev f (run_like (gd_bool false 0) (by omega) (by omega) rfl) (needf_exc h e) (run_like (gd_three wf3 (gx.mono (by omega) (by omega))) (by omega) (by omega) rfl)
  obtain ⟨x6, x7, eb⟩ := sb (y :: ys ++ [y])
  have rn : (rows g).map encK ≠ [] := fun e => by
    rw [e] at rr
    cases rr
  obtain ⟨d, s2, o1, hd, h2⟩ := run_of h1 (by omega) rn (by rw [List.length_map]; omega)
  obtain ⟨⟨x, t⟩, hm, rfl⟩ := List.mem_map.mp hd
  obtain ⟨xne, xsm, xl, tn⟩ := row_facts h hm
  obtain ⟨gt, gx, td⟩ := gd_row h hm
  obtain ⟨tl, et⟩ := enc_tup t (noSev_ne tn)
  obtain ⟨L, s3, o2, hL, h3⟩ := run_of h2 (by omega) (l := [PyData.tuple (x.map dn ++ [.int 9]), .tuple [], .tuple [.int 0, .int 0], .list [.int 1], .none, .tuple [.bool true], .tuple [.int 1, .int (-1)], .tuple (cutL (x.map dn) none (some (-1)) ++ [.int (-1)])]) (by simp) (by simp)
  obtain ⟨pl, gL⟩ := lost_ok h hm hL
  obtain ⟨s4, rp⟩ := run_put_right pd h3 (by omega)
  have xm1 : (x.map dn).length ≤ 1000 := by rw [List.length_map]; omega
  have xm2 : (cutL (x.map dn) none (some (-1))).length ≤ 1000 := by rw [cut_last, List.length_take, List.length_map]; omega
  obtain ⟨c, ec⟩ := law_c (x4 := y :: ys ++ [y]) (x5 := dn (deepest g)) (x6 := x6) (x7 := x7) o1 (part_ok h hm) (run_like gt (by omega) (by omega) (by rw [et]; rfl)) xm1 xm2 o2 pl (putat_no pl) (run_like (gd_three wf4 gL) (by omega) (by omega) rfl) rp
  exact ⟨c, by rw [core, eb]; exact ec⟩
end Pn

set_option maxHeartbeats 4000003
namespace Pn
open L2 PyProof.Rows PySem.Spec PySem
/-! ### each def where it stands -/
structure DefF (K : PySem.W.Frag) (mg : Str → Option Value) (x : Str) (st : Stmt) (ps : List Str) : Prop where
  ex : ∃ (f : Addr) (fd : FuncData), Fun K x x st f fd ∧ At K mg x f fd ps
section
variable {K : PySem.W.Frag} {h : Heap} {mg : Str → Option Value} (X : K.In h) (G : h.Ns mainGlobals mg)
include X G

theorem df_is_integer {f : Addr} {oc : Value} {od an : Option Addr} {osl : Array (Option Value)} {kV doc pm cdv ct : Value} (a : PySem.W.nsIn K mainGlobals "is_integer" = some (some (.ref f))) (l : K.lookup f = some ⟨oc, od, .func (PySem.W.fnOf "is_integer" "is_integer" (defArgs (top 8)) (defBody (top 8)) (defScope (top 8)) .none kV doc pm an cdv ct), osl⟩) (c : PySem.W.codeIn K cdv "is_integer" = true) (k : PySem.W.keepIn K (.ref f) = true) : DefF K mg "is_integer" (top 8) ["value"] :=
  ⟨f, _, fun_mk l c k, PySem.W.mg_of X G a, k, (fun_mk l c k).binds fun _ _ _ _ _ _ us hl => match us, hl with
    | [_], _ => rfl⟩
theorem df_is_from_zero {f : Addr} {oc : Value} {od an : Option Addr} {osl : Array (Option Value)} {kV doc pm cdv ct : Value} (a : PySem.W.nsIn K mainGlobals "is_from_zero" = some (some (.ref f))) (l : K.lookup f = some ⟨oc, od, .func (PySem.W.fnOf "is_from_zero" "is_from_zero" (defArgs (top 9)) (defBody (top 9)) (defScope (top 9)) .none kV doc pm an cdv ct), osl⟩) (c : PySem.W.codeIn K cdv "is_from_zero" = true) (k : PySem.W.keepIn K (.ref f) = true) : DefF K mg "is_from_zero" (top 9) ["value"] :=
  ⟨f, _, fun_mk l c k, PySem.W.mg_of X G a, k, (fun_mk l c k).binds fun _ _ _ _ _ _ us hl => match us, hl with
    | [_], _ => rfl⟩
theorem df_is_below {f : Addr} {oc : Value} {od an : Option Addr} {osl : Array (Option Value)} {kV doc pm cdv ct : Value} (a : PySem.W.nsIn K mainGlobals "is_below" = some (some (.ref f))) (l : K.lookup f = some ⟨oc, od, .func (PySem.W.fnOf "is_below" "is_below" (defArgs (top 10)) (defBody (top 10)) (defScope (top 10)) .none kV doc pm an cdv ct), osl⟩) (c : PySem.W.codeIn K cdv "is_below" = true) (k : PySem.W.keepIn K (.ref f) = true) : DefF K mg "is_below" (top 10) ["value", "end"] :=
  ⟨f, _, fun_mk l c k, PySem.W.mg_of X G a, k, (fun_mk l c k).binds fun _ _ _ _ _ _ us hl => match us, hl with
    | [_, _], _ => rfl⟩
theorem df_is_name {f : Addr} {oc : Value} {od an : Option Addr} {osl : Array (Option Value)} {kV doc pm cdv ct : Value} (a : PySem.W.nsIn K mainGlobals "is_name" = some (some (.ref f))) (l : K.lookup f = some ⟨oc, od, .func (PySem.W.fnOf "is_name" "is_name" (defArgs (top 11)) (defBody (top 11)) (defScope (top 11)) .none kV doc pm an cdv ct), osl⟩) (c : PySem.W.codeIn K cdv "is_name" = true) (k : PySem.W.keepIn K (.ref f) = true) : DefF K mg "is_name" (top 11) ["value"] :=
  ⟨f, _, fun_mk l c k, PySem.W.mg_of X G a, k, (fun_mk l c k).binds fun _ _ _ _ _ _ us hl => match us, hl with
    | [_], _ => rfl⟩
theorem df_is_row_of {f : Addr} {oc : Value} {od an : Option Addr} {osl : Array (Option Value)} {kV doc pm cdv ct : Value} (a : PySem.W.nsIn K mainGlobals "is_row_of" = some (some (.ref f))) (l : K.lookup f = some ⟨oc, od, .func (PySem.W.fnOf "is_row_of" "is_row_of" (defArgs (top 12)) (defBody (top 12)) (defScope (top 12)) .none kV doc pm an cdv ct), osl⟩) (c : PySem.W.codeIn K cdv "is_row_of" = true) (k : PySem.W.keepIn K (.ref f) = true) : DefF K mg "is_row_of" (top 12) ["value", "many"] :=
  ⟨f, _, fun_mk l c k, PySem.W.mg_of X G a, k, (fun_mk l c k).binds fun _ _ _ _ _ _ us hl => match us, hl with
    | [_, _], _ => rfl⟩
theorem df_is_row_up_to {f : Addr} {oc : Value} {od an : Option Addr} {osl : Array (Option Value)} {kV doc pm cdv ct : Value} (a : PySem.W.nsIn K mainGlobals "is_row_up_to" = some (some (.ref f))) (l : K.lookup f = some ⟨oc, od, .func (PySem.W.fnOf "is_row_up_to" "is_row_up_to" (defArgs (top 13)) (defBody (top 13)) (defScope (top 13)) .none kV doc pm an cdv ct), osl⟩) (c : PySem.W.codeIn K cdv "is_row_up_to" = true) (k : PySem.W.keepIn K (.ref f) = true) : DefF K mg "is_row_up_to" (top 13) ["value", "most"] :=
  ⟨f, _, fun_mk l c k, PySem.W.mg_of X G a, k, (fun_mk l c k).binds fun _ _ _ _ _ _ us hl => match us, hl with
    | [_, _], _ => rfl⟩
theorem df_are_names {f : Addr} {oc : Value} {od an : Option Addr} {osl : Array (Option Value)} {kV doc pm cdv ct : Value} (a : PySem.W.nsIn K mainGlobals "are_names" = some (some (.ref f))) (l : K.lookup f = some ⟨oc, od, .func (PySem.W.fnOf "are_names" "are_names" (defArgs (top 14)) (defBody (top 14)) (defScope (top 14)) .none kV doc pm an cdv ct), osl⟩) (c : PySem.W.codeIn K cdv "are_names" = true) (k : PySem.W.keepIn K (.ref f) = true) : DefF K mg "are_names" (top 14) ["value"] :=
  ⟨f, _, fun_mk l c k, PySem.W.mg_of X G a, k, (fun_mk l c k).binds fun _ _ _ _ _ _ us hl => match us, hl with
    | [_], _ => rfl⟩
theorem df_are_from_zero {f : Addr} {oc : Value} {od an : Option Addr} {osl : Array (Option Value)} {kV doc pm cdv ct : Value} (a : PySem.W.nsIn K mainGlobals "are_from_zero" = some (some (.ref f))) (l : K.lookup f = some ⟨oc, od, .func (PySem.W.fnOf "are_from_zero" "are_from_zero" (defArgs (top 15)) (defBody (top 15)) (defScope (top 15)) .none kV doc pm an cdv ct), osl⟩) (c : PySem.W.codeIn K cdv "are_from_zero" = true) (k : PySem.W.keepIn K (.ref f) = true) : DefF K mg "are_from_zero" (top 15) ["value"] :=
  ⟨f, _, fun_mk l c k, PySem.W.mg_of X G a, k, (fun_mk l c k).binds fun _ _ _ _ _ _ us hl => match us, hl with
    | [_], _ => rfl⟩
theorem df_are_unlike {f : Addr} {oc : Value} {od an : Option Addr} {osl : Array (Option Value)} {kV doc pm cdv ct : Value} (a : PySem.W.nsIn K mainGlobals "are_unlike" = some (some (.ref f))) (l : K.lookup f = some ⟨oc, od, .func (PySem.W.fnOf "are_unlike" "are_unlike" (defArgs (top 16)) (defBody (top 16)) (defScope (top 16)) .none kV doc pm an cdv ct), osl⟩) (c : PySem.W.codeIn K cdv "are_unlike" = true) (k : PySem.W.keepIn K (.ref f) = true) : DefF K mg "are_unlike" (top 16) ["row"] :=
  ⟨f, _, fun_mk l c k, PySem.W.mg_of X G a, k, (fun_mk l c k).binds fun _ _ _ _ _ _ us hl => match us, hl with
    | [_], _ => rfl⟩
theorem df_parts_below {f : Addr} {oc : Value} {od an : Option Addr} {osl : Array (Option Value)} {kV doc pm cdv ct : Value} (a : PySem.W.nsIn K mainGlobals "parts_below" = some (some (.ref f))) (l : K.lookup f = some ⟨oc, od, .func (PySem.W.fnOf "parts_below" "parts_below" (defArgs (top 24)) (defBody (top 24)) (defScope (top 24)) .none kV doc pm an cdv ct), osl⟩) (c : PySem.W.codeIn K cdv "parts_below" = true) (k : PySem.W.keepIn K (.ref f) = true) : DefF K mg "parts_below" (top 24) ["piece"] :=
  ⟨f, _, fun_mk l c k, PySem.W.mg_of X G a, k, (fun_mk l c k).binds fun _ _ _ _ _ _ us hl => match us, hl with
    | [_], _ => rfl⟩
theorem df_with_part_at {f : Addr} {oc : Value} {od an : Option Addr} {osl : Array (Option Value)} {kV doc pm cdv ct : Value} (a : PySem.W.nsIn K mainGlobals "with_part_at" = some (some (.ref f))) (l : K.lookup f = some ⟨oc, od, .func (PySem.W.fnOf "with_part_at" "with_part_at" (defArgs (top 25)) (defBody (top 25)) (defScope (top 25)) .none kV doc pm an cdv ct), osl⟩) (c : PySem.W.codeIn K cdv "with_part_at" = true) (k : PySem.W.keepIn K (.ref f) = true) : DefF K mg "with_part_at" (top 25) ["whole", "path", "part"] :=
  ⟨f, _, fun_mk l c k, PySem.W.mg_of X G a, k, (fun_mk l c k).binds fun _ _ _ _ _ _ us hl => match us, hl with
    | [_, _, _], _ => rfl⟩
theorem df_bound_name {f : Addr} {oc : Value} {od an : Option Addr} {osl : Array (Option Value)} {kV doc pm cdv ct : Value} (a : PySem.W.nsIn K mainGlobals "bound_name" = some (some (.ref f))) (l : K.lookup f = some ⟨oc, od, .func (PySem.W.fnOf "bound_name" "bound_name" (defArgs (top 26)) (defBody (top 26)) (defScope (top 26)) .none kV doc pm an cdv ct), osl⟩) (c : PySem.W.codeIn K cdv "bound_name" = true) (k : PySem.W.keepIn K (.ref f) = true) : DefF K mg "bound_name" (top 26) ["piece"] :=
  ⟨f, _, fun_mk l c k, PySem.W.mg_of X G a, k, (fun_mk l c k).binds fun _ _ _ _ _ _ us hl => match us, hl with
    | [_], _ => rfl⟩
theorem df_bound_names {f : Addr} {oc : Value} {od an : Option Addr} {osl : Array (Option Value)} {kV doc pm cdv ct : Value} (a : PySem.W.nsIn K mainGlobals "bound_names" = some (some (.ref f))) (l : K.lookup f = some ⟨oc, od, .func (PySem.W.fnOf "bound_names" "bound_names" (defArgs (top 27)) (defBody (top 27)) (defScope (top 27)) .none kV doc pm an cdv ct), osl⟩) (c : PySem.W.codeIn K cdv "bound_names" = true) (k : PySem.W.keepIn K (.ref f) = true) : DefF K mg "bound_names" (top 27) ["piece"] :=
  ⟨f, _, fun_mk l c k, PySem.W.mg_of X G a, k, (fun_mk l c k).binds fun _ _ _ _ _ _ us hl => match us, hl with
    | [_], _ => rfl⟩
theorem df_own_names {f : Addr} {oc : Value} {od an : Option Addr} {osl : Array (Option Value)} {kV doc pm cdv ct : Value} (a : PySem.W.nsIn K mainGlobals "own_names" = some (some (.ref f))) (l : K.lookup f = some ⟨oc, od, .func (PySem.W.fnOf "own_names" "own_names" (defArgs (top 28)) (defBody (top 28)) (defScope (top 28)) .none kV doc pm an cdv ct), osl⟩) (c : PySem.W.codeIn K cdv "own_names" = true) (k : PySem.W.keepIn K (.ref f) = true) : DefF K mg "own_names" (top 28) ["piece"] :=
  ⟨f, _, fun_mk l c k, PySem.W.mg_of X G a, k, (fun_mk l c k).binds fun _ _ _ _ _ _ us hl => match us, hl with
    | [_], _ => rfl⟩
theorem df_free_of {f : Addr} {oc : Value} {od an : Option Addr} {osl : Array (Option Value)} {kV doc pm cdv ct : Value} (a : PySem.W.nsIn K mainGlobals "free_of" = some (some (.ref f))) (l : K.lookup f = some ⟨oc, od, .func (PySem.W.fnOf "free_of" "free_of" (defArgs (top 29)) (defBody (top 29)) (defScope (top 29)) .none kV doc pm an cdv ct), osl⟩) (c : PySem.W.codeIn K cdv "free_of" = true) (k : PySem.W.keepIn K (.ref f) = true) : DefF K mg "free_of" (top 29) ["piece"] :=
  ⟨f, _, fun_mk l c k, PySem.W.mg_of X G a, k, (fun_mk l c k).binds fun _ _ _ _ _ _ us hl => match us, hl with
    | [_], _ => rfl⟩
theorem df_depth_below {f : Addr} {oc : Value} {od an : Option Addr} {osl : Array (Option Value)} {kV doc pm cdv ct : Value} (a : PySem.W.nsIn K mainGlobals "depth_below" = some (some (.ref f))) (l : K.lookup f = some ⟨oc, od, .func (PySem.W.fnOf "depth_below" "depth_below" (defArgs (top 30)) (defBody (top 30)) (defScope (top 30)) .none kV doc pm an cdv ct), osl⟩) (c : PySem.W.codeIn K cdv "depth_below" = true) (k : PySem.W.keepIn K (.ref f) = true) : DefF K mg "depth_below" (top 30) ["piece"] :=
  ⟨f, _, fun_mk l c k, PySem.W.mg_of X G a, k, (fun_mk l c k).binds fun _ _ _ _ _ _ us hl => match us, hl with
    | [_], _ => rfl⟩
theorem df_is_call {f : Addr} {oc : Value} {od an : Option Addr} {osl : Array (Option Value)} {kV doc pm cdv ct : Value} (a : PySem.W.nsIn K mainGlobals "is_call" = some (some (.ref f))) (l : K.lookup f = some ⟨oc, od, .func (PySem.W.fnOf "is_call" "is_call" (defArgs (top 52)) (defBody (top 52)) (defScope (top 52)) .none kV doc pm an cdv ct), osl⟩) (c : PySem.W.codeIn K cdv "is_call" = true) (k : PySem.W.keepIn K (.ref f) = true) : DefF K mg "is_call" (top 52) ["number", "names", "counts"] :=
  ⟨f, _, fun_mk l c k, PySem.W.mg_of X G a, k, (fun_mk l c k).binds fun _ _ _ _ _ _ us hl => match us, hl with
    | [_, _, _], _ => rfl⟩
theorem df_has_form {f : Addr} {oc : Value} {od an : Option Addr} {osl : Array (Option Value)} {kV doc pm cdv ct : Value} (a : PySem.W.nsIn K mainGlobals "has_form" = some (some (.ref f))) (l : K.lookup f = some ⟨oc, od, .func (PySem.W.fnOf "has_form" "has_form" (defArgs (top 50)) (defBody (top 50)) (defScope (top 50)) .none kV doc pm an cdv ct), osl⟩) (c : PySem.W.codeIn K cdv "has_form" = true) (k : PySem.W.keepIn K (.ref f) = true) : DefF K mg "has_form" (top 50) ["value", "counts"] :=
  ⟨f, _, fun_mk l c k, PySem.W.mg_of X G a, k, (fun_mk l c k).binds fun _ _ _ _ _ _ us hl => match us, hl with
    | [_, _], _ => rfl⟩
theorem df_has_form_of_row {f : Addr} {oc : Value} {od an : Option Addr} {osl : Array (Option Value)} {kV doc pm cdv ct : Value} (a : PySem.W.nsIn K mainGlobals "has_form_of_row" = some (some (.ref f))) (l : K.lookup f = some ⟨oc, od, .func (PySem.W.fnOf "has_form_of_row" "has_form_of_row" (defArgs (top 51)) (defBody (top 51)) (defScope (top 51)) .none kV doc pm an cdv ct), osl⟩) (c : PySem.W.codeIn K cdv "has_form_of_row" = true) (k : PySem.W.keepIn K (.ref f) = true) : DefF K mg "has_form_of_row" (top 51) ["value"] :=
  ⟨f, _, fun_mk l c k, PySem.W.mg_of X G a, k, (fun_mk l c k).binds fun _ _ _ _ _ _ us hl => match us, hl with
    | [_], _ => rfl⟩
theorem df_is_hole {f : Addr} {oc : Value} {od an : Option Addr} {osl : Array (Option Value)} {kV doc pm cdv ct : Value} (a : PySem.W.nsIn K mainGlobals "is_hole" = some (some (.ref f))) (l : K.lookup f = some ⟨oc, od, .func (PySem.W.fnOf "is_hole" "is_hole" (defArgs (top 49)) (defBody (top 49)) (defScope (top 49)) .none kV doc pm an cdv ct), osl⟩) (c : PySem.W.codeIn K cdv "is_hole" = true) (k : PySem.W.keepIn K (.ref f) = true) : DefF K mg "is_hole" (top 49) ["value"] :=
  ⟨f, _, fun_mk l c k, PySem.W.mg_of X G a, k, (fun_mk l c k).binds fun _ _ _ _ _ _ us hl => match us, hl with
    | [_], _ => rfl⟩
theorem df_is_let {f : Addr} {oc : Value} {od an : Option Addr} {osl : Array (Option Value)} {kV doc pm cdv ct : Value} (a : PySem.W.nsIn K mainGlobals "is_let" = some (some (.ref f))) (l : K.lookup f = some ⟨oc, od, .func (PySem.W.fnOf "is_let" "is_let" (defArgs (top 48)) (defBody (top 48)) (defScope (top 48)) .none kV doc pm an cdv ct), osl⟩) (c : PySem.W.codeIn K cdv "is_let" = true) (k : PySem.W.keepIn K (.ref f) = true) : DefF K mg "is_let" (top 48) ["part", "counts", "where", "branch_due", "guarded"] :=
  ⟨f, _, fun_mk l c k, PySem.W.mg_of X G a, k, (fun_mk l c k).binds fun _ _ _ _ _ _ us hl => match us, hl with
    | [_, _, _, _, _], _ => rfl⟩
theorem df_are_params {f : Addr} {oc : Value} {od an : Option Addr} {osl : Array (Option Value)} {kV doc pm cdv ct : Value} (a : PySem.W.nsIn K mainGlobals "are_params" = some (some (.ref f))) (l : K.lookup f = some ⟨oc, od, .func (PySem.W.fnOf "are_params" "are_params" (defArgs (top 46)) (defBody (top 46)) (defScope (top 46)) .none kV doc pm an cdv ct), osl⟩) (c : PySem.W.codeIn K cdv "are_params" = true) (k : PySem.W.keepIn K (.ref f) = true) : DefF K mg "are_params" (top 46) ["value"] :=
  ⟨f, _, fun_mk l c k, PySem.W.mg_of X G a, k, (fun_mk l c k).binds fun _ _ _ _ _ _ us hl => match us, hl with
    | [_], _ => rfl⟩
theorem df_need_definitions {f : Addr} {oc : Value} {od an : Option Addr} {osl : Array (Option Value)} {kV doc pm cdv ct : Value} (a : PySem.W.nsIn K mainGlobals "need_definitions" = some (some (.ref f))) (l : K.lookup f = some ⟨oc, od, .func (PySem.W.fnOf "need_definitions" "need_definitions" (defArgs (top 45)) (defBody (top 45)) (defScope (top 45)) .none kV doc pm an cdv ct), osl⟩) (c : PySem.W.codeIn K cdv "need_definitions" = true) (k : PySem.W.keepIn K (.ref f) = true) : DefF K mg "need_definitions" (top 45) ["value"] :=
  ⟨f, _, fun_mk l c k, PySem.W.mg_of X G a, k, (fun_mk l c k).binds fun _ _ _ _ _ _ us hl => match us, hl with
    | [_], _ => rfl⟩
theorem df_walk {f : Addr} {oc : Value} {od an : Option Addr} {osl : Array (Option Value)} {kV doc pm cdv ct : Value} (a : PySem.W.nsIn K mainGlobals "walk" = some (some (.ref f))) (l : K.lookup f = some ⟨oc, od, .func (PySem.W.fnOf "walk" "walk" (defArgs (top 47)) (defBody (top 47)) (defScope (top 47)) .none kV doc pm an cdv ct), osl⟩) (c : PySem.W.codeIn K cdv "walk" = true) (k : PySem.W.keepIn K (.ref f) = true) : DefF K mg "walk" (top 47) ["root", "root_path", "counts", "where", "met"] :=
  ⟨f, _, fun_mk l c k, PySem.W.mg_of X G a, k, (fun_mk l c k).binds fun _ _ _ _ _ _ us hl => match us, hl with
    | [_, _, _, _, _], _ => rfl⟩
theorem df_checked_parts {f : Addr} {oc : Value} {od an : Option Addr} {osl : Array (Option Value)} {kV doc pm cdv ct : Value} (a : PySem.W.nsIn K mainGlobals "checked_parts" = some (some (.ref f))) (l : K.lookup f = some ⟨oc, od, .func (PySem.W.fnOf "checked_parts" "checked_parts" (defArgs (top 44)) (defBody (top 44)) (defScope (top 44)) .none kV doc pm an cdv ct), osl⟩) (c : PySem.W.codeIn K cdv "checked_parts" = true) (k : PySem.W.keepIn K (.ref f) = true) : DefF K mg "checked_parts" (top 44) ["value", "where_main"] :=
  ⟨f, _, fun_mk l c k, PySem.W.mg_of X G a, k, (fun_mk l c k).binds fun _ _ _ _ _ _ us hl => match us, hl with
    | [_, _], _ => rfl⟩
theorem df_need_program {f : Addr} {oc : Value} {od an : Option Addr} {osl : Array (Option Value)} {kV doc pm cdv ct : Value} (a : PySem.W.nsIn K mainGlobals "need_program" = some (some (.ref f))) (l : K.lookup f = some ⟨oc, od, .func (PySem.W.fnOf "need_program" "need_program" (defArgs (top 54)) (defBody (top 54)) (defScope (top 54)) .none kV doc pm an cdv ct), osl⟩) (c : PySem.W.codeIn K cdv "need_program" = true) (k : PySem.W.keepIn K (.ref f) = true) : DefF K mg "need_program" (top 54) ["value"] :=
  ⟨f, _, fun_mk l c k, PySem.W.mg_of X G a, k, (fun_mk l c k).binds fun _ _ _ _ _ _ us hl => match us, hl with
    | [_], _ => rfl⟩
theorem df_paths_of_calls {f : Addr} {oc : Value} {od an : Option Addr} {osl : Array (Option Value)} {kV doc pm cdv ct : Value} (a : PySem.W.nsIn K mainGlobals "paths_of_calls" = some (some (.ref f))) (l : K.lookup f = some ⟨oc, od, .func (PySem.W.fnOf "paths_of_calls" "paths_of_calls" (defArgs (top 57)) (defBody (top 57)) (defScope (top 57)) .none kV doc pm an cdv ct), osl⟩) (c : PySem.W.codeIn K cdv "paths_of_calls" = true) (k : PySem.W.keepIn K (.ref f) = true) : DefF K mg "paths_of_calls" (top 57) ["program"] :=
  ⟨f, _, fun_mk l c k, PySem.W.mg_of X G a, k, (fun_mk l c k).binds fun _ _ _ _ _ _ us hl => match us, hl with
    | [_], _ => rfl⟩
theorem df_need_finite {f : Addr} {oc : Value} {od an : Option Addr} {osl : Array (Option Value)} {kV doc pm cdv ct : Value} (a : PySem.W.nsIn K mainGlobals "need_finite" = some (some (.ref f))) (l : K.lookup f = some ⟨oc, od, .func (PySem.W.fnOf "need_finite" "need_finite" (defArgs (top 55)) (defBody (top 55)) (defScope (top 55)) .none kV doc pm an cdv ct), osl⟩) (c : PySem.W.codeIn K cdv "need_finite" = true) (k : PySem.W.keepIn K (.ref f) = true) : DefF K mg "need_finite" (top 55) ["program"] :=
  ⟨f, _, fun_mk l c k, PySem.W.mg_of X G a, k, (fun_mk l c k).binds fun _ _ _ _ _ _ us hl => match us, hl with
    | [_], _ => rfl⟩
theorem df_is_finite {f : Addr} {oc : Value} {od an : Option Addr} {osl : Array (Option Value)} {kV doc pm cdv ct : Value} (a : PySem.W.nsIn K mainGlobals "is_finite" = some (some (.ref f))) (l : K.lookup f = some ⟨oc, od, .func (PySem.W.fnOf "is_finite" "is_finite" (defArgs (top 56)) (defBody (top 56)) (defScope (top 56)) .none kV doc pm an cdv ct), osl⟩) (c : PySem.W.codeIn K cdv "is_finite" = true) (k : PySem.W.keepIn K (.ref f) = true) : DefF K mg "is_finite" (top 56) ["program"] :=
  ⟨f, _, fun_mk l c k, PySem.W.mg_of X G a, k, (fun_mk l c k).binds fun _ _ _ _ _ _ us hl => match us, hl with
    | [_], _ => rfl⟩
theorem df_free_names {f : Addr} {oc : Value} {od an : Option Addr} {osl : Array (Option Value)} {kV doc pm cdv ct : Value} (a : PySem.W.nsIn K mainGlobals "free_names" = some (some (.ref f))) (l : K.lookup f = some ⟨oc, od, .func (PySem.W.fnOf "free_names" "free_names" (defArgs (top 58)) (defBody (top 58)) (defScope (top 58)) .none kV doc pm an cdv ct), osl⟩) (c : PySem.W.codeIn K cdv "free_names" = true) (k : PySem.W.keepIn K (.ref f) = true) : DefF K mg "free_names" (top 58) ["program"] :=
  ⟨f, _, fun_mk l c k, PySem.W.mg_of X G a, k, (fun_mk l c k).binds fun _ _ _ _ _ _ us hl => match us, hl with
    | [_], _ => rfl⟩
theorem df_parts_of {f : Addr} {oc : Value} {od an : Option Addr} {osl : Array (Option Value)} {kV doc pm cdv ct : Value} (a : PySem.W.nsIn K mainGlobals "parts_of" = some (some (.ref f))) (l : K.lookup f = some ⟨oc, od, .func (PySem.W.fnOf "parts_of" "parts_of" (defArgs (top 60)) (defBody (top 60)) (defScope (top 60)) .none kV doc pm an cdv ct), osl⟩) (c : PySem.W.codeIn K cdv "parts_of" = true) (k : PySem.W.keepIn K (.ref f) = true) : DefF K mg "parts_of" (top 60) ["program"] :=
  ⟨f, _, fun_mk l c k, PySem.W.mg_of X G a, k, (fun_mk l c k).binds fun _ _ _ _ _ _ us hl => match us, hl with
    | [_], _ => rfl⟩
theorem df_measures {f : Addr} {oc : Value} {od an : Option Addr} {osl : Array (Option Value)} {kV doc pm cdv ct : Value} (a : PySem.W.nsIn K mainGlobals "measures" = some (some (.ref f))) (l : K.lookup f = some ⟨oc, od, .func (PySem.W.fnOf "measures" "measures" (defArgs (top 59)) (defBody (top 59)) (defScope (top 59)) .none kV doc pm an cdv ct), osl⟩) (c : PySem.W.codeIn K cdv "measures" = true) (k : PySem.W.keepIn K (.ref f) = true) : DefF K mg "measures" (top 59) ["program"] :=
  ⟨f, _, fun_mk l c k, PySem.W.mg_of X G a, k, (fun_mk l c k).binds fun _ _ _ _ _ _ us hl => match us, hl with
    | [_], _ => rfl⟩
theorem df_part_at {f : Addr} {oc : Value} {od an : Option Addr} {osl : Array (Option Value)} {kV doc pm cdv ct : Value} (a : PySem.W.nsIn K mainGlobals "part_at" = some (some (.ref f))) (l : K.lookup f = some ⟨oc, od, .func (PySem.W.fnOf "part_at" "part_at" (defArgs (top 61)) (defBody (top 61)) (defScope (top 61)) .none kV doc pm an cdv ct), osl⟩) (c : PySem.W.codeIn K cdv "part_at" = true) (k : PySem.W.keepIn K (.ref f) = true) : DefF K mg "part_at" (top 61) ["program", "path"] :=
  ⟨f, _, fun_mk l c k, PySem.W.mg_of X G a, k, (fun_mk l c k).binds fun _ _ _ _ _ _ us hl => match us, hl with
    | [_, _], _ => rfl⟩
theorem df_put_at {f : Addr} {oc : Value} {od an : Option Addr} {osl : Array (Option Value)} {kV doc pm cdv ct : Value} (a : PySem.W.nsIn K mainGlobals "put_at" = some (some (.ref f))) (l : K.lookup f = some ⟨oc, od, .func (PySem.W.fnOf "put_at" "put_at" (defArgs (top 62)) (defBody (top 62)) (defScope (top 62)) .none kV doc pm an cdv ct), osl⟩) (c : PySem.W.codeIn K cdv "put_at" = true) (k : PySem.W.keepIn K (.ref f) = true) : DefF K mg "put_at" (top 62) ["program", "path", "part"] :=
  ⟨f, _, fun_mk l c k, PySem.W.mg_of X G a, k, (fun_mk l c k).binds fun _ _ _ _ _ _ us hl => match us, hl with
    | [_, _, _], _ => rfl⟩
theorem df__law_mixed {f : Addr} {oc : Value} {od an : Option Addr} {osl : Array (Option Value)} {kV doc pm cdv ct : Value} (a : PySem.W.nsIn K mainGlobals "_law_mixed" = some (some (.ref f))) (l : K.lookup f = some ⟨oc, od, .func (PySem.W.fnOf "_law_mixed" "_law_mixed" (defArgs (top 64)) (defBody (top 64)) (defScope (top 64)) .none kV doc pm an cdv ct), osl⟩) (c : PySem.W.codeIn K cdv "_law_mixed" = true) (k : PySem.W.keepIn K (.ref f) = true) : DefF K mg "_law_mixed" (top 64) ["cell", "k"] :=
  ⟨f, _, fun_mk l c k, PySem.W.mg_of X G a, k, (fun_mk l c k).binds fun _ _ _ _ _ _ us hl => match us, hl with
    | [_, _], _ => rfl⟩
theorem df__law_draw {f : Addr} {oc : Value} {od an : Option Addr} {osl : Array (Option Value)} {kV doc pm cdv ct : Value} (a : PySem.W.nsIn K mainGlobals "_law_draw" = some (some (.ref f))) (l : K.lookup f = some ⟨oc, od, .func (PySem.W.fnOf "_law_draw" "_law_draw" (defArgs (top 66)) (defBody (top 66)) (defScope (top 66)) .none kV doc pm an cdv ct), osl⟩) (c : PySem.W.codeIn K cdv "_law_draw" = true) (k : PySem.W.keepIn K (.ref f) = true) : DefF K mg "_law_draw" (top 66) ["state", "limit"] :=
  ⟨f, _, fun_mk l c k, PySem.W.mg_of X G a, k, (fun_mk l c k).binds fun _ _ _ _ _ _ us hl => match us, hl with
    | [_, _], _ => rfl⟩
theorem df__law_of {f : Addr} {oc : Value} {od an : Option Addr} {osl : Array (Option Value)} {kV doc pm cdv ct : Value} (a : PySem.W.nsIn K mainGlobals "_law_of" = some (some (.ref f))) (l : K.lookup f = some ⟨oc, od, .func (PySem.W.fnOf "_law_of" "_law_of" (defArgs (top 67)) (defBody (top 67)) (defScope (top 67)) .none kV doc pm an cdv ct), osl⟩) (c : PySem.W.codeIn K cdv "_law_of" = true) (k : PySem.W.keepIn K (.ref f) = true) : DefF K mg "_law_of" (top 67) ["state", "some"] :=
  ⟨f, _, fun_mk l c k, PySem.W.mg_of X G a, k, (fun_mk l c k).binds fun _ _ _ _ _ _ us hl => match us, hl with
    | [_, _], _ => rfl⟩
theorem df__law_branch {f : Addr} {oc : Value} {od an : Option Addr} {osl : Array (Option Value)} {kV doc pm cdv ct : Value} (a : PySem.W.nsIn K mainGlobals "_law_branch" = some (some (.ref f))) (l : K.lookup f = some ⟨oc, od, .func (PySem.W.fnOf "_law_branch" "_law_branch" (defArgs (top 68)) (defBody (top 68)) (defScope (top 68)) .none kV doc pm an cdv ct), osl⟩) (c : PySem.W.codeIn K cdv "_law_branch" = true) (k : PySem.W.keepIn K (.ref f) = true) : DefF K mg "_law_branch" (top 68) ["state", "names", "size", "calls"] :=
  ⟨f, _, fun_mk l c k, PySem.W.mg_of X G a, k, (fun_mk l c k).binds fun _ _ _ _ _ _ us hl => match us, hl with
    | [_, _, _, _], _ => rfl⟩
theorem df__law_prefix {f : Addr} {oc : Value} {od an : Option Addr} {osl : Array (Option Value)} {kV doc pm cdv ct : Value} (a : PySem.W.nsIn K mainGlobals "_law_prefix" = some (some (.ref f))) (l : K.lookup f = some ⟨oc, od, .func (PySem.W.fnOf "_law_prefix" "_law_prefix" (defArgs (top 69)) (defBody (top 69)) (defScope (top 69)) .none kV doc pm an cdv ct), osl⟩) (c : PySem.W.codeIn K cdv "_law_prefix" = true) (k : PySem.W.keepIn K (.ref f) = true) : DefF K mg "_law_prefix" (top 69) ["state", "names", "size", "calls"] :=
  ⟨f, _, fun_mk l c k, PySem.W.mg_of X G a, k, (fun_mk l c k).binds fun _ _ _ _ _ _ us hl => match us, hl with
    | [_, _, _, _], _ => rfl⟩
theorem df__law_piece {f : Addr} {oc : Value} {od an : Option Addr} {osl : Array (Option Value)} {kV doc pm cdv ct : Value} (a : PySem.W.nsIn K mainGlobals "_law_piece" = some (some (.ref f))) (l : K.lookup f = some ⟨oc, od, .func (PySem.W.fnOf "_law_piece" "_law_piece" (defArgs (top 70)) (defBody (top 70)) (defScope (top 70)) .none kV doc pm an cdv ct), osl⟩) (c : PySem.W.codeIn K cdv "_law_piece" = true) (k : PySem.W.keepIn K (.ref f) = true) : DefF K mg "_law_piece" (top 70) ["state", "names", "size", "calls", "behind"] :=
  ⟨f, _, fun_mk l c k, PySem.W.mg_of X G a, k, (fun_mk l c k).binds fun _ _ _ _ _ _ us hl => match us, hl with
    | [_, _, _, _, _], _ => rfl⟩
theorem df__law_finite {f : Addr} {oc : Value} {od an : Option Addr} {osl : Array (Option Value)} {kV doc pm cdv ct : Value} (a : PySem.W.nsIn K mainGlobals "_law_finite" = some (some (.ref f))) (l : K.lookup f = some ⟨oc, od, .func (PySem.W.fnOf "_law_finite" "_law_finite" (defArgs (top 71)) (defBody (top 71)) (defScope (top 71)) .none kV doc pm an cdv ct), osl⟩) (c : PySem.W.codeIn K cdv "_law_finite" = true) (k : PySem.W.keepIn K (.ref f) = true) : DefF K mg "_law_finite" (top 71) ["state", "many_so", "size"] :=
  ⟨f, _, fun_mk l c k, PySem.W.mg_of X G a, k, (fun_mk l c k).binds fun _ _ _ _ _ _ us hl => match us, hl with
    | [_, _, _], _ => rfl⟩
theorem df__law_told {f : Addr} {oc : Value} {od an : Option Addr} {osl : Array (Option Value)} {kV doc pm cdv ct : Value} (a : PySem.W.nsIn K mainGlobals "_law_told" = some (some (.ref f))) (l : K.lookup f = some ⟨oc, od, .func (PySem.W.fnOf "_law_told" "_law_told" (defArgs (top 72)) (defBody (top 72)) (defScope (top 72)) .none kV doc pm an cdv ct), osl⟩) (c : PySem.W.codeIn K cdv "_law_told" = true) (k : PySem.W.keepIn K (.ref f) = true) : DefF K mg "_law_told" (top 72) ["state", "many_so", "size"] :=
  ⟨f, _, fun_mk l c k, PySem.W.mg_of X G a, k, (fun_mk l c k).binds fun _ _ _ _ _ _ us hl => match us, hl with
    | [_, _, _], _ => rfl⟩
theorem df__law_program {f : Addr} {oc : Value} {od an : Option Addr} {osl : Array (Option Value)} {kV doc pm cdv ct : Value} (a : PySem.W.nsIn K mainGlobals "_law_program" = some (some (.ref f))) (l : K.lookup f = some ⟨oc, od, .func (PySem.W.fnOf "_law_program" "_law_program" (defArgs (top 80)) (defBody (top 80)) (defScope (top 80)) .none kV doc pm an cdv ct), osl⟩) (c : PySem.W.codeIn K cdv "_law_program" = true) (k : PySem.W.keepIn K (.ref f) = true) : DefF K mg "_law_program" (top 80) ["state", "size"] :=
  ⟨f, _, fun_mk l c k, PySem.W.mg_of X G a, k, (fun_mk l c k).binds fun _ _ _ _ _ _ us hl => match us, hl with
    | [_, _], _ => rfl⟩
theorem df__law_inside {f : Addr} {oc : Value} {od an : Option Addr} {osl : Array (Option Value)} {kV doc pm cdv ct : Value} (a : PySem.W.nsIn K mainGlobals "_law_inside" = some (some (.ref f))) (l : K.lookup f = some ⟨oc, od, .func (PySem.W.fnOf "_law_inside" "_law_inside" (defArgs (top 74)) (defBody (top 74)) (defScope (top 74)) .none kV doc pm an cdv ct), osl⟩) (c : PySem.W.codeIn K cdv "_law_inside" = true) (k : PySem.W.keepIn K (.ref f) = true) : DefF K mg "_law_inside" (top 74) ["piece"] :=
  ⟨f, _, fun_mk l c k, PySem.W.mg_of X G a, k, (fun_mk l c k).binds fun _ _ _ _ _ _ us hl => match us, hl with
    | [_], _ => rfl⟩
theorem df__law_listed {f : Addr} {oc : Value} {od an : Option Addr} {osl : Array (Option Value)} {kV doc pm cdv ct : Value} (a : PySem.W.nsIn K mainGlobals "_law_listed" = some (some (.ref f))) (l : K.lookup f = some ⟨oc, od, .func (PySem.W.fnOf "_law_listed" "_law_listed" (defArgs (top 75)) (defBody (top 75)) (defScope (top 75)) .none kV doc pm an cdv ct), osl⟩) (c : PySem.W.codeIn K cdv "_law_listed" = true) (k : PySem.W.keepIn K (.ref f) = true) : DefF K mg "_law_listed" (top 75) ["piece", "path"] :=
  ⟨f, _, fun_mk l c k, PySem.W.mg_of X G a, k, (fun_mk l c k).binds fun _ _ _ _ _ _ us hl => match us, hl with
    | [_, _], _ => rfl⟩
theorem df__law_whole {f : Addr} {oc : Value} {od an : Option Addr} {osl : Array (Option Value)} {kV doc pm cdv ct : Value} (a : PySem.W.nsIn K mainGlobals "_law_whole" = some (some (.ref f))) (l : K.lookup f = some ⟨oc, od, .func (PySem.W.fnOf "_law_whole" "_law_whole" (defArgs (top 76)) (defBody (top 76)) (defScope (top 76)) .none kV doc pm an cdv ct), osl⟩) (c : PySem.W.codeIn K cdv "_law_whole" = true) (k : PySem.W.keepIn K (.ref f) = true) : DefF K mg "_law_whole" (top 76) ["program"] :=
  ⟨f, _, fun_mk l c k, PySem.W.mg_of X G a, k, (fun_mk l c k).binds fun _ _ _ _ _ _ us hl => match us, hl with
    | [_], _ => rfl⟩
theorem df__law_deep {f : Addr} {oc : Value} {od an : Option Addr} {osl : Array (Option Value)} {kV doc pm cdv ct : Value} (a : PySem.W.nsIn K mainGlobals "_law_deep" = some (some (.ref f))) (l : K.lookup f = some ⟨oc, od, .func (PySem.W.fnOf "_law_deep" "_law_deep" (defArgs (top 77)) (defBody (top 77)) (defScope (top 77)) .none kV doc pm an cdv ct), osl⟩) (c : PySem.W.codeIn K cdv "_law_deep" = true) (k : PySem.W.keepIn K (.ref f) = true) : DefF K mg "_law_deep" (top 77) ["piece"] :=
  ⟨f, _, fun_mk l c k, PySem.W.mg_of X G a, k, (fun_mk l c k).binds fun _ _ _ _ _ _ us hl => match us, hl with
    | [_], _ => rfl⟩
theorem df__law_free {f : Addr} {oc : Value} {od an : Option Addr} {osl : Array (Option Value)} {kV doc pm cdv ct : Value} (a : PySem.W.nsIn K mainGlobals "_law_free" = some (some (.ref f))) (l : K.lookup f = some ⟨oc, od, .func (PySem.W.fnOf "_law_free" "_law_free" (defArgs (top 78)) (defBody (top 78)) (defScope (top 78)) .none kV doc pm an cdv ct), osl⟩) (c : PySem.W.codeIn K cdv "_law_free" = true) (k : PySem.W.keepIn K (.ref f) = true) : DefF K mg "_law_free" (top 78) ["piece"] :=
  ⟨f, _, fun_mk l c k, PySem.W.mg_of X G a, k, (fun_mk l c k).binds fun _ _ _ _ _ _ us hl => match us, hl with
    | [_], _ => rfl⟩
theorem df__law_exchanged {f : Addr} {oc : Value} {od an : Option Addr} {osl : Array (Option Value)} {kV doc pm cdv ct : Value} (a : PySem.W.nsIn K mainGlobals "_law_exchanged" = some (some (.ref f))) (l : K.lookup f = some ⟨oc, od, .func (PySem.W.fnOf "_law_exchanged" "_law_exchanged" (defArgs (top 79)) (defBody (top 79)) (defScope (top 79)) .none kV doc pm an cdv ct), osl⟩) (c : PySem.W.codeIn K cdv "_law_exchanged" = true) (k : PySem.W.keepIn K (.ref f) = true) : DefF K mg "_law_exchanged" (top 79) ["value", "path", "part"] :=
  ⟨f, _, fun_mk l c k, PySem.W.mg_of X G a, k, (fun_mk l c k).binds fun _ _ _ _ _ _ us hl => match us, hl with
    | [_, _, _], _ => rfl⟩
theorem df__law_like {f : Addr} {oc : Value} {od an : Option Addr} {osl : Array (Option Value)} {kV doc pm cdv ct : Value} (a : PySem.W.nsIn K mainGlobals "_law_like" = some (some (.ref f))) (l : K.lookup f = some ⟨oc, od, .func (PySem.W.fnOf "_law_like" "_law_like" (defArgs (top 73)) (defBody (top 73)) (defScope (top 73)) .none kV doc pm an cdv ct), osl⟩) (c : PySem.W.codeIn K cdv "_law_like" = true) (k : PySem.W.keepIn K (.ref f) = true) : DefF K mg "_law_like" (top 73) ["got", "due"] :=
  ⟨f, _, fun_mk l c k, PySem.W.mg_of X G a, k, (fun_mk l c k).binds fun _ _ _ _ _ _ us hl => match us, hl with
    | [_, _], _ => rfl⟩
theorem df__law_begin {f : Addr} {oc : Value} {od an : Option Addr} {osl : Array (Option Value)} {kV doc pm cdv ct : Value} (a : PySem.W.nsIn K mainGlobals "_law_begin" = some (some (.ref f))) (l : K.lookup f = some ⟨oc, od, .func (PySem.W.fnOf "_law_begin" "_law_begin" (defArgs (top 65)) (defBody (top 65)) (defScope (top 65)) .none kV doc pm an cdv ct), osl⟩) (c : PySem.W.codeIn K cdv "_law_begin" = true) (k : PySem.W.keepIn K (.ref f) = true) : DefF K mg "_law_begin" (top 65) ["script"] :=
  ⟨f, _, fun_mk l c k, PySem.W.mg_of X G a, k, (fun_mk l c k).binds fun _ _ _ _ _ _ us hl => match us, hl with
    | [_], _ => rfl⟩
theorem df__law_caught {f : Addr} {oc : Value} {od an : Option Addr} {osl : Array (Option Value)} {kV doc pm cdv ct : Value} (a : PySem.W.nsIn K mainGlobals "_law_caught" = some (some (.ref f))) (l : K.lookup f = some ⟨oc, od, .func (PySem.W.fnOf "_law_caught" "_law_caught" (defArgs (top 81)) (defBody (top 81)) (defScope (top 81)) .none kV doc pm an cdv ct), osl⟩) (c : PySem.W.codeIn K cdv "_law_caught" = true) (k : PySem.W.keepIn K (.ref f) = true) : DefF K mg "_law_caught" (top 81) ["call"] :=
  ⟨f, _, fun_mk l c k, PySem.W.mg_of X G a, k, (fun_mk l c k).binds fun _ _ _ _ _ _ us hl => match us, hl with
    | [_], _ => rfl⟩
end
structure AllD (K : PySem.W.Frag) (mg : Str → Option Value) : Prop where
  d_is_integer : DefF K mg "is_integer" (top 8) ["value"]
  d_is_from_zero : DefF K mg "is_from_zero" (top 9) ["value"]
  d_is_below : DefF K mg "is_below" (top 10) ["value", "end"]
  d_is_name : DefF K mg "is_name" (top 11) ["value"]
  d_is_row_of : DefF K mg "is_row_of" (top 12) ["value", "many"]
  d_is_row_up_to : DefF K mg "is_row_up_to" (top 13) ["value", "most"]
  d_are_names : DefF K mg "are_names" (top 14) ["value"]
  d_are_from_zero : DefF K mg "are_from_zero" (top 15) ["value"]
  d_are_unlike : DefF K mg "are_unlike" (top 16) ["row"]
  d_parts_below : DefF K mg "parts_below" (top 24) ["piece"]
  d_with_part_at : DefF K mg "with_part_at" (top 25) ["whole", "path", "part"]
  d_bound_name : DefF K mg "bound_name" (top 26) ["piece"]
  d_bound_names : DefF K mg "bound_names" (top 27) ["piece"]
  d_own_names : DefF K mg "own_names" (top 28) ["piece"]
  d_free_of : DefF K mg "free_of" (top 29) ["piece"]
  d_depth_below : DefF K mg "depth_below" (top 30) ["piece"]
  d_is_call : DefF K mg "is_call" (top 52) ["number", "names", "counts"]
  d_has_form : DefF K mg "has_form" (top 50) ["value", "counts"]
  d_has_form_of_row : DefF K mg "has_form_of_row" (top 51) ["value"]
  d_is_hole : DefF K mg "is_hole" (top 49) ["value"]
  d_is_let : DefF K mg "is_let" (top 48) ["part", "counts", "where", "branch_due", "guarded"]
  d_are_params : DefF K mg "are_params" (top 46) ["value"]
  d_need_definitions : DefF K mg "need_definitions" (top 45) ["value"]
  d_walk : DefF K mg "walk" (top 47) ["root", "root_path", "counts", "where", "met"]
  d_checked_parts : DefF K mg "checked_parts" (top 44) ["value", "where_main"]
  d_need_program : DefF K mg "need_program" (top 54) ["value"]
  d_paths_of_calls : DefF K mg "paths_of_calls" (top 57) ["program"]
  d_need_finite : DefF K mg "need_finite" (top 55) ["program"]
  d_is_finite : DefF K mg "is_finite" (top 56) ["program"]
  d_free_names : DefF K mg "free_names" (top 58) ["program"]
  d_parts_of : DefF K mg "parts_of" (top 60) ["program"]
  d_measures : DefF K mg "measures" (top 59) ["program"]
  d_part_at : DefF K mg "part_at" (top 61) ["program", "path"]
  d_put_at : DefF K mg "put_at" (top 62) ["program", "path", "part"]
  d__law_mixed : DefF K mg "_law_mixed" (top 64) ["cell", "k"]
  d__law_draw : DefF K mg "_law_draw" (top 66) ["state", "limit"]
  d__law_of : DefF K mg "_law_of" (top 67) ["state", "some"]
  d__law_branch : DefF K mg "_law_branch" (top 68) ["state", "names", "size", "calls"]
  d__law_prefix : DefF K mg "_law_prefix" (top 69) ["state", "names", "size", "calls"]
  d__law_piece : DefF K mg "_law_piece" (top 70) ["state", "names", "size", "calls", "behind"]
  d__law_finite : DefF K mg "_law_finite" (top 71) ["state", "many_so", "size"]
  d__law_told : DefF K mg "_law_told" (top 72) ["state", "many_so", "size"]
  d__law_program : DefF K mg "_law_program" (top 80) ["state", "size"]
  d__law_inside : DefF K mg "_law_inside" (top 74) ["piece"]
  d__law_listed : DefF K mg "_law_listed" (top 75) ["piece", "path"]
  d__law_whole : DefF K mg "_law_whole" (top 76) ["program"]
  d__law_deep : DefF K mg "_law_deep" (top 77) ["piece"]
  d__law_free : DefF K mg "_law_free" (top 78) ["piece"]
  d__law_exchanged : DefF K mg "_law_exchanged" (top 79) ["value", "path", "part"]
  d__law_like : DefF K mg "_law_like" (top 73) ["got", "due"]
  d__law_begin : DefF K mg "_law_begin" (top 65) ["script"]
  d__law_caught : DefF K mg "_law_caught" (top 81) ["call"]
  Z : Glo K mg
  b_repr : mg "repr" = none
  b_dict : mg "dict" = none
theorem At.hasQ {P : Program} {w : World} {K : PySem.W.Frag} {mg : Str → Option Value} {base : Heap} {C : Cls} {us : Bool} {okT : Tbs → Prop} {x : Str} {f : Addr} {fd : FuncData} {ps : List Str} {k n : Nat} {g : GF} (a : At K mg x f fd ps) (F : FnG P w K mg base (L2.CX P w) k f fd ps (spG K C us false okT n g)) : HasQ P w K mg base C us okT x k n g :=
  ⟨f, fd, ps, F, a.m, a.k, a.b⟩
section
variable {P : Program} {w : World} {K : PySem.W.Frag} {mg : Str → Option Value} {base : Heap} {C : Cls}
theorem law_all (A : AllD K mg) {B : Addr} {cE : Nat → Addr} (Ze : Errs K mg C B cE) (hts : Tells K C clauL (tellL cE)) (x_BadPiece : ErrX P w K mg base C 1 "BadPiece") (x_BadProgram : ErrX P w K mg base C 2 "BadProgram") (x_BadIndex : ErrX P w K mg base C 3 "BadIndex") (x_NotFinite : ErrX P w K mg base C 4 "NotFinite") (x_TooGreat : ErrX P w K mg base C 5 "TooGreat")
    {f c Pt fp cp Pp : Addr} {oc : Value} {od an : Option Addr} {osl : Array (Option Value)} {kV doc pm ct : Value} {oc2 : Value} {od2 an2 : Option Addr} {osl2 : Array (Option Value)} {kV2 doc2 pm2 ct2 : Value}
    (lk : K.lookup f = some ⟨oc, od, .func (PySem.W.fnOf "law" "law" (defArgs (top 83)) (defBody (top 83)) (defScope (top 83)) .none kV doc pm an (.ref c) ct), osl⟩) (hcd : PySem.W.codeIn K (.ref c) "law" = true)
    (lk2 : K.lookup fp = some ⟨oc2, od2, .func (PySem.W.fnOf "_law_put_right" "_law_put_right" (defArgs (top 82)) (defBody (top 82)) (defScope (top 82)) .none kV2 doc2 pm2 an2 (.ref cp) ct2), osl2⟩) (hcd2 : PySem.W.codeIn K (.ref cp) "_law_put_right" = true)
    (m2 : mg "_law_put_right" = some (.ref fp)) (kp2 : PySem.W.keepIn K (.ref fp) = true) (hne : Pt ≠ Pp) (TB : LamX.TabB base mg c Pt) (TB2 : LamX.TabB base mg cp Pp) :
    FnG P w K mg base (L2.CX P w) 73 f (PySem.W.fnOf "law" "law" (defArgs (top 83)) (defBody (top 83)) (defScope (top 83)) .none kV doc pm an (.ref c) ct) ["script"] (spLaw K Pt Pp) := by
  obtain ⟨f_is_integer, fd_is_integer, F_is_integer, A_is_integer⟩ := A.d_is_integer.ex
  have h_is_integer : Has P w K mg base C "is_integer" 1 1 g_is_integer := A_is_integer.has rfl (ok_is_integer F_is_integer A.Z)
  obtain ⟨f_is_from_zero, fd_is_from_zero, F_is_from_zero, A_is_from_zero⟩ := A.d_is_from_zero.ex
  have h_is_from_zero : Has P w K mg base C "is_from_zero" 2 1 g_is_from_zero := A_is_from_zero.has rfl (ok_is_from_zero F_is_from_zero A.Z h_is_integer)
  obtain ⟨f_is_below, fd_is_below, F_is_below, A_is_below⟩ := A.d_is_below.ex
  have h_is_below : Has P w K mg base C "is_below" 3 2 g_is_below := A_is_below.has rfl (ok_is_below F_is_below A.Z h_is_from_zero)
  obtain ⟨f_is_name, fd_is_name, F_is_name, A_is_name⟩ := A.d_is_name.ex
  have h_is_name : Has P w K mg base C "is_name" 4 1 g_is_name := A_is_name.has rfl (ok_is_name F_is_name A.Z h_is_below)
  obtain ⟨f_is_row_of, fd_is_row_of, F_is_row_of, A_is_row_of⟩ := A.d_is_row_of.ex
  have h_is_row_of : Has P w K mg base C "is_row_of" 1 2 g_is_row_of := A_is_row_of.has rfl (ok_is_row_of F_is_row_of A.Z)
  obtain ⟨f_is_row_up_to, fd_is_row_up_to, F_is_row_up_to, A_is_row_up_to⟩ := A.d_is_row_up_to.ex
  have h_is_row_up_to : Has P w K mg base C "is_row_up_to" 1 2 g_is_row_up_to := A_is_row_up_to.has rfl (ok_is_row_up_to F_is_row_up_to A.Z)
  obtain ⟨f_are_names, fd_are_names, F_are_names, A_are_names⟩ := A.d_are_names.ex
  have h_are_names : Has P w K mg base C "are_names" 5 1 g_are_names := A_are_names.has rfl (ok_are_names F_are_names A.Z h_is_name)
  obtain ⟨f_are_from_zero, fd_are_from_zero, F_are_from_zero, A_are_from_zero⟩ := A.d_are_from_zero.ex
  have h_are_from_zero : Has P w K mg base C "are_from_zero" 3 1 g_are_from_zero := A_are_from_zero.has rfl (ok_are_from_zero F_are_from_zero A.Z h_is_from_zero)
  obtain ⟨f_are_unlike, fd_are_unlike, F_are_unlike, A_are_unlike⟩ := A.d_are_unlike.ex
  have h_are_unlike : Has P w K mg base C "are_unlike" 1 1 g_are_unlike := A_are_unlike.has rfl (ok_are_unlike F_are_unlike A.Z)
  obtain ⟨f_parts_below, fd_parts_below, F_parts_below, A_parts_below⟩ := A.d_parts_below.ex
  have h_parts_below : Has P w K mg base C "parts_below" 1 1 g_parts_below := A_parts_below.has rfl (ok_parts_below F_parts_below A.Z)
  obtain ⟨f_with_part_at, fd_with_part_at, F_with_part_at, A_with_part_at⟩ := A.d_with_part_at.ex
  have h_with_part_at : Has P w K mg base C "with_part_at" 41 3 (g_with_part_at 40) := A_with_part_at.has rfl (ok_with_part_at F_with_part_at A_with_part_at A.Z 40)
  obtain ⟨f_bound_name, fd_bound_name, F_bound_name, A_bound_name⟩ := A.d_bound_name.ex
  have h_bound_name : Has P w K mg base C "bound_name" 1 1 g_bound_name := A_bound_name.has rfl (ok_bound_name F_bound_name A.Z)
  obtain ⟨f_bound_names, fd_bound_names, F_bound_names, A_bound_names⟩ := A.d_bound_names.ex
  have h_bound_names : Has P w K mg base C "bound_names" 2 1 g_bound_names := A_bound_names.has rfl (ok_bound_names F_bound_names A.Z h_bound_name)
  obtain ⟨f_own_names, fd_own_names, F_own_names, A_own_names⟩ := A.d_own_names.ex
  have h_own_names : Has P w K mg base C "own_names" 1 1 g_own_names := A_own_names.has rfl (ok_own_names F_own_names A.Z)
  obtain ⟨f_free_of, fd_free_of, F_free_of, A_free_of⟩ := A.d_free_of.ex
  have h_free_of : Has P w K mg base C "free_of" 33 1 (g_free_of 30) := A_free_of.has rfl (ok_free_of F_free_of A_free_of A.Z h_own_names h_bound_names h_parts_below 30)
  obtain ⟨f_depth_below, fd_depth_below, F_depth_below, A_depth_below⟩ := A.d_depth_below.ex
  have h_depth_below : Has P w K mg base C "depth_below" 32 1 (g_depth_below 30) := A_depth_below.has rfl (ok_depth_below F_depth_below A_depth_below A.Z h_parts_below 30)
  obtain ⟨f_is_call, fd_is_call, F_is_call, A_is_call⟩ := A.d_is_call.ex
  have h_is_call : Has P w K mg base C "is_call" 6 3 g_is_call := A_is_call.has rfl (ok_is_call F_is_call A.Z h_is_below h_is_row_of h_are_names)
  obtain ⟨f_has_form, fd_has_form, F_has_form, A_has_form⟩ := A.d_has_form.ex
  have h_has_form : Has P w K mg base C "has_form" 7 2 g_has_form := A_has_form.has rfl (ok_has_form F_has_form A.Z h_is_row_of h_is_name h_is_row_up_to h_is_call)
  obtain ⟨f_has_form_of_row, fd_has_form_of_row, F_has_form_of_row, A_has_form_of_row⟩ := A.d_has_form_of_row.ex
  have h_has_form_of_row : Has P w K mg base C "has_form_of_row" 6 1 g_has_form_of_row := A_has_form_of_row.has rfl (ok_has_form_of_row F_has_form_of_row A.Z h_is_row_of h_is_name h_is_row_up_to h_are_names h_are_unlike)
  obtain ⟨f_is_hole, fd_is_hole, F_is_hole, A_is_hole⟩ := A.d_is_hole.ex
  have h_is_hole : Has P w K mg base C "is_hole" 2 1 g_is_hole := A_is_hole.has rfl (ok_is_hole F_is_hole A.Z h_is_row_of)
  obtain ⟨f_is_let, fd_is_let, F_is_let, A_is_let⟩ := A.d_is_let.ex
  have h_is_let : Has P w K mg base C "is_let" 8 5 g_is_let := A_is_let.has rfl (ok_is_let F_is_let A.Z h_is_hole h_has_form h_has_form_of_row)
  obtain ⟨f_are_params, fd_are_params, F_are_params, A_are_params⟩ := A.d_are_params.ex
  have h_are_params : Has P w K mg base C "are_params" 6 1 g_are_params := A_are_params.has rfl (ok_are_params F_are_params A.Z h_is_row_up_to h_are_names h_are_unlike)
  obtain ⟨f_need_definitions, fd_need_definitions, F_need_definitions, A_need_definitions⟩ := A.d_need_definitions.ex
  have h_need_definitions : Has P w K mg base C "need_definitions" 7 1 g_need_definitions := A_need_definitions.has rfl (ok_need_definitions F_need_definitions A.Z h_is_row_of h_is_row_up_to h_are_params x_BadProgram)
  obtain ⟨f_walk, fd_walk, F_walk, A_walk⟩ := A.d_walk.ex
  have h_walk : HasG P w K mg base C false true "walk" 9 4 g_walk := A_walk.hasG (ok_walk F_walk A.Z h_is_let h_parts_below x_TooGreat x_BadPiece)
  obtain ⟨f_checked_parts, fd_checked_parts, F_checked_parts, A_checked_parts⟩ := A.d_checked_parts.ex
  have h_checked_parts : Has P w K mg base C "checked_parts" 34 2 g_checked_parts := A_checked_parts.has rfl (ok_checked_parts F_checked_parts A.Z h_need_definitions h_free_of h_walk x_BadProgram)
  obtain ⟨f_need_program, fd_need_program, F_need_program, A_need_program⟩ := A.d_need_program.ex
  have h_need_program : Has P w K mg base C "need_program" 35 1 g_need_program := A_need_program.has rfl (ok_need_program F_need_program A.Z h_checked_parts)
  obtain ⟨f_paths_of_calls, fd_paths_of_calls, F_paths_of_calls, A_paths_of_calls⟩ := A.d_paths_of_calls.ex
  have h_paths_of_calls : Has P w K mg base C "paths_of_calls" 35 1 g_paths_of_calls := A_paths_of_calls.has rfl (ok_paths_of_calls F_paths_of_calls A.Z h_checked_parts)
  obtain ⟨f_need_finite, fd_need_finite, F_need_finite, A_need_finite⟩ := A.d_need_finite.ex
  have h_need_finite : Has P w K mg base C "need_finite" 36 1 g_need_finite := A_need_finite.has rfl (ok_need_finite F_need_finite A.Z h_paths_of_calls x_NotFinite)
  obtain ⟨f_is_finite, fd_is_finite, F_is_finite, A_is_finite⟩ := A.d_is_finite.ex
  have h_is_finite : Has P w K mg base C "is_finite" 36 1 g_is_finite := A_is_finite.has rfl (ok_is_finite F_is_finite A.Z h_paths_of_calls)
  obtain ⟨f_free_names, fd_free_names, F_free_names, A_free_names⟩ := A.d_free_names.ex
  have h_free_names : Has P w K mg base C "free_names" 36 1 g_free_names := A_free_names.has rfl (ok_free_names F_free_names A.Z h_free_of h_need_program)
  obtain ⟨f_parts_of, fd_parts_of, F_parts_of, A_parts_of⟩ := A.d_parts_of.ex
  have h_parts_of : Has P w K mg base C "parts_of" 35 1 g_parts_of := A_parts_of.has rfl (ok_parts_of F_parts_of A.Z h_checked_parts)
  obtain ⟨f_measures, fd_measures, F_measures, A_measures⟩ := A.d_measures.ex
  have h_measures : Has P w K mg base C "measures" 36 1 g_measures := A_measures.has rfl (ok_measures F_measures A.Z h_parts_of h_depth_below)
  obtain ⟨f_part_at, fd_part_at, F_part_at, A_part_at⟩ := A.d_part_at.ex
  have h_part_at : Has P w K mg base C "part_at" 51 2 g_part_at := A_part_at.has rfl (ok_part_at F_part_at A.Z A.b_dict (h_parts_of.up (by decide)) h_are_from_zero x_BadIndex)
  obtain ⟨f_put_at, fd_put_at, F_put_at, A_put_at⟩ := A.d_put_at.ex
  have h_put_at : Has P w K mg base C "put_at" 60 3 (g_put_at g_part_at) := A_put_at.has rfl (ok_put_at (kn := 35) (by decide) F_put_at (h_part_at.up (by decide)) h_need_program h_with_part_at)
  obtain ⟨f__law_mixed, fd__law_mixed, F__law_mixed, A__law_mixed⟩ := A.d__law_mixed.ex
  have h__law_mixed : Has P w K mg base C "_law_mixed" 1 2 g__law_mixed := A__law_mixed.has rfl (ok__law_mixed F__law_mixed A.Z)
  obtain ⟨f__law_draw, fd__law_draw, F__law_draw, A__law_draw⟩ := A.d__law_draw.ex
  have h__law_draw : HasG P w K mg base C true false "_law_draw" 2 1 g__law_draw := A__law_draw.hasG (ok__law_draw F__law_draw A.Z h__law_mixed)
  obtain ⟨f__law_of, fd__law_of, F__law_of, A__law_of⟩ := A.d__law_of.ex
  have h__law_of : HasG P w K mg base C true false "_law_of" 3 1 g__law_of := A__law_of.hasG (ok__law_of F__law_of A.Z h__law_draw)
  obtain ⟨f__law_branch, fd__law_branch, F__law_branch, A__law_branch⟩ := A.d__law_branch.ex
  obtain ⟨f__law_prefix, fd__law_prefix, F__law_prefix, A__law_prefix⟩ := A.d__law_prefix.ex
  obtain ⟨f__law_piece, fd__law_piece, F__law_piece, A__law_piece⟩ := A.d__law_piece.ex
  have h__law_piece : HasG P w K mg base C true false "_law_piece" 24 4 (g__law_piece 20) := A__law_piece.hasG (ok_group F__law_branch A__law_branch F__law_prefix A__law_prefix F__law_piece A__law_piece A.Z h__law_draw h__law_of 20).2.2
  obtain ⟨f__law_finite, fd__law_finite, F__law_finite, A__law_finite⟩ := A.d__law_finite.ex
  have h__law_finite : HasG P w K mg base C true false "_law_finite" 25 2 g__law_finite := A__law_finite.hasG (ok__law_finite F__law_finite A.Z h__law_draw h__law_piece)
  obtain ⟨f__law_told, fd__law_told, F__law_told, A__law_told⟩ := A.d__law_told.ex
  have h__law_told : HasG P w K mg base C true false "_law_told" 25 2 g__law_told := A__law_told.hasG (ok__law_told F__law_told A.Z h__law_draw h__law_piece h__law_of)
  obtain ⟨f__law_program, fd__law_program, F__law_program, A__law_program⟩ := A.d__law_program.ex
  have h__law_program : HasG P w K mg base C true false "_law_program" 26 1 g__law_program := A__law_program.hasG (ok__law_program F__law_program A.Z h__law_draw h__law_finite h__law_told)
  obtain ⟨f__law_inside, fd__law_inside, F__law_inside, A__law_inside⟩ := A.d__law_inside.ex
  have h__law_inside : Has P w K mg base C "_law_inside" 1 1 g__law_inside := A__law_inside.has rfl (ok__law_inside F__law_inside A.Z)
  obtain ⟨f__law_listed, fd__law_listed, F__law_listed, A__law_listed⟩ := A.d__law_listed.ex
  have h__law_listed : Has P w K mg base C "_law_listed" 32 2 (g__law_listed 30) := A__law_listed.has rfl (ok__law_listed F__law_listed A__law_listed A.Z h__law_inside 30)
  obtain ⟨f__law_whole, fd__law_whole, F__law_whole, A__law_whole⟩ := A.d__law_whole.ex
  have h__law_whole : Has P w K mg base C "_law_whole" 33 1 g__law_whole := A__law_whole.has rfl (ok__law_whole F__law_whole A.Z h__law_listed)
  obtain ⟨f__law_deep, fd__law_deep, F__law_deep, A__law_deep⟩ := A.d__law_deep.ex
  have h__law_deep : Has P w K mg base C "_law_deep" 32 1 (g__law_deep 30) := A__law_deep.has rfl (ok__law_deep F__law_deep A__law_deep A.Z h__law_inside 30)
  obtain ⟨f__law_free, fd__law_free, F__law_free, A__law_free⟩ := A.d__law_free.ex
  have h__law_free : Has P w K mg base C "_law_free" 32 1 (g__law_free 30) := A__law_free.has rfl (ok__law_free F__law_free A__law_free A.Z h__law_inside 30)
  obtain ⟨f__law_exchanged, fd__law_exchanged, F__law_exchanged, A__law_exchanged⟩ := A.d__law_exchanged.ex
  have h__law_exchanged : Has P w K mg base C "_law_exchanged" 41 3 (g__law_exchanged 40) := A__law_exchanged.has rfl (ok__law_exchanged F__law_exchanged A__law_exchanged A.Z 40)
  obtain ⟨f__law_like, fd__law_like, F__law_like, A__law_like⟩ := A.d__law_like.ex
  have h__law_like : HasQ P w K mg base C false (fun _ => True) "_law_like" 1 2 g__law_like := A__law_like.hasQ (ok__law_like F__law_like A.b_repr)
  obtain ⟨fb, fdb, Fb, ab⟩ := A.d__law_begin.ex
  obtain ⟨fc, fdc, Fc, ac⟩ := A.d__law_caught.ex
  have b2 : Binds K (PySem.W.fnOf "_law_put_right" "_law_put_right" (defArgs (top 82)) (defBody (top 82)) (defScope (top 82)) .none kV2 doc2 pm2 an2 (.ref cp) ct2) ["state", "program", "rows"] [] := .all fun us hl => match us, hl with
    | [_, _, _], _ => rfl
  have h__law_put_right : HasQ P w K mg base C true (okT__law_put_right Pp) "_law_put_right" 71 2 (g__law_put_right (g_put_at g_part_at)) := At.hasQ ⟨m2, kp2, b2⟩ (ok__law_put_right lk2 hcd2 Fc ac Ze hts TB2 A.Z h_put_at h__law_like h__law_of h__law_exchanged h__law_free h__law_whole h__law_deep)
  exact ok_law lk hcd hne Fb ab Fc ac Ze hts TB A.Z (h_need_program.up (by decide)) (h_parts_of.up (by decide)) (h_measures.up (by decide)) (h_free_names.up (by decide)) (h_is_finite.up (by decide)) (h_need_finite.up (by decide)) (h_part_at.up (by decide)) h_put_at (h__law_whole.up (by decide)) (h__law_deep.up (by decide)) (h__law_free.up (by decide)) (h__law_program.up (by decide)) (h__law_of.up (by decide)) h__law_like h__law_put_right
end
end Pn

set_option maxHeartbeats 4000003
namespace Pn
open L2 PyProof.Rows PySem.Spec PySem
section
variable {K : PySem.W.Frag} {h : Heap} {mg : Str → Option Value} (X : K.In h) (G : h.Ns mainGlobals mg)
include X G
theorem glo_int {x : Str} {i : Int} {t : Nat} (e : PySem.W.nsIn K mainGlobals x = some (some (.int i t))) : GloD K mg x (.int i) := ⟨.int i, _, PySem.W.mg_of X G e, ⟨t, rfl⟩, .int i⟩
theorem glo_str {x y : Str} {t : Nat} (e : PySem.W.nsIn K mainGlobals x = some (some (.str y t))) : GloD K mg x (.str y) := ⟨.str y, _, PySem.W.mg_of X G e, ⟨t, rfl⟩, .str y⟩
theorem glo_tup {x : Str} {a : Addr} {od : Option Addr} {its : Array Value} {n : Nat} {sl : Array (Option Value)} {ws : List Str} (e : PySem.W.nsIn K mainGlobals x = some (some (.ref a))) (l : K.lookup a = some ⟨.type "tuple", od, .seq its n, sl⟩) (v : Vals (ws.map V.str) its.toList) (hl : ws.length ≤ 1000) : GloD K mg x (.tuple (ws.map PyData.str)) := by
  have q : ∀ ws : List Str, RpA K (fun _ => none) (ws.map V.str) (ws.map PyData.str) := by
    intro ws
    induction ws with
    | nil => exact .nil
    | cons w ws ih => exact .cons (.str w) ih
  refine ⟨.ref a, _, PySem.W.mg_of X G e, rfl, .tup (.inr ⟨_, its, n, l, rfl, rfl, ?_, v⟩) (q ws)⟩
  have z := Vals.length v
  rw [List.length_map] at z
  have z2 : its.toList.length = its.size := Array.length_toList
  exact Nat.le_of_lt (small1000 (by omega))
end
def initSt : Stmt → Stmt
  | .ClassDef _ _ _ b _ _ _ _ _ _ _ => b.getD 0 (.Pass ⟨0, 0, 0, 0⟩)
  | s => s
theorem kit_of {K : PySem.W.Frag} {A S : Addr} (h2 : PySem.W.isClsIn K S = true) (h3 : PySem.W.typeIn K (.ref S) = some (.type "type")) : PySem.W.kitCls K (.ref A) (.ref S) = PySem.W.subIn K (.ref A) (.ref S) := by
  have e2 : (((PySem.W.clsIn K S).isSome && PySem.W.typeIn K (.ref S) == some (.type "type")) = true) := by
    have h2' : ((PySem.W.clsIn K S).isSome = true) := h2
    rw [h2', h3] <;> rfl
  show (if ((PySem.W.clsIn K S).isSome && PySem.W.typeIn K (.ref S) == some (.type "type")) = true then PySem.W.subIn K (.ref A) (.ref S) else none) = _
  rw [if_pos e2]
theorem exm_is {K : PySem.W.Frag} {A S : Addr} {b : Bool} (h1 : PySem.W.subIn K (.ref S) (.type "BaseException") = some true) (h2 : PySem.W.isClsIn K S = true) (h3 : PySem.W.typeIn K (.ref S) = some (.type "type")) (h4 : PySem.W.subIn K (.ref A) (.ref S) = some b) : PySem.W.exmOne K (.ref A) (.ref S) = some b := by
  have e1 : ((PySem.W.subIn K (.ref S) (.type "BaseException") == some true) = true) := by rw [h1] <;> rfl
  show (if (PySem.W.subIn K (.ref S) (.type "BaseException") == some true) = true then PySem.W.kitCls K (.ref A) (.ref S) else none) = _
  rw [if_pos e1, kit_of h2 h3, h4]
theorem kit_is {K : PySem.W.Frag} {A S : Addr} (ne : A ≠ S) (h2 : PySem.W.isClsIn K S = true) (h3 : PySem.W.typeIn K (.ref S) = some (.type "type")) (h4 : PySem.W.subIn K (.ref A) (.ref S) = some true) : PySem.W.kitOne K (.ref A) (.ref S) = some true := by
  have e : ((Value.ref A) == (Value.ref S)) = false := beq_eq_false_iff_ne.mpr fun z => ne (Value.ref.inj z)
  show (if ((Value.ref A) == (Value.ref S)) = true then some true else PySem.W.kitCls K (.ref A) (.ref S)) = _
  rw [e, if_neg (by decide), kit_of h2 h3, h4]
/-- what the written part says of an error's class -/
structure ErrK (K : PySem.W.Frag) (mg : Str → Option Value) (C B : Addr) (x f : Str) (qual : Str) (st : Stmt) : Prop where
  g : mg x = some (.ref C)
  ox : OexC K C
  ini : ∃ (fI : Addr) (fd : FuncData), PySem.W.findIn K (.ref C) "__init__" = some (some (.ref fI)) ∧ PySem.W.typeIn K (.ref fI) = some (.type "function") ∧ Fun K "__init__" qual st fI fd
  no : PySem.W.findIn K (.ref C) f = some none
  ef : PnCt.ErrF K C B f
  iC : PySem.W.isClsIn K C = true
  (tyC : PySem.W.typeIn K (.ref C) = some (.type "type"))
  eC : PySem.W.subIn K (.ref C) (.type "BaseException") = some true
  sC : PySem.W.subIn K (.ref C) (.ref C) = some true
theorem err_mk {K : PySem.W.Frag} {h : Heap} {mg : Str → Option Value} {x f qual : Str} {st : Stmt} (X : K.In h) (G : h.Ns mainGlobals mg) {C B fI : Addr} {nm q : Str} {N : Addr} {bs bm : List Value} {sn : List Str} {sub : List Value} {ab : Bool} {col : Option Bool} {dd : Option Addr} {m0 m1 m2 m3 m5 : Option Value}
    {oc : Value} {od an : Option Addr} {osl : Array (Option Value)} {kV doc pm cdv ct : Value}
    (aC : PySem.W.nsIn K mainGlobals x = some (some (.ref C))) (aB : PySem.W.nsIn K mainGlobals "PassError" = some (some (.ref B)))
    (xL : K.lookup C = some (excClassObj nm q C N bs bm true sn sub ab col dd m0 m1 m2 m3 m5 "ValueError.__new__")) (rf : PySem.HandSPX.refsVE bm = true)
    (sa : PySem.W.findIn K (.ref C) "__setattr__" = some (some (.builtin "object.__setattr__"))) (ga : PySem.W.findIn K (.ref C) "__getattribute__" = some (some (.builtin "BaseException.__getattribute__"))) (gg : PySem.W.findIn K (.ref C) "__getattr__" = some none) (no : PySem.W.findIn K (.ref C) f = some none)
    (a1 : PySem.W.findIn K (.ref C) "__init__" = some (some (.ref fI))) (t1 : PySem.W.typeIn K (.ref fI) = some (.type "function"))
    (l1 : K.lookup fI = some ⟨oc, od, .func (PySem.W.fnOf "__init__" qual (defArgs st) (defBody st) (defScope st) .none kV doc pm an cdv ct), osl⟩) (c1 : PySem.W.codeIn K cdv qual = true) (k1 : PySem.W.keepIn K (.ref fI) = true)
    (kC : PySem.W.keepIn K (.ref C) = true)
    (eC : PySem.W.subIn K (.ref C) (.type "BaseException") = some true) (tC : PySem.W.typeIn K (.ref C) = some (.type "type")) (hC : PySem.W.hasDictIn K C = true) (iC : PySem.W.isClsIn K C = true) (sC : PySem.W.subIn K (.ref C) (.ref C) = some true)
    (iB : PySem.W.isClsIn K B = true) (tB : PySem.W.typeIn K (.ref B) = some (.type "type")) (sB : PySem.W.subIn K (.ref C) (.ref B) = some true) (ne : C ≠ B)
    (ca : PySem.W.findIn K (.ref C) "__class__" = some (some (.builtin "object.__class__"))) (gt : PySem.W.specialIn K (.builtin "object.__class__") "__get__" = some (some (.builtin "getset_descriptor.__get__"))) (tk : PySem.W.takesIn K (.builtin "object.__class__") = some true) (mo : PySem.W.mroIn K C (.type "object") = some true) :
    mg "PassError" = some (.ref B) ∧ ErrK K mg C B x f qual st :=
  ⟨PySem.W.mg_of X G aB, PySem.W.mg_of X G aC, ⟨⟨nm, q, N, bs, bm, sn, sub, ab, col, dd, m0, m1, m2, m3, m5, xL, rf⟩, sa, eC, tC, kC⟩, ⟨fI, _, a1, t1, fun_mk l1 c1 k1⟩, no,
    ⟨⟨ga, gg, eC, hC⟩, no, iC, ca, gt, tk, mo, kit_is ne iB tB sB⟩, iC, tC, eC, sC⟩
theorem errx_of {P : Program} {w : World} {K : PySem.W.Frag} {mg : Str → Option Value} {base : Heap} {C : Cls} {k : Nat} {Ca B : Addr} {x f p qual : Str} {st : Stmt} (E : ErrK K mg Ca B x f qual st) (e1 : C.at_ k = .ref Ca) (e2 : C.fld k = f) (S : FnScope [("self" : Str), p] [("self" : Str), p] (defScope st))
    (hb : ∃ p1 p2 p3 p4, defBody st = [.Assign [.Attribute (.Name "self" p1) f p2] (.Name p p3) p4]) (hx : (p == ("__debug__" : Str)) = false) (hx2 : (p == ("__classdict__" : Str)) = false) (hv0 : Vis (defScope st) "self") (hv1 : Vis (defScope st) p)
    (hbd : ∀ (kV doc pm : Value) (an : Option Addr) (cdv ct : Value) (us : List Value), us.length = 2 → bindArgs (PySem.W.fnOf "__init__" qual (defArgs st) (defBody st) (defScope st) .none kV doc pm an cdv ct) ⟨us, []⟩ = pure ([("self" : Str), p].zip us)) : ErrX P w K mg base C k x := by
  obtain ⟨fI, fd, i1, t1, F⟩ := E.ini
  have ok := ok_exInit (P := P) (w := w) (mg := mg) (base := base) F S hb hx hx2 hv0 hv1 E.ox E.no
  rw [← e2] at ok
  exact ⟨Ca, fI, fd, [("self" : Str), p], e1, E.ox, i1, t1, ok, F.binds hbd, E.g⟩

abbrev st_BadPiece : Stmt := initSt (top 2)
theorem sc_BadPiece : FnScope ["self", "path"] ["self", "path"] (defScope st_BadPiece) := ⟨rfl, rfl, rfl, by decide +kernel, rfl, by decide +kernel, by decide +kernel⟩
abbrev st_BadProgram : Stmt := initSt (top 3)
theorem sc_BadProgram : FnScope ["self", "place"] ["self", "place"] (defScope st_BadProgram) := ⟨rfl, rfl, rfl, by decide +kernel, rfl, by decide +kernel, by decide +kernel⟩
abbrev st_BadIndex : Stmt := initSt (top 4)
theorem sc_BadIndex : FnScope ["self", "value"] ["self", "value"] (defScope st_BadIndex) := ⟨rfl, rfl, rfl, by decide +kernel, rfl, by decide +kernel, by decide +kernel⟩
abbrev st_NotFinite : Stmt := initSt (top 5)
theorem sc_NotFinite : FnScope ["self", "path"] ["self", "path"] (defScope st_NotFinite) := ⟨rfl, rfl, rfl, by decide +kernel, rfl, by decide +kernel, by decide +kernel⟩
abbrev st_TooGreat : Stmt := initSt (top 6)
theorem sc_TooGreat : FnScope ["self", "most"] ["self", "most"] (defScope st_TooGreat) := ⟨rfl, rfl, rfl, by decide +kernel, rfl, by decide +kernel, by decide +kernel⟩
def clsOf (c1 c2 c3 c4 c5 : Addr) : Cls where
  at_ := fun k => match k with
    | 1 => .ref c1
    | 2 => .ref c2
    | 3 => .ref c3
    | 4 => .ref c4
    | 5 => .ref c5
    | _ => .none
  fld := fun k => match k with
    | 1 => "path"
    | 2 => "place"
    | 3 => "value"
    | 4 => "path"
    | 5 => "most"
    | _ => ""
def celOf (c1 c2 c3 c4 c5 : Addr) (i : Nat) : Addr := match i with
  | 0 => c1
  | 1 => c2
  | 2 => c3
  | 3 => c4
  | _ => c5
/-- of two errors' classes none is beneath the other -/
structure Apart (K : PySem.W.Frag) (a b : Addr) : Prop where
  ab : PySem.W.subIn K (.ref b) (.ref a) = some false
section
variable {P : Program} {w : World} {K : PySem.W.Frag} {mg : Str → Option Value} {base : Heap} {B c1 c2 c3 c4 c5 : Addr}
theorem tells_of (E1 : ErrK K mg c1 B "BadPiece" "path" "BadPiece.__init__" st_BadPiece) (E2 : ErrK K mg c2 B "BadProgram" "place" "BadProgram.__init__" st_BadProgram) (E3 : ErrK K mg c3 B "BadIndex" "value" "BadIndex.__init__" st_BadIndex) (E4 : ErrK K mg c4 B "NotFinite" "path" "NotFinite.__init__" st_NotFinite) (E5 : ErrK K mg c5 B "TooGreat" "most" "TooGreat.__init__" st_TooGreat)
    (a12 : PySem.W.subIn K (.ref c2) (.ref c1) = some false) (a13 : PySem.W.subIn K (.ref c3) (.ref c1) = some false) (a14 : PySem.W.subIn K (.ref c4) (.ref c1) = some false) (a15 : PySem.W.subIn K (.ref c5) (.ref c1) = some false)
    (a23 : PySem.W.subIn K (.ref c3) (.ref c2) = some false) (a24 : PySem.W.subIn K (.ref c4) (.ref c2) = some false) (a25 : PySem.W.subIn K (.ref c5) (.ref c2) = some false)
    (a34 : PySem.W.subIn K (.ref c4) (.ref c3) = some false) (a35 : PySem.W.subIn K (.ref c5) (.ref c3) = some false) (a45 : PySem.W.subIn K (.ref c5) (.ref c4) = some false) : Tells K (clsOf c1 c2 c3 c4 c5) clauL (tellL (celOf c1 c2 c3 c4 c5)) := by
  have one : ∀ {A S : Addr} {b : Bool} {x f q : Str} {st : Stmt}, ErrK K mg S B x f q st → PySem.W.subIn K (.ref A) (.ref S) = some b → PySem.W.exmOne K (.ref A) (.ref S) = some b := fun E e => exm_is E.eC E.iC E.tyC e
  refine .cons rfl rfl rfl (one E1 E1.sC) (fun r hr => ?_) (.cons rfl rfl rfl (one E2 E2.sC) (fun r hr => ?_) (.cons rfl rfl rfl (one E3 E3.sC) (fun r hr => ?_) (.cons rfl rfl rfl (one E4 E4.sC) (fun r hr => ?_) (.cons rfl rfl rfl (one E5 E5.sC) (fun r hr => ?_) .nil))))
  · simp only [List.mem_cons, List.mem_nil_iff, or_false] at hr
    rcases hr with rfl | rfl | rfl | rfl
    · exact ⟨one E1 a12, by decide⟩
    · exact ⟨one E1 a13, by decide⟩
    · exact ⟨one E1 a14, by decide⟩
    · exact ⟨one E1 a15, by decide⟩
  · simp only [List.mem_cons, List.mem_nil_iff, or_false] at hr
    rcases hr with rfl | rfl | rfl
    · exact ⟨one E2 a23, by decide⟩
    · exact ⟨one E2 a24, by decide⟩
    · exact ⟨one E2 a25, by decide⟩
  · simp only [List.mem_cons, List.mem_nil_iff, or_false] at hr
    rcases hr with rfl | rfl
    · exact ⟨one E3 a34, by decide⟩
    · exact ⟨one E3 a35, by decide⟩
  · simp only [List.mem_cons, List.mem_nil_iff, or_false] at hr
    subst hr
    exact ⟨one E4 a45, by decide⟩
  · cases hr
theorem errs_of (mB : mg "PassError" = some (.ref B)) (mi : mg "isinstance" = none) (E1 : ErrK K mg c1 B "BadPiece" "path" "BadPiece.__init__" st_BadPiece) (E2 : ErrK K mg c2 B "BadProgram" "place" "BadProgram.__init__" st_BadProgram) (E3 : ErrK K mg c3 B "BadIndex" "value" "BadIndex.__init__" st_BadIndex) (E4 : ErrK K mg c4 B "NotFinite" "path" "NotFinite.__init__" st_NotFinite) (E5 : ErrK K mg c5 B "TooGreat" "most" "TooGreat.__init__" st_TooGreat) :
    Errs K mg (clsOf c1 c2 c3 c4 c5) B (celOf c1 c2 c3 c4 c5) := ⟨E1.g, E2.g, E3.g, E4.g, E5.g, mB, mi, E1.ef, E2.ef, E3.ef, E4.ef, E5.ef⟩
theorem ex_BadPiece (E : ErrK K mg c1 B "BadPiece" "path" "BadPiece.__init__" st_BadPiece) : ErrX P w K mg base (clsOf c1 c2 c3 c4 c5) 1 "BadPiece" :=
  errx_of (p := "path") E rfl rfl sc_BadPiece ⟨_, _, _, _, rfl⟩ (by decide) (by decide) (.inl rfl) (.inl rfl) fun _ _ _ _ _ _ us hl => match us, hl with
    | [_, _], _ => rfl
theorem ex_BadProgram (E : ErrK K mg c2 B "BadProgram" "place" "BadProgram.__init__" st_BadProgram) : ErrX P w K mg base (clsOf c1 c2 c3 c4 c5) 2 "BadProgram" :=
  errx_of (p := "place") E rfl rfl sc_BadProgram ⟨_, _, _, _, rfl⟩ (by decide) (by decide) (.inl rfl) (.inl rfl) fun _ _ _ _ _ _ us hl => match us, hl with
    | [_, _], _ => rfl
theorem ex_BadIndex (E : ErrK K mg c3 B "BadIndex" "value" "BadIndex.__init__" st_BadIndex) : ErrX P w K mg base (clsOf c1 c2 c3 c4 c5) 3 "BadIndex" :=
  errx_of (p := "value") E rfl rfl sc_BadIndex ⟨_, _, _, _, rfl⟩ (by decide) (by decide) (.inl rfl) (.inl rfl) fun _ _ _ _ _ _ us hl => match us, hl with
    | [_, _], _ => rfl
theorem ex_NotFinite (E : ErrK K mg c4 B "NotFinite" "path" "NotFinite.__init__" st_NotFinite) : ErrX P w K mg base (clsOf c1 c2 c3 c4 c5) 4 "NotFinite" :=
  errx_of (p := "path") E rfl rfl sc_NotFinite ⟨_, _, _, _, rfl⟩ (by decide) (by decide) (.inl rfl) (.inl rfl) fun _ _ _ _ _ _ us hl => match us, hl with
    | [_, _], _ => rfl
theorem ex_TooGreat (E : ErrK K mg c5 B "TooGreat" "most" "TooGreat.__init__" st_TooGreat) : ErrX P w K mg base (clsOf c1 c2 c3 c4 c5) 5 "TooGreat" :=
  errx_of (p := "most") E rfl rfl sc_TooGreat ⟨_, _, _, _, rfl⟩ (by decide) (by decide) (.inl rfl) (.inl rfl) fun _ _ _ _ _ _ us hl => match us, hl with
    | [_, _], _ => rfl
end
theorem shaped_ints (l : List Int) : SeqAt.shaped (.list (l.map PyData.int)) = true := by
  have a : ∀ l : List Int, PyData.canLayAll0 (l.map PyData.int) = true := by
    intro l
    induction l with
    | nil => rfl
    | cons x l ih =>
      rw [List.map_cons, PyData.canLayAll0, ih]
      rfl
  have b : ∀ l : List Int, PyData.depthAll (l.map PyData.int) = 0 := by
    intro l
    induction l with
    | nil => rfl
    | cons x l ih =>
      rw [List.map_cons, PyData.depthAll, ih]
      rfl
  unfold SeqAt.shaped
  rw [PyData.canLay0, PyData.depth, a, b]
  rfl
/-- all that the head has to find -/
theorem here_mk {l : PySem.W.OpenLaw} {w : World} {K : PySem.W.Frag} {h : Heap} {mg : Str → Option Value} {fa B c1 c2 c3 c4 c5 : Addr} {f c Pt fp cp Pp : Addr} {oc : Value} {od an : Option Addr} {osl : Array (Option Value)} {kV doc pm ct : Value} {oc2 : Value} {od2 an2 : Option Addr} {osl2 : Array (Option Value)} {kV2 doc2 pm2 ct2 : Value}
    (X : K.In h) (G : h.Ns mainGlobals mg) (hfa : mg "law" = some (.ref fa)) (A : AllD K mg) (Q1 : mg "PassError" = some (.ref B) ∧ ErrK K mg c1 B "BadPiece" "path" "BadPiece.__init__" st_BadPiece) (Q2 : mg "PassError" = some (.ref B) ∧ ErrK K mg c2 B "BadProgram" "place" "BadProgram.__init__" st_BadProgram) (Q3 : mg "PassError" = some (.ref B) ∧ ErrK K mg c3 B "BadIndex" "value" "BadIndex.__init__" st_BadIndex) (Q4 : mg "PassError" = some (.ref B) ∧ ErrK K mg c4 B "NotFinite" "path" "NotFinite.__init__" st_NotFinite) (Q5 : mg "PassError" = some (.ref B) ∧ ErrK K mg c5 B "TooGreat" "most" "TooGreat.__init__" st_TooGreat)
    (a12 : PySem.W.subIn K (.ref c2) (.ref c1) = some false) (a13 : PySem.W.subIn K (.ref c3) (.ref c1) = some false) (a14 : PySem.W.subIn K (.ref c4) (.ref c1) = some false) (a15 : PySem.W.subIn K (.ref c5) (.ref c1) = some false)
    (a23 : PySem.W.subIn K (.ref c3) (.ref c2) = some false) (a24 : PySem.W.subIn K (.ref c4) (.ref c2) = some false) (a25 : PySem.W.subIn K (.ref c5) (.ref c2) = some false)
    (a34 : PySem.W.subIn K (.ref c4) (.ref c3) = some false) (a35 : PySem.W.subIn K (.ref c5) (.ref c3) = some false) (a45 : PySem.W.subIn K (.ref c5) (.ref c4) = some false)
    (a : PySem.W.nsIn K mainGlobals "law" = some (some (.ref f))) (lk : K.lookup f = some ⟨oc, od, .func (PySem.W.fnOf "law" "law" (defArgs (top 83)) (defBody (top 83)) (defScope (top 83)) .none kV doc pm an (.ref c) ct), osl⟩) (hcd : PySem.W.codeIn K (.ref c) "law" = true)
    (a2 : PySem.W.nsIn K mainGlobals "_law_put_right" = some (some (.ref fp))) (lk2 : K.lookup fp = some ⟨oc2, od2, .func (PySem.W.fnOf "_law_put_right" "_law_put_right" (defArgs (top 82)) (defBody (top 82)) (defScope (top 82)) .none kV2 doc2 pm2 an2 (.ref cp) ct2), osl2⟩) (hcd2 : PySem.W.codeIn K (.ref cp) "_law_put_right" = true) (kp2 : PySem.W.keepIn K (.ref fp) = true)
    (hne : Pt ≠ Pp) (hd1 : PySem.W.codeHdIn K c Pt = true) (hd2 : PySem.W.codeHdIn K cp Pp = true) (t1 : h.get? Pt = some { cls := .none, data := .fields #[] }) (t2 : h.get? Pp = some { cls := .none, data := .fields #[] }) (n1 : K.lookup Pt = none) (n2 : K.lookup Pp = none) :
    PnEnd.LawHere l w K (L2.CX l.prog w) 73 63 "script" mg fa h := by
  have e := hfa.symm.trans (PySem.W.mg_of X G a)
  cases e
  obtain ⟨mB, E1⟩ := Q1
  have E2 := Q2.2
  have E3 := Q3.2
  have E4 := Q4.2
  have E5 := Q5.2
  have hts := tells_of E1 E2 E3 E4 E5 a12 a13 a14 a15 a23 a24 a25 a34 a35 a45
  refine ⟨PySem.W.fnOf "law" "law" (defArgs (top 83)) (defBody (top 83)) (defScope (top 83)) .none kV doc pm an (.ref c) ct, [(c, Pt), (cp, Pp)], spLaw K Pt Pp, ?_, ?_, ?_, fun s v => .of_eq rfl, ?_, ?_⟩
  · intro p hp
    simp only [List.mem_cons, List.mem_nil_iff, or_false] at hp
    rcases hp with rfl | rfl
    · exact t1
    · exact t2
  · intro p hp
    simp only [List.mem_cons, List.mem_nil_iff, or_false] at hp
    rcases hp with rfl | rfl
    · exact n1
    · exact n2
  · intro p hp
    simp only [List.mem_cons, List.mem_nil_iff, or_false] at hp
    rcases hp with rfl | rfl
    · exact PySem.W.codeHd_of_K X hd1
    · exact PySem.W.codeHd_of_K X hd2
  · intro H b ns hl _ tabs S
    exact ⟨b, ns, rfl, S, by omega, shaped_ints ns, tabs (c, Pt) List.mem_cons_self, tabs (cp, Pp) (List.mem_cons_of_mem _ List.mem_cons_self), law_good ns, fun _ => rfl⟩
  · intro base _ _ TB
    exact law_all A (errs_of mB A.Z.b_isinstance E1 E2 E3 E4 E5) hts (ex_BadPiece E1) (ex_BadProgram E2) (ex_BadIndex E3) (ex_NotFinite E4) (ex_TooGreat E5) lk hcd lk2 hcd2 (PySem.W.mg_of X G a2) kp2 hne (TB (c, Pt) List.mem_cons_self) (TB (cp, Pp) (List.mem_cons_of_mem _ List.mem_cons_self))
end Pn

open PySem PyProof.Rows PySem.W
set_option maxHeartbeats 0 in
theorem PySem.Challenge.cw_passednames_k00_parts_of_programs_holds : PySem.Challenge.rw_passednames_k00_parts_of_programs.Holds := by
  w_on; o_law; k_head
  (case hw => w_witness2)
  k_fill
  refine PnEnd.walk_ends (l := PySem.Challenge.rw_passednames_k00_parts_of_programs) (n := 63) (k := 73) (x := "script") (CX := fun w => L2.CX PySem.Challenge.rw_passednames_k00_parts_of_programs.prog w) rfl (by decide) rfl ⟨rfl, by decide, by decide⟩ (fun w h Y => km_in_of Y) ?here ?cx
  case here =>
    intro w mg fa h Y KX G hmg
    have D_is_integer : Pn.DefF (PySem.Challenge.cw_passednames_k00_parts_of_programs_holds.heap_39 w.params) mg "is_integer" (Pn.top 8) ["value"] := by
      refine' Pn.df_is_integer KX G ?qa ?ql ?qc ?qk
      (case qa => k_is); (case ql => k_is); (case qc => k_is); (case qk => k_is)
    have D_is_from_zero : Pn.DefF (PySem.Challenge.cw_passednames_k00_parts_of_programs_holds.heap_39 w.params) mg "is_from_zero" (Pn.top 9) ["value"] := by
      refine' Pn.df_is_from_zero KX G ?qa ?ql ?qc ?qk
      (case qa => k_is); (case ql => k_is); (case qc => k_is); (case qk => k_is)
    have D_is_below : Pn.DefF (PySem.Challenge.cw_passednames_k00_parts_of_programs_holds.heap_39 w.params) mg "is_below" (Pn.top 10) ["value", "end"] := by
      refine' Pn.df_is_below KX G ?qa ?ql ?qc ?qk
      (case qa => k_is); (case ql => k_is); (case qc => k_is); (case qk => k_is)
    have D_is_name : Pn.DefF (PySem.Challenge.cw_passednames_k00_parts_of_programs_holds.heap_39 w.params) mg "is_name" (Pn.top 11) ["value"] := by
      refine' Pn.df_is_name KX G ?qa ?ql ?qc ?qk
      (case qa => k_is); (case ql => k_is); (case qc => k_is); (case qk => k_is)
    have D_is_row_of : Pn.DefF (PySem.Challenge.cw_passednames_k00_parts_of_programs_holds.heap_39 w.params) mg "is_row_of" (Pn.top 12) ["value", "many"] := by
      refine' Pn.df_is_row_of KX G ?qa ?ql ?qc ?qk
      (case qa => k_is); (case ql => k_is); (case qc => k_is); (case qk => k_is)
    have D_is_row_up_to : Pn.DefF (PySem.Challenge.cw_passednames_k00_parts_of_programs_holds.heap_39 w.params) mg "is_row_up_to" (Pn.top 13) ["value", "most"] := by
      refine' Pn.df_is_row_up_to KX G ?qa ?ql ?qc ?qk
      (case qa => k_is); (case ql => k_is); (case qc => k_is); (case qk => k_is)
    have D_are_names : Pn.DefF (PySem.Challenge.cw_passednames_k00_parts_of_programs_holds.heap_39 w.params) mg "are_names" (Pn.top 14) ["value"] := by
      refine' Pn.df_are_names KX G ?qa ?ql ?qc ?qk
      (case qa => k_is); (case ql => k_is); (case qc => k_is); (case qk => k_is)
    have D_are_from_zero : Pn.DefF (PySem.Challenge.cw_passednames_k00_parts_of_programs_holds.heap_39 w.params) mg "are_from_zero" (Pn.top 15) ["value"] := by
      refine' Pn.df_are_from_zero KX G ?qa ?ql ?qc ?qk
      (case qa => k_is); (case ql => k_is); (case qc => k_is); (case qk => k_is)
    have D_are_unlike : Pn.DefF (PySem.Challenge.cw_passednames_k00_parts_of_programs_holds.heap_39 w.params) mg "are_unlike" (Pn.top 16) ["row"] := by
      refine' Pn.df_are_unlike KX G ?qa ?ql ?qc ?qk
      (case qa => k_is); (case ql => k_is); (case qc => k_is); (case qk => k_is)
    have D_parts_below : Pn.DefF (PySem.Challenge.cw_passednames_k00_parts_of_programs_holds.heap_39 w.params) mg "parts_below" (Pn.top 24) ["piece"] := by
      refine' Pn.df_parts_below KX G ?qa ?ql ?qc ?qk
      (case qa => k_is); (case ql => k_is); (case qc => k_is); (case qk => k_is)
    have D_with_part_at : Pn.DefF (PySem.Challenge.cw_passednames_k00_parts_of_programs_holds.heap_39 w.params) mg "with_part_at" (Pn.top 25) ["whole", "path", "part"] := by
      refine' Pn.df_with_part_at KX G ?qa ?ql ?qc ?qk
      (case qa => k_is); (case ql => k_is); (case qc => k_is); (case qk => k_is)
    have D_bound_name : Pn.DefF (PySem.Challenge.cw_passednames_k00_parts_of_programs_holds.heap_39 w.params) mg "bound_name" (Pn.top 26) ["piece"] := by
      refine' Pn.df_bound_name KX G ?qa ?ql ?qc ?qk
      (case qa => k_is); (case ql => k_is); (case qc => k_is); (case qk => k_is)
    have D_bound_names : Pn.DefF (PySem.Challenge.cw_passednames_k00_parts_of_programs_holds.heap_39 w.params) mg "bound_names" (Pn.top 27) ["piece"] := by
      refine' Pn.df_bound_names KX G ?qa ?ql ?qc ?qk
      (case qa => k_is); (case ql => k_is); (case qc => k_is); (case qk => k_is)
    have D_own_names : Pn.DefF (PySem.Challenge.cw_passednames_k00_parts_of_programs_holds.heap_39 w.params) mg "own_names" (Pn.top 28) ["piece"] := by
      refine' Pn.df_own_names KX G ?qa ?ql ?qc ?qk
      (case qa => k_is); (case ql => k_is); (case qc => k_is); (case qk => k_is)
    have D_free_of : Pn.DefF (PySem.Challenge.cw_passednames_k00_parts_of_programs_holds.heap_39 w.params) mg "free_of" (Pn.top 29) ["piece"] := by
      refine' Pn.df_free_of KX G ?qa ?ql ?qc ?qk
      (case qa => k_is); (case ql => k_is); (case qc => k_is); (case qk => k_is)
    have D_depth_below : Pn.DefF (PySem.Challenge.cw_passednames_k00_parts_of_programs_holds.heap_39 w.params) mg "depth_below" (Pn.top 30) ["piece"] := by
      refine' Pn.df_depth_below KX G ?qa ?ql ?qc ?qk
      (case qa => k_is); (case ql => k_is); (case qc => k_is); (case qk => k_is)
    have D_is_call : Pn.DefF (PySem.Challenge.cw_passednames_k00_parts_of_programs_holds.heap_39 w.params) mg "is_call" (Pn.top 52) ["number", "names", "counts"] := by
      refine' Pn.df_is_call KX G ?qa ?ql ?qc ?qk
      (case qa => k_is); (case ql => k_is); (case qc => k_is); (case qk => k_is)
    have D_has_form : Pn.DefF (PySem.Challenge.cw_passednames_k00_parts_of_programs_holds.heap_39 w.params) mg "has_form" (Pn.top 50) ["value", "counts"] := by
      refine' Pn.df_has_form KX G ?qa ?ql ?qc ?qk
      (case qa => k_is); (case ql => k_is); (case qc => k_is); (case qk => k_is)
    have D_has_form_of_row : Pn.DefF (PySem.Challenge.cw_passednames_k00_parts_of_programs_holds.heap_39 w.params) mg "has_form_of_row" (Pn.top 51) ["value"] := by
      refine' Pn.df_has_form_of_row KX G ?qa ?ql ?qc ?qk
      (case qa => k_is); (case ql => k_is); (case qc => k_is); (case qk => k_is)
    have D_is_hole : Pn.DefF (PySem.Challenge.cw_passednames_k00_parts_of_programs_holds.heap_39 w.params) mg "is_hole" (Pn.top 49) ["value"] := by
      refine' Pn.df_is_hole KX G ?qa ?ql ?qc ?qk
      (case qa => k_is); (case ql => k_is); (case qc => k_is); (case qk => k_is)
    have D_is_let : Pn.DefF (PySem.Challenge.cw_passednames_k00_parts_of_programs_holds.heap_39 w.params) mg "is_let" (Pn.top 48) ["part", "counts", "where", "branch_due", "guarded"] := by
      refine' Pn.df_is_let KX G ?qa ?ql ?qc ?qk
      (case qa => k_is); (case ql => k_is); (case qc => k_is); (case qk => k_is)
    have D_are_params : Pn.DefF (PySem.Challenge.cw_passednames_k00_parts_of_programs_holds.heap_39 w.params) mg "are_params" (Pn.top 46) ["value"] := by
      refine' Pn.df_are_params KX G ?qa ?ql ?qc ?qk
      (case qa => k_is); (case ql => k_is); (case qc => k_is); (case qk => k_is)
    have D_need_definitions : Pn.DefF (PySem.Challenge.cw_passednames_k00_parts_of_programs_holds.heap_39 w.params) mg "need_definitions" (Pn.top 45) ["value"] := by
      refine' Pn.df_need_definitions KX G ?qa ?ql ?qc ?qk
      (case qa => k_is); (case ql => k_is); (case qc => k_is); (case qk => k_is)
    have D_walk : Pn.DefF (PySem.Challenge.cw_passednames_k00_parts_of_programs_holds.heap_39 w.params) mg "walk" (Pn.top 47) ["root", "root_path", "counts", "where", "met"] := by
      refine' Pn.df_walk KX G ?qa ?ql ?qc ?qk
      (case qa => k_is); (case ql => k_is); (case qc => k_is); (case qk => k_is)
    have D_checked_parts : Pn.DefF (PySem.Challenge.cw_passednames_k00_parts_of_programs_holds.heap_39 w.params) mg "checked_parts" (Pn.top 44) ["value", "where_main"] := by
      refine' Pn.df_checked_parts KX G ?qa ?ql ?qc ?qk
      (case qa => k_is); (case ql => k_is); (case qc => k_is); (case qk => k_is)
    have D_need_program : Pn.DefF (PySem.Challenge.cw_passednames_k00_parts_of_programs_holds.heap_39 w.params) mg "need_program" (Pn.top 54) ["value"] := by
      refine' Pn.df_need_program KX G ?qa ?ql ?qc ?qk
      (case qa => k_is); (case ql => k_is); (case qc => k_is); (case qk => k_is)
    have D_paths_of_calls : Pn.DefF (PySem.Challenge.cw_passednames_k00_parts_of_programs_holds.heap_39 w.params) mg "paths_of_calls" (Pn.top 57) ["program"] := by
      refine' Pn.df_paths_of_calls KX G ?qa ?ql ?qc ?qk
      (case qa => k_is); (case ql => k_is); (case qc => k_is); (case qk => k_is)
    have D_need_finite : Pn.DefF (PySem.Challenge.cw_passednames_k00_parts_of_programs_holds.heap_39 w.params) mg "need_finite" (Pn.top 55) ["program"] := by
      refine' Pn.df_need_finite KX G ?qa ?ql ?qc ?qk
      (case qa => k_is); (case ql => k_is); (case qc => k_is); (case qk => k_is)
    have D_is_finite : Pn.DefF (PySem.Challenge.cw_passednames_k00_parts_of_programs_holds.heap_39 w.params) mg "is_finite" (Pn.top 56) ["program"] := by
      refine' Pn.df_is_finite KX G ?qa ?ql ?qc ?qk
      (case qa => k_is); (case ql => k_is); (case qc => k_is); (case qk => k_is)
    have D_free_names : Pn.DefF (PySem.Challenge.cw_passednames_k00_parts_of_programs_holds.heap_39 w.params) mg "free_names" (Pn.top 58) ["program"] := by
      refine' Pn.df_free_names KX G ?qa ?ql ?qc ?qk
      (case qa => k_is); (case ql => k_is); (case qc => k_is); (case qk => k_is)
    have D_parts_of : Pn.DefF (PySem.Challenge.cw_passednames_k00_parts_of_programs_holds.heap_39 w.params) mg "parts_of" (Pn.top 60) ["program"] := by
      refine' Pn.df_parts_of KX G ?qa ?ql ?qc ?qk
      (case qa => k_is); (case ql => k_is); (case qc => k_is); (case qk => k_is)
    have D_measures : Pn.DefF (PySem.Challenge.cw_passednames_k00_parts_of_programs_holds.heap_39 w.params) mg "measures" (Pn.top 59) ["program"] := by
      refine' Pn.df_measures KX G ?qa ?ql ?qc ?qk
      (case qa => k_is); (case ql => k_is); (case qc => k_is); (case qk => k_is)
    have D_part_at : Pn.DefF (PySem.Challenge.cw_passednames_k00_parts_of_programs_holds.heap_39 w.params) mg "part_at" (Pn.top 61) ["program", "path"] := by
      refine' Pn.df_part_at KX G ?qa ?ql ?qc ?qk
      (case qa => k_is); (case ql => k_is); (case qc => k_is); (case qk => k_is)
    have D_put_at : Pn.DefF (PySem.Challenge.cw_passednames_k00_parts_of_programs_holds.heap_39 w.params) mg "put_at" (Pn.top 62) ["program", "path", "part"] := by
      refine' Pn.df_put_at KX G ?qa ?ql ?qc ?qk
      (case qa => k_is); (case ql => k_is); (case qc => k_is); (case qk => k_is)
    have D__law_mixed : Pn.DefF (PySem.Challenge.cw_passednames_k00_parts_of_programs_holds.heap_39 w.params) mg "_law_mixed" (Pn.top 64) ["cell", "k"] := by
      refine' Pn.df__law_mixed KX G ?qa ?ql ?qc ?qk
      (case qa => k_is); (case ql => k_is); (case qc => k_is); (case qk => k_is)
    have D__law_draw : Pn.DefF (PySem.Challenge.cw_passednames_k00_parts_of_programs_holds.heap_39 w.params) mg "_law_draw" (Pn.top 66) ["state", "limit"] := by
      refine' Pn.df__law_draw KX G ?qa ?ql ?qc ?qk
      (case qa => k_is); (case ql => k_is); (case qc => k_is); (case qk => k_is)
    have D__law_of : Pn.DefF (PySem.Challenge.cw_passednames_k00_parts_of_programs_holds.heap_39 w.params) mg "_law_of" (Pn.top 67) ["state", "some"] := by
      refine' Pn.df__law_of KX G ?qa ?ql ?qc ?qk
      (case qa => k_is); (case ql => k_is); (case qc => k_is); (case qk => k_is)
    have D__law_branch : Pn.DefF (PySem.Challenge.cw_passednames_k00_parts_of_programs_holds.heap_39 w.params) mg "_law_branch" (Pn.top 68) ["state", "names", "size", "calls"] := by
      refine' Pn.df__law_branch KX G ?qa ?ql ?qc ?qk
      (case qa => k_is); (case ql => k_is); (case qc => k_is); (case qk => k_is)
    have D__law_prefix : Pn.DefF (PySem.Challenge.cw_passednames_k00_parts_of_programs_holds.heap_39 w.params) mg "_law_prefix" (Pn.top 69) ["state", "names", "size", "calls"] := by
      refine' Pn.df__law_prefix KX G ?qa ?ql ?qc ?qk
      (case qa => k_is); (case ql => k_is); (case qc => k_is); (case qk => k_is)
    have D__law_piece : Pn.DefF (PySem.Challenge.cw_passednames_k00_parts_of_programs_holds.heap_39 w.params) mg "_law_piece" (Pn.top 70) ["state", "names", "size", "calls", "behind"] := by
      refine' Pn.df__law_piece KX G ?qa ?ql ?qc ?qk
      (case qa => k_is); (case ql => k_is); (case qc => k_is); (case qk => k_is)
    have D__law_finite : Pn.DefF (PySem.Challenge.cw_passednames_k00_parts_of_programs_holds.heap_39 w.params) mg "_law_finite" (Pn.top 71) ["state", "many_so", "size"] := by
      refine' Pn.df__law_finite KX G ?qa ?ql ?qc ?qk
      (case qa => k_is); (case ql => k_is); (case qc => k_is); (case qk => k_is)
    have D__law_told : Pn.DefF (PySem.Challenge.cw_passednames_k00_parts_of_programs_holds.heap_39 w.params) mg "_law_told" (Pn.top 72) ["state", "many_so", "size"] := by
      refine' Pn.df__law_told KX G ?qa ?ql ?qc ?qk
      (case qa => k_is); (case ql => k_is); (case qc => k_is); (case qk => k_is)
    have D__law_program : Pn.DefF (PySem.Challenge.cw_passednames_k00_parts_of_programs_holds.heap_39 w.params) mg "_law_program" (Pn.top 80) ["state", "size"] := by
      refine' Pn.df__law_program KX G ?qa ?ql ?qc ?qk
      (case qa => k_is); (case ql => k_is); (case qc => k_is); (case qk => k_is)
    have D__law_inside : Pn.DefF (PySem.Challenge.cw_passednames_k00_parts_of_programs_holds.heap_39 w.params) mg "_law_inside" (Pn.top 74) ["piece"] := by
      refine' Pn.df__law_inside KX G ?qa ?ql ?qc ?qk
      (case qa => k_is); (case ql => k_is); (case qc => k_is); (case qk => k_is)
    have D__law_listed : Pn.DefF (PySem.Challenge.cw_passednames_k00_parts_of_programs_holds.heap_39 w.params) mg "_law_listed" (Pn.top 75) ["piece", "path"] := by
      refine' Pn.df__law_listed KX G ?qa ?ql ?qc ?qk
      (case qa => k_is); (case ql => k_is); (case qc => k_is); (case qk => k_is)
    have D__law_whole : Pn.DefF (PySem.Challenge.cw_passednames_k00_parts_of_programs_holds.heap_39 w.params) mg "_law_whole" (Pn.top 76) ["program"] := by
      refine' Pn.df__law_whole KX G ?qa ?ql ?qc ?qk
      (case qa => k_is); (case ql => k_is); (case qc => k_is); (case qk => k_is)
    have D__law_deep : Pn.DefF (PySem.Challenge.cw_passednames_k00_parts_of_programs_holds.heap_39 w.params) mg "_law_deep" (Pn.top 77) ["piece"] := by
      refine' Pn.df__law_deep KX G ?qa ?ql ?qc ?qk
      (case qa => k_is); (case ql => k_is); (case qc => k_is); (case qk => k_is)
    have D__law_free : Pn.DefF (PySem.Challenge.cw_passednames_k00_parts_of_programs_holds.heap_39 w.params) mg "_law_free" (Pn.top 78) ["piece"] := by
      refine' Pn.df__law_free KX G ?qa ?ql ?qc ?qk
      (case qa => k_is); (case ql => k_is); (case qc => k_is); (case qk => k_is)
    have D__law_exchanged : Pn.DefF (PySem.Challenge.cw_passednames_k00_parts_of_programs_holds.heap_39 w.params) mg "_law_exchanged" (Pn.top 79) ["value", "path", "part"] := by
      refine' Pn.df__law_exchanged KX G ?qa ?ql ?qc ?qk
      (case qa => k_is); (case ql => k_is); (case qc => k_is); (case qk => k_is)
    have D__law_like : Pn.DefF (PySem.Challenge.cw_passednames_k00_parts_of_programs_holds.heap_39 w.params) mg "_law_like" (Pn.top 73) ["got", "due"] := by
      refine' Pn.df__law_like KX G ?qa ?ql ?qc ?qk
      (case qa => k_is); (case ql => k_is); (case qc => k_is); (case qk => k_is)
    have D__law_begin : Pn.DefF (PySem.Challenge.cw_passednames_k00_parts_of_programs_holds.heap_39 w.params) mg "_law_begin" (Pn.top 65) ["script"] := by
      refine' Pn.df__law_begin KX G ?qa ?ql ?qc ?qk
      (case qa => k_is); (case ql => k_is); (case qc => k_is); (case qk => k_is)
    have D__law_caught : Pn.DefF (PySem.Challenge.cw_passednames_k00_parts_of_programs_holds.heap_39 w.params) mg "_law_caught" (Pn.top 81) ["call"] := by
      refine' Pn.df__law_caught KX G ?qa ?ql ?qc ?qk
      (case qa => k_is); (case ql => k_is); (case qc => k_is); (case qk => k_is)
    have Z : Pn.Glo (PySem.Challenge.cw_passednames_k00_parts_of_programs_holds.heap_39 w.params) mg := {
      b_all := PySem.W.mg_none_of KX G (by k_is)
      b_bool := PySem.W.mg_none_of KX G (by k_is)
      b_enumerate := PySem.W.mg_none_of KX G (by k_is)
      b_int := PySem.W.mg_none_of KX G (by k_is)
      b_isinstance := PySem.W.mg_none_of KX G (by k_is)
      b_len := PySem.W.mg_none_of KX G (by k_is)
      b_list := PySem.W.mg_none_of KX G (by k_is)
      b_max := PySem.W.mg_none_of KX G (by k_is)
      b_min := PySem.W.mg_none_of KX G (by k_is)
      b_range := PySem.W.mg_none_of KX G (by k_is)
      b_reversed := PySem.W.mg_none_of KX G (by k_is)
      b_set := PySem.W.mg_none_of KX G (by k_is)
      b_sorted := PySem.W.mg_none_of KX G (by k_is)
      b_str := PySem.W.mg_none_of KX G (by k_is)
      b_tuple := PySem.W.mg_none_of KX G (by k_is)
      ROWS := by
        refine' Pn.glo_tup (ws := ["one", "beside"]) KX G ?qe ?ql ?qv ?qn
        (case qe => k_is); (case ql => k_is); (case qv => exact .cons ⟨_, rfl⟩ (.cons ⟨_, rfl⟩ .nil)); (case qn => decide)
      WITH_TWO_NAMES := by
        refine' Pn.glo_tup (ws := ["send", "take", "alike", "unlike"]) KX G ?qe ?ql ?qv ?qn
        (case qe => k_is); (case ql => k_is); (case qv => exact .cons ⟨_, rfl⟩ (.cons ⟨_, rfl⟩ (.cons ⟨_, rfl⟩ (.cons ⟨_, rfl⟩ .nil)))); (case qn => decide)
      WITH_NAMES := by
        refine' Pn.glo_tup (ws := ["sends", "takes"]) KX G ?qe ?ql ?qv ?qn
        (case qe => k_is); (case ql => k_is); (case qv => exact .cons ⟨_, rfl⟩ (.cons ⟨_, rfl⟩ .nil)); (case qn => decide)
      MOST_IN_ROW := Pn.glo_int KX G (by k_is)
      ROW_BODY := Pn.glo_str KX G (by k_is)
      ROW_MAIN := Pn.glo_str KX G (by k_is)
      MOST_BRANCHES := Pn.glo_int KX G (by k_is)
      MOST_BESIDE := Pn.glo_int KX G (by k_is)
      HOLED_MAIN := Pn.glo_str KX G (by k_is)
      BRANCHES := by
        refine' Pn.glo_tup (ws := ["send", "take", "wait", "sends", "takes", "alike", "unlike"]) KX G ?qe ?ql ?qv ?qn
        (case qe => k_is); (case ql => k_is); (case qv => exact .cons ⟨_, rfl⟩ (.cons ⟨_, rfl⟩ (.cons ⟨_, rfl⟩ (.cons ⟨_, rfl⟩ (.cons ⟨_, rfl⟩ (.cons ⟨_, rfl⟩ (.cons ⟨_, rfl⟩ .nil))))))); (case qn => decide)
      BODY := Pn.glo_str KX G (by k_is)
      MOST_PARAMS := Pn.glo_int KX G (by k_is)
      MOST_DEFINITIONS := Pn.glo_int KX G (by k_is)
      MOST_DEEP := Pn.glo_int KX G (by k_is)
      MOST_PARTS := Pn.glo_int KX G (by k_is)
      TESTS := by
        refine' Pn.glo_tup (ws := ["alike", "unlike"]) KX G ?qe ?ql ?qv ?qn
        (case qe => k_is); (case ql => k_is); (case qv => exact .cons ⟨_, rfl⟩ (.cons ⟨_, rfl⟩ .nil)); (case qn => decide)
      PREFIXES := by
        refine' Pn.glo_tup (ws := ["send", "take", "wait", "sends", "takes"]) KX G ?qe ?ql ?qv ?qn
        (case qe => k_is); (case ql => k_is); (case qv => exact .cons ⟨_, rfl⟩ (.cons ⟨_, rfl⟩ (.cons ⟨_, rfl⟩ (.cons ⟨_, rfl⟩ (.cons ⟨_, rfl⟩ .nil))))); (case qn => decide)
      MAIN := Pn.glo_str KX G (by k_is) }
    have A : Pn.AllD (PySem.Challenge.cw_passednames_k00_parts_of_programs_holds.heap_39 w.params) mg := { d_is_integer := D_is_integer, d_is_from_zero := D_is_from_zero, d_is_below := D_is_below, d_is_name := D_is_name, d_is_row_of := D_is_row_of, d_is_row_up_to := D_is_row_up_to, d_are_names := D_are_names, d_are_from_zero := D_are_from_zero, d_are_unlike := D_are_unlike, d_parts_below := D_parts_below, d_with_part_at := D_with_part_at, d_bound_name := D_bound_name, d_bound_names := D_bound_names, d_own_names := D_own_names, d_free_of := D_free_of, d_depth_below := D_depth_below, d_is_call := D_is_call, d_has_form := D_has_form, d_has_form_of_row := D_has_form_of_row, d_is_hole := D_is_hole, d_is_let := D_is_let, d_are_params := D_are_params, d_need_definitions := D_need_definitions, d_walk := D_walk, d_checked_parts := D_checked_parts, d_need_program := D_need_program, d_paths_of_calls := D_paths_of_calls, d_need_finite := D_need_finite, d_is_finite := D_is_finite, d_free_names := D_free_names, d_parts_of := D_parts_of, d_measures := D_measures, d_part_at := D_part_at, d_put_at := D_put_at, d__law_mixed := D__law_mixed, d__law_draw := D__law_draw, d__law_of := D__law_of, d__law_branch := D__law_branch, d__law_prefix := D__law_prefix, d__law_piece := D__law_piece, d__law_finite := D__law_finite, d__law_told := D__law_told, d__law_program := D__law_program, d__law_inside := D__law_inside, d__law_listed := D__law_listed, d__law_whole := D__law_whole, d__law_deep := D__law_deep, d__law_free := D__law_free, d__law_exchanged := D__law_exchanged, d__law_like := D__law_like, d__law_begin := D__law_begin, d__law_caught := D__law_caught, Z := Z, b_repr := PySem.W.mg_none_of KX G (by k_is), b_dict := PySem.W.mg_none_of KX G (by k_is) }
    refine' Pn.here_mk (Pt := 471) (Pp := 466) KX G hmg A (Pn.err_mk KX G ?yaC1 ?yaB1 ?yxL1 ?yrf1 ?ysa1 ?yga1 ?ygg1 ?yno1 ?ya11 ?yt11 ?yl11 ?yc11 ?yk11 ?ykC1 ?yeC1 ?ytC1 ?yhC1 ?yiC1 ?ysC1 ?yiB1 ?ytB1 ?ysB1 ?yne1 ?yca1 ?ygt1 ?ytk1 ?ymo1) (Pn.err_mk KX G ?yaC2 ?yaB2 ?yxL2 ?yrf2 ?ysa2 ?yga2 ?ygg2 ?yno2 ?ya12 ?yt12 ?yl12 ?yc12 ?yk12 ?ykC2 ?yeC2 ?ytC2 ?yhC2 ?yiC2 ?ysC2 ?yiB2 ?ytB2 ?ysB2 ?yne2 ?yca2 ?ygt2 ?ytk2 ?ymo2) (Pn.err_mk KX G ?yaC3 ?yaB3 ?yxL3 ?yrf3 ?ysa3 ?yga3 ?ygg3 ?yno3 ?ya13 ?yt13 ?yl13 ?yc13 ?yk13 ?ykC3 ?yeC3 ?ytC3 ?yhC3 ?yiC3 ?ysC3 ?yiB3 ?ytB3 ?ysB3 ?yne3 ?yca3 ?ygt3 ?ytk3 ?ymo3) (Pn.err_mk KX G ?yaC4 ?yaB4 ?yxL4 ?yrf4 ?ysa4 ?yga4 ?ygg4 ?yno4 ?ya14 ?yt14 ?yl14 ?yc14 ?yk14 ?ykC4 ?yeC4 ?ytC4 ?yhC4 ?yiC4 ?ysC4 ?yiB4 ?ytB4 ?ysB4 ?yne4 ?yca4 ?ygt4 ?ytk4 ?ymo4) (Pn.err_mk KX G ?yaC5 ?yaB5 ?yxL5 ?yrf5 ?ysa5 ?yga5 ?ygg5 ?yno5 ?ya15 ?yt15 ?yl15 ?yc15 ?yk15 ?ykC5 ?yeC5 ?ytC5 ?yhC5 ?yiC5 ?ysC5 ?yiB5 ?ytB5 ?ysB5 ?yne5 ?yca5 ?ygt5 ?ytk5 ?ymo5) ?xs12 ?xs13 ?xs14 ?xs15 ?xs23 ?xs24 ?xs25 ?xs34 ?xs35 ?xs45 ?za ?zlk ?zhcd ?za2 ?zlk2 ?zhcd2 ?zkp2 ?zhne ?zhd1 ?zhd2 ?zt1 ?zt2 ?zn1 ?zn2
    (case yaC1 => k_is); (case yaB1 => k_is); (case yxL1 => k_is); (case yrf1 => first | k_is | rfl | decide); (case ysa1 => k_is); (case yga1 => k_is); (case ygg1 => k_is); (case yno1 => k_is); (case ya11 => k_is); (case yt11 => k_is); (case yl11 => k_is); (case yc11 => k_is); (case yk11 => k_is); (case ykC1 => k_is); (case yeC1 => first | k_is | rfl | decide); (case ytC1 => k_is); (case yhC1 => first | k_is | rfl | decide); (case yiC1 => first | k_is | rfl | decide); (case ysC1 => first | k_is | rfl | decide); (case yiB1 => first | k_is | rfl | decide); (case ytB1 => k_is); (case ysB1 => first | k_is | rfl | decide); (case yne1 => first | k_is | rfl | decide); (case yca1 => k_is); (case ygt1 => k_is); (case ytk1 => k_is); (case ymo1 => k_is)
    (case yaC2 => k_is); (case yaB2 => k_is); (case yxL2 => k_is); (case yrf2 => first | k_is | rfl | decide); (case ysa2 => k_is); (case yga2 => k_is); (case ygg2 => k_is); (case yno2 => k_is); (case ya12 => k_is); (case yt12 => k_is); (case yl12 => k_is); (case yc12 => k_is); (case yk12 => k_is); (case ykC2 => k_is); (case yeC2 => first | k_is | rfl | decide); (case ytC2 => k_is); (case yhC2 => first | k_is | rfl | decide); (case yiC2 => first | k_is | rfl | decide); (case ysC2 => first | k_is | rfl | decide); (case yiB2 => first | k_is | rfl | decide); (case ytB2 => k_is); (case ysB2 => first | k_is | rfl | decide); (case yne2 => first | k_is | rfl | decide); (case yca2 => k_is); (case ygt2 => k_is); (case ytk2 => k_is); (case ymo2 => k_is)
    (case yaC3 => k_is); (case yaB3 => k_is); (case yxL3 => k_is); (case yrf3 => first | k_is | rfl | decide); (case ysa3 => k_is); (case yga3 => k_is); (case ygg3 => k_is); (case yno3 => k_is); (case ya13 => k_is); (case yt13 => k_is); (case yl13 => k_is); (case yc13 => k_is); (case yk13 => k_is); (case ykC3 => k_is); (case yeC3 => first | k_is | rfl | decide); (case ytC3 => k_is); (case yhC3 => first | k_is | rfl | decide); (case yiC3 => first | k_is | rfl | decide); (case ysC3 => first | k_is | rfl | decide); (case yiB3 => first | k_is | rfl | decide); (case ytB3 => k_is); (case ysB3 => first | k_is | rfl | decide); (case yne3 => first | k_is | rfl | decide); (case yca3 => k_is); (case ygt3 => k_is); (case ytk3 => k_is); (case ymo3 => k_is)
    (case yaC4 => k_is); (case yaB4 => k_is); (case yxL4 => k_is); (case yrf4 => first | k_is | rfl | decide); (case ysa4 => k_is); (case yga4 => k_is); (case ygg4 => k_is); (case yno4 => k_is); (case ya14 => k_is); (case yt14 => k_is); (case yl14 => k_is); (case yc14 => k_is); (case yk14 => k_is); (case ykC4 => k_is); (case yeC4 => first | k_is | rfl | decide); (case ytC4 => k_is); (case yhC4 => first | k_is | rfl | decide); (case yiC4 => first | k_is | rfl | decide); (case ysC4 => first | k_is | rfl | decide); (case yiB4 => first | k_is | rfl | decide); (case ytB4 => k_is); (case ysB4 => first | k_is | rfl | decide); (case yne4 => first | k_is | rfl | decide); (case yca4 => k_is); (case ygt4 => k_is); (case ytk4 => k_is); (case ymo4 => k_is)
    (case yaC5 => k_is); (case yaB5 => k_is); (case yxL5 => k_is); (case yrf5 => first | k_is | rfl | decide); (case ysa5 => k_is); (case yga5 => k_is); (case ygg5 => k_is); (case yno5 => k_is); (case ya15 => k_is); (case yt15 => k_is); (case yl15 => k_is); (case yc15 => k_is); (case yk15 => k_is); (case ykC5 => k_is); (case yeC5 => first | k_is | rfl | decide); (case ytC5 => k_is); (case yhC5 => first | k_is | rfl | decide); (case yiC5 => first | k_is | rfl | decide); (case ysC5 => first | k_is | rfl | decide); (case yiB5 => first | k_is | rfl | decide); (case ytB5 => k_is); (case ysB5 => first | k_is | rfl | decide); (case yne5 => first | k_is | rfl | decide); (case yca5 => k_is); (case ygt5 => k_is); (case ytk5 => k_is); (case ymo5 => k_is)
    (case xs12 => k_is); (case xs13 => k_is); (case xs14 => k_is); (case xs15 => k_is); (case xs23 => k_is); (case xs24 => k_is); (case xs25 => k_is); (case xs34 => k_is); (case xs35 => k_is); (case xs45 => k_is)
    (case za => k_is); (case zlk => k_is); (case zhcd => k_is); (case za2 => k_is); (case zlk2 => k_is); (case zhcd2 => k_is); (case zkp2 => k_is)
    (case zhne => decide); (case zhd1 => kernel_rfl); (case zhd2 => kernel_rfl); (case zt1 => exact PySem.W.km_tabs_of Y 471 (by decide)); (case zt2 => exact PySem.W.km_tabs_of Y 466 (by decide)); (case zn1 => kernel_rfl); (case zn2 => kernel_rfl)
  case cx =>
    intro w H s e s' z
    obtain ⟨_, _, _, _, _, _, _, _, _, _, _, _, z⟩ := z
    exact z

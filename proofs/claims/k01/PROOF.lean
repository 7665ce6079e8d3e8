import PyProof.Rows.All
import Wide.All
import OpenK.AllK
import Wide.FinOn
import HandS.ForMost
import HandS.ForExc
import HandS.Defaults
import HandS.CallSlots
import HandS.Gcd
import HandS.Wide
import HandS.IsInst
import HandS.Property
import HandS.ClsMeth
import HandS.ExcInit
import HandS.ExcField
import HandS.ExcIs
import HandS.Flow
import HandS.TupAny
import HandS.Deep
import KE.KOpsOwn
import PyProof.ReprRoads
import PyProof.Rows.NestShow
import HandS.Comp
import HandS.HeadHook2
import HandS.Ends
import KE.HD3
import PySem.Challenge.RW_swornlots_k01_fractions
import PyProof.ReprLen
import PyProof.FitsInt
set_option Elab.async false
set_option linter.all false
set_option maxRecDepth 100000
set_option maxHeartbeats 2000000
namespace Vi
open PySem L2

/-! ### data -/
inductive D where
  | non | bl (b : Bool) | int (i : Int) | str (x : Str)
  | tup (xs : List D) | lst (xs : List D) | kl (xs : List D)
  | ref (n : Nat)
  | obj (c : Nat) (fs : List (Str × D))
  | cls (c : Nat)
  | dK (kvs : List (Key × D)) | dT (kvs : List (List Key × D))
inductive Cell where
  | lst (xs : List D)
  | ins (c : Nat) (fs : List (Str × D))
  | dK (kvs : List (Key × D)) | dT (kvs : List (List Key × D))
/-- what an expression gives: data, a new list (nobody else knows it), a list of a slot (to be read) -/
inductive Vl where
  | d (x : D) | tl (xs : List D) | bl (xs : List D) | bi (c : Nat) (fs : List (Str × D))
/-- what a slot holds: data, a list of its own, a new instance in its own __init__ -/
inductive Sl where
  | d (x : D) | ol (xs : List D) | oi (c : Nat) (fs : List (Str × D)) | xc (c : Nat) (fs : List (Str × D))
abbrev Env := List (Option Sl)
abbrev Hc := List Cell
inductive R (α : Type) where
  | ok (a : α) (h : Hc) | exc (x : D) (h : Hc) | stuck
def R.bind {α β : Type} (r : R α) (k : α → Hc → R β) : R β := match r with
  | .ok a h => k a h
  | .exc x h => .exc x h
  | .stuck => .stuck
@[simp] theorem R.bind_ok {α β : Type} {a : α} {h : Hc} {k : α → Hc → R β} : (R.ok a h).bind k = k a h := rfl
@[simp] theorem R.bind_exc {α β : Type} {a : D} {h : Hc} {k : α → Hc → R β} : (R.exc a h : R α).bind k = .exc a h := rfl
@[simp] theorem R.bind_stuck {α β : Type} {k : α → Hc → R β} : (R.stuck : R α).bind k = .stuck := rfl

/-! ### how data stands in the heap -/
/-- a type: a built-in one, an own class -/
inductive Ty where
  | bt (n : String) | own (c : Nat)
  deriving DecidableEq
structure Gi where
  K : PySem.W.Frag
  ca : Nat → Addr
  isC : Nat → Bool
  fld : Nat → Str → Bool
  isi : Ty → Ty → Option Bool
mutual
def Rep (g : Gi) (F : Hp) (al : Nat → Option Addr) : D → V → Prop
  | .non, v => v = .non
  | .bl b, v => v = .bl b
  | .int i, v => v = .int i
  | .str x, v => v = .str x
  | .tup ds, v => ∃ (a : Addr) (vs : List V), v = .ref a ∧ SqT g.K F a vs ∧ Reps g F al ds vs
  | .lst ds, v => ∃ (a : Addr) (vs : List V), v = .ref a ∧ F a = some (.lst vs) ∧ Reps g F al ds vs
  | .kl ds, v => ∃ (a : Addr) (vs : List V), v = .ref a ∧ SqL g.K F a vs ∧ Reps g F al ds vs
  | .ref n, v => ∃ a, v = .ref a ∧ al n = some a
  | .obj c fs, v => ∃ (a dx : Addr) (vs : List (Str × V)), v = .ref a ∧ F a = some (.ins (g.ca c) dx vs) ∧ RepF g F al fs vs
  | .cls c, v => v = .ref (g.ca c)
  | .dK kvs, v => ∃ (a : Addr) (vs : List (Key × V)), v = .ref a ∧ F a = some (.dK vs) ∧ RepK g F al kvs vs
  | .dT kvs, v => ∃ (a : Addr) (vs : List (List Key × V)), v = .ref a ∧ F a = some (.dT vs) ∧ RepT g F al kvs vs
def Reps (g : Gi) (F : Hp) (al : Nat → Option Addr) : List D → List V → Prop
  | [], vs => vs = []
  | d :: ds, vs => ∃ v r, vs = v :: r ∧ Rep g F al d v ∧ Reps g F al ds r
def RepF (g : Gi) (F : Hp) (al : Nat → Option Addr) : List (Str × D) → List (Str × V) → Prop
  | [], vs => vs = []
  | (k, d) :: ds, vs => ∃ v r, vs = (k, v) :: r ∧ Rep g F al d v ∧ RepF g F al ds r
def RepK (g : Gi) (F : Hp) (al : Nat → Option Addr) : List (Key × D) → List (Key × V) → Prop
  | [], vs => vs = []
  | (k, d) :: ds, vs => ∃ v r, vs = (k, v) :: r ∧ Rep g F al d v ∧ RepK g F al ds r
def RepT (g : Gi) (F : Hp) (al : Nat → Option Addr) : List (List Key × D) → List (List Key × V) → Prop
  | [], vs => vs = []
  | (k, d) :: ds, vs => ∃ v r, vs = (k, v) :: r ∧ Rep g F al d v ∧ RepT g F al ds r
end
theorem sqT_mono {K : PySem.W.Frag} {F F' : Hp} {a : Addr} {vs : List V} (e : ∀ a o, F a = some o → F' a = some o) (h : SqT K F a vs) : SqT K F' a vs := by
  rcases h with (h | ⟨o, h⟩) | h
  · exact .inl (.inl (e _ _ h))
  · exact .inl (.inr ⟨o, e _ _ h⟩)
  · exact .inr h
theorem sqL_mono {K : PySem.W.Frag} {F F' : Hp} {a : Addr} {vs : List V} (e : ∀ a o, F a = some o → F' a = some o) (h : SqL K F a vs) : SqL K F' a vs := by
  rcases h with (h | ⟨o, h⟩) | h
  · exact .inl (.inl (e _ _ h))
  · exact .inl (.inr ⟨o, e _ _ h⟩)
  · exact .inr h
section
variable {g : Gi} {F F' : Hp} {al al' : Nat → Option Addr}
mutual
theorem Rep.mono (e : ∀ a o, F a = some o → F' a = some o) (ea : ∀ n a, al n = some a → al' n = some a) : ∀ {d : D} {v : V}, Rep g F al d v → Rep g F' al' d v
  | .non, _, h => h
  | .bl _, _, h => h
  | .int _, _, h => h
  | .str _, _, h => h
  | .tup _, _, ⟨a, vs, h1, h2, h3⟩ => ⟨a, vs, h1, sqT_mono e h2, Reps.mono e ea h3⟩
  | .lst _, _, ⟨a, vs, h1, h2, h3⟩ => ⟨a, vs, h1, e _ _ h2, Reps.mono e ea h3⟩
  | .kl _, _, ⟨a, vs, h1, h2, h3⟩ => ⟨a, vs, h1, sqL_mono e h2, Reps.mono e ea h3⟩
  | .ref _, _, ⟨a, h1, h2⟩ => ⟨a, h1, ea _ _ h2⟩
  | .obj _ _, _, ⟨a, dx, vs, h1, h2, h3⟩ => ⟨a, dx, vs, h1, e _ _ h2, RepF.mono e ea h3⟩
  | .cls _, _, h => h
  | .dK _, _, ⟨a, vs, h1, h2, h3⟩ => ⟨a, vs, h1, e _ _ h2, RepK.mono e ea h3⟩
  | .dT _, _, ⟨a, vs, h1, h2, h3⟩ => ⟨a, vs, h1, e _ _ h2, RepT.mono e ea h3⟩
theorem Reps.mono (e : ∀ a o, F a = some o → F' a = some o) (ea : ∀ n a, al n = some a → al' n = some a) : ∀ {d : List D} {v : List V}, Reps g F al d v → Reps g F' al' d v
  | [], _, h => h
  | _ :: _, _, ⟨v, r, h1, h2, h3⟩ => ⟨v, r, h1, Rep.mono e ea h2, Reps.mono e ea h3⟩
theorem RepF.mono (e : ∀ a o, F a = some o → F' a = some o) (ea : ∀ n a, al n = some a → al' n = some a) : ∀ {d : List (Str × D)} {v : List (Str × V)}, RepF g F al d v → RepF g F' al' d v
  | [], _, h => h
  | (_, _) :: _, _, ⟨v, r, h1, h2, h3⟩ => ⟨v, r, h1, Rep.mono e ea h2, RepF.mono e ea h3⟩
theorem RepK.mono (e : ∀ a o, F a = some o → F' a = some o) (ea : ∀ n a, al n = some a → al' n = some a) : ∀ {d : List (Key × D)} {v : List (Key × V)}, RepK g F al d v → RepK g F' al' d v
  | [], _, h => h
  | (_, _) :: _, _, ⟨v, r, h1, h2, h3⟩ => ⟨v, r, h1, Rep.mono e ea h2, RepK.mono e ea h3⟩
theorem RepT.mono (e : ∀ a o, F a = some o → F' a = some o) (ea : ∀ n a, al n = some a → al' n = some a) : ∀ {d : List (List Key × D)} {v : List (List Key × V)}, RepT g F al d v → RepT g F' al' d v
  | [], _, h => h
  | (_, _) :: _, _, ⟨v, r, h1, h2, h3⟩ => ⟨v, r, h1, Rep.mono e ea h2, RepT.mono e ea h3⟩
end
end

/-! ### the state -/
structure Sta where
  F : Hp
  al : Nat → Option Addr
  h : Hc
abbrev RepS (g : Gi) (s : Sta) : D → V → Prop := Rep g s.F s.al
abbrev RepsS (g : Gi) (s : Sta) : List D → List V → Prop := Reps g s.F s.al
def CellRep (g : Gi) (s : Sta) (H : Hp) (a : Addr) : Cell → Prop
  | .lst ds => ∃ vs, H a = some (.lst vs) ∧ Reps g s.F s.al ds vs
  | .ins c fs => ∃ dx vs, H a = some (.ins (g.ca c) dx vs) ∧ RepF g s.F s.al fs vs
  | .dK kvs => ∃ vs, H a = some (.dK vs) ∧ RepK g s.F s.al kvs vs
  | .dT kvs => ∃ vs, H a = some (.dT vs) ∧ RepT g s.F s.al kvs vs
structure Good (g : Gi) (s : Sta) (H : Hp) : Prop where
  fle : ∀ a o, s.F a = some o → H a = some o
  inj : ∀ n m a, s.al n = some a → s.al m = some a → n = m
  dom : ∀ n a, s.al n = some a → n < s.h.length ∧ s.F a = none ∧ ∃ o, H a = some o
  cell : ∀ n c, s.h[n]? = some c → ∃ a, s.al n = some a ∧ CellRep g s H a c
structure Evo (s : Sta) (H : Hp) (s' : Sta) (H' : Hp) : Prop where
  f : ∀ a o, s.F a = some o → s'.F a = some o
  al : ∀ n a, s.al n = some a → s'.al n = some a
  oth : ∀ a o, H a = some o → (∀ n, s.al n ≠ some a) → H' a = some o ∧ (s.F a = none → s'.F a = none) ∧ ∀ n, s'.al n ≠ some a
  len : s.h.length ≤ s'.h.length
theorem Evo.refl (s : Sta) (H : Hp) : Evo s H s H := ⟨fun _ _ h => h, fun _ _ h => h, fun _ _ h n => ⟨h, fun z => z, n⟩, Nat.le_refl _⟩
theorem Evo.trans {s s1 s2 : Sta} {H H1 H2 : Hp} (a : Evo s H s1 H1) (b : Evo s1 H1 s2 H2) : Evo s H s2 H2 :=
  ⟨fun _ _ h => b.f _ _ (a.f _ _ h), fun _ _ h => b.al _ _ (a.al _ _ h), fun x o h n => by
    obtain ⟨h1, f1, n1⟩ := a.oth x o h n
    obtain ⟨h2, f2, n2⟩ := b.oth x o h1 n1
    exact ⟨h2, fun z => f2 (f1 z), n2⟩, Nat.le_trans a.len b.len⟩
section
variable {g : Gi} {s s' : Sta} {H H' : Hp}
theorem Evo.rep (e : Evo s H s' H') {d : D} {v : V} (h : Rep g s.F s.al d v) : Rep g s'.F s'.al d v := h.mono e.f e.al
theorem Evo.reps (e : Evo s H s' H') {d : List D} {v : List V} (h : Reps g s.F s.al d v) : Reps g s'.F s'.al d v := h.mono e.f e.al
theorem Evo.repF (e : Evo s H s' H') {d : List (Str × D)} {v : List (Str × V)} (h : RepF g s.F s.al d v) : RepF g s'.F s'.al d v := h.mono e.f e.al
end

/-- where a body began -/
structure Bg where
  s : Sta
  H : Hp
  me : Addr := 0
  xa : Addr := 0
  xd : Addr := 0
  xcl : Nat := 0
/-- an address that is one slot's own -/
structure OwnA (B : Bg) (s : Sta) (a : Addr) : Prop where
  f : s.F a = none
  al : ∀ n, s.al n ≠ some a
  new : B.H a = none
theorem OwnA.evo {B : Bg} {s s' : Sta} {H H' : Hp} {a : Addr} {o : HO} (e : Evo s H s' H') (h : OwnA B s a) (ho : H a = some o) : OwnA B s' a ∧ H' a = some o := by
  obtain ⟨h1, h2, h3⟩ := e.oth a o ho h.al
  exact ⟨⟨h2 h.f, h3, h.new⟩, h1⟩
def SlRep (g : Gi) (B : Bg) (s : Sta) (H : Hp) : Sl → V → Prop
  | .d x, v => Rep g s.F s.al x v
  | .ol xs, v => ∃ a vs, v = .ref a ∧ H a = some (.lst vs) ∧ OwnA B s a ∧ Reps g s.F s.al xs vs
  | .oi c fs, v => ∃ a dx vs, v = .ref a ∧ H a = some (.ins (g.ca c) dx vs) ∧ OwnA B s a ∧ RepF g s.F s.al fs vs ∧ a = B.me
  | .xc c fs, v => v = .ref B.xa ∧ c = B.xcl ∧ ∃ vs, H B.xd = some (.xd vs) ∧ (∀ n, s.al n ≠ some B.xd) ∧ RepF g s.F s.al fs vs
def Sl.own : Sl → Bool
  | .d _ => false
  | .xc _ _ => false
  | _ => true
theorem SlRep.evo {g : Gi} {B : Bg} {s s' : Sta} {H H' : Hp} (e : Evo s H s' H') : ∀ {sl : Sl} {v : V}, SlRep g B s H sl v → SlRep g B s' H' sl v
  | .d _, _, h => e.rep h
  | .ol _, _, ⟨a, vs, h1, h2, h3, h4⟩ => ⟨a, vs, h1, (h3.evo e h2).2, (h3.evo e h2).1, e.reps h4⟩
  | .oi _ _, _, ⟨a, dx, vs, h1, h2, h3, h4, h5⟩ => ⟨a, dx, vs, h1, (h3.evo e h2).2, (h3.evo e h2).1, e.repF h4, h5⟩
  | .xc _ _, _, ⟨h1, h2, vs, h3, h4, h5⟩ => ⟨h1, h2, vs, (e.oth _ _ h3 h4).1, (e.oth _ _ h3 h4).2.2, e.repF h5⟩
structure SR (g : Gi) (B : Bg) (env : Env) (s : Sta) (σ : L2.St) (H : Hp) : Prop where
  good : Good g s H
  evo : Evo B.s B.H s H
  len : env.length = σ.length
  slot : ∀ (i : Nat) (sl : Sl), env[i]? = some (some sl) → ∃ v, σ[i]? = some (some v) ∧ SlRep g B s H sl v
  sep : ∀ (i j : Nat) (sl sl' : Sl) (v : V), i ≠ j → env[i]? = some (some sl) → env[j]? = some (some sl') → sl.own = true → sl'.own = true → σ[i]? = some (some v) → σ[j]? ≠ some (some v)
/-- not one of the slots' own -/
def NotOwn (env : Env) (σ : L2.St) (a : Addr) : Prop := ∀ (i : Nat) (sl : Sl), env[i]? = some (some sl) → sl.own = true → σ[i]? ≠ some (some (.ref a))
def VlRep (g : Gi) (B : Bg) (env : Env) (σ : L2.St) (s : Sta) (H : Hp) : Vl → V → Prop
  | .d x, v => Rep g s.F s.al x v
  | .tl xs, v => ∃ a vs, v = .ref a ∧ H a = some (.lst vs) ∧ OwnA B s a ∧ NotOwn env σ a ∧ Reps g s.F s.al xs vs
  | .bl xs, v => ∃ a vs, v = .ref a ∧ H a = some (.lst vs) ∧ OwnA B s a ∧ Reps g s.F s.al xs vs
  | .bi c fs, v => ∃ a dx vs, v = .ref a ∧ H a = some (.ins (g.ca c) dx vs) ∧ OwnA B s a ∧ RepF g s.F s.al fs vs
theorem VlRep.evo {g : Gi} {B : Bg} {env : Env} {σ : L2.St} {s s' : Sta} {H H' : Hp} (e : Evo s H s' H') : ∀ {x : Vl} {v : V}, VlRep g B env σ s H x v → VlRep g B env σ s' H' x v
  | .d _, _, h => e.rep h
  | .tl _, _, ⟨a, vs, h1, h2, h3, h5, h4⟩ => ⟨a, vs, h1, (h3.evo e h2).2, (h3.evo e h2).1, h5, e.reps h4⟩
  | .bl _, _, ⟨a, vs, h1, h2, h3, h4⟩ => ⟨a, vs, h1, (h3.evo e h2).2, (h3.evo e h2).1, e.reps h4⟩
  | .bi _ _, _, ⟨a, dx, vs, h1, h2, h3, h4⟩ => ⟨a, dx, vs, h1, (h3.evo e h2).2, (h3.evo e h2).1, e.repF h4⟩
/-- an exception: its class, its fields in its own dict -/
def XRep (g : Gi) (s : Sta) (H : Hp) : D → Value → Option Addr → Prop
  | .obj c fs, cls, dd => ∃ d vs, cls = .ref (g.ca c) ∧ dd = some d ∧ H d = some (.xd vs) ∧ (∀ n, s.al n ≠ some d) ∧ RepF g s.F s.al fs vs
  | _, _, _ => False
abbrev WXv := Value → Option Addr → L2.St → Hp → Prop

/-! ### readings of mirrors -/
abbrev ME := Env → Hc → R Vl
abbrev MB := Env → Hc → R Bool
abbrev MA := Env → Hc → R (List Vl)
section
variable (g : Gi) (B : Bg) (W : WXv) (env : Env) (s : Sta) (σ : L2.St) (H : Hp)
/-- what must hold of a result r that is reckoned at (s, H) -/
def PostX (x : D) (h : Hc) : Prop := ∀ (cls : Value) (dd : Option Addr) (H' : Hp) (s' : Sta), s'.h = h → Evo s H s' H' → SR g B env s' σ H' → XRep g s' H' x cls dd → W cls dd σ H'
def PostE : R Vl → VK → Prop
  | .ok d h, Q => ∀ (v : V) (H' : Hp) (s' : Sta), s'.h = h → Evo s H s' H' → SR g B env s' σ H' → VlRep g B env σ s' H' d v → Q v H'
  | .exc x h, _ => PostX g B W env s σ H x h
  | .stuck, _ => False
def PostB : R Bool → (Bool → Hp → Prop) → Prop
  | .ok b h, Q => ∀ (H' : Hp) (s' : Sta), s'.h = h → Evo s H s' H' → SR g B env s' σ H' → Q b H'
  | .exc x h, _ => PostX g B W env s σ H x h
  | .stuck, _ => False
inductive VlReps (g : Gi) (B : Bg) (env : Env) (σ : L2.St) (s : Sta) (H : Hp) : List Vl → List V → Prop
  | nil : VlReps g B env σ s H [] []
  | cons {x : Vl} {xs : List Vl} {v : V} {vs : List V} : VlRep g B env σ s H x v → VlReps g B env σ s H xs vs → VlReps g B env σ s H (x :: xs) (v :: vs)
def PostA : R (List Vl) → (List V → Hp → Prop) → Prop
  | .ok d h, Q => ∀ (vs : List V) (H' : Hp) (s' : Sta), s'.h = h → Evo s H s' H' → SR g B env s' σ H' → VlReps g B env σ s' H' d vs → Q vs H'
  | .exc x h, _ => PostX g B W env s σ H x h
  | .stuck, _ => False
end
theorem VlReps.evo {g : Gi} {B : Bg} {env : Env} {σ : L2.St} {s s' : Sta} {H H' : Hp} (e : Evo s H s' H') : ∀ {x : List Vl} {v : List V}, VlReps g B env σ s H x v → VlReps g B env σ s' H' x v
  | _, _, .nil => .nil
  | _, _, .cons a b => .cons (a.evo e) (b.evo e)
def tE (g : Gi) (B : Bg) (W : WXv) (m : ME) : TE := fun σ H Q => ∃ env s, SR g B env s σ H ∧ PostE g B W env s σ H (m env s.h) Q
def tT (g : Gi) (B : Bg) (W : WXv) (m : MB) : TT := fun σ H Q => ∃ env s, SR g B env s σ H ∧ PostB g B W env s σ H (m env s.h) Q
def tA (g : Gi) (B : Bg) (W : WXv) (m : MA) : TA := fun σ H Q => ∃ env s, SR g B env s σ H ∧ PostA g B W env s σ H (m env s.h) Q
section
variable {g : Gi} {B : Bg} {W : WXv} {env : Env} {s s' : Sta} {σ : L2.St} {H H' : Hp}
theorem PostX.later {x : D} {h : Hc} (e : Evo s H s' H') (p : PostX g B W env s σ H x h) : PostX g B W env s' σ H' x h := fun cls dd H2 s2 e1 e2 sr xr => p cls dd H2 s2 e1 (e.trans e2) sr xr
theorem PostE.later {Q : VK} (e : Evo s H s' H') : ∀ {r : R Vl}, PostE g B W env s σ H r Q → PostE g B W env s' σ H' r Q
  | .ok _ _, p => fun v H2 s2 e1 e2 sr vr => p v H2 s2 e1 (e.trans e2) sr vr
  | .exc _ _, p => PostX.later e p
  | .stuck, p => p
theorem PostB.later {Q : Bool → Hp → Prop} (e : Evo s H s' H') : ∀ {r : R Bool}, PostB g B W env s σ H r Q → PostB g B W env s' σ H' r Q
  | .ok _ _, p => fun H2 s2 e1 e2 sr => p H2 s2 e1 (e.trans e2) sr
  | .exc _ _, p => PostX.later e p
  | .stuck, p => p
theorem PostA.later {Q : List V → Hp → Prop} (e : Evo s H s' H') : ∀ {r : R (List Vl)}, PostA g B W env s σ H r Q → PostA g B W env s' σ H' r Q
  | .ok _ _, p => fun v H2 s2 e1 e2 sr vr => p v H2 s2 e1 (e.trans e2) sr vr
  | .exc _ _, p => PostX.later e p
  | .stuck, p => p

theorem PostE.mono {Q Q' : VK} (i : ∀ v H, Q v H → Q' v H) : ∀ {r : R Vl}, PostE g B W env s σ H r Q → PostE g B W env s σ H r Q'
  | .ok _ _, p => fun v H2 s2 e1 e2 sr vr => i _ _ (p v H2 s2 e1 e2 sr vr)
  | .exc _ _, p => p
  | .stuck, p => p
theorem PostB.mono {Q Q' : Bool → Hp → Prop} (i : ∀ v H, Q v H → Q' v H) : ∀ {r : R Bool}, PostB g B W env s σ H r Q → PostB g B W env s σ H r Q'
  | .ok _ _, p => fun H2 s2 e1 e2 sr => i _ _ (p H2 s2 e1 e2 sr)
  | .exc _ _, p => p
  | .stuck, p => p
theorem PostA.mono {Q Q' : List V → Hp → Prop} (i : ∀ v H, Q v H → Q' v H) : ∀ {r : R (List Vl)}, PostA g B W env s σ H r Q → PostA g B W env s σ H r Q'
  | .ok _ _, p => fun v H2 s2 e1 e2 sr vr => i _ _ (p v H2 s2 e1 e2 sr vr)
  | .exc _ _, p => p
  | .stuck, p => p
theorem tE.mono {m : ME} {Q Q' : VK} (h : tE g B W m σ H Q) (i : ∀ v H, Q v H → Q' v H) : tE g B W m σ H Q' := by
  obtain ⟨env, s, sr, p⟩ := h
  exact ⟨env, s, sr, p.mono i⟩
theorem tT.mono {m : MB} {Q Q' : Bool → Hp → Prop} (h : tT g B W m σ H Q) (i : ∀ v H, Q v H → Q' v H) : tT g B W m σ H Q' := by
  obtain ⟨env, s, sr, p⟩ := h
  exact ⟨env, s, sr, p.mono i⟩
theorem tA.mono {m : MA} {Q Q' : List V → Hp → Prop} (h : tA g B W m σ H Q) (i : ∀ v H, Q v H → Q' v H) : tA g B W m σ H Q' := by
  obtain ⟨env, s, sr, p⟩ := h
  exact ⟨env, s, sr, p.mono i⟩
/-- one part, then the rest -/
theorem bindE {a : ME} {k : Vl → Hc → R Vl} {Q : VK} (sr : SR g B env s σ H) (p : PostE g B W env s σ H ((a env s.h).bind k) Q) :
    tE g B W a σ H fun v H1 => ∃ s1 x, SR g B env s1 σ H1 ∧ Evo s H s1 H1 ∧ VlRep g B env σ s1 H1 x v ∧ PostE g B W env s1 σ H1 (k x s1.h) Q := by
  refine ⟨env, s, sr, ?_⟩
  cases e : a env s.h with
  | ok x h1 =>
    rw [e] at p
    intro v H1 s1 e1 ev sr1 vr
    refine ⟨s1, x, sr1, ev, vr, ?_⟩
    rw [e1]
    exact PostE.later ev p
  | exc x h1 =>
    rw [e] at p
    exact p
  | stuck =>
    rw [e] at p
    exact p
theorem bindET {a : ME} {k : Vl → Hc → R Bool} {Q : Bool → Hp → Prop} (sr : SR g B env s σ H) (p : PostB g B W env s σ H ((a env s.h).bind k) Q) :
    tE g B W a σ H fun v H1 => ∃ s1 x, SR g B env s1 σ H1 ∧ Evo s H s1 H1 ∧ VlRep g B env σ s1 H1 x v ∧ PostB g B W env s1 σ H1 (k x s1.h) Q := by
  refine ⟨env, s, sr, ?_⟩
  cases e : a env s.h with
  | ok x h1 =>
    rw [e] at p
    intro v H1 s1 e1 ev sr1 vr
    refine ⟨s1, x, sr1, ev, vr, ?_⟩
    rw [e1]
    exact PostB.later ev p
  | exc x h1 =>
    rw [e] at p
    exact p
  | stuck =>
    rw [e] at p
    exact p
theorem bindTE {a : MB} {k : Bool → Hc → R Vl} {Q : VK} (sr : SR g B env s σ H) (p : PostE g B W env s σ H ((a env s.h).bind k) Q) :
    tT g B W a σ H fun b H1 => ∃ s1, SR g B env s1 σ H1 ∧ Evo s H s1 H1 ∧ PostE g B W env s1 σ H1 (k b s1.h) Q := by
  refine ⟨env, s, sr, ?_⟩
  cases e : a env s.h with
  | ok x h1 =>
    rw [e] at p
    intro H1 s1 e1 ev sr1
    refine ⟨s1, sr1, ev, ?_⟩
    rw [e1]
    exact PostE.later ev p
  | exc x h1 =>
    rw [e] at p
    exact p
  | stuck =>
    rw [e] at p
    exact p
theorem bindTT {a : MB} {k : Bool → Hc → R Bool} {Q : Bool → Hp → Prop} (sr : SR g B env s σ H) (p : PostB g B W env s σ H ((a env s.h).bind k) Q) :
    tT g B W a σ H fun b H1 => ∃ s1, SR g B env s1 σ H1 ∧ Evo s H s1 H1 ∧ PostB g B W env s1 σ H1 (k b s1.h) Q := by
  refine ⟨env, s, sr, ?_⟩
  cases e : a env s.h with
  | ok x h1 =>
    rw [e] at p
    intro H1 s1 e1 ev sr1
    refine ⟨s1, sr1, ev, ?_⟩
    rw [e1]
    exact PostB.later ev p
  | exc x h1 =>
    rw [e] at p
    exact p
  | stuck =>
    rw [e] at p
    exact p
theorem bindAA {a : ME} {b : MA} {f : Vl → List Vl → Hc → R (List Vl)} {Q : List V → Hp → Prop} (sr : SR g B env s σ H) (p : PostA g B W env s σ H ((a env s.h).bind fun x h1 => (b env h1).bind fun xs h2 => f x xs h2) Q) :
    tE g B W a σ H fun v H1 => tA g B W b σ H1 fun vs H2 => ∃ s2 x xs, SR g B env s2 σ H2 ∧ Evo s H s2 H2 ∧ VlRep g B env σ s2 H2 x v ∧ VlReps g B env σ s2 H2 xs vs ∧ PostA g B W env s2 σ H2 (f x xs s2.h) Q := by
  refine ⟨env, s, sr, ?_⟩
  cases e1 : a env s.h with
  | ok x h1 =>
    rw [e1] at p
    intro v H1 s1 q1 ev1 sr1 vr1
    refine ⟨env, s1, sr1, ?_⟩
    have p : PostA g B W env s σ H ((b env h1).bind fun xs h2 => f x xs h2) Q := p
    rw [q1]
    cases e2 : b env h1 with
    | ok xs h2 =>
      rw [e2] at p
      intro vs H2 s2 q2 ev2 sr2 vr2
      refine ⟨s2, x, xs, sr2, ev1.trans ev2, vr1.evo ev2, vr2, ?_⟩
      rw [q2]
      exact PostA.later (ev1.trans ev2) p
    | exc x h =>
      rw [e2] at p
      exact PostX.later ev1 p
    | stuck =>
      rw [e2] at p
      exact p
  | exc x h =>
    rw [e1] at p
    exact p
  | stuck =>
    rw [e1] at p
    exact p
theorem bindA {a : MA} {k : List Vl → Hc → R Vl} {Q : VK} (sr : SR g B env s σ H) (p : PostE g B W env s σ H ((a env s.h).bind k) Q) :
    tA g B W a σ H fun vs H1 => ∃ s1 xs, SR g B env s1 σ H1 ∧ Evo s H s1 H1 ∧ VlReps g B env σ s1 H1 xs vs ∧ PostE g B W env s1 σ H1 (k xs s1.h) Q := by
  refine ⟨env, s, sr, ?_⟩
  cases e : a env s.h with
  | ok x h1 =>
    rw [e] at p
    intro v H1 s1 e1 ev sr1 vr
    refine ⟨s1, x, sr1, ev, vr, ?_⟩
    rw [e1]
    exact PostE.later ev p
  | exc x h1 =>
    rw [e] at p
    exact p
  | stuck =>
    rw [e] at p
    exact p
/-- a result that changes nothing -/
theorem PostE.pure {x : Vl} {v : V} {Q : VK} (sr : SR g B env s σ H) (p : PostE g B W env s σ H (.ok x s.h) Q) (r : VlRep g B env σ s H x v) : Q v H := p v H s rfl (Evo.refl s H) sr r
theorem PostB.pure {b : Bool} {Q : Bool → Hp → Prop} (sr : SR g B env s σ H) (p : PostB g B W env s σ H (.ok b s.h) Q) : Q b H := p H s rfl (Evo.refl s H) sr
/-- a new object that is tracked nowhere -/
theorem SR.new {p : Addr} {o : HO} (sr : SR g B env s σ H) (hp : H p = none) : SR g B env s σ (upd H p o) ∧ Evo s H s (upd H p o) := by
  have ne : ∀ {a : Addr} {u : HO}, H a = some u → a ≠ p := fun h => ne_of_none h hp
  have ev : Evo s H s (upd H p o) := ⟨fun _ _ h => h, fun _ _ h => h, fun a u h n => ⟨by rw [upd_ne (ne h)]; exact h, fun z => z, n⟩, Nat.le_refl _⟩
  refine ⟨⟨⟨fun a u h => ?_, sr.good.inj, fun n a h => ?_, fun n c h => ?_⟩, sr.evo.trans ev, sr.len, fun i sl h => ?_, sr.sep⟩, ev⟩
  · have z := sr.good.fle a u h
    rw [upd_ne (ne z)]
    exact z
  · obtain ⟨h1, h2, u, h3⟩ := sr.good.dom n a h
    exact ⟨h1, h2, u, by rw [upd_ne (ne h3)]; exact h3⟩
  · obtain ⟨a, h1, h2⟩ := sr.good.cell n c h
    refine ⟨a, h1, ?_⟩
    cases c with
    | lst ds => obtain ⟨vs, h3, h4⟩ := h2; exact ⟨vs, by rw [upd_ne (ne h3)]; exact h3, h4⟩
    | ins c fs => obtain ⟨dx, vs, h3, h4⟩ := h2; exact ⟨dx, vs, by rw [upd_ne (ne h3)]; exact h3, h4⟩
    | dK kvs => obtain ⟨vs, h3, h4⟩ := h2; exact ⟨vs, by rw [upd_ne (ne h3)]; exact h3, h4⟩
    | dT kvs => obtain ⟨vs, h3, h4⟩ := h2; exact ⟨vs, by rw [upd_ne (ne h3)]; exact h3, h4⟩
  · obtain ⟨v, h1, h2⟩ := sr.slot i sl h
    exact ⟨v, h1, h2.evo ev⟩
theorem SR.own_new {p : Addr} (sr : SR g B env s σ H) (hp : H p = none) : OwnA B s p := by
  refine ⟨?_, fun n h => ?_, ?_⟩
  · cases e : s.F p with
    | none => rfl
    | some o =>
      have z := sr.good.fle p o e
      rw [hp] at z
      cases z
  · obtain ⟨_, _, o, h3⟩ := sr.good.dom n p h
    rw [hp] at h3
    cases h3
  · cases e : B.H p with
    | none => rfl
    | some o =>
      by_cases hn : ∀ n, B.s.al n ≠ some p
      · have z := (sr.evo.oth p o e hn).1
        rw [hp] at z
        cases z
      · have hn2 : ∃ n, B.s.al n = some p := Classical.byContradiction fun h => hn fun n z => h ⟨n, z⟩
        obtain ⟨n, h⟩ := hn2
        obtain ⟨_, _, o, h3⟩ := sr.good.dom n p (sr.evo.al n p h)
        rw [hp] at h3
        cases h3
theorem SlRep.there {sl : Sl} {v : V} (h : SlRep g B s H sl v) (o : sl.own = true) : ∃ a u, v = .ref a ∧ H a = some u := by
  cases sl with
  | d x => cases o
  | ol xs => obtain ⟨a, vs, h1, h2, _⟩ := h; exact ⟨a, _, h1, h2⟩
  | oi c fs => obtain ⟨a, dx, vs, h1, h2, _⟩ := h; exact ⟨a, _, h1, h2⟩
  | xc c fs => cases o
theorem SR.notOwn_new {p : Addr} (sr : SR g B env s σ H) (hp : H p = none) : NotOwn env σ p := fun i sl h1 h2 h3 => by
  obtain ⟨v, e1, e2⟩ := sr.slot i sl h1
  obtain ⟨a, u, rfl, h4⟩ := e2.there h2
  rw [h3] at e1
  cases e1
  rw [hp] at h4
  cases h4
/-- freeze: an owned address becomes part of what never changes -/
def Sta.frz (s : Sta) (a : Addr) (o : HO) : Sta := { s with F := upd s.F a o }
theorem evo_frz {a : Addr} {o : HO} (hf : s.F a = none) (hn : ∀ n, s.al n ≠ some a) (hb : B.H a = none) (e : Evo B.s B.H s H) : Evo B.s B.H (s.frz a o) H :=
  ⟨fun b u h => by
    have z := e.f b u h
    have ne : b ≠ a := fun q => by rw [q, hf] at z; cases z
    show upd s.F a o b = some u
    rw [upd_ne ne]; exact z, e.al, fun b u h n => by
    obtain ⟨h1, h2, h3⟩ := e.oth b u h n
    refine ⟨h1, fun z => ?_, h3⟩
    have ne : b ≠ a := fun q => by rw [q, hb] at h; cases h
    show upd s.F a o b = none
    rw [upd_ne ne]; exact h2 z, e.len⟩
end
end Vi

set_option Elab.async false
set_option linter.all false
set_option maxRecDepth 100000
set_option maxHeartbeats 2000000
namespace Vi
open PySem L2

theorem pe_imp {X : Cx} {e : Expr} {t t' : TE} (h : PE X e t) (i : ∀ σ H Q, t' σ H Q → t σ H Q) : PE X e t' := ⟨fun pins s σ H Q I q => h.run pins s σ H Q I (i σ H Q q)⟩
theorem pt_imp {X : Cx} {e : Expr} {t t' : TT} (h : PT X e t) (i : ∀ σ H Q, t' σ H Q → t σ H Q) : PT X e t' := ⟨fun pins s σ H Q I q => h.run pins s σ H Q I (i σ H Q q)⟩
theorem pw_imp {X : Cx} {e : Expr} {t t' : TT} (h : PW X e t) (i : ∀ σ H Q, t' σ H Q → t σ H Q) : PW X e t' := ⟨fun wh pins s σ H Q I q => h.run wh pins s σ H Q I (i σ H Q q)⟩
theorem pa_imp {X : Cx} {e : List Expr} {t t' : TA} (h : PA X e t) (i : ∀ σ H Q, t' σ H Q → t σ H Q) : PA X e t' := ⟨fun pos pins s σ H Q I q => h.run pos pins s σ H Q I (i σ H Q q)⟩

/-! ### mirrors -/
def mVar (i : Nat) : ME := fun env h => match env[i]? with
  | some (some (.d x)) => .ok (.d x) h
  | some (some (.ol xs)) => .ok (.bl xs) h
  | some (some (.oi c fs)) => .ok (.bi c fs) h
  | _ => .stuck
@[simp] def mC (d : D) : ME := fun _ h => .ok (.d d) h
@[simp] def m1 (f : Vl → Hc → R Vl) (a : ME) : ME := fun env h => (a env h).bind f
@[simp] def m2 (f : Vl → Vl → Hc → R Vl) (a b : ME) : ME := fun env h => (a env h).bind fun x h1 => (b env h1).bind fun y h2 => f x y h2
@[simp] def m2b (f : Vl → Vl → Hc → R Bool) (a b : ME) : MB := fun env h => (a env h).bind fun x h1 => (b env h1).bind fun y h2 => f x y h2
@[simp] def maNil : MA := fun _ h => .ok [] h
@[simp] def maCons (a : ME) (b : MA) : MA := fun env h => (a env h).bind fun x h1 => (b env h1).bind fun xs h2 => .ok (x :: xs) h2
@[simp] def mA1 (f : List Vl → Hc → R Vl) (a : MA) : ME := fun env h => (a env h).bind f
/-- all are data -/
@[simp] def datas : List Vl → Option (List D)
  | [] => some []
  | .d x :: r => (datas r).map (x :: ·)
  | _ :: _ => none
def lst? : Vl → Option (List D)
  | .d (.lst xs) => some xs
  | .d (.kl xs) => some xs
  | .tl xs => some xs
  | .bl xs => some xs
  | _ => none
/-- a list that was made by the program -/
def mlst? : Vl → Option (List D)
  | .d (.lst xs) => some xs
  | .tl xs => some xs
  | .bl xs => some xs
  | _ => none
def tup? : Vl → Option (List D)
  | .d (.tup xs) => some xs
  | _ => none

section
variable {g : Gi} {B : Bg} {W : WXv} {env : Env} {s s' : Sta} {σ : L2.St} {H H' : Hp}
theorem Good.sqL {a : Addr} {vs : List V} (gd : Good g s H) (h : SqL g.K s.F a vs) : SqL g.K H a vs := sqL_mono gd.fle h
theorem Good.sqT {a : Addr} {vs : List V} (gd : Good g s H) (h : SqT g.K s.F a vs) : SqT g.K H a vs := sqT_mono gd.fle h
theorem VlRep.lst {x : Vl} {v : V} {xs : List D} (gd : Good g s H) (h : VlRep g B env σ s H x v) (e : lst? x = some xs) : ∃ a vs, v = .ref a ∧ SqL g.K H a vs ∧ Reps g s.F s.al xs vs := by
  cases x with
  | d x =>
    cases x with
    | lst ys => cases e; obtain ⟨a, vs, h1, h2, h3⟩ := h; exact ⟨a, vs, h1, .of (gd.fle _ _ h2), h3⟩
    | kl ys => cases e; obtain ⟨a, vs, h1, h2, h3⟩ := h; exact ⟨a, vs, h1, gd.sqL h2, h3⟩
    | _ => cases e
  | tl ys => cases e; obtain ⟨a, vs, h1, h2, _, _, h3⟩ := h; exact ⟨a, vs, h1, .of h2, h3⟩
  | bl ys => cases e; obtain ⟨a, vs, h1, h2, _, h3⟩ := h; exact ⟨a, vs, h1, .of h2, h3⟩
  | bi c fs => cases e
theorem VlRep.mlst {x : Vl} {v : V} {xs : List D} (gd : Good g s H) (h : VlRep g B env σ s H x v) (e : mlst? x = some xs) : ∃ a vs, v = .ref a ∧ H a = some (.lst vs) ∧ Reps g s.F s.al xs vs := by
  cases x with
  | d x =>
    cases x with
    | lst ys => cases e; obtain ⟨a, vs, h1, h2, h3⟩ := h; exact ⟨a, vs, h1, gd.fle _ _ h2, h3⟩
    | _ => cases e
  | tl ys => cases e; obtain ⟨a, vs, h1, h2, _, _, h3⟩ := h; exact ⟨a, vs, h1, h2, h3⟩
  | bl ys => cases e; obtain ⟨a, vs, h1, h2, _, h3⟩ := h; exact ⟨a, vs, h1, h2, h3⟩
  | bi c fs => cases e
theorem VlRep.tup {x : Vl} {v : V} {xs : List D} (gd : Good g s H) (h : VlRep g B env σ s H x v) (e : tup? x = some xs) : ∃ a vs, v = .ref a ∧ SqT g.K H a vs ∧ Reps g s.F s.al xs vs := by
  cases x with
  | d x =>
    cases x with
    | tup ys => cases e; obtain ⟨a, vs, h1, h2, h3⟩ := h; exact ⟨a, vs, h1, gd.sqT h2, h3⟩
    | _ => cases e
  | tl ys => cases e
  | bl ys => cases e
  | bi c fs => cases e
theorem VlReps.datas : ∀ {xs : List Vl} {vs : List V} {ds : List D}, VlReps g B env σ s H xs vs → datas xs = some ds → Reps g s.F s.al ds vs
  | [], _, _, .nil, e => by cases e; rfl
  | .d x :: r, _, ds, .cons h t, e => by
    have e1 : (Vi.datas r).map (x :: ·) = some ds := e
    cases q : Vi.datas r with
    | none => rw [q] at e1; cases e1
    | some l =>
      rw [q] at e1
      cases e1
      exact ⟨_, _, rfl, h, t.datas q⟩
  | .tl _ :: _, _, _, _, e => by cases e
  | .bl _ :: _, _, _, _, e => by cases e
  | .bi _ _ :: _, _, _, _, e => by cases e
theorem Reps.length {F : Hp} {al : Nat → Option Addr} : ∀ {ds : List D} {vs : List V}, Reps g F al ds vs → vs.length = ds.length
  | [], _, h => by rw [h]; rfl
  | _ :: _, _, ⟨v, r, h1, _, h3⟩ => by rw [h1, List.length_cons, List.length_cons, h3.length]
theorem Reps.get {F : Hp} {al : Nat → Option Addr} : ∀ {ds : List D} {vs : List V} {i : Nat} {d : D}, Reps g F al ds vs → ds[i]? = some d → ∃ v, vs[i]? = some v ∧ Rep g F al d v
  | _ :: _, _, 0, _, ⟨v, r, h1, h2, h3⟩, e => by
    cases e
    exact ⟨v, by rw [h1]; rfl, h2⟩
  | _ :: _, _, i + 1, _, ⟨v, r, h1, h2, h3⟩, e => by
    obtain ⟨w, e1, e2⟩ := h3.get (i := i) (by simpa using e)
    exact ⟨w, by rw [h1]; simpa using e1, e2⟩
theorem Reps.append {F : Hp} {al : Nat → Option Addr} : ∀ {ds es : List D} {vs ws : List V}, Reps g F al ds vs → Reps g F al es ws → Reps g F al (ds ++ es) (vs ++ ws)
  | [], _, _, _, h, k => by rw [h]; exact k
  | _ :: _, _, _, _, ⟨v, r, h1, h2, h3⟩, k => ⟨v, r ++ _, by rw [h1]; rfl, h2, h3.append k⟩
theorem Reps.drop {F : Hp} {al : Nat → Option Addr} : ∀ {ds : List D} {vs : List V} (n : Nat), Reps g F al ds vs → Reps g F al (ds.drop n) (vs.drop n)
  | _, _, 0, h => h
  | [], _, n + 1, h => by rw [h]; rfl
  | _ :: _, _, n + 1, ⟨v, r, h1, h2, h3⟩ => by rw [h1]; exact h3.drop n
theorem Reps.take {F : Hp} {al : Nat → Option Addr} : ∀ {ds : List D} {vs : List V} (n : Nat), Reps g F al ds vs → Reps g F al (ds.take n) (vs.take n)
  | _, _, 0, h => rfl
  | [], _, n + 1, h => by rw [h]; rfl
  | _ :: _, _, n + 1, ⟨v, r, h1, h2, h3⟩ => ⟨v, r.take n, by rw [h1]; rfl, h2, h3.take n⟩
theorem Reps.set {F : Hp} {al : Nat → Option Addr} {d : D} {v : V} (hd : Rep g F al d v) : ∀ {ds : List D} {vs : List V} (n : Nat), Reps g F al ds vs → Reps g F al (ds.set n d) (vs.set n v)
  | [], _, _, h => by rw [h]; rfl
  | _ :: _, _, 0, ⟨w, r, h1, h2, h3⟩ => ⟨v, r, by rw [h1]; rfl, hd, h3⟩
  | _ :: _, _, n + 1, ⟨w, r, h1, h2, h3⟩ => ⟨w, r.set n v, by rw [h1]; rfl, h2, h3.set hd n⟩
theorem Reps.cons {F : Hp} {al : Nat → Option Addr} {d : D} {v : V} {ds : List D} {vs : List V} (h : Rep g F al d v) (k : Reps g F al ds vs) : Reps g F al (d :: ds) (v :: vs) := ⟨v, vs, rfl, h, k⟩
theorem Reps.nil {F : Hp} {al : Nat → Option Addr} : Reps g F al [] [] := rfl

/-! ### a new object -/
/-- a new thing that never changes -/
theorem SR.newF {p : Addr} {o : HO} (sr : SR g B env s σ H) (hp : H p = none) :
    SR g B env (s.frz p o) σ (upd H p o) ∧ Evo s H (s.frz p o) (upd H p o) := by
  have ow := sr.own_new hp
  have ne : ∀ {a : Addr} {u : HO}, H a = some u → a ≠ p := fun h => ne_of_none h hp
  have neF : ∀ {a : Addr} {u : HO}, s.F a = some u → a ≠ p := fun h => ne (sr.good.fle _ _ h)
  have ev : Evo s H (s.frz p o) (upd H p o) := ⟨fun a u h => by
      show upd s.F p o a = some u
      rw [upd_ne (neF h)]; exact h, fun _ _ h => h, fun a u h n => ⟨by rw [upd_ne (ne h)]; exact h, fun z => by
      show upd s.F p o a = none
      rw [upd_ne (ne h)]; exact z, n⟩, Nat.le_refl _⟩
  refine ⟨⟨⟨fun a u h => ?_, sr.good.inj, fun n a h => ?_, fun n c h => ?_⟩, sr.evo.trans ev, sr.len, fun i sl h => ?_, sr.sep⟩, ev⟩
  · have h : upd s.F p o a = some u := h
    by_cases q : a = p
    · subst q
      rw [upd_same] at h ⊢
      exact h
    · rw [upd_ne q] at h ⊢
      exact sr.good.fle a u h
  · obtain ⟨h1, h2, u, h3⟩ := sr.good.dom n a h
    refine ⟨h1, ?_, u, by rw [upd_ne (ne h3)]; exact h3⟩
    show upd s.F p o a = none
    rw [upd_ne (ne h3)]; exact h2
  · obtain ⟨a, h1, h2⟩ := sr.good.cell n c h
    refine ⟨a, h1, ?_⟩
    cases c with
    | lst ds => obtain ⟨vs, h3, h4⟩ := h2; exact ⟨vs, by rw [upd_ne (ne h3)]; exact h3, ev.reps h4⟩
    | ins c fs => obtain ⟨dx, vs, h3, h4⟩ := h2; exact ⟨dx, vs, by rw [upd_ne (ne h3)]; exact h3, ev.repF h4⟩
    | dK kvs => obtain ⟨vs, h3, h4⟩ := h2; exact ⟨vs, by rw [upd_ne (ne h3)]; exact h3, h4.mono ev.f ev.al⟩
    | dT kvs => obtain ⟨vs, h3, h4⟩ := h2; exact ⟨vs, by rw [upd_ne (ne h3)]; exact h3, h4.mono ev.f ev.al⟩
  · obtain ⟨v, h1, h2⟩ := sr.slot i sl h
    exact ⟨v, h1, h2.evo ev⟩
theorem PostE.newT {ds : List D} {vs : List V} {p : Addr} {Q : VK} (sr : SR g B env s σ H) (h : PostE g B W env s σ H (.ok (.d (.tup ds)) s.h) Q) (r : Reps g s.F s.al ds vs) (hp : H p = none) : Q (.ref p) (upd H p (.tup vs)) := by
  obtain ⟨sr1, ev⟩ := sr.newF (o := .tup vs) hp
  exact h _ _ (s.frz p (.tup vs)) rfl ev sr1 ⟨p, vs, rfl, .of upd_same, ev.reps r⟩
theorem PostE.newL {ds : List D} {vs : List V} {p : Addr} {Q : VK} (sr : SR g B env s σ H) (h : PostE g B W env s σ H (.ok (.d (.lst ds)) s.h) Q) (r : Reps g s.F s.al ds vs) (hp : H p = none) : Q (.ref p) (upd H p (.lst vs)) := by
  obtain ⟨sr1, ev⟩ := sr.newF (o := .lst vs) hp
  exact h _ _ (s.frz p (.lst vs)) rfl ev sr1 ⟨p, vs, rfl, upd_same, ev.reps r⟩
theorem PostE.newO {ds : List D} {vs : List V} {p : Addr} {Q : VK} (sr : SR g B env s σ H) (h : PostE g B W env s σ H (.ok (.tl ds) s.h) Q) (r : Reps g s.F s.al ds vs) (hp : H p = none) : Q (.ref p) (upd H p (.lst vs)) := by
  obtain ⟨sr1, ev⟩ := sr.new (o := .lst vs) hp
  exact h _ _ _ rfl ev sr1 ⟨p, vs, rfl, upd_same, sr.own_new hp, sr.notOwn_new hp, ev.reps r⟩
/-- either: owned or never changed -/
@[simp] def Vl.ofL (o : Bool) (ds : List D) : Vl := if o then .tl ds else .d (.lst ds)
theorem PostE.newLO {o : Bool} {ds : List D} {vs : List V} {p : Addr} {Q : VK} (sr : SR g B env s σ H) (h : PostE g B W env s σ H (.ok (Vl.ofL o ds) s.h) Q) (r : Reps g s.F s.al ds vs) (hp : H p = none) : Q (.ref p) (upd H p (.lst vs)) := by
  cases o with
  | true => exact PostE.newO sr h r hp
  | false => exact PostE.newL sr h r hp
end

/-! ### rules: names, constants, displays -/
section
variable {X : Cx} {g : Gi} {B : Bg} {W : WXv} {pos : Pos}
theorem ve_var (i : Nat) {x : Str} (hN : X.N[i]? = some x := by rfl) (hv : Vis X.env.scope x := by first | exact Or.inl rfl | exact Or.inr (Or.inl rfl) | exact Or.inr (Or.inr rfl)) (hd : (x == ("__debug__" : Str)) = false := by decide)
    (hcd : (x == ("__classdict__" : Str)) = false := by decide) : PE X (.Name x pos) (tE g B W (mVar i)) := by
  refine pe_imp (pe_var hN hv hd hcd) fun σ H Q ⟨env, s, sr, p⟩ => ?_
  unfold mVar at p
  cases e : env[i]? with
  | none => rw [e] at p; exact p.elim
  | some o =>
    rw [e] at p
    cases o with
    | none => exact p.elim
    | some sl =>
      obtain ⟨v, h1, h2⟩ := sr.slot i sl e
      refine ⟨v, h1, ?_⟩
      cases sl with
      | d x => exact PostE.pure sr p h2
      | ol xs => exact PostE.pure sr p h2
      | oi c fs =>
        obtain ⟨a, dx, vs, e1, e2, e3, e4, _⟩ := h2
        exact PostE.pure sr p ⟨a, dx, vs, e1, e2, e3, e4⟩
      | xc c fs => exact p.elim
theorem ve_int {i j} : PE X (.Constant (.int i) j pos) (tE g B W (mC (.int i))) := pe_imp pe_int fun σ H Q ⟨env, s, sr, p⟩ => PostE.pure sr p rfl
theorem ve_bl {b j} : PE X (.Constant (.bool b) j pos) (tE g B W (mC (.bl b))) := pe_imp pe_bl fun σ H Q ⟨env, s, sr, p⟩ => PostE.pure sr p rfl
theorem ve_non {j} : PE X (.Constant .none j pos) (tE g B W (mC .non)) := pe_imp pe_non fun σ H Q ⟨env, s, sr, p⟩ => PostE.pure sr p rfl
theorem ve_str {x j} : PE X (.Constant (.str x) j pos) (tE g B W (mC (.str x))) := pe_imp pe_str fun σ H Q ⟨env, s, sr, p⟩ => PostE.pure sr p rfl
/-- a module's constant -/
structure GlobD (X : Cx) (g : Gi) (x : Str) (d : D) : Prop where
  ex : ∃ (v : V) (u : Value), X.mg x = some u ∧ RelV v u ∧ ∀ F al, Rep g F al d v
theorem ve_glob {x : Str} {d : D} (hg : Gl X x) (h : GlobD X g x d) (hd : (x == ("__debug__" : Str)) = false := by decide) : PE X (.Name x pos) (tE g B W (mC d)) := by
  obtain ⟨v, u, h1, h2, h3⟩ := h.ex
  exact pe_imp (pe_glob hg h1 h2 hd) fun σ H Q ⟨env, s, sr, p⟩ => PostE.pure sr p (h3 _ _)
theorem va_nil : PA X [] (tA g B W maNil) := pa_imp pa_nil fun σ H Q ⟨env, s, sr, p⟩ => p [] H s rfl (Evo.refl s H) sr .nil
theorem va_cons {e : Expr} {es : List Expr} {a : ME} {b : MA} (ha : PE X e (tE g B W a)) (hb : PA X es (tA g B W b)) (hs : starEach (e :: es) X.env = (false, eval e X.env) :: starEach es X.env := by rfl) : PA X (e :: es) (tA g B W (maCons a b)) := by
  refine pa_imp (pa_cons ha hb hs) fun σ H Q ⟨env, s, sr, p⟩ => ?_
  refine (bindAA (f := fun x xs h => .ok (x :: xs) h) (Q := Q) sr p).mono fun v H1 h1 => h1.mono fun vs H2 ⟨s2, x, xs, sr2, ev2, vr1, vr2, p2⟩ => ?_
  exact p2 _ H2 s2 rfl (Evo.refl _ _) sr2 (.cons vr1 vr2)
@[simp] def fTup (xs : List Vl) (h : Hc) : R Vl := match datas xs with
  | some ds => if ds.length ≤ 100000 then .ok (.d (.tup ds)) h else .stuck
  | none => .stuck
@[simp] def fLst (o : Bool) (xs : List Vl) (h : Hc) : R Vl := match datas xs with
  | some ds => if ds.length ≤ 100000 then .ok (Vl.ofL o ds) h else .stuck
  | none => .stuck
theorem size_of {n : Nat} (h : n ≤ 100000) : n ≤ sizeLine := Nat.le_trans h (by decide)
theorem ve_tup {es : List Expr} {a : MA} {x1} (h : PA X es (tA g B W a)) : PE X (.Tuple es x1 pos) (tE g B W (mA1 fTup a)) := by
  refine pe_imp (pe_tup h) fun σ H Q ⟨env, s, sr, p⟩ => ?_
  refine (bindA (Q := Q) sr p).mono fun vs H1 ⟨s2, ys, sr2, ev2, vr2, p2⟩ => ?_
  unfold fTup at p2
  cases e2 : datas ys with
  | none => rw [e2] at p2; exact p2.elim
  | some ds =>
    rw [e2] at p2
    by_cases hl : ds.length ≤ 100000
    · simp only [if_pos hl] at p2
      have rr := vr2.datas e2
      exact ⟨by rw [rr.length]; exact size_of hl, fun p hp => PostE.newT sr2 p2 rr hp⟩
    · simp only [if_neg hl] at p2
      exact p2.elim
theorem ve_lst (o : Bool) {es : List Expr} {a : MA} (h : PA X es (tA g B W a)) : PE X (.List es pos) (tE g B W (mA1 (fLst o) a)) := by
  refine pe_imp (pe_lst h) fun σ H Q ⟨env, s, sr, p⟩ => ?_
  refine (bindA (Q := Q) sr p).mono fun vs H1 ⟨s2, ys, sr2, ev2, vr2, p2⟩ => ?_
  unfold fLst at p2
  cases e2 : datas ys with
  | none => rw [e2] at p2; exact p2.elim
  | some ds =>
    rw [e2] at p2
    by_cases hl : ds.length ≤ 100000
    · simp only [if_pos hl] at p2
      have rr := vr2.datas e2
      exact ⟨by rw [rr.length]; exact size_of hl, fun p hp => PostE.newLO sr2 p2 rr hp⟩
    · simp only [if_neg hl] at p2
      exact p2.elim
end
end Vi

set_option Elab.async false
set_option linter.all false
set_option maxRecDepth 100000
set_option maxHeartbeats 2000000
namespace Vi
open PySem L2

section
variable {g : Gi} {B : Bg} {W : WXv} {env : Env} {s s' : Sta} {σ : L2.St} {H H' : Hp}
theorem bind2E {a b : ME} {f : Vl → Vl → Hc → R Vl} {Q : VK} (sr : SR g B env s σ H) (p : PostE g B W env s σ H (m2 f a b env s.h) Q) :
    tE g B W a σ H fun v H1 => tE g B W b σ H1 fun w H2 => ∃ s2 x y, SR g B env s2 σ H2 ∧ Evo s H s2 H2 ∧ VlRep g B env σ s2 H2 x v ∧ VlRep g B env σ s2 H2 y w ∧ PostE g B W env s2 σ H2 (f x y s2.h) Q := by
  refine (bindE (k := fun x h1 => (b env h1).bind fun y h2 => f x y h2) sr p).mono fun v H1 ⟨s1, x, sr1, e1, r1, p1⟩ => ?_
  refine (bindE (k := fun y h2 => f x y h2) sr1 p1).mono fun w H2 ⟨s2, y, sr2, e2, r2, p2⟩ => ?_
  exact ⟨s2, x, y, sr2, e1.trans e2, r1.evo e2, r2, p2⟩
theorem bind2B {a b : ME} {f : Vl → Vl → Hc → R Bool} {Q : Bool → Hp → Prop} (sr : SR g B env s σ H) (p : PostB g B W env s σ H (m2b f a b env s.h) Q) :
    tE g B W a σ H fun v H1 => tE g B W b σ H1 fun w H2 => ∃ s2 x y, SR g B env s2 σ H2 ∧ Evo s H s2 H2 ∧ VlRep g B env σ s2 H2 x v ∧ VlRep g B env σ s2 H2 y w ∧ PostB g B W env s2 σ H2 (f x y s2.h) Q := by
  refine (bindET (k := fun x h1 => (b env h1).bind fun y h2 => f x y h2) sr p).mono fun v H1 ⟨s1, x, sr1, e1, r1, p1⟩ => ?_
  refine (bindET (k := fun y h2 => f x y h2) sr1 p1).mono fun w H2 ⟨s2, y, sr2, e2, r2, p2⟩ => ?_
  exact ⟨s2, x, y, sr2, e1.trans e2, r1.evo e2, r2, p2⟩
end
/-- what an operation on values must keep -/
def OpV (X : Cx) (g : Gi) (f : Value → Value → Sem Value) (F : Vl → Vl → Hc → R Vl) : Prop :=
  ∃ r : R2, OpR X f r ∧ ∀ (B : Bg) (W : WXv) (env : Env) (s : Sta) (σ : L2.St) (H : Hp) (x y : Vl) (v w : V) (Q : VK), SR g B env s σ H → VlRep g B env σ s H x v → VlRep g B env σ s H y w → PostE g B W env s σ H (F x y s.h) Q → r v w H Q
section
variable {X : Cx} {g : Gi} {B : Bg} {W : WXv} {pos : Pos} {a b : Expr} {ma mb : ME}
theorem ve_bin {op : Operator} {F : Vl → Vl → Hc → R Vl} (ho : OpV X g (binaryOp op) F) (ha : PE X a (tE g B W ma)) (hb : PE X b (tE g B W mb)) : PE X (.BinOp a op b pos) (tE g B W (m2 F ma mb)) := by
  obtain ⟨r, h1, h2⟩ := ho
  refine pe_imp (pe_op h1 ha hb) fun σ H Q ⟨env, s, sr, p⟩ => ?_
  refine (bind2E (Q := Q) sr p).mono fun v H1 q => q.mono fun w H2 ⟨s2, x, y, sr2, _, r1, r2, p2⟩ => ?_
  exact h2 B W env s2 σ H2 x y v w Q sr2 r1 r2 p2
theorem ve_cmp {op : CmpOp} {F : Vl → Vl → Hc → R Vl} (ho : OpV X g (compareOp op) F) (ha : PE X a (tE g B W ma)) (hb : PE X b (tE g B W mb)) (hm : behindInMarks op b = false) : PE X (.Compare a [op] [b] pos) (tE g B W (m2 F ma mb)) := by
  obtain ⟨r, h1, h2⟩ := ho
  refine pe_imp (pe_cmpR h1 ha hb hm) fun σ H Q ⟨env, s, sr, p⟩ => ?_
  refine (bind2E (Q := Q) sr p).mono fun v H1 q => q.mono fun w H2 ⟨s2, x, y, sr2, _, r1, r2, p2⟩ => ?_
  exact h2 B W env s2 σ H2 x y v w Q sr2 r1 r2 p2
/-- a value's truth, where it is a bool -/
@[simp] def asB (m : ME) : MB := fun env h => (m env h).bind fun x h1 => match x with
  | .d (.bl b) => .ok b h1
  | _ => .stuck
theorem tE_asB {m : ME} {σ : L2.St} {H : Hp} {Q : Bool → Hp → Prop} (h : tT g B W (asB m) σ H Q) : tE g B W m σ H fun v H1 => ∃ k, v = .bl k ∧ Q k H1 := by
  obtain ⟨env, s, sr, p⟩ := h
  refine (bindET sr p).mono fun v H1 ⟨s1, x, sr1, _, r1, p1⟩ => ?_
  cases x with
  | d x =>
    cases x with
    | bl b => exact ⟨b, r1, PostB.pure sr1 p1⟩
    | _ => exact p1.elim
  | _ => exact p1.elim
theorem vt_cmp {op : CmpOp} {F : Vl → Vl → Hc → R Vl} (ho : OpV X g (compareOp op) F) (ha : PE X a (tE g B W ma)) (hb : PE X b (tE g B W mb)) (hm : behindInMarks op b = false) : PT X (.Compare a [op] [b] pos) (tT g B W (asB (m2 F ma mb))) := by
  obtain ⟨r, h1, h2⟩ := ho
  refine pt_imp (pt_cmpR h1 ha hb hm) fun σ H Q h => ?_
  obtain ⟨env, s, sr, p⟩ := tE_asB h
  refine (bind2E sr p).mono fun v H1 q => q.mono fun w H2 ⟨s2, x, y, sr2, _, r1, r2, p2⟩ => ?_
  exact h2 B W env s2 σ H2 x y v w _ sr2 r1 r2 p2
/-- any expression that gives a bool, as a test -/
theorem vt_val {m : ME} (h : PE X a (tE g B W m)) (he : ∀ whole, isTrue a X.env whole = (do let v ← whole; standAt a.pos; holding [v] (truthy v)) := by intro _; rfl) : PT X a (tT g B W (asB m)) :=
  pt_imp (pt_val h he) fun σ H Q q => tE_asB q

/-! ### ints -/
@[simp] def fI (f : Int → Int → D) (x y : Vl) (h : Hc) : R Vl := match x, y with
  | .d (.int i), .d (.int j) => .ok (.d (f i j)) h
  | _, _ => .stuck
@[simp] def fIc (c : Int → Int → Bool) (f : Int → Int → D) (x y : Vl) (h : Hc) : R Vl := match x, y with
  | .d (.int i), .d (.int j) => if c i j then .ok (.d (f i j)) h else .stuck
  | _, _ => .stuck
theorem opv_I {f : Value → Value → Sem Value} {F : Int → Int → D} {G : Int → Int → V} (h : OpR X f (rI0 G)) (e : ∀ g F' al i j, Rep g F' al (F i j) (G i j)) : OpV X g f (fI F) := by
  refine ⟨_, h, fun B W env s σ H x y v w Q sr r1 r2 p => ?_⟩
  unfold fI at p
  split at p
  · exact ⟨_, _, r1, r2, PostE.pure sr p (e _ _ _ _ _)⟩
  · exact p.elim
theorem opv_Ic {f : Value → Value → Sem Value} {C : Int → Int → Prop} {c : Int → Int → Bool} {F : Int → Int → D} {G : Int → Int → V} (h : OpR X f (rI C G)) (hc : ∀ i j, c i j = true → C i j) (e : ∀ g F' al i j, Rep g F' al (F i j) (G i j)) : OpV X g f (fIc c F) := by
  refine ⟨_, h, fun B W env s σ H x y v w Q sr r1 r2 p => ?_⟩
  unfold fIc at p
  split at p
  · split at p
    · next hcc => exact ⟨_, _, r1, r2, hc _ _ hcc, PostE.pure sr p (e _ _ _ _ _)⟩
    · exact p.elim
  · exact p.elim
def cMul (i j : Int) : Bool := decide (i.natAbs.log2 + j.natAbs.log2 < 1000000)
def cDiv (_ j : Int) : Bool := decide (j ≠ 0) && decide (j.natAbs.log2 < 9000)
def cPow (i j : Int) : Bool := decide (0 ≤ j) && (decide (j ≤ 1000000) && decide (i.natAbs < 2 ^ 64))
abbrev fSub : Vl → Vl → Hc → R Vl := fI fun i j => .int (i - j)
abbrev fMul : Vl → Vl → Hc → R Vl := fIc cMul fun i j => .int (i * j)
abbrev fDiv : Vl → Vl → Hc → R Vl := fIc cDiv fun i j => .int (i.fdiv j)
abbrev fMod : Vl → Vl → Hc → R Vl := fIc (fun _ j => decide (0 < j)) fun i j => .int (i % j)
abbrev fPow : Vl → Vl → Hc → R Vl := fIc cPow fun i j => .int (i ^ j.toNat)
abbrev fLt : Vl → Vl → Hc → R Vl := fI fun i j => .bl (decide (i < j))
abbrev fLe : Vl → Vl → Hc → R Vl := fI fun i j => .bl (decide (i ≤ j))
abbrev fGt : Vl → Vl → Hc → R Vl := fI fun i j => .bl (decide (j < i))
abbrev fGe : Vl → Vl → Hc → R Vl := fI fun i j => .bl (decide (j ≤ i))
theorem o_sub : OpV X g (binaryOp .Sub) fSub := opv_I op_sub fun _ _ _ _ _ => rfl
theorem o_mul : OpV X g (binaryOp .Mult) fMul := opv_Ic op_mulW (fun i j h => of_decide_eq_true (p := i.natAbs.log2 + j.natAbs.log2 < 1000000) h) fun _ _ _ _ _ => rfl
theorem op_fdivA : OpR X (binaryOp .FloorDiv) (rI (fun _ j => j ≠ 0 ∧ j.natAbs.log2 < 9000) fun i j => .int (i.fdiv j)) := opI fun i j _ _ _ _ _ hc q =>
  PyProof.Rows.floordiv_int hc.1 q (.inl (PyProof.noPylong_of_log2 hc.2))
theorem o_div : OpV X g (binaryOp .FloorDiv) fDiv := opv_Ic op_fdivA (fun _ _ h => by
  obtain ⟨h1, h2⟩ := Bool.and_eq_true_iff.mp h
  exact ⟨of_decide_eq_true h1, of_decide_eq_true h2⟩) fun _ _ _ _ _ => rfl
theorem o_mod : OpV X g (binaryOp .Mod) fMod := opv_Ic op_mod (fun _ _ h => of_decide_eq_true h) fun _ _ _ _ _ => rfl
theorem o_pow : OpV X g (binaryOp .Pow) fPow := opv_Ic op_pow (fun _ _ h => by
  obtain ⟨h1, h2⟩ := Bool.and_eq_true_iff.mp h
  obtain ⟨h2, h3⟩ := Bool.and_eq_true_iff.mp h2
  exact ⟨of_decide_eq_true h1, of_decide_eq_true h2, of_decide_eq_true h3⟩) fun _ _ _ _ _ => rfl
theorem o_lt : OpV X g (compareOp .Lt) fLt := opv_I op_lt fun _ _ _ _ _ => rfl
theorem o_le : OpV X g (compareOp .LtE) fLe := opv_I op_le fun _ _ _ _ _ => rfl
theorem o_gt : OpV X g (compareOp .Gt) fGt := opv_I op_gt fun _ _ _ _ _ => rfl
theorem o_ge : OpV X g (compareOp .GtE) fGe := opv_I op_ge fun _ _ _ _ _ => rfl
theorem tup?_eq {x : Vl} {xs : List D} (h : tup? x = some xs) : x = .d (.tup xs) := by
  cases x with
  | d x =>
    cases x with
    | tup ys => cases h; rfl
    | _ => cases h
  | _ => cases h
/-- + of ints, texts, lists, tuples; o: a new list is owned -/
def fAdd (o : Bool) (x y : Vl) (h : Hc) : R Vl := match x, y with
  | .d (.int i), .d (.int j) => .ok (.d (.int (i + j))) h
  | .d (.str a), .d (.str b) => if a.length + b.length ≤ 100000 then .ok (.d (.str (a ++ b))) h else .stuck
  | x, y => match mlst? x, mlst? y with
    | some xs, some ys => if xs.length + ys.length ≤ 100000 then .ok (Vl.ofL o (xs ++ ys)) h else .stuck
    | _, _ => match tup? x, tup? y with
      | some xs, some ys => if xs.length + ys.length ≤ 100000 then .ok (.d (.tup (xs ++ ys))) h else .stuck
      | _, _ => .stuck
theorem o_add (o : Bool) (hK : g.K = X.K) : OpV X g (binaryOp .Add) (fAdd o) := by
  refine ⟨_, OpR.or op_add (OpR.or op_add_str (OpR.or op_cat op_catA)), fun B W env s σ H x y v w Q sr r1 r2 p => ?_⟩
  unfold fAdd at p
  split at p
  · exact .inl ⟨_, _, r1, r2, PostE.pure sr p rfl⟩
  · split at p
    · next hl => exact .inr (.inl ⟨_, _, r1, r2, size_of hl, PostE.pure sr p rfl⟩)
    · exact p.elim
  · split at p
    · next xs ys e1 e2 =>
      split at p
      · next hl =>
        obtain ⟨a1, vs1, rfl, h1, q1⟩ := r1.mlst sr.good e1
        obtain ⟨a2, vs2, rfl, h2, q2⟩ := r2.mlst sr.good e2
        exact .inr (.inr (.inl ⟨a1, a2, vs1, vs2, rfl, rfl, h1, h2, by rw [q1.length, q2.length]; exact size_of hl, fun p' hp => PostE.newLO sr p (q1.append q2) hp⟩))
      · exact p.elim
    · split at p
      · next xs ys e1 e2 =>
        split at p
        · next hl =>
          obtain ⟨a1, vs1, rfl, h1, q1⟩ := r1.tup sr.good e1
          obtain ⟨a2, vs2, rfl, h2, q2⟩ := r2.tup sr.good e2
          have c1 : ∀ {ds : List D} {vs : List V}, Reps g s.F s.al ds vs → vs = [] → ds = [] := fun {ds vs} q e => by
            have := q.length
            rw [e] at this
            exact List.length_eq_zero_iff.mp this.symm
          refine .inr (.inr (.inr ⟨a1, a2, vs1, vs2, rfl, rfl, hK ▸ h1, hK ▸ h2, by rw [q1.length, q2.length]; exact size_of hl, fun e => ?_, fun _ e => ?_, fun _ _ p' hp => PostE.newT sr p (q1.append q2) hp⟩))
          · have e := c1 q1 e
            subst e
            exact PostE.pure sr p (tup?_eq e2 ▸ r2)
          · have e := c1 q2 e
            subst e
            rw [List.append_nil] at p
            exact PostE.pure sr p (tup?_eq e1 ▸ r1)
        · exact p.elim
      · exact p.elim
end
end Vi

set_option Elab.async false
set_option linter.all false
set_option maxRecDepth 100000
set_option maxHeartbeats 2000000
namespace Vi
open PySem L2

/-! ### what the written part says of the classes -/
def Ty.val (g : Gi) : Ty → Value
  | .bt n => .type n
  | .own c => .ref (g.ca c)
def Ty.v (g : Gi) : Ty → V
  | .bt n => .ty n
  | .own c => .ref (g.ca c)
structure ClsOk (K : PySem.W.Frag) (C : Addr) : Prop where
  cl : Cls K C
  ha : PySem.W.findIn K (.ref C) "__class__" = some (some (.builtin "object.__class__"))
  hm : PySem.W.mroIn K C (.type "object") = some true
structure GiOk (g : Gi) : Prop where
  cls : ∀ c, g.isC c = true → ClsOk g.K (g.ca c)
  fld : ∀ c f, g.fld c f = true → g.isC c = true ∧ NoAttr g.K (g.ca c) f
  hn : PySem.W.specialIn g.K (.builtin "object.__class__") "__get__" = some (some (.builtin "getset_descriptor.__get__"))
  htk : PySem.W.takesIn g.K (.builtin "object.__class__") = some true
  isi : ∀ t u b, g.isi t u = some b → PySem.W.kitOne g.K (t.val g) (u.val g) = some b
def D.ty (g : Gi) : D → Option Ty
  | .non => some (.bt "NoneType")
  | .bl _ => some (.bt "bool")
  | .int _ => some (.bt "int")
  | .str _ => some (.bt "str")
  | .tup _ => some (.bt "tuple")
  | .lst _ => some (.bt "list")
  | .kl _ => none
  | .ref _ => none
  | .obj c _ => if g.isC c then some (.own c) else none
  | .cls _ => none
  | .dK _ => some (.bt "dict")
  | .dT _ => some (.bt "dict")
def Vl.ty (g : Gi) : Vl → Option Ty
  | .d x => x.ty g
  | .tl _ => some (.bt "list")
  | .bl _ => some (.bt "list")
  | .bi c _ => if g.isC c then some (.own c) else none
theorem ClsOk.ty {g : Gi} (G : GiOk g) {H : Hp} {c : Nat} {a dx : Addr} {vs : List (Str × V)} (hc : g.isC c = true) (h : H a = some (.ins (g.ca c) dx vs)) : TyX g.K H (.ref a) ((Ty.own c).val g) :=
  let k := G.cls c hc
  .base (.ins h k.cl k.ha G.hn G.htk k.hm)
theorem Vl.tyX {g : Gi} (G : GiOk g) {B : Bg} {env : Env} {s : Sta} {σ : L2.St} {H : Hp} (gd : Good g s H) : ∀ {x : Vl} {v : V} {t : Ty}, VlRep g B env σ s H x v → x.ty g = some t → TyX g.K H v (t.val g)
  | .d .non, _, _, h, e => by cases e; cases h; exact .base .non
  | .d (.bl b), _, _, h, e => by cases e; cases h; exact .base (.bl b)
  | .d (.int b), _, _, h, e => by cases e; cases h; exact .base (.int b)
  | .d (.str b), _, _, h, e => by cases e; cases h; exact .base (.str b)
  | .d (.tup ds), _, _, h, e => by
    cases e
    obtain ⟨a, vs, rfl, h2, _⟩ := h
    rcases h2 with (h2 | ⟨o, h2⟩) | ⟨o, its, n, h2, h3, _⟩
    · exact .base (.tup (gd.fle _ _ h2))
    · exact .fTuple (gd.fle _ _ h2)
    · exact .kTuple h2 h3
  | .d (.lst ds), _, _, h, e => by
    cases e
    obtain ⟨a, vs, rfl, h2, _⟩ := h
    exact .base (.lst (gd.fle _ _ h2))
  | .d (.kl _), _, _, h, e => by cases e
  | .d (.ref _), _, _, h, e => by cases e
  | .d (.cls _), _, _, h, e => by cases e
  | .d (.obj c fs), _, _, h, e => by
    obtain ⟨a, dx, vs, rfl, h2, _⟩ := h
    have e : (if g.isC c then some (Ty.own c) else none) = some _ := e
    by_cases hc : g.isC c = true
    · rw [if_pos hc] at e
      cases e
      exact ClsOk.ty G hc (gd.fle _ _ h2)
    · rw [if_neg hc] at e
      cases e
  | .d (.dK _), _, _, h, e => by
    cases e
    obtain ⟨a, vs, rfl, h2, _⟩ := h
    exact .base (.dK (gd.fle _ _ h2))
  | .d (.dT _), _, _, h, e => by
    cases e
    obtain ⟨a, vs, rfl, h2, _⟩ := h
    exact .base (.dT (gd.fle _ _ h2))
  | .tl _, _, _, h, e => by
    cases e
    obtain ⟨a, vs, rfl, h2, _⟩ := h
    exact .base (.lst h2)
  | .bl _, _, _, h, e => by
    cases e
    obtain ⟨a, vs, rfl, h2, _⟩ := h
    exact .base (.lst h2)
  | .bi c _, _, _, h, e => by
    obtain ⟨a, dx, vs, rfl, h2, _⟩ := h
    have e : (if g.isC c then some (Ty.own c) else none) = some _ := e
    by_cases hc : g.isC c = true
    · rw [if_pos hc] at e
      cases e
      exact ClsOk.ty G hc h2
    · rw [if_neg hc] at e
      cases e

/-! ### data as the library's data -/
mutual
def toP : D → PyData
  | .non => .none
  | .bl b => .bool b
  | .int i => .int i
  | .str x => .str x
  | .tup xs => .tuple (toPs xs)
  | .lst xs => .list (toPs xs)
  | .kl xs => .list (toPs xs)
  | _ => .none
def toPs : List D → List PyData
  | [] => []
  | x :: r => toP x :: toPs r
end
mutual
def dat : D → Bool
  | .non => true
  | .bl _ => true
  | .int _ => true
  | .str _ => true
  | .tup xs => dats xs
  | .lst xs => dats xs
  | .kl xs => dats xs
  | _ => false
def dats : List D → Bool
  | [] => true
  | x :: r => dat x && dats r
end
section
variable {g : Gi} {s : Sta} {H : Hp} {F : Hp} {al : Nat → Option Addr}
mutual
theorem dp_of (hF : ∀ a o, F a = some o → H a = some o) : ∀ {d : D} {v : V}, Rep g F al d v → dat d = true → Dp g.K H v (toP d)
  | .non, _, h, _ => by cases h; exact .non
  | .bl b, _, h, _ => by cases h; exact .bl b
  | .int b, _, h, _ => by cases h; exact .int b
  | .str b, _, h, _ => by cases h; exact .str b
  | .tup ds, _, ⟨a, vs, h1, h2, h3⟩, e => by rw [h1]; exact .tup (sqT_mono hF h2) (dps_of hF h3 e)
  | .lst ds, _, ⟨a, vs, h1, h2, h3⟩, e => by rw [h1]; exact .lst (.of (hF _ _ h2)) (dps_of hF h3 e)
  | .kl ds, _, ⟨a, vs, h1, h2, h3⟩, e => by rw [h1]; exact .lst (sqL_mono hF h2) (dps_of hF h3 e)
  | .ref _, _, _, e => by cases e
  | .obj _ _, _, _, e => by cases e
  | .cls _, _, _, e => by cases e
  | .dK _, _, _, e => by cases e
  | .dT _, _, _, e => by cases e
theorem dps_of (hF : ∀ a o, F a = some o → H a = some o) : ∀ {d : List D} {v : List V}, Reps g F al d v → dats d = true → DpAll g.K H v (toPs d)
  | [], _, h, _ => by cases h; exact .nil
  | d :: ds, _, ⟨v, r, h1, h2, h3⟩, e => by
    obtain ⟨e1, e2⟩ := Bool.and_eq_true_iff.mp (show (dat d && dats ds) = true from e)
    rw [h1]
    exact .cons (dp_of hF h2 e1) (dps_of hF h3 e2)
end
end
/-- the data that a value is, if it is some -/
def Vl.dat? : Vl → Option D
  | .d x => if dat x then some x else none
  | .tl xs => if dats xs then some (.lst xs) else none
  | .bl xs => if dats xs then some (.lst xs) else none
  | .bi _ _ => none
theorem VlRep.dp' {g : Gi} {B : Bg} {env : Env} {s : Sta} {σ : L2.St} {H : Hp} (gd : Good g s H) : ∀ {x : Vl} {v : V} {d : D}, VlRep g B env σ s H x v → x.dat? = some d → Dp g.K H v (toP d)
  | .d x, _, _, h, e => by
    have e : (if dat x then some x else none) = some _ := e
    split at e
    · next hd => cases e; exact dp_of gd.fle h hd
    · cases e
  | .tl xs, _, _, h, e => by
    have e : (if dats xs then some (D.lst xs) else none) = some _ := e
    split at e
    · next hd =>
      cases e
      obtain ⟨a, vs, rfl, h2, _, _, h3⟩ := h
      exact .lst (.of h2) (dps_of gd.fle h3 hd)
    · cases e
  | .bl xs, _, _, h, e => by
    have e : (if dats xs then some (D.lst xs) else none) = some _ := e
    split at e
    · next hd =>
      cases e
      obtain ⟨a, vs, rfl, h2, _, h3⟩ := h
      exact .lst (.of h2) (dps_of gd.fle h3 hd)
    · cases e
  | .bi _ _, _, _, _, e => by cases e
def eqD (x y : D) : Bool := PyData.eqv (toP x) (toP y)
def shp (x : D) : Bool := SeqAt.shaped (toP x)
def fEq0 (neg : Bool) (x y : Vl) (h : Hc) : R Vl := match x.dat?, y.dat? with
  | some d, some e => if shp d && shp e then .ok (.d (.bl (if neg then !eqD d e else eqD d e))) h else .stuck
  | _, _ => .stuck
/-- texts need no further look -/
def fEq (neg : Bool) (x y : Vl) (h : Hc) : R Vl := match x, y with
  | .d (.str a), .d (.str b) => .ok (.d (.bl (if neg then !decide (a = b) else decide (a = b)))) h
  | x, y => fEq0 neg x y h
section
variable {X : Cx} {g : Gi} {B : Bg} {W : WXv} {pos : Pos} {a b c : Expr} {ma mb mc : ME}
theorem dec_s {a b : PySem.Str} : decide (L2.V.str a = L2.V.str b) = decide (a = b) := by
  rw [Bool.eq_iff_iff]
  simp
theorem o_eq (hK : g.K = X.K) (hu : X.A.units + 64 < cLine) : OpV X g (compareOp .Eq) (fEq false) := by
  refine ⟨_, OpR.or op_eq (op_eqD hu), fun B W env s σ H x y v w Q sr r1 r2 p => ?_⟩
  unfold fEq at p
  split at p
  · next a b =>
    obtain rfl : v = .str a := r1
    obtain rfl : w = .str b := r2
    exact .inl ⟨rfl, by rw [dec_s]; exact PostE.pure sr p rfl⟩
  · unfold fEq0 at p
    split at p
    · next d e e1 e2 =>
      split at p
      · next hs =>
        obtain ⟨h1, h2⟩ := Bool.and_eq_true_iff.mp hs
        exact .inr ⟨_, _, hK ▸ r1.dp' sr.good e1, hK ▸ r2.dp' sr.good e2, h1, h2, PostE.pure sr p rfl⟩
      · exact p.elim
    · exact p.elim
theorem o_ne (hK : g.K = X.K) (hu : X.A.units + 64 < cLine) : OpV X g (compareOp .NotEq) (fEq true) := by
  refine ⟨_, OpR.or op_ne (op_neD hu), fun B W env s σ H x y v w Q sr r1 r2 p => ?_⟩
  unfold fEq at p
  split at p
  · next a b =>
    obtain rfl : v = .str a := r1
    obtain rfl : w = .str b := r2
    exact .inl ⟨rfl, by rw [dec_s]; exact PostE.pure sr p rfl⟩
  · unfold fEq0 at p
    split at p
    · next d e e1 e2 =>
      split at p
      · next hs =>
        obtain ⟨h1, h2⟩ := Bool.and_eq_true_iff.mp hs
        exact .inr ⟨_, _, hK ▸ r1.dp' sr.good e1, hK ▸ r2.dp' sr.good e2, h1, h2, PostE.pure sr p rfl⟩
      · exact p.elim
    · exact p.elim
end
end Vi

set_option Elab.async false
set_option linter.all false
set_option maxRecDepth 100000
set_option maxHeartbeats 2000000
namespace Vi
open PySem L2

/-! ### and, or, not, if .. else, chains -/
@[simp] def mNot (m : ME) : ME := m1 (fun x h => match x with
  | .d (.bl b) => .ok (.d (.bl (!b))) h
  | _ => .stuck) m
@[simp] def mAnd (a b : ME) : ME := fun env h => (a env h).bind fun x h1 => match x with
  | .d (.bl true) => b env h1
  | .d (.bl false) => .ok (.d (.bl false)) h1
  | _ => .stuck
@[simp] def mOr (a b : ME) : ME := fun env h => (a env h).bind fun x h1 => match x with
  | .d (.bl false) => b env h1
  | .d (.bl true) => .ok (.d (.bl true)) h1
  | _ => .stuck
@[simp] def tNotM (a : MB) : MB := fun env h => (a env h).bind fun b h1 => .ok (!b) h1
def tAndM (a b : MB) : MB := fun env h => (a env h).bind fun x h1 => if x then b env h1 else .ok false h1
def tOrM (a b : MB) : MB := fun env h => (a env h).bind fun x h1 => if x then .ok true h1 else b env h1
def mIf (c : MB) (a b : ME) : ME := fun env h => (c env h).bind fun x h1 => if x then a env h1 else b env h1
@[simp] def mChain (f g : Vl → Vl → Hc → R Vl) (a b c : ME) : ME := fun env h => (a env h).bind fun x h1 => (b env h1).bind fun y h2 => (f x y h2).bind fun z h3 => match z with
  | .d (.bl true) => (c env h3).bind fun w h4 => g y w h4
  | .d (.bl false) => .ok (.d (.bl false)) h3
  | _ => .stuck
@[simp] def fNeg (x : Vl) (h : Hc) : R Vl := match x with
  | .d (.int i) => .ok (.d (.int (-i))) h
  | _ => .stuck
section
variable {X : Cx} {g : Gi} {B : Bg} {W : WXv} {pos : Pos} {a b c : Expr} {ma mb mc : ME} {rest : List Expr} {ta tb tc : MB} {env : Env} {s : Sta} {σ : L2.St} {H : Hp}
theorem ve_not (ha : PE X a (tE g B W ma)) : PE X (.UnaryOp .Not a pos) (tE g B W (mNot ma)) := by
  refine pe_imp (pe_not ha) fun σ H Q ⟨env, s, sr, p⟩ => ?_
  refine (bindE (Q := Q) sr p).mono fun v H1 ⟨s1, x, sr1, _, r1, p1⟩ => ?_
  split at p1
  · exact ⟨_, r1, PostE.pure sr1 p1 rfl⟩
  · exact p1.elim
theorem ve_one {op} (h : PE X a (tE g B W ma)) : PE X (.BoolOp op [a] pos) (tE g B W ma) := pe_one h
theorem ve_and (ha : PE X a (tE g B W ma)) (hb : PE X (.BoolOp .And (b :: rest) pos) (tE g B W mb)) : PE X (.BoolOp .And (a :: b :: rest) pos) (tE g B W (mAnd ma mb)) := by
  refine pe_imp (pe_and ha hb) fun σ H Q ⟨env, s, sr, p⟩ => ?_
  refine (bindE (Q := Q) sr p).mono fun v H1 ⟨s1, x, sr1, _, r1, p1⟩ => ?_
  split at p1
  · exact ⟨true, r1, iteT ⟨env, s1, sr1, p1⟩⟩
  · exact ⟨false, r1, iteF (PostE.pure sr1 p1 rfl)⟩
  · exact p1.elim
theorem ve_or (ha : PE X a (tE g B W ma)) (hb : PE X (.BoolOp .Or (b :: rest) pos) (tE g B W mb)) : PE X (.BoolOp .Or (a :: b :: rest) pos) (tE g B W (mOr ma mb)) := by
  refine pe_imp (pe_or ha hb) fun σ H Q ⟨env, s, sr, p⟩ => ?_
  refine (bindE (Q := Q) sr p).mono fun v H1 ⟨s1, x, sr1, _, r1, p1⟩ => ?_
  split at p1
  · exact ⟨false, r1, iteF ⟨env, s1, sr1, p1⟩⟩
  · exact ⟨true, r1, iteT (PostE.pure sr1 p1 rfl)⟩
  · exact p1.elim
theorem vt_not (ha : PT X a (tT g B W ta)) : PT X (.UnaryOp .Not a pos) (tT g B W (tNotM ta)) := by
  refine pt_imp (pt_not ha) fun σ H Q ⟨env, s, sr, p⟩ => ?_
  refine (bindTT (Q := Q) sr p).mono fun v H1 ⟨s1, sr1, _, p1⟩ => ?_
  exact PostB.pure sr1 p1
theorem vw_and1 (ha : PT X a (tT g B W ta)) : PW X (.BoolOp .And [a] pos) (tT g B W ta) := pw_and1 ha
theorem vw_or1 (ha : PT X a (tT g B W ta)) : PW X (.BoolOp .Or [a] pos) (tT g B W ta) := pw_or1 ha
theorem vw_and (ha : PT X a (tT g B W ta)) (hb : PW X (.BoolOp .And (b :: rest) pos) (tT g B W tb)) : PW X (.BoolOp .And (a :: b :: rest) pos) (tT g B W (tAndM ta tb)) := by
  refine pw_imp (pw_and ha hb) fun σ H Q ⟨env, s, sr, p⟩ => ?_
  refine (bindTT (Q := Q) sr p).mono fun v H1 ⟨s1, sr1, _, p1⟩ => ?_
  cases v with
  | true => exact iteT ⟨env, s1, sr1, p1⟩
  | false => exact iteF (PostB.pure sr1 p1)
theorem vw_or (ha : PT X a (tT g B W ta)) (hb : PW X (.BoolOp .Or (b :: rest) pos) (tT g B W tb)) : PW X (.BoolOp .Or (a :: b :: rest) pos) (tT g B W (tOrM ta tb)) := by
  refine pw_imp (pw_or ha hb) fun σ H Q ⟨env, s, sr, p⟩ => ?_
  refine (bindTT (Q := Q) sr p).mono fun v H1 ⟨s1, sr1, _, p1⟩ => ?_
  cases v with
  | true => exact iteT (PostB.pure sr1 p1)
  | false => exact iteF ⟨env, s1, sr1, p1⟩
theorem ve_if (hc : PT X c (tT g B W tc)) (ha : PE X a (tE g B W ma)) (hb : PE X b (tE g B W mb)) : PE X (.IfExp c a b pos) (tE g B W (mIf tc ma mb)) := by
  refine pe_imp (pe_ifExp hc ha hb) fun σ H Q ⟨env, s, sr, p⟩ => ?_
  refine (bindTE (Q := Q) sr p).mono fun v H1 ⟨s1, sr1, _, p1⟩ => ?_
  cases v with
  | true => exact iteT ⟨env, s1, sr1, p1⟩
  | false => exact iteF ⟨env, s1, sr1, p1⟩
theorem ve_neg (ha : PE X a (tE g B W ma)) : PE X (.UnaryOp .USub a pos) (tE g B W (m1 fNeg ma)) := by
  refine pe_imp (pe_un un_neg ha) fun σ H Q ⟨env, s, sr, p⟩ => ?_
  refine (bindE (Q := Q) sr p).mono fun v H1 ⟨s1, x, sr1, _, r1, p1⟩ => ?_
  unfold fNeg at p1
  split at p1
  · exact ⟨_, r1, PostE.pure sr1 p1 rfl⟩
  · exact p1.elim
/-- a result of an operation that does not change the state, as a bool -/
theorem PostE.then {r : R Vl} {k : Vl → Hc → R Vl} {Q : VK} (p : PostE g B W env s σ H (r.bind k) Q) :
    PostE g B W env s σ H r fun v H1 => ∃ s1 x, SR g B env s1 σ H1 ∧ Evo s H s1 H1 ∧ VlRep g B env σ s1 H1 x v ∧ PostE g B W env s1 σ H1 (k x s1.h) Q := by
  cases r with
  | ok x h1 =>
    intro v H1 s1 e1 ev sr1 vr
    refine ⟨s1, x, sr1, ev, vr, ?_⟩
    rw [e1]
    exact PostE.later ev p
  | exc x h1 => exact p
  | stuck => exact p
theorem ve_chain {op op' : CmpOp} {F F' : Vl → Vl → Hc → R Vl} (ho : OpV X g (compareOp op) F) (ho' : OpV X g (compareOp op') F') (ha : PE X a (tE g B W ma)) (hb : PE X b (tE g B W mb)) (hc : PE X c (tE g B W mc))
    (hm : lastMarks [op, op'] [b, c] = false := by with_unfolding_all rfl) : PE X (.Compare a [op, op'] [b, c] pos) (tE g B W (mChain F F' ma mb mc)) := by
  obtain ⟨r, h1, h2⟩ := ho
  obtain ⟨r', h1', h2'⟩ := ho'
  refine pe_imp (pe_chain h1 h1' ha hb hc hm) fun σ H Q ⟨env, s, sr, p⟩ => ?_
  refine (bindE sr p).mono fun v H1 ⟨s1, x, sr1, _, r1, p1⟩ => ?_
  refine (bindE sr1 p1).mono fun w H2 ⟨s2, y, sr2, e2, r2, p2⟩ => ?_
  refine h2 B W env s2 σ H2 x y v w _ sr2 (r1.evo e2) r2 (p2.then.mono fun z H3 ⟨s3, q, sr3, e3, r3, p3⟩ => ?_)
  split at p3
  · refine ⟨true, r3, iteT ?_⟩
    refine (bindE sr3 p3).mono fun u H4 ⟨s4, q4, sr4, e4, r4, p4⟩ => ?_
    exact h2' B W env s4 σ H4 y q4 w u Q sr4 ((r2.evo e3).evo e4) r4 p4
  · exact ⟨false, r3, iteF (PostE.pure sr3 p3 rfl)⟩
  · exact p3.elim

/-! ### subscripts -/
def fIx (x y : Vl) (h : Hc) : R Vl := match y with
  | .d (.int i) => (match lst? x with
    | some xs => (match atI xs i with
      | some d => .ok (.d d) h
      | none => .stuck)
    | none => (match tup? x with
      | some xs => (match atI xs i with
        | some d => .ok (.d d) h
        | none => .stuck)
      | none => (match x with
        | .d (.str z) => (match atI z.cps.toList i with
          | some c => if z.length ≤ 100000 then .ok (.d (.str ⟨#[c]⟩)) h else .stuck
          | none => .stuck)
        | .d (.ref n) => (match h[n]? with
          | some (.lst xs) => (match atI xs i with
            | some d => .ok (.d d) h
            | none => .stuck)
          | _ => .stuck)
        | _ => .stuck)))
  | _ => .stuck
theorem Reps.atI {F : Hp} {al : Nat → Option Addr} {ds : List D} {vs : List V} {i : Int} {d : D} (h : Reps g F al ds vs) (e : atI ds i = some d) : ∃ v, L2.atI vs i = some v ∧ Rep g F al d v := by
  unfold L2.atI at e ⊢
  rw [h.length]
  cases q : ixN ds.length i with
  | none => rw [q] at e; cases e
  | some j =>
    rw [q] at e
    exact h.get (i := j) e
theorem ve_ix (hK : g.K = X.K) (ha : PE X a (tE g B W ma)) (hb : PE X b (tE g B W mb)) (hs : PlainIx b) : PE X (.Subscript a b pos) (tE g B W (m2 fIx ma mb)) := by
  refine pe_imp (pe_ix ix_seq ha hb hs) fun σ H Q ⟨env, s, sr, p⟩ => ?_
  refine (bind2E (Q := Q) sr p).mono fun v H1 q => q.mono fun w H2 ⟨s2, x, y, sr2, _, r1, r2, p2⟩ => ?_
  unfold fIx at p2
  split at p2
  · next i =>
    cases r2
    split at p2
    · next xs e1 =>
      split at p2
      · next d e2 =>
        obtain ⟨a1, vs, rfl, h1, q1⟩ := r1.lst sr2.good e1
        obtain ⟨u, e3, r3⟩ := q1.atI e2
        exact .inl ⟨a1, vs, i, u, rfl, rfl, hK ▸ h1, e3, PostE.pure sr2 p2 r3⟩
      · exact p2.elim
    · split at p2
      · next xs e1 =>
        split at p2
        · next d e2 =>
          obtain ⟨a1, vs, rfl, h1, q1⟩ := r1.tup sr2.good e1
          obtain ⟨u, e3, r3⟩ := q1.atI e2
          exact .inr (.inl ⟨a1, vs, i, u, rfl, rfl, hK ▸ h1, e3, PostE.pure sr2 p2 r3⟩)
        · exact p2.elim
      · split at p2
        · next z _ _ =>
          split at p2
          · next c e2 =>
            split at p2
            · next hl =>
              cases r1
              exact .inr (.inr ⟨z, i, c, rfl, rfl, size_of hl, e2, PostE.pure sr2 p2 rfl⟩)
            · exact p2.elim
          · exact p2.elim
        · next n _ _ =>
          split at p2
          · next xs hx =>
            split at p2
            · next d e2 =>
              obtain ⟨a1, rfl, hal⟩ := r1
              obtain ⟨a2, h1, vs, h3, q1⟩ := sr2.good.cell n _ hx
              rw [hal] at h1
              cases h1
              obtain ⟨u, e3, r3⟩ := q1.atI e2
              exact .inl ⟨a1, vs, i, u, rfl, rfl, .of h3, e3, PostE.pure sr2 p2 r3⟩
            · exact p2.elim
          · exact p2.elim
        · exact p2.elim
  · exact p2.elim
end
/-! ### calls of built-ins -/
def CallV (X : Cx) (g : Gi) (f : Value) (F : List Vl → Hc → R Vl) : Prop :=
  ∃ r : List V → Hp → VK → Prop, CallR X f r ∧ ∀ (B : Bg) (W : WXv) (env : Env) (s : Sta) (σ : L2.St) (H : Hp) (xs : List Vl) (vs : List V) (Q : VK), SR g B env s σ H → VlReps g B env σ s H xs vs → PostE g B W env s σ H (F xs s.h) Q → r vs H Q
section
variable {X : Cx} {g : Gi} {B : Bg} {W : WXv} {pos p : Pos} {e : Expr} {es : List Expr} {A : MA} {F : List Vl → Hc → R Vl} {id T : String} {x : Str}
theorem ve_callB (hc : CallV X g (.builtin id) F) (hg : Gl X x) (hm : X.mg x = none) (hv : bootBuiltins x = some (.builtin id)) (ha : PA X (e :: es) (tA g B W A)) (hn : x ≠ "__name__" := by decide) (hdb : (x == ("__debug__" : Str)) = false := by decide)
    (he : starEach (e :: es) X.env = (false, eval e X.env) :: starEach es X.env := by rfl) (hpl : (backTo pos (starEach es X.env)).any (·.1) = false := by rfl) : PE X (.Call (.Name x p) (e :: es) [] pos) (tE g B W (mA1 F A)) := by
  obtain ⟨r, h1, h2⟩ := hc
  refine pe_imp (pe_callB h1 hg hm hv ha hn hdb he hpl) fun σ H Q ⟨env, s, sr, p⟩ => ?_
  refine (bindA (Q := Q) sr p).mono fun vs H1 ⟨s1, xs, sr1, _, r1, p1⟩ => ?_
  exact h2 B W env s1 σ H1 xs vs Q sr1 r1 p1
theorem ve_callTy (hc : CallV X g (.type T) F) (hg : Gl X x) (hm : X.mg x = none) (hv : bootBuiltins x = some (.type T)) (ha : PA X (e :: es) (tA g B W A)) (hn : x ≠ "__name__" := by decide) (hdb : (x == ("__debug__" : Str)) = false := by decide)
    (he : starEach (e :: es) X.env = (false, eval e X.env) :: starEach es X.env := by rfl) (hpl : (backTo pos (starEach es X.env)).any (·.1) = false := by rfl) : PE X (.Call (.Name x p) (e :: es) [] pos) (tE g B W (mA1 F A)) := by
  obtain ⟨r, h1, h2⟩ := hc
  refine pe_imp (pe_callTy h1 hg hm hv ha hn hdb he hpl) fun σ H Q ⟨env, s, sr, p⟩ => ?_
  refine (bindA (Q := Q) sr p).mono fun vs H1 ⟨s1, xs, sr1, _, r1, p1⟩ => ?_
  exact h2 B W env s1 σ H1 xs vs Q sr1 r1 p1
theorem ve_callG (hc : CallV X g (.builtin id) F) (hg : Gl X x) (hm : X.mg x = some (.builtin id)) (ha : PA X (e :: es) (tA g B W A)) (hdb : (x == ("__debug__" : Str)) = false := by decide)
    (he : starEach (e :: es) X.env = (false, eval e X.env) :: starEach es X.env := by rfl) (hpl : (backTo pos (starEach es X.env)).any (·.1) = false := by rfl) : PE X (.Call (.Name x p) (e :: es) [] pos) (tE g B W (mA1 F A)) := by
  obtain ⟨r, h1, h2⟩ := hc
  refine pe_imp (pe_callBfun h1 hg hm ha hdb he hpl) fun σ H Q ⟨env, s, sr, p⟩ => ?_
  refine (bindA (Q := Q) sr p).mono fun vs H1 ⟨s1, xs, sr1, _, r1, p1⟩ => ?_
  exact h2 B W env s1 σ H1 xs vs Q sr1 r1 p1
end
section
variable {g : Gi} {B : Bg} {env : Env} {s : Sta} {σ : L2.St} {H : Hp}
theorem VlReps.one {x : Vl} {vs : List V} (h : VlReps g B env σ s H [x] vs) : ∃ v, vs = [v] ∧ VlRep g B env σ s H x v := by
  cases h with
  | cons a b => cases b; exact ⟨_, rfl, a⟩
theorem VlReps.two {x y : Vl} {vs : List V} (h : VlReps g B env σ s H [x, y] vs) : ∃ v w, vs = [v, w] ∧ VlRep g B env σ s H x v ∧ VlRep g B env σ s H y w := by
  cases h with
  | cons a b =>
    cases b with
    | cons b c => cases c; exact ⟨_, _, rfl, a, b⟩
end
@[simp] def fAbs (xs : List Vl) (h : Hc) : R Vl := match xs with
  | [.d (.int i)] => .ok (.d (.int (if i < 0 then -i else i))) h
  | _ => .stuck
@[simp] def fMax2 (xs : List Vl) (h : Hc) : R Vl := match xs with
  | [.d (.int i), .d (.int j)] => .ok (.d (.int (if j > i then j else i))) h
  | _ => .stuck
@[simp] def fMin2 (xs : List Vl) (h : Hc) : R Vl := match xs with
  | [.d (.int i), .d (.int j)] => .ok (.d (.int (if j < i then j else i))) h
  | _ => .stuck
@[simp] def fGcd (xs : List Vl) (h : Hc) : R Vl := match xs with
  | [.d (.int i), .d (.int j)] => .ok (.d (.int ((Nat.gcd i.natAbs j.natAbs : Nat) : Int))) h
  | _ => .stuck
@[simp] def fIntOf (xs : List Vl) (h : Hc) : R Vl := match xs with
  | [.d (.int i)] => .ok (.d (.int i)) h
  | [.d (.bl b)] => .ok (.d (.int (if b then 1 else 0))) h
  | _ => .stuck
def fStrOf (xs : List Vl) (h : Hc) : R Vl := match xs with
  | [.d (.int i)] => if i.natAbs.log2 < 1920 then .ok (.d (.str (toString i))) h else .stuck
  | _ => .stuck
def fLen (xs : List Vl) (h : Hc) : R Vl := match xs with
  | [x] => (match lst? x with
    | some ys => .ok (.d (.int ys.length)) h
    | none => (match tup? x with
      | some ys => .ok (.d (.int ys.length)) h
      | none => (match x with
        | .d (.str z) => if z.length ≤ 100000 then .ok (.d (.int z.length)) h else .stuck
        | .d (.ref n) => (match h[n]? with
          | some (.lst ys) => .ok (.d (.int ys.length)) h
          | _ => .stuck)
        | _ => .stuck)))
  | _ => .stuck
def ints? : List D → Option (List Int)
  | [] => some []
  | .int i :: r => (ints? r).map (i :: ·)
  | _ :: _ => none
def fSum (xs : List Vl) (h : Hc) : R Vl := match xs with
  | [x] => (match lst? x with
    | some ys => (match ints? ys with
      | some ns => .ok (.d (.int ns.sum)) h
      | none => .stuck)
    | none => .stuck)
  | _ => .stuck
/-- list(x) -/
def fList (o : Bool) (xs : List Vl) (h : Hc) : R Vl := match xs with
  | [x] => (match lst? x with
    | some ys => .ok (Vl.ofL o ys) h
    | none => (match tup? x with
      | some ys => .ok (Vl.ofL o ys) h
      | none => .stuck))
  | _ => .stuck
/-- tuple(x) -/
def fTuple (xs : List Vl) (h : Hc) : R Vl := match xs with
  | [x] => (match lst? x with
    | some ys => .ok (.d (.tup ys)) h
    | none => (match tup? x with
      | some ys => .ok (.d (.tup ys)) h
      | none => .stuck))
  | _ => .stuck
section
variable {X : Cx} {g : Gi}
theorem c_abs : CallV X g (.builtin "abs") fAbs := by
  refine ⟨_, call_abs, fun B W env s σ H xs vs Q sr r p => ?_⟩
  unfold fAbs at p
  split at p
  · obtain ⟨v, rfl, rr⟩ := r.one
    cases rr
    exact ⟨_, rfl, PostE.pure sr p rfl⟩
  · exact p.elim
theorem c_max2 (hc : X.calm = true) : CallV X g (.builtin "max") fMax2 := by
  refine ⟨_, call_max2 hc, fun B W env s σ H xs vs Q sr r p => ?_⟩
  unfold fMax2 at p
  split at p
  · obtain ⟨v, w, rfl, rr, r2⟩ := r.two
    cases rr
    cases r2
    exact ⟨_, _, rfl, PostE.pure sr p rfl⟩
  · exact p.elim
theorem c_min2 (hc : X.calm = true) : CallV X g (.builtin "min") fMin2 := by
  refine ⟨_, call_min2 hc, fun B W env s σ H xs vs Q sr r p => ?_⟩
  unfold fMin2 at p
  split at p
  · obtain ⟨v, w, rfl, rr, r2⟩ := r.two
    cases rr
    cases r2
    exact ⟨_, _, rfl, PostE.pure sr p rfl⟩
  · exact p.elim
theorem c_gcd : CallV X g (.builtin "math.gcd") fGcd := by
  refine ⟨_, cr_gcd, fun B W env s σ H xs vs Q sr r p => ?_⟩
  unfold fGcd at p
  split at p
  · obtain ⟨v, w, rfl, rr, r2⟩ := r.two
    cases rr
    cases r2
    exact ⟨_, _, rfl, PostE.pure sr p rfl⟩
  · exact p.elim
theorem c_int : CallV X g (.type "int") fIntOf := by
  refine ⟨_, call_int1, fun B W env s σ H xs vs Q sr r p => ?_⟩
  unfold fIntOf at p
  split at p
  · obtain ⟨v, rfl, rr⟩ := r.one
    cases rr
    exact .inl ⟨_, rfl, PostE.pure sr p rfl⟩
  · obtain ⟨v, rfl, rr⟩ := r.one
    cases rr
    exact .inr ⟨_, rfl, PostE.pure sr p rfl⟩
  · exact p.elim
theorem c_str : CallV X g (.type "str") fStrOf := by
  refine ⟨_, call_str_int, fun B W env s σ H xs vs Q sr r p => ?_⟩
  unfold fStrOf at p
  split at p
  · split at p
    · next hl =>
      obtain ⟨v, rfl, rr⟩ := r.one
      cases rr
      exact ⟨_, rfl, hl, PostE.pure sr p rfl⟩
    · exact p.elim
  · exact p.elim
theorem c_len (hK : g.K = X.K) : CallV X g (.builtin "len") fLen := by
  refine ⟨_, call_len, fun B W env s σ H xs vs Q sr r p => ?_⟩
  unfold fLen at p
  split at p
  · next x =>
    obtain ⟨v, rfl, rr⟩ := r.one
    split at p
    · next ys e1 =>
      obtain ⟨a1, ws, rfl, h1, q1⟩ := rr.lst sr.good e1
      exact ⟨_, ys.length, rfl, .inl ⟨ws, hK ▸ h1, q1.length.symm⟩, PostE.pure sr p rfl⟩
    · split at p
      · next ys e1 =>
        obtain ⟨a1, ws, rfl, h1, q1⟩ := rr.tup sr.good e1
        exact ⟨_, ys.length, rfl, .inr ⟨ws, hK ▸ h1, q1.length.symm⟩, PostE.pure sr p rfl⟩
      · split at p
        · split at p
          · next hl =>
            cases rr
            exact ⟨_, _, rfl, ⟨size_of hl, rfl⟩, PostE.pure sr p rfl⟩
          · exact p.elim
        · next n _ _ =>
          split at p
          · next ys hx =>
            obtain ⟨a1, rfl, hal⟩ := rr
            obtain ⟨a2, h1, ws, h3, q1⟩ := sr.good.cell n _ hx
            rw [hal] at h1
            cases h1
            exact ⟨_, ys.length, rfl, .inl ⟨ws, .of h3, q1.length.symm⟩, PostE.pure sr p rfl⟩
          · exact p.elim
        · exact p.elim
  · exact p.elim
theorem Reps.ints {F : Hp} {al : Nat → Option Addr} (ds : List D) : ∀ {vs : List V} {ns : List Int}, Reps g F al ds vs → ints? ds = some ns → vs = ns.map V.int := by
  induction ds with
  | nil =>
    intro vs ns h e
    have e : some [] = some ns := e
    cases e
    exact h
  | cons d ds ih =>
    intro vs ns h e
    obtain ⟨v, r, h1, h2, h3⟩ := h
    cases d with
    | int i =>
      have e1 : (ints? ds).map (i :: ·) = some ns := e
      cases q : ints? ds with
      | none => rw [q] at e1; cases e1
      | some l =>
        rw [q] at e1
        have e2 : i :: l = ns := Option.some.inj e1
        have h2 : v = .int i := h2
        rw [← e2, h1, ih h3 q, h2, List.map_cons]
    | _ => cases e
theorem c_sum (hK : g.K = X.K) (hc : X.calm = true) : CallV X g (.builtin "sum") fSum := by
  refine ⟨_, cr_sum hc, fun B W env s σ H xs vs Q sr r p => ?_⟩
  unfold fSum at p
  split at p
  · obtain ⟨v, rfl, rr⟩ := r.one
    split at p
    · next ys e1 =>
      split at p
      · next ns e2 =>
        obtain ⟨a1, ws, rfl, h1, q1⟩ := rr.lst sr.good e1
        have e3 := Reps.ints _ q1 e2
        subst e3
        exact ⟨a1, ns, rfl, hK ▸ h1, PostE.pure sr p rfl⟩
      · exact p.elim
    · exact p.elim
  · exact p.elim
theorem c_list (o : Bool) (hK : g.K = X.K) : CallV X g (.type "list") (fList o) := by
  refine ⟨_, call_list_of, fun B W env s σ H xs vs Q sr r p => ?_⟩
  unfold fList at p
  split at p
  · obtain ⟨v, rfl, rr⟩ := r.one
    split at p
    · next ys e1 =>
      obtain ⟨a1, ws, rfl, h1, q1⟩ := rr.lst sr.good e1
      exact ⟨_, ws, rfl, .inl (hK ▸ h1), fun l hl => PostE.newLO sr p q1 hl⟩
    · split at p
      · next ys e1 =>
        obtain ⟨a1, ws, rfl, h1, q1⟩ := rr.tup sr.good e1
        exact ⟨_, ws, rfl, .inr (hK ▸ h1), fun l hl => PostE.newLO sr p q1 hl⟩
      · exact p.elim
  · exact p.elim
theorem c_tuple (hK : g.K = X.K) : CallV X g (.type "tuple") fTuple := by
  refine ⟨_, call_tuple_of, fun B W env s σ H xs vs Q sr r p => ?_⟩
  unfold fTuple at p
  split at p
  · obtain ⟨v, rfl, rr⟩ := r.one
    split at p
    · next ys e1 =>
      obtain ⟨a1, ws, rfl, h1, q1⟩ := rr.lst sr.good e1
      exact ⟨_, ws, rfl, .inl ⟨hK ▸ h1, fun l hl => PostE.newT sr p q1 hl⟩⟩
    · split at p
      · next ys e1 =>
        obtain ⟨a1, ws, e2, h1, q1⟩ := rr.tup sr.good e1
        subst e2
        exact ⟨_, ws, rfl, .inr ⟨hK ▸ h1, PostE.pure sr p (tup?_eq e1 ▸ rr)⟩⟩
      · exact p.elim
  · exact p.elim
/-- isinstance(x, T), the class written -/
def fIsi (g : Gi) (t : Ty) (x : Vl) (h : Hc) : R Vl := match x.ty g with
  | some u => (match g.isi u t with
    | some b => .ok (.d (.bl b)) h
    | none => .stuck)
  | none => .stuck
end
section
variable {X : Cx} {g : Gi} {B : Bg} {W : WXv} {pos p : Pos} {e c : Expr} {m : ME}
theorem ve_isi (G : GiOk g) (hK : g.K = X.K) (t : Ty) (hg : Gl X "isinstance") (hm : X.mg "isinstance" = none) (he : PE X e (tE g B W m)) (hc : PE X c (tC (t.v g)))
    (hs : starEach [e, c] X.env = (false, eval e X.env) :: starEach [c] X.env := by rfl) (hs2 : starEach [c] X.env = (false, eval c X.env) :: starEach [] X.env := by rfl) (hpl : (backTo pos (starEach [c] X.env)).any (·.1) = false := by rfl) :
    PE X (.Call (.Name "isinstance" p) [e, c] [] pos) (tE g B W (m1 (fIsi g t) m)) := by
  refine pe_imp (pe_callB call_isi hg hm (by decide +kernel) (pa_cons he (pa_cons hc pa_nil hs2) hs) (by decide) (by decide) hs hpl) fun σ H Q ⟨env, s, sr, p⟩ => ?_
  refine (bindE (Q := Q) sr p).mono fun v H1 ⟨s1, x, sr1, _, r1, p1⟩ => ?_
  unfold fIsi at p1
  split at p1
  · next u e1 =>
    split at p1
    · next b e2 =>
      refine ⟨v, t.v g, u.val g, t.val g, b, rfl, ?_, hK ▸ Vl.tyX G sr1.good r1 e1, hK ▸ G.isi u t b e2, PostE.pure sr1 p1 rfl⟩
      cases t with
      | bt n => exact .ty n
      | own c => exact .own _
    · exact p1.elim
  · exact p1.elim
end
end Vi

set_option Elab.async false
set_option linter.all false
set_option maxRecDepth 100000
set_option maxHeartbeats 2000000
namespace Vi
open PySem L2

inductive RS where
  | nx (env : Env) (h : Hc) | ret (d : D) (h : Hc) | brk (env : Env) (h : Hc) | cnt (env : Env) (h : Hc) | exc (env : Env) (x : D) (h : Hc) | stuck
abbrev MS := Env → Hc → RS
/-- nothing that is frozen is lost -/
structure Le (s s' : Sta) : Prop where
  f : ∀ a o, s.F a = some o → s'.F a = some o
  al : ∀ n a, s.al n = some a → s'.al n = some a
theorem Le.refl (s : Sta) : Le s s := ⟨fun _ _ h => h, fun _ _ h => h⟩
theorem Le.trans {a b c : Sta} (x : Le a b) (y : Le b c) : Le a c := ⟨fun _ _ h => y.f _ _ (x.f _ _ h), fun _ _ h => y.al _ _ (x.al _ _ h)⟩
theorem Evo.le {s s' : Sta} {H H' : Hp} (e : Evo s H s' H') : Le s s' := ⟨e.f, e.al⟩
section
variable (g : Gi) (B : Bg) (W : WXv)
def PostS (s0 : Sta) : RS → Ends → Prop
  | .nx env h, N => ∀ (σ : L2.St) (H : Hp) (s : Sta), s.h = h → Le s0 s → SR g B env s σ H → N.nx σ H
  | .ret d h, N => ∀ (v : V) (H : Hp) (s : Sta), s.h = h → Evo B.s B.H s H → Good g s H → Rep g s.F s.al d v → N.rt v H
  | .brk env h, N => ∀ (σ : L2.St) (H : Hp) (s : Sta), s.h = h → Le s0 s → SR g B env s σ H → N.bk σ H
  | .cnt env h, N => ∀ (σ : L2.St) (H : Hp) (s : Sta), s.h = h → Le s0 s → SR g B env s σ H → N.ct σ H
  | .exc env x h, _ => ∀ (cls : Value) (dd : Option Addr) (σ : L2.St) (H : Hp) (s : Sta), s.h = h → Le s0 s → SR g B env s σ H → XRep g s H x cls dd → W cls dd σ H
  | .stuck, _ => False
def tS (m : MS) : TS := fun N σ H => ∃ env s, SR g B env s σ H ∧ PostS g B W s (m env s.h) N
end
def R.thenS {α : Type} (r : R α) (env : Env) (k : α → Hc → RS) : RS := match r with
  | .ok a h => k a h
  | .exc x h => .exc env x h
  | .stuck => .stuck
theorem ps_imp {X : Cx} {e : Stmt} {t t' : TS} (h : PS X e t) (i : ∀ N σ H, t' N σ H → t N σ H) : PS X e t' := ⟨fun pins s σ H N I q => h.run pins s σ H N I (i N σ H q)⟩
theorem pss_imp {X : Cx} {e : List Stmt} {t t' : TS} (h : PSs X e t) (i : ∀ N σ H, t' N σ H → t N σ H) : PSs X e t' := ⟨fun pins s σ H N I q => h.run pins s σ H N I (i N σ H q)⟩
section
variable {g : Gi} {B : Bg} {W : WXv} {env : Env} {s : Sta} {σ : L2.St} {H : Hp}
theorem PostS.later {s0 s1 : Sta} {N : Ends} (l : Le s0 s1) : ∀ {r : RS}, PostS g B W s0 r N → PostS g B W s1 r N
  | .nx _ _, p => fun σ H s e h sr => p σ H s e (l.trans h) sr
  | .ret _ _, p => p
  | .brk _ _, p => fun σ H s e h sr => p σ H s e (l.trans h) sr
  | .cnt _ _, p => fun σ H s e h sr => p σ H s e (l.trans h) sr
  | .exc _ _ _, p => fun c d σ H s e h sr => p c d σ H s e (l.trans h) sr
  | .stuck, p => p
theorem bindS {a : ME} {k : Vl → Hc → RS} {N : Ends} (sr : SR g B env s σ H) (p : PostS g B W s ((a env s.h).thenS env k) N) :
    tE g B W a σ H fun v H1 => ∃ s1 x, SR g B env s1 σ H1 ∧ Le s s1 ∧ VlRep g B env σ s1 H1 x v ∧ PostS g B W s1 (k x s1.h) N := by
  refine ⟨env, s, sr, ?_⟩
  cases e : a env s.h with
  | ok x h1 =>
    rw [e] at p
    intro v H1 s1 e1 ev sr1 vr
    exact ⟨s1, x, sr1, ev.le, vr, by rw [e1]; exact PostS.later ev.le p⟩
  | exc x h1 =>
    rw [e] at p
    intro cls dd H1 s1 e1 ev sr1 xr
    exact p cls dd σ H1 s1 e1 ev.le sr1 xr
  | stuck =>
    rw [e] at p
    exact p
theorem bindSB {a : MB} {k : Bool → Hc → RS} {N : Ends} (sr : SR g B env s σ H) (p : PostS g B W s ((a env s.h).thenS env k) N) :
    tT g B W a σ H fun b H1 => ∃ s1, SR g B env s1 σ H1 ∧ Le s s1 ∧ PostS g B W s1 (k b s1.h) N := by
  refine ⟨env, s, sr, ?_⟩
  cases e : a env s.h with
  | ok x h1 =>
    rw [e] at p
    intro H1 s1 e1 ev sr1
    exact ⟨s1, sr1, ev.le, by rw [e1]; exact PostS.later ev.le p⟩
  | exc x h1 =>
    rw [e] at p
    intro cls dd H1 s1 e1 ev sr1 xr
    exact p cls dd σ H1 s1 e1 ev.le sr1 xr
  | stuck =>
    rw [e] at p
    exact p
theorem bindSA {a : MA} {k : List Vl → Hc → RS} {N : Ends} (sr : SR g B env s σ H) (p : PostS g B W s ((a env s.h).thenS env k) N) :
    tA g B W a σ H fun vs H1 => ∃ s1 xs, SR g B env s1 σ H1 ∧ Le s s1 ∧ VlReps g B env σ s1 H1 xs vs ∧ PostS g B W s1 (k xs s1.h) N := by
  refine ⟨env, s, sr, ?_⟩
  cases e : a env s.h with
  | ok x h1 =>
    rw [e] at p
    intro v H1 s1 e1 ev sr1 vr
    exact ⟨s1, x, sr1, ev.le, vr, by rw [e1]; exact PostS.later ev.le p⟩
  | exc x h1 =>
    rw [e] at p
    intro cls dd H1 s1 e1 ev sr1 xr
    exact p cls dd σ H1 s1 e1 ev.le sr1 xr
  | stuck =>
    rw [e] at p
    exact p
/-- a slot gets data -/
theorem SR.set {i : Nat} {x : D} {v : V} (sr : SR g B env s σ H) (r : Rep g s.F s.al x v) : SR g B (env.set i (some (.d x))) s (σ.set i (some v)) H := by
  refine ⟨sr.good, sr.evo, by rw [List.length_set, List.length_set]; exact sr.len, fun j sl h => ?_, fun j k sl sl' u hjk h1 h2 o1 o2 h3 h4 => ?_⟩
  · by_cases e : i = j
    · subst e
      have hi : i < env.length := by
        have := (List.getElem?_eq_some_iff.mp h).1
        rwa [List.length_set] at this
      rw [List.getElem?_set_self hi] at h
      cases h
      exact ⟨v, List.getElem?_set_self (sr.len ▸ hi), r⟩
    · rw [List.getElem?_set_ne e] at h
      rw [List.getElem?_set_ne e]
      exact sr.slot j sl h
  · have ne : ∀ {j : Nat} {sl : Sl}, (env.set i (some (.d x)))[j]? = some (some sl) → sl.own = true → i ≠ j := fun {j sl} h o e => by
      subst e
      have hi : i < env.length := by
        have := (List.getElem?_eq_some_iff.mp h).1
        rwa [List.length_set] at this
      rw [List.getElem?_set_self hi] at h
      cases h
      cases o
    have n1 := ne h1 o1
    have n2 := ne h2 o2
    rw [List.getElem?_set_ne n1] at h1 h3
    rw [List.getElem?_set_ne n2] at h2 h4
    exact sr.sep j k sl sl' u hjk h1 h2 o1 o2 h3 h4
/-- a slot gets something of its own -/
theorem SR.setO {i : Nat} {sl : Sl} {a : Addr} (sr : SR g B env s σ H) (r : SlRep g B s H sl (.ref a)) (hn : NotOwn env σ a) : SR g B (env.set i (some sl)) s (σ.set i (some (.ref a))) H := by
  refine ⟨sr.good, sr.evo, by rw [List.length_set, List.length_set]; exact sr.len, fun j sl' h => ?_, fun j k sl1 sl2 u hjk h1 h2 o1 o2 h3 h4 => ?_⟩
  · by_cases e : i = j
    · subst e
      have hi : i < env.length := by
        have := (List.getElem?_eq_some_iff.mp h).1
        rwa [List.length_set] at this
      rw [List.getElem?_set_self hi] at h
      cases h
      exact ⟨_, List.getElem?_set_self (sr.len ▸ hi), r⟩
    · rw [List.getElem?_set_ne e] at h
      rw [List.getElem?_set_ne e]
      exact sr.slot j sl' h
  · by_cases e1 : i = j
    · subst e1
      have hi : i < env.length := by
        have := (List.getElem?_eq_some_iff.mp h1).1
        rwa [List.length_set] at this
      rw [List.getElem?_set_self (sr.len ▸ hi)] at h3
      cases h3
      rw [List.getElem?_set_ne hjk] at h2 h4
      exact hn k sl2 h2 o2 h4
    · rw [List.getElem?_set_ne e1] at h1 h3
      by_cases e2 : i = k
      · subst e2
        have hi : i < env.length := by
          have := (List.getElem?_eq_some_iff.mp h2).1
          rwa [List.length_set] at this
        rw [List.getElem?_set_self (sr.len ▸ hi)] at h4
        cases h4
        exact hn j sl1 h1 o1 h3
      · rw [List.getElem?_set_ne e2] at h2 h4
        exact sr.sep j k sl1 sl2 u hjk h1 h2 o1 o2 h3 h4
end
/-! ### blocks, assignments, returns -/
@[simp] def mSkip : MS := fun env h => .nx env h
def mSeq (a b : MS) : MS := fun env h => match a env h with
  | .nx env' h' => b env' h'
  | r => r
@[simp] def mSet (i : Nat) (e : ME) : MS := fun env h => (e env h).thenS env fun x h1 => match x with
  | .d x => .nx (env.set i (some (.d x))) h1
  | .tl xs => .nx (env.set i (some (.ol xs))) h1
  | _ => .stuck
@[simp] def mDrop (e : ME) : MS := fun env h => (e env h).thenS env fun _ h1 => .nx env h1
@[simp] def mRet (e : ME) : MS := fun env h => (e env h).thenS env fun x h1 => match x with
  | .d x => .ret x h1
  | .tl xs => .ret (.lst xs) h1
  | .bl xs => .ret (.lst xs) h1
  | _ => .stuck
@[simp] def mRetN : MS := fun _ h => .ret .non h
def mIfS (c : MB) (a b : MS) : MS := fun env h => (c env h).thenS env fun x h1 => if x then a env h1 else b env h1
@[simp] def mBrk : MS := fun env h => .brk env h
@[simp] def mCnt : MS := fun env h => .cnt env h
section
variable {X : Cx} {g : Gi} {B : Bg} {W : WXv} {pos : Pos} {st : Stmt} {rest : List Stmt} {ma mb : MS} {e : Expr} {m : ME} {c : Expr} {mc : MB}
theorem vs_nil : PSs X [] (tS g B W mSkip) := pss_imp pss_nil fun N σ H ⟨env, s, sr, p⟩ => p σ H s rfl (Le.refl s) sr
theorem vs_cons (h1 : PS X st (tS g B W ma)) (h2 : PSs X rest (tS g B W mb)) : PSs X (st :: rest) (tS g B W (mSeq ma mb)) := by
  refine pss_imp (pss_cons h1 h2) fun N σ H ⟨env, s, sr, p⟩ => ⟨env, s, sr, ?_⟩
  unfold mSeq at p
  cases q : ma env s.h with
  | nx env' h' =>
    rw [q] at p
    intro σ' H' s' e l sr'
    exact ⟨env', s', sr', by rw [e]; exact PostS.later l p⟩
  | ret d h' => rw [q] at p; exact p
  | brk env' h' => rw [q] at p; exact p
  | cnt env' h' => rw [q] at p; exact p
  | exc env' x h' => rw [q] at p; exact p
  | stuck => rw [q] at p; exact p
theorem vs_one (h1 : PS X st (tS g B W ma)) : PSs X [st] (tS g B W ma) := pss_one h1
theorem vs_pass : PS X (.Pass pos) (tS g B W mSkip) := ps_imp ps_pass fun N σ H ⟨env, s, sr, p⟩ => p σ H s rfl (Le.refl s) sr
theorem vs_break : PS X (.Break pos) (tS g B W mBrk) := ps_imp ps_break fun N σ H ⟨env, s, sr, p⟩ => p σ H s rfl (Le.refl s) sr
theorem vs_continue : PS X (.Continue pos) (tS g B W mCnt) := ps_imp ps_continue fun N σ H ⟨env, s, sr, p⟩ => p σ H s rfl (Le.refl s) sr
/-- code that the mirror never comes to -/
@[simp] def mNever : MS := fun _ _ => .stuck
theorem vs_never : PS X st (tS g B W mNever) := ps_imp ps_never fun _ _ _ ⟨_, _, _, p⟩ => p
theorem vss_never {sts : List Stmt} : PSs X sts (tS g B W mNever) := pss_imp pss_never fun _ _ _ ⟨_, _, _, p⟩ => p
theorem setPost {i : Nat} {x : Vl} {v : V} {env : Env} {s : Sta} {σ : L2.St} {H : Hp} {N : Ends} (sr : SR g B env s σ H) (r : VlRep g B env σ s H x v)
    (p : PostS g B W s (match (motive := Vl → RS) x with
      | .d x => .nx (env.set i (some (.d x))) s.h
      | .tl xs => .nx (env.set i (some (.ol xs))) s.h
      | _ => .stuck) N) : N.nx (σ.set i (some v)) H := by
  cases x with
  | d x => exact p _ H s rfl (Le.refl s) (sr.set r)
  | tl xs =>
    obtain ⟨a, vs, rfl, h1, h2, h3, h4⟩ := r
    exact p _ H s rfl (Le.refl s) (sr.setO (sl := .ol xs) ⟨a, vs, rfl, h1, h2, h4⟩ h3)
  | bl xs => exact p.elim
  | bi c fs => exact p.elim
theorem vs_set {i : Nat} {x : Str} {pos' : Pos} (hN : X.N.Nodup) (hi : X.N[i]? = some x) (hx : Loc X.env.scope x) (he : PE X e (tE g B W m)) (hs : swapsWith e (some (.Name x pos')) pos.line X.env = pure false := by rfl) (hf : X.fn x = true ∨ X.env.scope.names.lookup x = some .local := by first | exact .inl rfl | exact .inr rfl | assumption) :
    PS X (.Assign [.Name x pos'] e pos) (tS g B W (mSet i m)) := by
  refine ps_imp (ps_set hN hi hx he hs hf) fun N σ H ⟨env, s, sr, p⟩ => ?_
  exact (bindS sr p).mono fun v H1 ⟨s1, x, sr1, l1, r1, p1⟩ => setPost sr1 r1 p1
theorem vs_expr (he : PE X e (tE g B W m)) (hs : swapsWith e none pos.line X.env = pure false := by rfl) : PS X (.Expr e pos) (tS g B W (mDrop m)) := by
  refine ps_imp (ps_expr he hs) fun N σ H ⟨env, s, sr, p⟩ => ?_
  exact (bindS sr p).mono fun v H1 ⟨s1, x, sr1, l1, r1, p1⟩ => p1 σ H1 s1 rfl (Le.refl s1) sr1
/-- a list of the body's own is frozen as the body ends -/
theorem Good.frz {s : Sta} {H : Hp} {a : Addr} {o : HO} (gd : Good g s H) (ha : H a = some o) (hf : s.F a = none) (hal : ∀ n, s.al n ≠ some a) : Good g (s.frz a o) H := by
  have f : ∀ b u, s.F b = some u → (s.frz a o).F b = some u := fun b u h => by
    have ne : b ≠ a := fun q => by rw [q, hf] at h; cases h
    show upd s.F a o b = some u
    rw [upd_ne ne]; exact h
  refine ⟨fun b u h => ?_, gd.inj, fun n b h => ?_, fun n c h => ?_⟩
  · have h : upd s.F a o b = some u := h
    by_cases q : b = a
    · subst q
      rw [upd_same] at h
      cases h
      exact ha
    · rw [upd_ne q] at h
      exact gd.fle b u h
  · obtain ⟨h1, h2, h3⟩ := gd.dom n b h
    refine ⟨h1, ?_, h3⟩
    have ne : b ≠ a := fun q => by subst q; exact hal n h
    show upd s.F a o b = none
    rw [upd_ne ne]; exact h2
  · obtain ⟨b, h1, h2⟩ := gd.cell n c h
    refine ⟨b, h1, ?_⟩
    cases c with
    | lst ds => obtain ⟨vs, h3, h4⟩ := h2; exact ⟨vs, h3, h4.mono f fun _ _ z => z⟩
    | ins c fs => obtain ⟨dx, vs, h3, h4⟩ := h2; exact ⟨dx, vs, h3, h4.mono f fun _ _ z => z⟩
    | dK kvs => obtain ⟨vs, h3, h4⟩ := h2; exact ⟨vs, h3, h4.mono f fun _ _ z => z⟩
    | dT kvs => obtain ⟨vs, h3, h4⟩ := h2; exact ⟨vs, h3, h4.mono f fun _ _ z => z⟩
theorem frz_le {s : Sta} {a : Addr} {o : HO} (hf : s.F a = none) : ∀ b u, s.F b = some u → (s.frz a o).F b = some u := fun b u h => by
  have ne : b ≠ a := fun q => by rw [q, hf] at h; cases h
  show upd s.F a o b = some u
  rw [upd_ne ne]; exact h
theorem retL {xs : List D} {a : Addr} {vs : List V} {env : Env} {s : Sta} {σ : L2.St} {H : Hp} {N : Ends} (sr : SR g B env s σ H) (h1 : H a = some (.lst vs)) (h2 : OwnA B s a) (h4 : Reps g s.F s.al xs vs) (p : PostS g B W s (.ret (.lst xs) s.h) N) : N.rt (.ref a) H := by
  have fl := frz_le (o := .lst vs) h2.f
  exact p (.ref a) H (s.frz a (.lst vs)) rfl (evo_frz h2.f h2.al h2.new sr.evo) (sr.good.frz h1 h2.f h2.al) ⟨a, vs, rfl, upd_same, h4.mono fl fun _ _ z => z⟩
theorem vs_ret (he : PE X e (tE g B W m)) : PS X (.Return (some e) pos) (tS g B W (mRet m)) := by
  refine ps_imp (ps_ret he) fun N σ H ⟨env, s, sr, p⟩ => ?_
  refine (bindS sr p).mono fun v H1 ⟨s1, x, sr1, l1, r1, p1⟩ => ?_
  cases x with
  | d x => exact p1 v H1 s1 rfl sr1.evo sr1.good r1
  | tl xs =>
    obtain ⟨a, vs, rfl, h1, h2, h3, h4⟩ := r1
    exact retL sr1 h1 h2 h4 p1
  | bl xs =>
    obtain ⟨a, vs, rfl, h1, h2, h4⟩ := r1
    exact retL sr1 h1 h2 h4 p1
  | bi c fs => exact p1.elim
theorem vs_retN : PS X (.Return none pos) (tS g B W mRetN) := ps_imp ps_retN fun N σ H ⟨env, s, sr, p⟩ => p .non H s rfl sr.evo sr.good rfl
theorem vs_if {a b : List Stmt} (hc : PT X c (tT g B W mc)) (ha : PSs X a (tS g B W ma)) (hb : PSs X b (tS g B W mb)) : PS X (.If c a b pos) (tS g B W (mIfS mc ma mb)) := by
  refine ps_imp (ps_if hc ha hb) fun N σ H ⟨env, s, sr, p⟩ => ?_
  refine (bindSB sr p).mono fun v H1 ⟨s1, sr1, l1, p1⟩ => ?_
  cases v with
  | true => exact iteT ⟨env, s1, sr1, p1⟩
  | false => exact iteF ⟨env, s1, sr1, p1⟩
end
end Vi

set_option Elab.async false
set_option linter.all false
set_option maxRecDepth 100000
set_option maxHeartbeats 2000000
namespace Vi
open PySem L2

/-! ### targets -/
abbrev TgF := D → Env → Option Env
def TgV (X : Cx) (g : Gi) (target : Expr) (T : TgF) : Prop :=
  ∃ t : TG, PG X target t ∧ ∀ (B : Bg) (env env' : Env) (s : Sta) (σ : L2.St) (H : Hp) (d : D) (v : V) (Q : L2.St → Hp → Prop), SR g B env s σ H → Rep g s.F s.al d v → T d env = some env' → (∀ σ' H', SR g B env' s σ' H' → Q σ' H') → t v σ H Q
def TgsV (X : Cx) (g : Gi) (targets : List Expr) (T : List D → Env → Option Env) : Prop :=
  ∃ t : TGs, PGs X targets t ∧ ∀ (B : Bg) (env env' : Env) (s : Sta) (σ : L2.St) (H : Hp) (ds : List D) (vs : List V) (Q : L2.St → Hp → Prop), SR g B env s σ H → Reps g s.F s.al ds vs → T ds env = some env' → (∀ σ' H', SR g B env' s σ' H' → Q σ' H') → t vs σ H Q
@[simp] def gtN (i : Nat) : TgF := fun d env => some (env.set i (some (.d d)))
@[simp] def gtNil : List D → Env → Option Env := fun ds env => match ds with
  | [] => some env
  | _ => none
@[simp] def gtCons (a : TgF) (b : List D → Env → Option Env) : List D → Env → Option Env := fun ds env => match ds with
  | d :: r => (a d env).bind fun env1 => b r env1
  | [] => none
@[simp] def gtT (n : Nat) (b : List D → Env → Option Env) : TgF := fun d env => match d with
  | .tup ds => if ds.length = n then b ds env else none
  | _ => none
section
variable {X : Cx} {g : Gi} {pos : Pos}
theorem vg_name {i : Nat} {x : Str} (hN : X.N.Nodup) (hi : X.N[i]? = some x) (hx : Loc X.env.scope x) (hf : X.fn x = true ∨ X.env.scope.names.lookup x = some .local := by first | exact .inl rfl | exact .inr rfl | assumption) : TgV X g (.Name x pos) (gtN i) :=
  ⟨_, pg_name hN hi hx hf, fun B env env' s σ H d v Q sr r e k => by
    have e : env.set i (some (.d d)) = env' := Option.some.inj e
    exact k _ _ (e ▸ sr.set r)⟩
theorem vg_nil : TgsV X g [] gtNil := ⟨_, pgs_nil, fun B env env' s σ H ds vs Q sr r e k => by
  cases ds with
  | nil =>
    have e : env = env' := Option.some.inj e
    exact ⟨r, k _ _ (e ▸ sr)⟩
  | cons _ _ => cases e⟩
theorem vg_cons {e : Expr} {es : List Expr} {T : TgF} {U : List D → Env → Option Env} (h1 : TgV X g e T) (h2 : TgsV X g es U) (hs : (assignEach (e :: es) X.env).map (·.2) = assign e X.env :: (assignEach es X.env).map (·.2) := by rfl) : TgsV X g (e :: es) (gtCons T U) := by
  obtain ⟨t, p1, q1⟩ := h1
  obtain ⟨u, p2, q2⟩ := h2
  refine ⟨_, pgs_cons p1 p2 hs, fun B env env' s σ H ds vs Q sr r e k => ?_⟩
  cases ds with
  | nil => cases e
  | cons d ds =>
    obtain ⟨v, vr, ev, r1, r2⟩ := r
    have e : (T d env).bind (fun env1 => U ds env1) = some env' := e
    cases e1 : T d env with
    | none => rw [e1] at e; cases e
    | some env1 =>
      rw [e1] at e
      exact ⟨v, vr, ev, q1 B env env1 s σ H d v _ sr r1 e1 fun σ1 H1 sr1 => q2 B env1 env' s σ1 H1 ds vr Q sr1 r2 e k⟩
theorem vg_tup (hK : g.K = X.K) (hc : X.calm = true) {es : List Expr} {k n : Nat} {U : List D → Env → Option Env} (h : TgsV X g es U) (hn : (assignEach es X.env).length = n := by rfl) (hst : (assignEach es X.env).findIdx? (·.1) = none := by rfl) : TgV X g (.Tuple es k pos) (gtT n U) := by
  obtain ⟨t, p1, q1⟩ := h
  refine ⟨_, pg_tup hc p1 hn hst, fun B env env' s σ H d v Q sr r e k => ?_⟩
  cases d with
  | tup ds =>
    obtain ⟨a, vs, rfl, h2, h3⟩ := r
    have e : (if ds.length = n then U ds env else none) = some env' := e
    by_cases hl : ds.length = n
    · rw [if_pos hl] at e
      exact ⟨a, vs, rfl, hK ▸ sr.good.sqT h2, h3.length.trans hl, q1 B env env' s σ H ds vs Q sr h3 e k⟩
    · rw [if_neg hl] at e
      cases e
  | _ => cases e
end
@[simp] def mUnp (T : TgF) (e : ME) : MS := fun env h => (e env h).thenS env fun x h1 => match x with
  | .d d => (match T d env with
    | some env' => .nx env' h1
    | none => .stuck)
  | _ => .stuck
section
variable {X : Cx} {g : Gi} {B : Bg} {W : WXv} {pos : Pos} {e tg : Expr} {m : ME} {T : TgF}
theorem vs_unp (he : PE X e (tE g B W m)) (ht : TgV X g tg T) (hs : swapsWithSole [tg] e pos.line X.env = pure false := by rfl) (hw : swappedStores [tg] e X.env = pure none := by rfl)
    (h1 : (assignEach [tg] X.env).map (·.2) = [assign tg X.env] := by rfl) : PS X (.Assign [tg] e pos) (tS g B W (mUnp T m)) := by
  obtain ⟨t, p1, q1⟩ := ht
  refine ps_imp (ps_asg he p1 hs hw h1) fun N σ H ⟨env, s, sr, p⟩ => ?_
  refine (bindS sr p).mono fun v H1 ⟨s1, x, sr1, l1, r1, p1⟩ => ?_
  cases x with
  | d d =>
    cases e1 : T d env with
    | none => simp only [e1] at p1; exact p1.elim
    | some env' =>
      simp only [e1] at p1
      exact q1 B env env' s1 σ H1 d v _ sr1 r1 e1 fun σ' H' sr' => p1 σ' H' s1 rfl (Le.refl s1) sr'
  | _ => exact p1.elim
end

/-! ### while -/
def mWhile : Nat → MB → MS → MS
  | 0, _, _ => fun _ _ => .stuck
  | n + 1, c, b => fun env h => (c env h).thenS env fun x h1 => if x then (match b env h1 with
    | .nx e h2 => mWhile n c b e h2
    | .cnt e h2 => mWhile n c b e h2
    | .brk e h2 => .nx e h2
    | .ret d h2 => .ret d h2
    | .exc e x h2 => .exc e x h2
    | .stuck => .stuck) else .nx env h1
section
variable {X : Cx} {g : Gi} {B : Bg} {W : WXv} {pos : Pos} {c : Expr} {body : List Stmt} {mc : MB} {mb : MS}
theorem vs_while (n : Nat) (hp : PassesOwn (model X.prog X.w) X.A X.env X.xe) (hc : PT X c (tT g B W mc)) (hb : PSs X body (tS g B W mb)) : PS X (.While c body [] pos) (tS g B W (mWhile n mc mb)) := by
  refine ps_imp (ps_while hp hc hb) fun N σ H ⟨env, s, sr, p⟩ => ?_
  refine ⟨fun m σ H => ∃ env s, SR g B env s σ H ∧ PostS g B W s (mWhile m mc mb env s.h) N, ⟨n, env, s, sr, p⟩, ?_⟩
  rintro m σ H ⟨env, s, sr, p⟩
  cases m with
  | zero => exact p.elim
  | succ m =>
    refine (bindSB (k := fun x h1 => if x then (match mb env h1 with
      | .nx e h2 => mWhile m mc mb e h2
      | .cnt e h2 => mWhile m mc mb e h2
      | .brk e h2 => .nx e h2
      | .ret d h2 => .ret d h2
      | .exc e x h2 => .exc e x h2
      | .stuck => .stuck) else .nx env h1) sr p).mono fun b H1 ⟨s1, sr1, l1, p1⟩ => ?_
    cases b with
    | false => exact iteF (p1 σ H1 s1 rfl (Le.refl s1) sr1)
    | true =>
      refine iteT ⟨fun σ' H' => ∃ env s, SR g B env s σ' H' ∧ PostS g B W s (mWhile m mc mb env s.h) N, fun σ' H' q => ⟨m, Nat.lt_succ_self m, q⟩, env, s1, sr1, ?_⟩
      rw [if_pos rfl] at p1
      cases q : mb env s1.h with
      | nx e h2 =>
        rw [q] at p1
        intro σ' H' s' e1 l sr'
        exact ⟨e, s', sr', by rw [e1]; exact PostS.later l p1⟩
      | cnt e h2 =>
        rw [q] at p1
        intro σ' H' s' e1 l sr'
        exact ⟨e, s', sr', by rw [e1]; exact PostS.later l p1⟩
      | brk e h2 => rw [q] at p1; exact p1
      | ret d h2 => rw [q] at p1; exact p1
      | exc e x h2 => rw [q] at p1; exact p1
      | stuck => rw [q] at p1; exact p1
end

/-! ### for -/
def forL (T : TgF) (b : MS) : List D → MS
  | [] => fun env h => .nx env h
  | d :: r => fun env h => match T d env with
    | none => .stuck
    | some env1 => (match b env1 h with
      | .nx e h2 => forL T b r e h2
      | .cnt e h2 => forL T b r e h2
      | .brk e h2 => .nx e h2
      | .ret d h2 => .ret d h2
      | .exc e x h2 => .exc e x h2
      | .stuck => .stuck)
/-- a list or tuple that never changes -/
def seqD? : Vl → Option (Bool × List D)
  | .d (.lst xs) => some (true, xs)
  | .d (.kl xs) => some (true, xs)
  | .d (.tup xs) => some (false, xs)
  | _ => none
def mFor (T : TgF) (e : ME) (b : MS) : MS := fun env h => (e env h).thenS env fun x h1 => match seqD? x with
  | some (_, xs) => forL T b xs env h1
  | none => .stuck
theorem pi_imp {X : Cx} {tg e : Expr} {t t' : TI} (h : PI X tg e t) (i : ∀ σ H Q, t' σ H Q → t σ H Q) : PI X tg e t' := ⟨fun pins s σ H R I q => h.run pins s σ H R I (i σ H R q)⟩
theorem pi_or {X : Cx} {tg e : Expr} {t t' : TI} (h : PI X tg e t) (h' : PI X tg e t') : PI X tg e (fun σ H R => t σ H R ∨ t' σ H R) := ⟨fun pins s σ H R I q => by
  rcases q with q | q
  · exact h.run pins s σ H R I q
  · exact h'.run pins s σ H R I q⟩
section
variable {X : Cx} {g : Gi} {B : Bg} {W : WXv} {pos : Pos} {e tg : Expr} {body : List Stmt} {m : ME} {mb : MS} {T : TgF}
/-- one turn: the body behind the store -/
theorem forTurn {t : TG} {d : D} {r : List D} {v : V} {env : Env} {s : Sta} {σ : L2.St} {H : Hp} {N : Ends} (q1 : ∀ (B : Bg) (env env' : Env) (s : Sta) (σ : L2.St) (H : Hp) (d : D) (v : V) (Q : L2.St → Hp → Prop), SR g B env s σ H → Rep g s.F s.al d v → T d env = some env' → (∀ σ' H', SR g B env' s σ' H' → Q σ' H') → t v σ H Q)
    (sr : SR g B env s σ H) (rep : Rep g s.F s.al d v) (p : PostS g B W s (forL T mb (d :: r) env s.h) N) {Nx : L2.St → Hp → Prop} (hN : ∀ (env : Env) (s' : Sta) (σ : L2.St) (H : Hp), Le s s' → SR g B env s' σ H → PostS g B W s' (forL T mb r env s'.h) N → Nx σ H) :
    t v σ H fun σ2 H2 => tS g B W mb { N with nx := Nx, ct := Nx, bk := N.nx } σ2 H2 := by
  have p : PostS g B W s (match T d env with
    | none => .stuck
    | some env1 => (match mb env1 s.h with
      | .nx e h2 => forL T mb r e h2
      | .cnt e h2 => forL T mb r e h2
      | .brk e h2 => .nx e h2
      | .ret d h2 => .ret d h2
      | .exc e x h2 => .exc e x h2
      | .stuck => .stuck)) N := p
  cases e1 : T d env with
  | none => rw [e1] at p; exact p.elim
  | some env1 =>
    rw [e1] at p
    refine q1 B env env1 s σ H d v _ sr rep e1 fun σ' H' sr' => ⟨env1, s, sr', ?_⟩
    have p : PostS g B W s (match mb env1 s.h with
      | .nx e h2 => forL T mb r e h2
      | .cnt e h2 => forL T mb r e h2
      | .brk e h2 => .nx e h2
      | .ret d h2 => .ret d h2
      | .exc e x h2 => .exc e x h2
      | .stuck => .stuck) N := p
    cases q : mb env1 s.h with
    | nx e h2 =>
      rw [q] at p
      intro σ2 H2 s2 e2 l sr2
      exact hN e s2 σ2 H2 l sr2 (by rw [e2]; exact PostS.later l p)
    | cnt e h2 =>
      rw [q] at p
      intro σ2 H2 s2 e2 l sr2
      exact hN e s2 σ2 H2 l sr2 (by rw [e2]; exact PostS.later l p)
    | brk e h2 => rw [q] at p; exact p
    | ret d h2 => rw [q] at p; exact p
    | exc e x h2 => rw [q] at p; exact p
    | stuck => rw [q] at p; exact p
theorem Reps.mono2 {F F' : Hp} {al al' : Nat → Option Addr} {ds : List D} {vs : List V} (h : Reps g F al ds vs) (e : ∀ a o, F a = some o → F' a = some o) (ea : ∀ n a, al n = some a → al' n = some a) : Reps g F' al' ds vs := h.mono e ea
theorem vs_for (hK : g.K = X.K) (hp : PassesOwn (model X.prog X.w) X.A X.env X.xe) (hc : X.calm = true) (he : PE X e (tE g B W m)) (ht : TgV X g tg T) (hb : PSs X body (tS g B W mb))
    (hs : ∀ x, foldedSetIterable e X.env x = pure x := by intro _; rfl) : PS X (.For tg e body [] pos) (tS g B W (mFor T m mb)) := by
  obtain ⟨t, p1, q1⟩ := ht
  refine ps_imp (ps_for hp hc (pi_or (pi_list (tg := tg) he) (pi_tup he)) p1 hb hs) fun N σ H ⟨env, s, sr, p⟩ => ?_
  -- which of both it is is known ahead
  have go : ∀ (bb : Bool) (xs : List D) (h1 : Hc) (x : Vl), m env s.h = .ok x h1 → seqD? x = some (bb, xs) → PostS g B W s (forL T mb xs env h1) N → tFor (fun σ H R => iList X.K (tE g B W m) σ H R ∨ iTup X.K (tE g B W m) σ H R) t (tS g B W mb) N σ H := by
    intro bb xs h1 x em es pp
    cases bb with
    | true =>
      refine .inl ⟨env, s, sr, ?_⟩
      rw [em]
      intro v H1 s1 e1 ev sr1 vr
      have q : ∃ a vs, v = .ref a ∧ SqL g.K s1.F a vs ∧ Reps g s1.F s1.al xs vs := by
        cases x with
        | d x =>
          cases x with
          | lst ys => cases es; obtain ⟨a, vs, h1, h2, h3⟩ := vr; exact ⟨a, vs, h1, .of h2, h3⟩
          | kl ys => cases es; exact vr
          | _ => cases es
        | _ => cases es
      obtain ⟨a, vs, rfl, hq, hr⟩ := q
      refine ⟨a, rfl, ⟨vs, hK ▸ sr1.good.sqL hq⟩, for_list (K := X.K) (a := a) (xs := vs) (fun i σ H => ∃ env s', SR g B env s' σ H ∧ Le s1 s' ∧ PostS g B W s' (forL T mb (xs.drop i) env s'.h) N)
        ⟨env, s1, sr1, Le.refl s1, by rw [List.drop_zero, e1]; exact PostS.later ev.le pp⟩ (fun i σ H _ ⟨env, s', sr', l, _⟩ => hK ▸ sr'.good.sqL (sqL_mono l.f hq)) ?_ ?_⟩
      · rintro i y σ H hi ⟨env, s', sr', l, pp⟩
        have hr' := hr.mono2 l.f l.al
        have hl : i < xs.length := by
          rw [← hr.length]
          exact (List.getElem?_eq_some_iff.mp hi).1
        obtain ⟨y', ey, ry⟩ := hr'.get (List.getElem?_eq_getElem hl)
        rw [hi] at ey
        cases ey
        rw [List.drop_eq_getElem_cons hl] at pp
        exact forTurn q1 sr' ry pp fun env2 s2 σ2 H2 l2 sr2 p2 => ⟨env2, s2, sr2, l.trans l2, p2⟩
      · rintro σ H ⟨env, s', sr', l, pp⟩
        rw [hr.length, List.drop_length] at pp
        exact pp σ H s' rfl (Le.refl s') sr'
    | false =>
      refine .inr ⟨env, s, sr, ?_⟩
      rw [em]
      intro v H1 s1 e1 ev sr1 vr
      have q : ∃ a vs, v = .ref a ∧ SqT g.K s1.F a vs ∧ Reps g s1.F s1.al xs vs := by
        cases x with
        | d x =>
          cases x with
          | tup ys => cases es; exact vr
          | _ => cases es
        | _ => cases es
      obtain ⟨a, vs, rfl, hq, hr⟩ := q
      refine ⟨a, rfl, ⟨vs, hK ▸ sr1.good.sqT hq⟩, for_tup (K := X.K) (a := a) (xs := vs) (fun i σ H => ∃ env s', SR g B env s' σ H ∧ Le s1 s' ∧ PostS g B W s' (forL T mb (xs.drop i) env s'.h) N)
        ⟨env, s1, sr1, Le.refl s1, by rw [List.drop_zero, e1]; exact PostS.later ev.le pp⟩ (fun i σ H _ ⟨env, s', sr', l, _⟩ => hK ▸ sr'.good.sqT (sqT_mono l.f hq)) ?_ ?_⟩
      · rintro i y σ H hi ⟨env, s', sr', l, pp⟩
        have hr' := hr.mono2 l.f l.al
        have hl : i < xs.length := by
          rw [← hr.length]
          exact (List.getElem?_eq_some_iff.mp hi).1
        obtain ⟨y', ey, ry⟩ := hr'.get (List.getElem?_eq_getElem hl)
        rw [hi] at ey
        cases ey
        rw [List.drop_eq_getElem_cons hl] at pp
        exact forTurn q1 sr' ry pp fun env2 s2 σ2 H2 l2 sr2 p2 => ⟨env2, s2, sr2, l.trans l2, p2⟩
      · rintro σ H ⟨env, s', sr', l, pp⟩
        rw [hr.length, List.drop_length] at pp
        exact pp σ H s' rfl (Le.refl s') sr'
  unfold mFor at p
  cases em : m env s.h with
  | ok x h1 =>
    rw [em] at p
    have p : PostS g B W s (match seqD? x with
      | some (_, xs) => forL T mb xs env h1
      | none => .stuck) N := p
    cases es : seqD? x with
    | none => rw [es] at p; exact p.elim
    | some q =>
      rw [es] at p
      exact go q.1 q.2 h1 x em es p
  | exc x h1 =>
    rw [em] at p
    refine .inl ⟨env, s, sr, ?_⟩
    rw [em]
    intro cls dd H1 s1 e1 ev sr1 xr
    exact p cls dd σ H1 s1 e1 ev.le sr1 xr
  | stuck =>
    rw [em] at p
    exact p.elim
/-- for i in range(n) -/
def rangeD (lo : Int) (n : Nat) : List D := (List.range n).map fun i : Nat => D.int (lo + (i : Nat))
def mForR (T : TgF) (a : MA) (b : MS) : MS := fun env h => (a env h).thenS env fun xs h1 => match xs with
  | [.d (.int j)] => if -(2 ^ 62) ≤ j ∧ j < 2 ^ 62 then forL T b (rangeD 0 j.toNat) env h1 else .stuck
  | _ => .stuck
def mForR2 (T : TgF) (a : MA) (b : MS) : MS := fun env h => (a env h).thenS env fun xs h1 => match xs with
  | [.d (.int i), .d (.int j)] => if -(2 ^ 62) ≤ i ∧ i < 2 ^ 62 ∧ -(2 ^ 62) ≤ j ∧ j < 2 ^ 62 then forL T b (rangeD i (j - i).toNat) env h1 else .stuck
  | _ => .stuck
theorem rangeD_len (lo : Int) (n : Nat) : (rangeD lo n).length = n := by unfold rangeD; rw [List.length_map, List.length_range]
theorem rangeD_get (lo : Int) (n i : Nat) (h : i < (rangeD lo n).length) : (rangeD lo n)[i] = .int (lo + (i : Nat)) := by
  have e : (rangeD lo n)[i]? = some (.int (lo + (i : Nat))) := by
    have hn : i < n := by rw [rangeD_len] at h; exact h
    show ((List.range n).map fun i : Nat => D.int (lo + (i : Nat)))[i]? = _
    rw [List.getElem?_map, List.getElem?_range hn]
    rfl
  exact (List.getElem?_eq_some_iff.mp e).2
theorem forRange {t : TG} {lo : Int} {n : Nat} {env : Env} {s1 : Sta} {σ : L2.St} {H : Hp} {N : Ends} (q1 : ∀ (B : Bg) (env env' : Env) (s : Sta) (σ : L2.St) (H : Hp) (d : D) (v : V) (Q : L2.St → Hp → Prop), SR g B env s σ H → Rep g s.F s.al d v → T d env = some env' → (∀ σ' H', SR g B env' s σ' H' → Q σ' H') → t v σ H Q)
    (sr1 : SR g B env s1 σ H) (pp : PostS g B W s1 (forL T mb (rangeD lo n) env s1.h) N) : ∃ W' : Nat → Nat → L2.St → Hp → Prop, (∃ m, W' 0 m σ H) ∧ ∀ i m σ H, W' i m σ H →
      ((Itr lo n).stop i H ∧ N.nx σ H) ∨ ((Itr lo n).go i H ∧ ∃ Nx : L2.St → Hp → Prop, (∀ σ' H', Nx σ' H' → ∃ m', m' < m ∧ W' (i + 1) m' σ' H') ∧ ∀ x H', (Itr lo n).yld i H x H' → t x σ H' fun σ2 H2 => tS g B W mb { N with nx := Nx, ct := Nx, bk := N.nx } σ2 H2) := by
  refine for_range (lo := lo) (n := n) (fun i σ H => ∃ env s', SR g B env s' σ H ∧ PostS g B W s' (forL T mb ((rangeD lo n).drop i) env s'.h) N) ⟨env, s1, sr1, by rw [List.drop_zero]; exact pp⟩ ?_ ?_
  · rintro i σ H hi ⟨env, s', sr', pp⟩
    have hl : i < (rangeD lo n).length := by rw [rangeD_len]; exact hi
    rw [List.drop_eq_getElem_cons hl, rangeD_get] at pp
    exact forTurn q1 sr' (show Rep g s'.F s'.al (.int (lo + (i : Nat))) (.int (lo + (i : Nat))) from rfl) pp fun env2 s2 σ2 H2 l2 sr2 p2 => ⟨env2, s2, sr2, p2⟩
  · rintro σ H ⟨env, s', sr', pp⟩
    rw [show (rangeD lo n).drop n = [] from List.drop_eq_nil_of_le (by rw [rangeD_len]; exact Nat.le_refl _)] at pp
    exact pp σ H s' rfl (Le.refl s') sr'
theorem vs_forR1 {a : Expr} {ma : MA} {p' rp : Pos} (hp : PassesOwn (model X.prog X.w) X.A X.env X.xe) (hc : X.calm = true) (hg : Gl X "range") (hm : X.mg "range" = none) (ha : PA X [a] (tA g B W ma)) (ht : TgV X g tg T) (hb : PSs X body (tS g B W mb))
    (hst : starEach [a] X.env = [(false, eval a X.env)] := by rfl) (hs : ∀ x, foldedSetIterable (.Call (.Name "range" p') [a] [] rp) X.env x = pure x := by intro _; rfl) :
    PS X (.For tg (.Call (.Name "range" p') [a] [] rp) body [] pos) (tS g B W (mForR T ma mb)) := by
  obtain ⟨t, p1, q1⟩ := ht
  refine ps_imp (ps_for hp hc (pi_range1 (tg := tg) hg hm ha hst) p1 hb hs) fun N σ H ⟨env, s, sr, p⟩ => ?_
  refine (bindSA sr p).mono fun vs H1 ⟨s1, xs, sr1, l1, r1, p1⟩ => ?_
  split at p1
  · next j =>
    obtain ⟨v, rfl, r⟩ := r1.one
    split at p1
    · next hj =>
      have r : v = .int j := r
      exact ⟨j, by rw [r], hj.1, hj.2, forRange q1 sr1 p1⟩
    · exact p1.elim
  · exact p1.elim
theorem vs_forR2 {a b : Expr} {ma : MA} {p' rp : Pos} (hp : PassesOwn (model X.prog X.w) X.A X.env X.xe) (hc : X.calm = true) (hg : Gl X "range") (hm : X.mg "range" = none) (ha : PA X [a, b] (tA g B W ma)) (ht : TgV X g tg T) (hb : PSs X body (tS g B W mb))
    (hst : starEach [a, b] X.env = [(false, eval a X.env), (false, eval b X.env)] := by rfl) (hst2 : starEach [b] X.env = [(false, eval b X.env)] := by rfl) (hs : ∀ x, foldedSetIterable (.Call (.Name "range" p') [a, b] [] rp) X.env x = pure x := by intro _; rfl) :
    PS X (.For tg (.Call (.Name "range" p') [a, b] [] rp) body [] pos) (tS g B W (mForR2 T ma mb)) := by
  obtain ⟨t, p1, q1⟩ := ht
  refine ps_imp (ps_for hp hc (pi_range2 (tg := tg) hg hm ha hst hst2) p1 hb hs) fun N σ H ⟨env, s, sr, p⟩ => ?_
  refine (bindSA sr p).mono fun vs H1 ⟨s1, xs, sr1, l1, r1, p1⟩ => ?_
  split at p1
  · next i j =>
    obtain ⟨v, w, rfl, r, r2⟩ := r1.two
    split at p1
    · next hj =>
      have r : v = .int i := r
      have r2 : w = .int j := r2
      exact ⟨i, j, by rw [r, r2], hj, forRange q1 sr1 p1⟩
    · exact p1.elim
  · exact p1.elim
end
end Vi

set_option Elab.async false
set_option linter.all false
set_option maxRecDepth 100000
set_option maxHeartbeats 2000000
namespace Vi
open PySem L2

section
variable {g : Gi} {B : Bg} {W : WXv} {env : Env} {s : Sta} {σ : L2.St} {H : Hp}
/-- a slot's own object changes -/
theorem SR.mut {i : Nat} {sl sl' : Sl} {a : Addr} {o : HO} (sr : SR g B env s σ H) (hi : env[i]? = some (some sl)) (ho : sl.own = true) (hσ : σ[i]? = some (some (.ref a))) (hf : s.F a = none) (hal : ∀ n, s.al n ≠ some a) (hb : B.H a = none)
    (r : SlRep g B s (upd H a o) sl' (.ref a)) : SR g B (env.set i (some sl')) s σ (upd H a o) := by
  have hlt : i < env.length := (List.getElem?_eq_some_iff.mp hi).1
  have hnx : ∀ zs, H a ≠ some (.xd zs) := fun zs hz => by
    obtain ⟨v, h1, h2⟩ := sr.slot i sl hi
    rw [hσ] at h1
    cases h1
    cases sl with
    | d x => cases ho
    | xc c fs => cases ho
    | ol xs =>
      obtain ⟨b, vs, e, h2, _⟩ := h2
      cases e
      rw [hz] at h2
      cases h2
    | oi c fs =>
      obtain ⟨b, dx, vs, e, h2, _⟩ := h2
      cases e
      rw [hz] at h2
      cases h2
  have stay : ∀ {sl1 : Sl} {v : V}, SlRep g B s H sl1 v → (sl1.own = true → v ≠ .ref a) → SlRep g B s (upd H a o) sl1 v := fun {sl1 v} h hne => by
    cases sl1 with
    | d x => exact h
    | ol xs =>
      obtain ⟨b, vs, rfl, h2, h3, h4⟩ := h
      have ne : b ≠ a := fun e => hne rfl (by rw [e])
      exact ⟨b, vs, rfl, by rw [upd_ne ne]; exact h2, h3, h4⟩
    | oi c fs =>
      obtain ⟨b, dx, vs, rfl, h2, h3, h4, h5⟩ := h
      have ne : b ≠ a := fun e => hne rfl (by rw [e])
      exact ⟨b, dx, vs, rfl, by rw [upd_ne ne]; exact h2, h3, h4, h5⟩
    | xc c fs =>
      obtain ⟨h1, h2, vs, h3, h4, h5⟩ := h
      have ne : B.xd ≠ a := fun e => hnx vs (by rw [← e]; exact h3)
      exact ⟨h1, h2, vs, by rw [upd_ne ne]; exact h3, h4, h5⟩
  refine ⟨⟨fun b u h => ?_, sr.good.inj, fun n b h => ?_, fun n c h => ?_⟩, ⟨sr.evo.f, sr.evo.al, fun b u h n => ?_, sr.evo.len⟩, by rw [List.length_set]; exact sr.len, fun j sl1 h => ?_, fun j k sl1 sl2 u hjk h1 h2 o1 o2 h3 h4 => ?_⟩
  · have ne : b ≠ a := fun e => by rw [e, hf] at h; cases h
    rw [upd_ne ne]
    exact sr.good.fle b u h
  · obtain ⟨h1, h2, u, h3⟩ := sr.good.dom n b h
    have ne : b ≠ a := fun e => hal n (by rw [← e]; exact h)
    exact ⟨h1, h2, u, by rw [upd_ne ne]; exact h3⟩
  · obtain ⟨b, h1, h2⟩ := sr.good.cell n c h
    have ne : b ≠ a := fun e => hal n (by rw [← e]; exact h1)
    refine ⟨b, h1, ?_⟩
    cases c with
    | lst ds => obtain ⟨vs, h3, h4⟩ := h2; exact ⟨vs, by rw [upd_ne ne]; exact h3, h4⟩
    | ins c fs => obtain ⟨dx, vs, h3, h4⟩ := h2; exact ⟨dx, vs, by rw [upd_ne ne]; exact h3, h4⟩
    | dK kvs => obtain ⟨vs, h3, h4⟩ := h2; exact ⟨vs, by rw [upd_ne ne]; exact h3, h4⟩
    | dT kvs => obtain ⟨vs, h3, h4⟩ := h2; exact ⟨vs, by rw [upd_ne ne]; exact h3, h4⟩
  · obtain ⟨h1, h2, h3⟩ := sr.evo.oth b u h n
    have ne : b ≠ a := fun e => by rw [e, hb] at h; cases h
    exact ⟨by rw [upd_ne ne]; exact h1, h2, h3⟩
  · by_cases e : i = j
    · subst e
      rw [List.getElem?_set_self hlt] at h
      cases h
      exact ⟨_, hσ, r⟩
    · rw [List.getElem?_set_ne e] at h
      obtain ⟨v, h1, h2⟩ := sr.slot j sl1 h
      exact ⟨v, h1, stay h2 fun o1 q => by subst q; exact sr.sep i j sl sl1 (.ref a) e hi h ho o1 hσ h1⟩
  · have f : ∀ {j : Nat} {sl1 : Sl}, (env.set i (some sl'))[j]? = some (some sl1) → sl1.own = true → ∃ sl3, env[j]? = some (some sl3) ∧ sl3.own = true := fun {j sl1} h q => by
      by_cases e : i = j
      · subst e
        exact ⟨sl, hi, ho⟩
      · rw [List.getElem?_set_ne e] at h
        exact ⟨sl1, h, q⟩
    obtain ⟨x1, e1, e2⟩ := f h1 o1
    obtain ⟨x2, e3, e4⟩ := f h2 o2
    exact sr.sep j k x1 x2 u hjk e1 e3 e2 e4 h3 h4
/-- a cell changes -/
theorem SR.cell {n : Nat} {c c' : Cell} {a : Addr} {o : HO} (sr : SR g B env s σ H) (hc : s.h[n]? = some c) (ha : s.al n = some a) (r : CellRep g { s with h := s.h.set n c' } (upd H a o) a c') :
    SR g B env { s with h := s.h.set n c' } σ (upd H a o) := by
  obtain ⟨hn, hf, u0, hu0⟩ := sr.good.dom n a ha
  have stay : ∀ {sl1 : Sl} {v : V}, SlRep g B s H sl1 v → SlRep g B { s with h := s.h.set n c' } (upd H a o) sl1 v := fun {sl1 v} h => by
    cases sl1 with
    | d x => exact h
    | ol xs =>
      obtain ⟨b, vs, rfl, h2, h3, h4⟩ := h
      have ne : b ≠ a := fun e => h3.al n (by rw [e]; exact ha)
      exact ⟨b, vs, rfl, by rw [upd_ne ne]; exact h2, ⟨h3.f, h3.al, h3.new⟩, h4⟩
    | oi c fs =>
      obtain ⟨b, dx, vs, rfl, h2, h3, h4, h5⟩ := h
      have ne : b ≠ a := fun e => h3.al n (by rw [e]; exact ha)
      exact ⟨b, dx, vs, rfl, by rw [upd_ne ne]; exact h2, ⟨h3.f, h3.al, h3.new⟩, h4, h5⟩
    | xc c fs =>
      obtain ⟨h1, h2, vs, h3, h4, h5⟩ := h
      have ne : B.xd ≠ a := fun e => h4 n (by rw [e]; exact ha)
      exact ⟨h1, h2, vs, by rw [upd_ne ne]; exact h3, h4, h5⟩
  refine ⟨⟨fun b u h => ?_, sr.good.inj, fun m b h => ?_, fun m d h => ?_⟩, ⟨sr.evo.f, sr.evo.al, fun b u h nn => ?_, by show _ ≤ (s.h.set n c').length; rw [List.length_set]; exact sr.evo.len⟩, sr.len, fun j sl1 h => ?_, sr.sep⟩
  · have ne : b ≠ a := fun e => by rw [e] at h; rw [hf] at h; cases h
    rw [upd_ne ne]
    exact sr.good.fle b u h
  · obtain ⟨h1, h2, u, h3⟩ := sr.good.dom m b h
    refine ⟨by show m < (s.h.set n c').length; rw [List.length_set]; exact h1, h2, ?_⟩
    by_cases e : b = a
    · subst e
      exact ⟨o, upd_same⟩
    · exact ⟨u, by rw [upd_ne e]; exact h3⟩
  · have h : (s.h.set n c')[m]? = some d := h
    by_cases e : n = m
    · subst e
      rw [List.getElem?_set_self hn] at h
      cases h
      exact ⟨a, ha, r⟩
    · rw [List.getElem?_set_ne e] at h
      obtain ⟨b, h1, h2⟩ := sr.good.cell m d h
      have ne : b ≠ a := fun q => e (sr.good.inj n m a ha (by rw [← q]; exact h1))
      refine ⟨b, h1, ?_⟩
      cases d with
      | lst ds => obtain ⟨vs, h3, h4⟩ := h2; exact ⟨vs, by rw [upd_ne ne]; exact h3, h4⟩
      | ins c fs => obtain ⟨dx, vs, h3, h4⟩ := h2; exact ⟨dx, vs, by rw [upd_ne ne]; exact h3, h4⟩
      | dK kvs => obtain ⟨vs, h3, h4⟩ := h2; exact ⟨vs, by rw [upd_ne ne]; exact h3, h4⟩
      | dT kvs => obtain ⟨vs, h3, h4⟩ := h2; exact ⟨vs, by rw [upd_ne ne]; exact h3, h4⟩
  · obtain ⟨h1, h2, h3⟩ := sr.evo.oth b u h nn
    have ne : b ≠ a := fun e => h3 n (by rw [e]; exact ha)
    exact ⟨by rw [upd_ne ne]; exact h1, h2, h3⟩
  · obtain ⟨v, h1, h2⟩ := sr.slot j sl1 h
    exact ⟨v, h1, stay h2⟩
end
section
variable {g : Gi} {B : Bg} {W : WXv} {env : Env} {s : Sta} {σ : L2.St} {H : Hp}
theorem bind2S {a b : ME} {f : Vl → Vl → Hc → RS} {N : Ends} (sr : SR g B env s σ H) (p : PostS g B W s ((a env s.h).thenS env fun y h2 => (b env h2).thenS env fun z h3 => f y z h3) N) :
    tE g B W a σ H fun v H1 => tE g B W b σ H1 fun w H2 => ∃ s2 x y, SR g B env s2 σ H2 ∧ Evo s H s2 H2 ∧ VlRep g B env σ s2 H2 x v ∧ VlRep g B env σ s2 H2 y w ∧ PostS g B W s2 (f x y s2.h) N := by
  refine ⟨env, s, sr, ?_⟩
  cases e1 : a env s.h with
  | ok x h1 =>
    rw [e1] at p
    intro v H1 s1 q1 ev1 sr1 vr1
    refine ⟨env, s1, sr1, ?_⟩
    have p : PostS g B W s ((b env h1).thenS env fun z h3 => f x z h3) N := p
    rw [q1]
    cases e2 : b env h1 with
    | ok y h2 =>
      rw [e2] at p
      intro w H2 s2 q2 ev2 sr2 vr2
      refine ⟨s2, x, y, sr2, ev1.trans ev2, vr1.evo ev2, vr2, ?_⟩
      rw [q2]
      exact PostS.later (ev1.trans ev2).le p
    | exc x h =>
      rw [e2] at p
      intro cls dd H2 s2 q2 ev2 sr2 xr
      exact p cls dd σ H2 s2 q2 (ev1.trans ev2).le sr2 xr
    | stuck => rw [e2] at p; exact p
  | exc x h =>
    rw [e1] at p
    intro cls dd H2 s2 q2 ev2 sr2 xr
    exact p cls dd σ H2 s2 q2 ev2.le sr2 xr
  | stuck => rw [e1] at p; exact p
end
/-! ### xs.append(e), xs of the body's own; o[i] = e of a cell -/
def mAppend (i : Nat) (e : ME) : MS := fun env h => match env[i]? with
  | some (some (.ol xs)) => (e env h).thenS env fun x h1 => match x with
    | .d d => if xs.length < 100000 then .nx (env.set i (some (.ol (xs ++ [d])))) h1 else .stuck
    | _ => .stuck
  | _ => .stuck
@[simp] def fSetIx (env : Env) (x y z : Vl) (h3 : Hc) : RS := match x, y, z with
  | .d d, .d (.ref n), .d (.int i) => (match h3[n]? with
    | some (.lst xs) => (match ixN xs.length i with
      | some j => .nx env (h3.set n (.lst (xs.set j d)))
      | none => .stuck)
    | _ => .stuck)
  | _, _, _ => .stuck
@[simp] def mSetIx (e o k : ME) : MS := fun env h => (e env h).thenS env fun x h1 => (o env h1).thenS env fun y h2 => (k env h2).thenS env fun z h3 => fSetIx env x y z h3
theorem size_lt {n : Nat} (h : n < 100000) : n < sizeLine := Nat.lt_of_lt_of_le h (by decide)
section
variable {X : Cx} {g : Gi} {B : Bg} {W : WXv} {pos apos cpos : Pos} {e o k : Expr} {m mo mk : ME} {tpos : Pos}
theorem vs_append {i : Nat} (hK : g.K = X.K) (ho : PE X o (tVar i)) (he : PE X e (tE g B W m)) (hbase : attributeBase o "append" X.env (eval o X.env) = eval o X.env := by rfl) (hline : (apos.endLine == cpos.line) = true := by rfl)
    (hfew : ((backTo cpos (starEach [e] X.env)).all (fun x => !x.1) && (backToKw cpos (keywordEach [] X.env)).all (fun x => x.1.isSome) && decide ([e].length + ([] : List Keyword).length + (if ([] : List Keyword).isEmpty then 0 else 1) < 30)) = true := by rfl)
    (hst : starEach [e] X.env = (false, eval e X.env) :: starEach [] X.env := by rfl) (hpl : (backTo cpos (starEach [] X.env)).any (·.1) = false := by rfl)
    (hs : swapsWith (.Call (.Attribute o "append" apos) [e] [] cpos) none pos.line X.env = pure false := by rfl) :
    PS X (.Expr (.Call (.Attribute o "append" apos) [e] [] cpos) pos) (tS g B W (mAppend i m)) := by
  refine ps_imp (ps_expr (pe_bm PySem.F.plainAttrs_list PySem.F.slot_list_append PySem.F.type_list_append mt_append ho (pa_cons he pa_nil hst) hbase hfew hline hst hpl) hs) fun N σ H ⟨env, s, sr, p⟩ => ?_
  unfold mAppend at p
  split at p
  · next xs hx =>
    obtain ⟨v, h1, h2⟩ := sr.slot i _ hx
    obtain ⟨a, vs, rfl, h3, h4, h5⟩ := h2
    refine ⟨.ref a, h1, .inl ⟨rfl, vs, .of h3⟩, ?_⟩
    refine (bindS sr p).mono fun w H1 ⟨s1, x, sr1, l1, r1, p1⟩ => ?_
    obtain ⟨v', h1', h2'⟩ := sr1.slot i _ hx
    rw [h1] at h1'
    cases h1'
    obtain ⟨a', ws, ea, h3', h4', h5'⟩ := h2'
    cases ea
    cases x with
    | d d =>
      have p1 : PostS g B W s1 (if xs.length < 100000 then .nx (env.set i (some (.ol (xs ++ [d])))) s1.h else .stuck) N := p1
      by_cases hl : xs.length < 100000
      · rw [if_pos hl] at p1
        refine ⟨a, ws, w, rfl, rfl, h3', by rw [h5'.length]; exact size_lt hl, ?_⟩
        exact p1 σ _ s1 rfl (Le.refl s1) (sr1.mut hx rfl h1 h4'.f h4'.al h4'.new ⟨a, ws ++ [w], rfl, upd_same, h4', h5'.append (Reps.cons r1 Reps.nil)⟩)
      · rw [if_neg hl] at p1
        exact p1.elim
    | _ => exact p1.elim
  · exact p.elim
theorem vs_setix (he : PE X e (tE g B W m)) (ho : PE X o (tE g B W mo)) (hk : PE X k (tE g B W mk)) (hs : swapsWithSole [.Subscript o k tpos] e pos.line X.env = pure false := by rfl) (hw : swappedStores [.Subscript o k tpos] e X.env = pure none := by rfl)
    (h1 : (assignEach [.Subscript o k tpos] X.env).map (·.2) = [assign (.Subscript o k tpos) X.env] := by rfl)
    (ha : ∀ v, assign (.Subscript o k tpos) X.env v = (do
      let ov ← holding [v] (eval o X.env)
      let iv ← holding [v, ov] (eval k X.env)
      standAt tpos
      holding [v, ov, iv] (setItem ov iv v)
      release [v, ov, iv] []) := by intro _; rfl) : PS X (.Assign [.Subscript o k tpos] e pos) (tS g B W (mSetIx m mo mk)) := by
  refine ps_imp (ps_asg he (pg_sub ho hk set_list ha) hs hw h1) fun N σ H ⟨env, s, sr, p⟩ => ?_
  refine (bindS sr p).mono fun v H1 ⟨s1, x, sr1, l1, r1, p1⟩ => ?_
  -- the value x stays known while o and k are asked
  have two := bind2S (W := W) (N := N) (f := fSetIx env x) sr1 p1
  refine two.mono fun ov H2 q => q.mono fun kv H3 ⟨s3, y, z, sr3, e3, r2, r3, p3⟩ => ?_
  have r1' := r1.evo e3
  unfold fSetIx at p3
  split at p3
  · split at p3
    · next xs hx =>
      split at p3
      · next j hj =>
        obtain ⟨a, rfl, hal⟩ := r2
        obtain ⟨a2, g1, ws, g3, q1⟩ := sr3.good.cell _ _ hx
        rw [hal] at g1
        cases g1
        refine ⟨a, ws, _, j, rfl, r3, g3, by rw [q1.length]; exact hj, ?_⟩
        exact p3 σ _ { s3 with h := s3.h.set _ (.lst (xs.set j _)) } rfl ⟨fun _ _ z => z, fun _ _ z => z⟩ (sr3.cell hx hal ⟨ws.set j v, upd_same, q1.set r1' j⟩)
      · exact p3.elim
    · exact p3.elim
  · exact p3.elim

/-! ### attributes -/
def putD (f : Str) (d : D) : List (Str × D) → List (Str × D)
  | [] => [(f, d)]
  | (g, x) :: r => if g = f then (g, d) :: r else (g, x) :: putD f d r
def fFld (g : Gi) (f : Str) (x : Vl) (h : Hc) : R Vl := match x with
  | .d (.obj c fs) => if g.fld c f then (match fs.lookup f with
    | some d => .ok (.d d) h
    | none => .stuck) else .stuck
  | .bi c fs => if g.fld c f then (match fs.lookup f with
    | some d => .ok (.d d) h
    | none => .stuck) else .stuck
  | .d (.ref n) => (match h[n]? with
    | some (.ins c fs) => if g.fld c f then (match fs.lookup f with
      | some d => .ok (.d d) h
      | none => .stuck) else .stuck
    | _ => .stuck)
  | _ => .stuck
theorem RepF.lookup {F : Hp} {al : Nat → Option Addr} {f : Str} : ∀ {fs : List (Str × D)} {vs : List (Str × V)} {d : D}, RepF g F al fs vs → fs.lookup f = some d → ∃ v, vs.lookup f = some v ∧ Rep g F al d v
  | [], _, _, _, e => by cases e
  | (k, x) :: r, _, d, ⟨v, rr, h1, h2, h3⟩, e => by
    rw [h1]
    by_cases q : f = k
    · subst q
      rw [List.lookup_cons_self] at e
      cases e
      exact ⟨v, List.lookup_cons_self, h2⟩
    · have nb : (f == k) = false := beq_eq_false_iff_ne.mpr q
      rw [List.lookup_cons, nb] at e
      obtain ⟨w, e1, e2⟩ := h3.lookup e
      exact ⟨w, by rw [List.lookup_cons, nb]; exact e1, e2⟩
theorem RepF.put {F : Hp} {al : Nat → Option Addr} {f : Str} {d : D} {v : V} (hd : Rep g F al d v) : ∀ {fs : List (Str × D)} {vs : List (Str × V)}, RepF g F al fs vs → RepF g F al (putD f d fs) (putF f v vs)
  | [], _, h => by rw [show _ = [] from h]; exact ⟨v, [], rfl, hd, rfl⟩
  | (k, x) :: r, _, ⟨w, rr, h1, h2, h3⟩ => by
    rw [h1]
    unfold putD putF
    by_cases q : k = f
    · rw [if_pos q, if_pos q]
      exact ⟨v, rr, rfl, hd, h3⟩
    · rw [if_neg q, if_neg q]
      exact ⟨w, _, rfl, h2, h3.put hd⟩
theorem RepF.length {F : Hp} {al : Nat → Option Addr} : ∀ {fs : List (Str × D)} {vs : List (Str × V)}, RepF g F al fs vs → vs.length = fs.length
  | [], _, h => by rw [show _ = [] from h]; rfl
  | (k, x) :: r, _, ⟨w, rr, h1, h2, h3⟩ => by rw [h1, List.length_cons, List.length_cons, h3.length]
theorem ve_fld (G : GiOk g) (hK : g.K = X.K) {f : Str} (ho : PE X o (tE g B W mo)) (hb : attributeBase o f X.env (eval o X.env) = eval o X.env := by rfl) : PE X (.Attribute o f pos) (tE g B W (m1 (fFld g f) mo)) := by
  refine pe_imp (pe_fld ho hb) fun σ H Q ⟨env, s, sr, p⟩ => ?_
  refine (bindE (Q := Q) sr p).mono fun v H1 ⟨s1, x, sr1, _, r1, p1⟩ => ?_
  have fin : ∀ {c : Nat} {fs : List (Str × D)} {a dx : Addr} {vs : List (Str × V)}, H1 a = some (.ins (g.ca c) dx vs) → RepF g s1.F s1.al fs vs → PostE g B W env s1 σ H1 (if g.fld c f then (match fs.lookup f with
      | some d => .ok (.d d) s1.h
      | none => .stuck) else .stuck) Q → v = .ref a → ∃ (a C dx : Addr) (fs : List (Str × V)) (w : V), v = .ref a ∧ H1 a = some (.ins C dx fs) ∧ Cls X.K C ∧ NoAttr X.K C f ∧ fs.lookup f = some w ∧ Q w H1 := by
    intro c fs a dx vs ha hr pp ev
    by_cases hc : g.fld c f = true
    · rw [if_pos hc] at pp
      cases e : fs.lookup f with
      | none => rw [e] at pp; exact pp.elim
      | some d =>
        rw [e] at pp
        obtain ⟨w, e1, e2⟩ := hr.lookup e
        obtain ⟨k1, k2⟩ := G.fld c f hc
        exact ⟨a, g.ca c, dx, vs, w, ev, ha, hK ▸ (G.cls c k1).cl, hK ▸ k2, e1, PostE.pure sr1 pp e2⟩
    · rw [if_neg hc] at pp
      exact pp.elim
  unfold fFld at p1
  split at p1
  · obtain ⟨a, dx, vs, rfl, h2, h3⟩ := r1
    exact fin (sr1.good.fle _ _ h2) h3 p1 rfl
  · obtain ⟨a, dx, vs, rfl, h2, _, h3⟩ := r1
    exact fin h2 h3 p1 rfl
  · next n =>
    split at p1
    · next c fs hx =>
      obtain ⟨a, rfl, hal⟩ := r1
      obtain ⟨a2, g1, dx, vs, h2, h3⟩ := sr1.good.cell n _ hx
      rw [hal] at g1
      cases g1
      exact fin h2 h3 p1 rfl
    · exact p1.elim
  · exact p1.elim
/-- self.f = e, in self's own __init__ (self in slot i) -/
def mSetFld (g : Gi) (i : Nat) (f : Str) (e : ME) : MS := fun env h => (e env h).thenS env fun x h1 => match x, env[i]? with
  | .d d, some (some (.oi c fs)) => if g.fld c f && decide (fs.length < 1000) then .nx (env.set i (some (.oi c (putD f d fs)))) h1 else .stuck
  | _, _ => .stuck
theorem vs_setfld {i : Nat} (G : GiOk g) (hK : g.K = X.K) {f : Str} (ho : PE X o (tVar i)) (he : PE X e (tE g B W m)) (hs : swapsWith e (some (.Attribute o f tpos)) pos.line X.env = pure false := by rfl) :
    PS X (.Assign [.Attribute o f tpos] e pos) (tS g B W (mSetFld g i f m)) := by
  refine ps_imp (ps_fld ho he hs) fun N σ H ⟨env, s, sr, p⟩ => ?_
  refine (bindS sr p).mono fun v H1 ⟨s1, x, sr1, l1, r1, p1⟩ => ?_
  split at p1
  · next d c fs hx =>
    split at p1
    · next hcl =>
      obtain ⟨hc, hl⟩ := Bool.and_eq_true_iff.mp hcl
      obtain ⟨w, h1, h2⟩ := sr1.slot i _ hx
      obtain ⟨a, dx, vs, rfl, h3, h4, h5, h6⟩ := h2
      obtain ⟨k1, k2⟩ := G.fld c f hc
      refine ⟨_, h1, a, g.ca c, dx, vs, rfl, h3, hK ▸ (G.cls c k1).cl, hK ▸ k2, by rw [h5.length]; exact of_decide_eq_true hl, ?_⟩
      exact p1 σ _ s1 rfl (Le.refl s1) (sr1.mut hx rfl h1 h4.f h4.al h4.new ⟨a, dx, _, rfl, upd_same, h4, h5.put r1, h6⟩)
    · exact p1.elim
  · exact p1.elim
end
end Vi

set_option Elab.async false
set_option linter.all false
set_option maxRecDepth 100000
set_option maxHeartbeats 2000000
namespace Vi
open PySem L2 PyProof.Rows

/-! ### defs: a promise that also knows that nothing is being shown (guards) -/
structure FnG (P : Program) (w : World) (K : PySem.W.Frag) (mg : Str → Option Value) (base : Heap) (k : Nat) (f : Addr) (fd : FuncData) (ps : List Str) (sp : Sp) : Prop where
  len : ∀ vs H Q E, sp vs H Q E → vs.length = ps.length
  run : ∀ (A : Around) (outer : List PySem.Env) (s : Shared) (H : Hp) (args : Args) (us : List Value) (vs : List V) (Q : VK) (E : XK), Room k A → A.guards = some [] → Env0 P w K mg base A outer s H → BindsTo s fd args (ps.zip us) → Vals vs us → sp vs H Q E →
    codeAny (model P w) A (.call (.ref f) args) (CR (L2.CX P w) outer P w H s Q E) s
theorem FnG.mono {P : Program} {w : World} {K : PySem.W.Frag} {mg : Str → Option Value} {base : Heap} {j k : Nat} {f : Addr} {fd : FuncData} {ps : List Str} {sp : Sp} (F : FnG P w K mg base j f fd ps sp) (h : j ≤ k) : FnG P w K mg base k f fd ps sp :=
  ⟨F.len, fun A outer s H args us vs Q E hr => F.run A outer s H args us vs Q E (hr.mono h)⟩
theorem fn_G {P : Program} {w : World} {K : PySem.W.Frag} {mg : Str → Option Value} {base : Heap} {x qual : Str} {params : Arguments} {body : List Stmt} {scope : Scope} {dvs : List V} {kws : List (Str × V)} {f : Addr} {fd : FuncData} {N ps : List Str} {k : Nat} {sp : Sp}
    (F : FunD K x qual params body scope dvs kws f fd) (S : FnScope N ps scope) (len : ∀ vs H Q E, sp vs H Q E → vs.length = ps.length)
    (hbody : ∀ (cdv : Value) (A : Around) (outer : List PySem.Env) (s : Shared) (H : Hp) (vs : List V) (Q : VK) (E : XK), Room k (A.deeper (envOfC qual scope s.heap.objs.size f cdv)) → A.guards = some [] → sp vs H Q E →
      ∃ t, PSs (cxOf (L2.CX P w) P w K mg base N qual scope f cdv A outer s H E) body t ∧ t { nx := fun _ H' => Q .non H', rt := Q } (start N vs) H) : FnG P w K mg base (k + 1) f fd ps sp := by
  obtain ⟨oc, od, dV, kV, doc, pm, an, cdv, ct, osl, rfl, lk, hcd, _, _⟩ := F.ex
  refine ⟨len, ?_⟩
  intro A outer s H args us vs Q E room gds e0 bnd rv want
  have many := len _ _ _ _ want
  have inK : K.In s.heap := e0.mod.kin.keeps fun b o e => (e0.bs b o e).1
  have free : s.heap.NoLimit := e0.mod.nolimit.keeps fun b o e => (e0.bs b o e).1
  have kinds : ∀ y ∈ ps.zip us, scope.names.lookup y.1 = some .local ∨ (scope.names.lookup y.1 = some .cell ∧ ((cellsFrom (s.heap.objs.size + 1) scope.names []).lookup y.1).isSome = true) := by
    rintro ⟨n, v⟩ hy
    rcases S.par n (List.of_mem_zip hy).1 with q | q
    · exact .inl q
    · exact .inr ⟨q, PySem.W.cellsFrom_some _ _ _ (.inl q)⟩
  refine codeAny_call_function room.depth (inK _ _ lk) rfl S.co S.gen rfl (PySem.W.codeRec_of inK hcd) (bnd _ _ _ _ ?_)
  refine wpAny_newFunctionEnv_cells S.kind kinds ?_
  intro env he s1 x
  subst he
  refine ⟨free.keeps x.toInCall.keep, codeAny_func ?_⟩
  obtain ⟨t, ht, hq⟩ := hbody cdv A outer s H vs Q E (room.deeper _) gds want
  have I : Inv (cxOf (L2.CX P w) P w K mg base N qual scope f cdv A outer s H E) [] (start N vs) H s1 := inv_start S room.hd e0 many rv x
  have fin : ∀ {s' : Shared} {σ' : L2.St} {H' : Hp} {v : V} {u : Value}, Inv (cxOf (L2.CX P w) P w K mg base N qual scope f cdv A outer s H E) [] σ' H' s' → RelV v u → Q v H' → CE outer P w H s Q u s' := by
    intro s' σ' H' v u J r q
    exact ⟨v, H', J.os, J.bare, J.base, J.hok, r, q⟩
  refine wpAny_mono (ht.run [] s1 (start N vs) H _ I hq) ?_ fun e s' hs => hs
  intro fl s' hs
  cases fl with
  | ret u =>
    obtain ⟨v, σ', H', J, r, q⟩ := hs
    exact fin J r q
  | next =>
    obtain ⟨σ', H', J, q⟩ := hs
    exact fin (v := V.non) (u := Value.none) J rfl q
  | brk => exact (hs.choose_spec.choose_spec.2).elim
  | cont => exact (hs.choose_spec.choose_spec.2).elim

/-! ### promises over data -/
abbrev Fn := List D → Hc → R D
def PostF (g : Gi) (s : Sta) (H : Hp) : R D → VK → XK → Prop
  | .ok d h, Q, _ => ∀ (v : V) (H' : Hp) (s' : Sta), s'.h = h → Evo s H s' H' → Good g s' H' → Rep g s'.F s'.al d v → Q v H'
  | .exc x h, _, E => ∀ (cls : Value) (dd : Option Addr) (H' : Hp) (s' : Sta), s'.h = h → Evo s H s' H' → Good g s' H' → XRep g s' H' x cls dd → E cls dd H'
  | .stuck, _, _ => False
def spD (g : Gi) (n : Nat) (F : Fn) : Sp := fun vs H Q E => ∃ (s : Sta) (ds : List D), vs.length = n ∧ Good g s H ∧ Reps g s.F s.al ds vs ∧ PostF g s H (F ds s.h) Q E
@[simp] def fCall (F : Fn) (dd : List D) (xs : List Vl) (h : Hc) : R Vl := match datas xs with
  | some ds => (F (ds ++ dd) h).bind fun d h' => .ok (.d d) h'
  | none => .stuck
/-- a def as it may be called in a body -/
structure VFn (X : Cx) (g : Gi) (x : Str) (n : Nat) (dd : List D) (F : Fn) : Prop where
  ex : ∃ (k : Nat) (f : Addr) (fd : FuncData) (ps : List Str) (dvs : List V) (ds : List Value), FnG X.prog X.w X.K X.mg X.base k f fd ps (spD g ps.length F) ∧ Room k X.A ∧ X.mg x = some (.ref f) ∧ PySem.W.keepIn X.K (.ref f) = true ∧
    Binds X.K fd ps ds ∧ Vals dvs ds ∧ (∀ F al, Reps g F al dd dvs) ∧ n + dvs.length = ps.length
section
variable {X : Cx} {g : Gi} {B : Bg} {W : WXv} {env : Env} {s s' : Sta} {σ : L2.St} {H H' : Hp}
theorem SR.call (sr : SR g B env s σ H) (e : Evo s H s' H') (gd : Good g s' H') : SR g B env s' σ H' :=
  ⟨gd, sr.evo.trans e, sr.len, fun i sl h => by
    obtain ⟨v, h1, h2⟩ := sr.slot i sl h
    exact ⟨v, h1, h2.evo e⟩, sr.sep⟩
theorem run_G {CXE : L2.St → XK} {k : Nat} {f : Addr} {fd : FuncData} {ps : List Str} {sp : Sp} {dvs : List V} {ds : List Value} {pins : List (Addr × Obj)} {σ : L2.St} {H : Hp} {s : Shared} {Q : VK} {us : List Value} {vs : List V}
    (F : FnG X.prog X.w X.K X.mg X.base k f fd ps sp) (hr : Room k X.A) (hg : X.A.guards = some []) (hb : Binds X.K fd ps ds) (hd : Vals dvs ds) (hx : PassesAt (L2.CX X.prog X.w) X σ (CXE σ))
    (I : Inv X pins σ H s) (r : Vals vs us) (h : sp (vs ++ dvs) H Q (CXE σ)) : wpAny (model X.prog X.w) X.A (call (.ref f) us) (EP X pins σ Q) X.xe s := by
  have r2 : Vals (vs ++ dvs) (us ++ ds) := r.append hd
  have hl : (us ++ ds).length = ps.length := by rw [← r2.length]; exact F.len _ _ _ _ h
  refine wpAny_call (codeAny_mono (F.run X.A X.stack s H ⟨us, []⟩ (us ++ ds) (vs ++ dvs) Q (CXE σ) hr hg I.env0 (hb s us I.kIn hl) r2 h) ?_)
  intro r s' hq
  cases r with
  | error e => exact hx pins H s e s' I hq
  | ok fl =>
    cases fl with
    | ret u => exact I.after hq
    | next => exact False.elim hq
    | brk => exact False.elim hq
    | cont => exact False.elim hq
/-- the promise of a callee, from what is wanted of the call's result -/
theorem spD_of {n : Nat} {F : Fn} {ds : List D} {vs : List V} {s : Sta} {H : Hp} {σ : L2.St} {Q : VK} (sr : SR g B env s σ H) (hl : vs.length = n) (r : Reps g s.F s.al ds vs) (p : PostE g B W env s σ H ((F ds s.h).bind fun d h' => .ok (.d d) h') Q) : spD g n F vs H Q (fun cls d H' => W cls d σ H') := by
  refine ⟨s, ds, hl, sr.good, r, ?_⟩
  cases e : F ds s.h with
  | ok d h =>
    rw [e] at p
    intro v H' s' e1 ev gd rr
    exact p v H' s' e1 ev (sr.call ev gd) rr
  | exc x h =>
    rw [e] at p
    intro cls dd H' s' e1 ev gd xr
    exact p cls dd H' s' e1 ev (sr.call ev gd) xr
  | stuck =>
    rw [e] at p
    exact p
end
section
variable {X : Cx} {g : Gi} {B : Bg} {W : WXv} {pos p : Pos} {e : Expr} {es : List Expr} {A : MA} {F : Fn} {dd : List D} {n : Nat} {x : Str}
theorem datas_length : ∀ {xs : List Vl} {ds : List D}, datas xs = some ds → ds.length = xs.length
  | [], _, e => by
    have e : some [] = some _ := e
    cases e
    rfl
  | .d x :: r, ds, e => by
    have e : (datas r).map (x :: ·) = some ds := e
    cases q : datas r with
    | none => rw [q] at e; cases e
    | some l =>
      rw [q] at e
      have e : x :: l = ds := Option.some.inj e
      rw [← e, List.length_cons, List.length_cons, datas_length q]
  | .tl _ :: _, _, e => by cases e
  | .bl _ :: _, _, e => by cases e
  | .bi _ _ :: _, _, e => by cases e
theorem VlReps.length {env : Env} {σ : L2.St} {s : Sta} {H : Hp} : ∀ {xs : List Vl} {vs : List V}, VlReps g B env σ s H xs vs → vs.length = xs.length
  | _, _, .nil => rfl
  | _, _, .cons _ b => by rw [List.length_cons, List.length_cons, b.length]
/-- n arguments are written -/
@[simp] def fCallN (n : Nat) (F : Fn) (dd : List D) (xs : List Vl) (h : Hc) : R Vl := if xs.length = n then fCall F dd xs h else .stuck
theorem ve_call (V : VFn X g x n dd F) (hgd : X.A.guards = some []) (tk : Takes X W) (hg : Gl X x) (ha : PA X (e :: es) (tA g B W A)) (hdb : (x == ("__debug__" : Str)) = false := by decide)
    (he : starEach (e :: es) X.env = (false, eval e X.env) :: starEach es X.env := by rfl) (hpl : (backTo pos (starEach es X.env)).any (·.1) = false := by rfl) :
    PE X (.Call (.Name x p) (e :: es) [] pos) (tE g B W (mA1 (fCallN n F dd) A)) := by
  obtain ⟨k, f, fd, ps, dvs, ds, FG, hr, hm, hk, hb, hd, hdd, hn⟩ := V.ex
  refine ⟨fun pins s σ H Q I h => ?_⟩
  refine wpAny_Call_Name_kw (ld_glob I hg hm ?_ hdb)
  obtain ⟨env, st, sr, pp⟩ := h
  have hA := (bindA (Q := Q) sr pp)
  refine PySem.W.callWith_K (h₀ := X.base) I.ok.mod.kin hk (thn (ha.run pos pins s σ H _ I hA) fun us s1 ⟨vs, H1, I1, r, st1, xs, sr1, ev1, r1, p1⟩ => ⟨I1.kIn, ?_⟩) he hpl
  unfold fCallN at p1
  by_cases hl : xs.length = n
  · rw [if_pos hl] at p1
    unfold fCall at p1
    cases e1 : datas xs with
    | none => rw [e1] at p1; exact p1.elim
    | some dl =>
      rw [e1] at p1
      have rr := (r1.datas e1).append (hdd st1.F st1.al)
      exact run_G (CXE := fun σ => WE W σ) FG hr hgd hb hd (passAt tk σ) I1 r (spD_of sr1 (by rw [List.length_append, r1.length, hl]; exact hn) rr p1)
  · rw [if_neg hl] at p1
    exact p1.elim
theorem ve_call0 (V : VFn X g x 0 dd F) (hgd : X.A.guards = some []) (tk : Takes X W) (hg : Gl X x) (hdb : (x == ("__debug__" : Str)) = false := by decide) :
    PE X (.Call (.Name x p) [] [] pos) (tE g B W (mA1 (fCallN 0 F dd) maNil)) := by
  obtain ⟨k, f, fd, ps, dvs, ds, FG, hr, hm, hk, hb, hd, hdd, hn⟩ := V.ex
  refine ⟨fun pins s σ H Q I h => ?_⟩
  refine wpAny_Call_Name_kw (ld_glob I hg hm ?_ hdb)
  obtain ⟨env, st, sr, pp⟩ := h
  have pp : PostE g B W env st σ H ((F dd st.h).bind fun d h' => .ok (.d d) h') Q := pp
  refine PySem.W.callWith_K0 I.kIn hk ?_
  exact run_G (us := []) (CXE := fun σ => WE W σ) FG hr hgd hb hd (passAt tk σ) I .nil (spD_of sr (by rw [List.nil_append]; omega) (hdd st.F st.al) pp)
end
end Vi

set_option Elab.async false
set_option linter.all false
set_option maxRecDepth 100000
set_option maxHeartbeats 2000000
namespace Vi
open PySem L2 PyProof.Rows

/-- what a body may use -/
structure Bd (X : Cx) (g : Gi) (W : WXv) : Prop where
  G : GiOk g
  K : g.K = X.K
  calm : X.calm = true
  gd : X.A.guards = some []
  tk : Takes X W
  ps : PassesOwn (model X.prog X.w) X.A X.env X.xe
  un : X.A.units + 64 < cLine
/-! ### a def's mirror -/
@[simp] def mkEnv (n : Nat) (ds : List D) : Env := ds.map (fun d => some (.d d)) ++ List.replicate (n - ds.length) none
def fnOf (N n : Nat) (m : MS) : Fn := fun ds h => if ds.length = n then (match m (mkEnv N ds) h with
  | .nx _ h => .ok .non h
  | .ret d h => .ok d h
  | .exc _ x h => .exc x h
  | _ => .stuck) else .stuck
theorem mkEnv_get {N : Nat} {ds : List D} {i : Nat} {sl : Sl} (h : (mkEnv N ds)[i]? = some (some sl)) : ∃ d, ds[i]? = some d ∧ sl = .d d := by
  unfold mkEnv at h
  by_cases hi : i < ds.length
  · rw [List.getElem?_append_left (by rw [List.length_map]; exact hi), List.getElem?_map, List.getElem?_eq_getElem hi] at h
    cases h
    exact ⟨_, List.getElem?_eq_getElem hi, rfl⟩
  · rw [List.getElem?_append_right (by rw [List.length_map]; omega), List.getElem?_replicate] at h
    split at h <;> cases h
theorem start_sr {g : Gi} {s : Sta} {H : Hp} {N : List Str} {ds : List D} {vs : List V} (gd : Good g s H) (r : Reps g s.F s.al ds vs) : SR g ⟨s, H, 0, 0, 0, 0⟩ (mkEnv N.length ds) s (L2.start N vs) H := by
  refine ⟨gd, Evo.refl s H, ?_, fun i sl h => ?_, fun i j sl sl' v hij h1 h2 o1 => ?_⟩
  · unfold mkEnv L2.start
    rw [List.length_append, List.length_append, List.length_map, List.length_map, List.length_replicate, List.length_replicate, r.length]
  · obtain ⟨d, e1, rfl⟩ := mkEnv_get h
    obtain ⟨v, e2, r2⟩ := r.get e1
    refine ⟨v, ?_, r2⟩
    unfold L2.start
    have hi : i < vs.length := (List.getElem?_eq_some_iff.mp e2).1
    rw [List.getElem?_append_left (by rw [List.length_map]; exact hi), List.getElem?_map, e2]
    rfl
  · obtain ⟨d, _, rfl⟩ := mkEnv_get h1
    cases o1
/-- THE RULE for a def: its body's mirror is its function -/
theorem fn_D {P : Program} {w : World} {g : Gi} {mg : Str → Option Value} {base : Heap} {x qual : Str} {params : Arguments} {body : List Stmt} {scope : Scope} {dvs : List V} {kws : List (Str × V)} {f : Addr} {fd : FuncData} {N ps : List Str} {k : Nat} {m : MS}
    (G : GiOk g) (F : FunD g.K x qual params body scope dvs kws f fd) (S : FnScope N ps scope)
    (hbody : ∀ (cdv : Value) (A : Around) (outer : List PySem.Env) (s : Shared) (H : Hp) (E : XK) (B : Bg), Room k (cxOf (L2.CX P w) P w g.K mg base N qual scope f cdv A outer s H E).A → Bd (cxOf (L2.CX P w) P w g.K mg base N qual scope f cdv A outer s H E) g (fun cls d _ H => E cls d H) →
      PSs (cxOf (L2.CX P w) P w g.K mg base N qual scope f cdv A outer s H E) body (tS g B (fun cls d _ H => E cls d H) m)) :
    FnG P w g.K mg base (k + 1) f fd ps (spD g ps.length (fnOf N.length ps.length m)) := by
  refine fn_G F S (fun vs H Q E h => ?_) ?_
  · obtain ⟨_, _, hl, _⟩ := h
    exact hl
  · intro cdv A outer s H vs Q E hr gds h
    obtain ⟨st, ds, hl, gd, r, p⟩ := h
    have hb := hbody cdv A outer s H E ⟨st, H, 0, 0, 0, 0⟩ hr ⟨G, rfl, rfl, gds, takes_of rfl rfl rfl rfl, passes_of rfl, hr.units⟩
    refine ⟨_, hb, mkEnv N.length ds, st, start_sr gd r, ?_⟩
    have hl2 : ds.length = ps.length := by rw [← r.length]; exact hl
    unfold fnOf at p
    rw [if_pos hl2] at p
    cases e : m (mkEnv N.length ds) st.h with
    | nx env h =>
      rw [e] at p
      intro σ' H' s' e1 _ sr
      exact p .non H' s' e1 sr.evo sr.good rfl
    | ret d h =>
      rw [e] at p
      intro v H' s' e1 ev gd' rr
      exact p v H' s' e1 ev gd' rr
    | exc env x h =>
      rw [e] at p
      intro cls dd σ' H' s' e1 _ sr xr
      exact p cls dd H' s' e1 sr.evo sr.good xr
    | brk env h => rw [e] at p; exact p.elim
    | cnt env h => rw [e] at p; exact p.elim
    | stuck => rw [e] at p; exact p.elim

/-! ### methods -/
/-- a method of the class c (an instance that never changes, or one in a cell) -/
structure VMeth (X : Cx) (g : Gi) (c : Nat) (m : Str) (n : Nat) (dd : List D) (F : Fn) : Prop where
  ex : ∃ (k : Nat) (f : Addr) (fd : FuncData) (ps : List Str) (dvs : List V) (ds : List Value), FnG X.prog X.w X.K X.mg X.base k f fd ps (spD g ps.length F) ∧ Room k X.A ∧ Meth X.K (g.ca c) m f ∧
    Binds X.K fd ps ds ∧ Vals dvs ds ∧ (∀ F al, Reps g F al dd dvs) ∧ (n + 1) + dvs.length = ps.length
  cl : g.isC c = true
def ins? (c : Nat) (x : Vl) (h : Hc) : Option (List (Str × D)) := match x with
  | .d (.obj c' fs) => if c' = c then some fs else none
  | .d (.ref n) => (match h[n]? with
    | some (.ins c' fs) => if c' = c then some fs else none
    | _ => none)
  | _ => none
def fMeth (c : Nat) (m : Str) (n : Nat) (F : Fn) (dd : List D) (o : Vl) (xs : List Vl) (h : Hc) : R Vl := match o with
  | .d od => if xs.length = n then (match datas xs with
    | some ds => (F (od :: (ds ++ dd)) h).bind fun d h' => .ok (.d d) h'
    | none => .stuck) else .stuck
  | _ => .stuck
/-- o.m(..): o is looked at first -/
def mMeth (c : Nat) (m : Str) (n : Nat) (F : Fn) (dd : List D) (o : ME) (a : MA) : ME := fun env h => (o env h).bind fun x h1 => match ins? c x h1 with
  | some fs => if (fs.lookup m).isNone then (a env h1).bind fun xs h2 => fMeth c m n F dd x xs h2 else .stuck
  | none => .stuck
theorem RepF.none {g : Gi} {F : Hp} {al : Nat → Option Addr} {f : Str} : ∀ {fs : List (Str × D)} {vs : List (Str × V)}, RepF g F al fs vs → fs.lookup f = none → vs.lookup f = none
  | [], _, h, _ => by rw [show _ = [] from h]; rfl
  | (k, x) :: r, _, ⟨v, rr, h1, h2, h3⟩, e => by
    rw [h1]
    by_cases q : f = k
    · subst q
      rw [List.lookup_cons_self] at e
      cases e
    · have nb : (f == k) = false := beq_eq_false_iff_ne.mpr q
      rw [List.lookup_cons, nb] at e
      rw [List.lookup_cons, nb]
      exact h3.none e
section
variable {X : Cx} {g : Gi} {B : Bg} {W : WXv} {env : Env} {s s' : Sta} {σ : L2.St} {H H' : Hp}
theorem ins_rep {c : Nat} {x : Vl} {v : V} {fs : List (Str × D)} (gd : Good g s H) (r : VlRep g B env σ s H x v) (e : ins? c x s.h = some fs) : ∃ a dx vs od, v = .ref a ∧ x = .d od ∧ H a = some (.ins (g.ca c) dx vs) ∧ RepF g s.F s.al fs vs := by
  unfold ins? at e
  split at e
  · split at e
    · next hc =>
      cases e
      subst hc
      obtain ⟨a, dx, vs, rfl, h2, h3⟩ := r
      exact ⟨a, dx, vs, _, rfl, rfl, gd.fle _ _ h2, h3⟩
    · cases e
  · split at e
    · next c' fs' hx =>
      split at e
      · next hc =>
        cases e
        subst hc
        obtain ⟨a, rfl, hal⟩ := r
        obtain ⟨a2, g1, dx, vs, h2, h3⟩ := gd.cell _ _ hx
        rw [hal] at g1
        cases g1
        exact ⟨a, dx, vs, _, rfl, rfl, h2, h3⟩
      · cases e
    · cases e
  · cases e
end
section
variable {X : Cx} {g : Gi} {B : Bg} {W : WXv} {pos p apos : Pos} {e o : Expr} {es : List Expr} {A : MA} {F : Fn} {dd : List D} {n c : Nat} {x m : Str} {mo : ME}
theorem ve_meth {pl : Sem Bool} (b : Bd X g W) (V : VMeth X g c m n dd F) (ho : PE X o (tE g B W mo)) (ha : PA X (e :: es) (tA g B W A))
    (hst : starEach (e :: es) X.env = (false, eval e X.env) :: starEach es X.env := by rfl) (hpl : (backTo pos (starEach es X.env)).any (·.1) = false := by rfl)
    (ht : eval (.Call (.Attribute o m apos) (e :: es) [] pos) X.env = (do
      let ov ← eval o X.env
      standAt apos.atName
      let (f, first) ← holding [ov] (getMethod ov m pl)
      callWith pos f first (backTo pos (starEach (e :: es) X.env)) (backToKw pos (keywordEach [] X.env))) := by rfl) :
    PE X (.Call (.Attribute o m apos) (e :: es) [] pos) (tE g B W (mMeth c m n F dd mo A)) := by
  obtain ⟨k, f, fd, ps, dvs, ds, FG, hr, hm, hb, hd, hdd, hn⟩ := V.ex
  refine ⟨fun pins s σ H Q I h => ?_⟩
  obtain ⟨env, st, sr, pp⟩ := h
  refine PySem.W.methodCall_KW (pl := pl) (thn (ho.run pins s σ H _ I (bindE (Q := Q) sr pp)) fun u s1 ⟨v, H1, I1, rx, st1, ox, sr1, ev1, r1, p1⟩ => ?_) ht
  cases ei : ins? c ox st1.h with
  | none => simp only [ei] at p1; exact p1.elim
  | some fs =>
    simp only [ei] at p1
    obtain ⟨a, dx, vs, od, rfl, ex, hH, hf⟩ := ins_rep sr1.good r1 ei
    subst ex
    obtain rfl : u = Value.ref a := rx
    by_cases hl : (fs.lookup m).isNone = true
    · rw [if_pos hl] at p1
      refine getmeth_ok I1 hH (b.K ▸ (b.G.cls c V.cl).cl) hm (hf.none (Option.isNone_iff_eq_none.mp hl)) ?_
      refine PySem.W.callWith_K (first := [.ref a]) (h₀ := X.base) I1.ok.mod.kin hm.kp (thn (ha.run pos pins s1 σ H1 _ I1 (bindA (Q := Q) sr1 p1)) fun us s2 ⟨ws, H2, I2, r, st2, xs, sr2, ev2, r2, p2⟩ => ⟨I2.kIn, ?_⟩) hst hpl
      have p2 : PostE g B W env st2 σ H2 (if xs.length = n then (match datas xs with
        | some ds => (F (od :: (ds ++ dd)) st2.h).bind fun d h' => .ok (.d d) h'
        | none => .stuck) else .stuck) Q := p2
      by_cases hx : xs.length = n
      · rw [if_pos hx] at p2
        cases ed : datas xs with
        | none => rw [ed] at p2; exact p2.elim
        | some dl =>
          rw [ed] at p2
          have ro : Rep g st2.F st2.al od (.ref a) := ev2.rep (show Rep g st1.F st1.al od (.ref a) from r1)
          have rr : Reps g st2.F st2.al (od :: (dl ++ dd)) ((.ref a :: ws) ++ dvs) := Reps.cons ro ((r2.datas ed).append (hdd st2.F st2.al))
          exact run_G (us := .ref a :: us) (vs := .ref a :: ws) (CXE := fun σ => WE W σ) FG hr b.gd hb hd (passAt b.tk σ) I2 (.cons rfl r) (spD_of sr2 (by rw [List.length_append, List.length_cons, r2.length, hx]; exact hn) rr p2)
      · rw [if_neg hx] at p2
        exact p2.elim
    · rw [if_neg hl] at p1
      exact p1.elim
theorem ve_meth0 {pl : Sem Bool} (b : Bd X g W) (V : VMeth X g c m 0 dd F) (ho : PE X o (tE g B W mo))
    (ht : eval (.Call (.Attribute o m apos) [] [] pos) X.env = (do
      let ov ← eval o X.env
      standAt apos.atName
      let (f, first) ← holding [ov] (getMethod ov m pl)
      callWith pos f first (backTo pos (starEach [] X.env)) (backToKw pos (keywordEach [] X.env))) := by rfl) :
    PE X (.Call (.Attribute o m apos) [] [] pos) (tE g B W (mMeth c m 0 F dd mo maNil)) := by
  obtain ⟨k, f, fd, ps, dvs, ds, FG, hr, hm, hb, hd, hdd, hn⟩ := V.ex
  refine ⟨fun pins s σ H Q I h => ?_⟩
  obtain ⟨env, st, sr, pp⟩ := h
  refine PySem.W.methodCall_KW (pl := pl) (thn (ho.run pins s σ H _ I (bindE (Q := Q) sr pp)) fun u s1 ⟨v, H1, I1, rx, st1, ox, sr1, ev1, r1, p1⟩ => ?_) ht
  cases ei : ins? c ox st1.h with
  | none => simp only [ei] at p1; exact p1.elim
  | some fs =>
    simp only [ei] at p1
    obtain ⟨a, dx, vs, od, rfl, ex, hH, hf⟩ := ins_rep sr1.good r1 ei
    subst ex
    obtain rfl : u = Value.ref a := rx
    by_cases hl : (fs.lookup m).isNone = true
    · rw [if_pos hl] at p1
      refine getmeth_ok I1 hH (b.K ▸ (b.G.cls c V.cl).cl) hm (hf.none (Option.isNone_iff_eq_none.mp hl)) ?_
      have p1 : PostE g B W env st1 σ H1 ((F (od :: dd) st1.h).bind fun d h' => .ok (.d d) h') Q := p1
      refine PySem.W.callWith_K0 (first := [.ref a]) I1.kIn hm.kp ?_
      have rr : Reps g st1.F st1.al (od :: dd) ([.ref a] ++ dvs) := Reps.cons (show Rep g st1.F st1.al od (.ref a) from r1) (hdd st1.F st1.al)
      exact run_G (us := [.ref a]) (vs := [.ref a]) (CXE := fun σ => WE W σ) FG hr b.gd hb hd (passAt b.tk σ) I1 (.cons rfl .nil) (spD_of sr1 (by rw [List.length_append]; exact hn) rr p1)
    · rw [if_neg hl] at p1
      exact p1.elim
end

/-! ### making an instance -/
abbrev FnI := List D → Hc → R (List (Str × D))
def initOf (N n : Nat) (c : Nat) (m : MS) : FnI := fun ds h => if ds.length = n then (match m (some (.oi c []) :: mkEnv N ds) h with
  | .nx (some (.oi c' fs) :: _) h => if c' = c then .ok fs h else .stuck
  | .exc _ x h => .exc x h
  | _ => .stuck) else .stuck
/-- __init__'s promise: what was ahead of the instance is (s, H0) -/
def spI (g : Gi) (c n : Nat) (F : FnI) : Sp := fun vs H Q E => ∃ (s : Sta) (ds : List D) (H0 : Hp) (x dx : Addr) (ws : List V), vs = .ref x :: ws ∧ ws.length = n ∧ H0 x = none ∧ H0 dx = none ∧ dx ≠ x ∧ H = upd (upd H0 dx (.own x)) x (.ins (g.ca c) dx []) ∧ Good g s H0 ∧ Reps g s.F s.al ds ws ∧
  (match F ds s.h with
    | .ok fs h => ∀ (H' : Hp) (s' : Sta), s'.h = h → Evo s H0 s' H' → Good g s' H' → (∃ dx vs, H' x = some (.ins (g.ca c) dx vs) ∧ s'.F x = none ∧ (∀ n, s'.al n ≠ some x) ∧ RepF g s'.F s'.al fs vs) → Q .non H'
    | .exc y h => ∀ (cls : Value) (dd : Option Addr) (H' : Hp) (s' : Sta), s'.h = h → Evo s H0 s' H' → Good g s' H' → XRep g s' H' y cls dd → E cls dd H'
    | .stuck => False)
theorem Good.add {g : Gi} {s : Sta} {H : Hp} {p : Addr} {o : HO} (gd : Good g s H) (hp : H p = none) : Good g s (upd H p o) ∧ Evo s H s (upd H p o) := by
  have sr : SR g ⟨s, H, 0, 0, 0, 0⟩ [] s [] H := ⟨gd, Evo.refl s H, rfl, fun i sl h => (by cases h), fun i j sl sl' v _ h => (by cases h)⟩
  obtain ⟨a, b⟩ := sr.new (o := o) hp
  exact ⟨a.good, b⟩
theorem own_free {g : Gi} {s : Sta} {H : Hp} {p : Addr} (gd : Good g s H) (hp : H p = none) : s.F p = none ∧ ∀ n, s.al n ≠ some p := by
  have sr : SR g ⟨s, H, 0, 0, 0, 0⟩ [] s [] H := ⟨gd, Evo.refl s H, rfl, fun i sl h => (by cases h), fun i j sl sl' v _ h => (by cases h)⟩
  exact ⟨(sr.own_new hp).f, (sr.own_new hp).al⟩
theorem fn_I {P : Program} {w : World} {g : Gi} {mg : Str → Option Value} {base : Heap} {x qual : Str} {params : Arguments} {body : List Stmt} {scope : Scope} {dvs : List V} {kws : List (Str × V)} {f : Addr} {fd : FuncData} {nm nm' : Str} {N ps : List Str} {k c : Nat} {m : MS}
    (G : GiOk g) (F : FunD g.K x qual params body scope dvs kws f fd) (S : FnScope (nm :: N) (nm' :: ps) scope)
    (hbody : ∀ (cdv : Value) (A : Around) (outer : List PySem.Env) (s : Shared) (H : Hp) (E : XK) (B : Bg), Room k (cxOf (L2.CX P w) P w g.K mg base (nm :: N) qual scope f cdv A outer s H E).A → Bd (cxOf (L2.CX P w) P w g.K mg base (nm :: N) qual scope f cdv A outer s H E) g (fun cls d _ H => E cls d H) →
      PSs (cxOf (L2.CX P w) P w g.K mg base (nm :: N) qual scope f cdv A outer s H E) body (tS g B (fun cls d _ H => E cls d H) m)) :
    FnG P w g.K mg base (k + 1) f fd (nm' :: ps) (spI g c ps.length (initOf N.length ps.length c m)) := by
  refine fn_G F S (fun vs H Q E h => ?_) ?_
  · obtain ⟨_, _, _, _, _, ws, rfl, hl, _⟩ := h
    rw [List.length_cons, List.length_cons, hl]
  · intro cdv A outer s H vs Q E hr gds h
    obtain ⟨st, ds, H0, x, dx, ws, rfl, hl, hx, hdx, hne, rfl, gd, r, p⟩ := h
    have hb := hbody cdv A outer s (upd (upd H0 dx (.own x)) x (.ins (g.ca c) dx [])) E ⟨st, H0, x, 0, 0, 0⟩ hr ⟨G, rfl, rfl, gds, takes_of rfl rfl rfl rfl, passes_of rfl, hr.units⟩
    obtain ⟨gd1, ev1⟩ := gd.add (o := .own x) hdx
    have hx1 : upd H0 dx (.own x) x = none := by rw [upd_ne hne.symm]; exact hx
    obtain ⟨gd2, ev2⟩ := gd1.add (o := .ins (g.ca c) dx []) hx1
    obtain ⟨fx, ax⟩ := own_free gd hx
    have s0 := start_sr (N := N) gd r
    have sr : SR g ⟨st, H0, x, 0, 0, 0⟩ (some (.oi c []) :: mkEnv N.length ds) st (L2.start (nm :: N) (.ref x :: ws)) (upd (upd H0 dx (.own x)) x (.ins (g.ca c) dx [])) := by
      have es : L2.start (nm :: N) (.ref x :: ws) = some (.ref x) :: L2.start N ws := by
        unfold L2.start
        rw [List.length_cons, List.length_cons, Nat.add_sub_add_right]
        rfl
      rw [es]
      refine ⟨gd2, ev1.trans ev2, by rw [List.length_cons, List.length_cons, s0.len], fun i sl h => ?_, fun i j sl sl' v hij h1 h2 o1 o2 => ?_⟩
      · cases i with
        | zero =>
          cases h
          exact ⟨_, rfl, x, dx, [], rfl, upd_same, ⟨fx, ax, hx⟩, rfl, rfl⟩
        | succ i =>
          have h : (mkEnv N.length ds)[i]? = some (some sl) := h
          obtain ⟨v, h1, h2⟩ := s0.slot i sl h
          obtain ⟨d, _, rfl⟩ := mkEnv_get h
          exact ⟨v, h1, h2⟩
      · cases i with
        | succ i =>
          obtain ⟨d, _, rfl⟩ := mkEnv_get (show (mkEnv N.length ds)[i]? = some (some sl) from h1)
          cases o1
        | zero =>
          cases j with
          | zero => exact absurd rfl hij
          | succ j =>
            obtain ⟨d, _, rfl⟩ := mkEnv_get (show (mkEnv N.length ds)[j]? = some (some sl') from h2)
            cases o2
    refine ⟨_, hb, _, st, sr, ?_⟩
    have hl2 : ds.length = ps.length := by rw [← r.length]; exact hl
    unfold initOf at p
    rw [if_pos hl2] at p
    cases e : m (some (.oi c []) :: mkEnv N.length ds) st.h with
    | nx env h =>
      rw [e] at p
      intro σ' H' s' e1 _ sr'
      cases env with
      | nil => exact p.elim
      | cons a rest =>
        cases a with
        | none => exact p.elim
        | some sl =>
          cases sl with
          | d y => exact p.elim
          | ol y => exact p.elim
          | xc c' fs => exact p.elim
          | oi c' fs =>
            by_cases hc : c' = c
            · subst hc
              simp only [if_pos] at p
              obtain ⟨v, _, a', dx', vs', _, g2, g3, g4, g5⟩ := sr'.slot 0 (.oi c' fs) rfl
              have g5 : a' = x := g5
              subst g5
              exact p H' s' e1 sr'.evo sr'.good ⟨dx', vs', g2, g3.f, g3.al, g4⟩
            · simp only [if_neg hc] at p
    | ret d h => rw [e] at p; exact p.elim
    | exc env y h =>
      rw [e] at p
      intro cls dd σ' H' s' e1 _ sr' xr
      exact p cls dd H' s' e1 sr'.evo sr'.good xr
    | brk env h => rw [e] at p; exact p.elim
    | cnt env h => rw [e] at p; exact p.elim
    | stuck => rw [e] at p; exact p.elim
end Vi

set_option Elab.async false
set_option linter.all false
set_option maxRecDepth 100000
set_option maxHeartbeats 2000000
namespace Vi
open PySem L2 PyProof.Rows

structure VMake (X : Cx) (g : Gi) (c n : Nat) (dd : List D) (F : FnI) : Prop where
  ex : ∃ (k : Nat) (f : Addr) (fd : FuncData) (ps : List Str) (q : Str) (dvs : List V) (ds : List Value), FnG X.prog X.w X.K X.mg X.base k f fd (q :: ps) (spI g c ps.length F) ∧ Room (k + 1) X.A ∧ Mk X.K (g.ca c) f ∧
    Binds X.K fd (q :: ps) ds ∧ Vals dvs ds ∧ (∀ F al, Reps g F al dd dvs) ∧ n + dvs.length = ps.length
/-- C(..): the instance never changes behind its __init__ -/
def fMake (c n : Nat) (F : FnI) (dd : List D) (xs : List Vl) (h : Hc) : R Vl := if xs.length = n then (match datas xs with
  | some ds => (F (ds ++ dd) h).bind fun fs h' => .ok (.d (.obj c fs)) h'
  | none => .stuck) else .stuck
theorem under_guards {A : Around} {C : Addr} {us : List Value} {kw : List (Str × Value)} : (A.under (.builtin "type.__call__" ⟨.ref C :: us, kw⟩)).guards = A.guards := by
  first | rfl | simp [Around.under, Code.guards, pushGuards]
theorem Evo.frz {s s' : Sta} {H H' : Hp} {a : Addr} {o : HO} (e : Evo s H s' H') (hf : s'.F a = none) (hn : ∀ n, s'.al n ≠ some a) (hb : H a = none) : Evo s H (s'.frz a o) H' := evo_frz (B := ⟨s, H, 0, 0, 0, 0⟩) hf hn hb e
section
variable {X : Cx} {g : Gi} {B : Bg} {W : WXv} {pos p : Pos} {e : Expr} {es : List Expr} {A : MA} {F : FnI} {dd : List D} {n c : Nat} {x : Str}
theorem run_makeG {pins : List (Addr × Obj)} {σ : L2.St} {H : Hp} {s : Shared} {Q : VK} {us : List Value} {ws : List V} {env : Env} {st : Sta} {dl : List D} (b : Bd X g W) (V : VMake X g c n dd F) (I : Inv X pins σ H s) (r : Vals ws us)
    (sr : SR g B env st σ H) (rr : Reps g st.F st.al dl ws) (hl : ws.length = n) (p1 : PostE g B W env st σ H ((F (dl ++ dd) st.h).bind fun fs h' => .ok (.d (.obj c fs)) h') Q) :
    wpAny (model X.prog X.w) X.A (call (.ref (g.ca c)) us) (EP X pins σ Q) X.xe s := by
  obtain ⟨k, f, fd, ps, q, dvs, ds, FG, hr, M, hb, hd, hdd, hn⟩ := V.ex
  have nx : H (s.heap.objs.size + 1) = none := I.hok.fresh (Nat.le_succ _)
  have nd : H s.heap.objs.size = none := I.hok.fresh (Nat.le_refl _)
  have nn : s.heap.objs.size ≠ s.heap.objs.size + 1 := Nat.ne_of_lt (Nat.lt_succ_self _)
  have I2 := Inv.made (C := g.ca c) I
  have r2 : Vals (L2.V.ref (s.heap.objs.size + 1) :: (ws ++ dvs)) (Value.ref (s.heap.objs.size + 1) :: (us ++ ds)) := .cons rfl (r.append hd)
  have hsp : spI g c ps.length F (L2.V.ref (s.heap.objs.size + 1) :: (ws ++ dvs)) (upd (upd H s.heap.objs.size (.own (s.heap.objs.size + 1))) (s.heap.objs.size + 1) (.ins (g.ca c) s.heap.objs.size []))
      (fun v H2 => v = .non ∧ Q (.ref (s.heap.objs.size + 1)) H2) (fun cls d H' => W cls d σ H') := by
    refine ⟨st, dl ++ dd, H, _, _, ws ++ dvs, rfl, by rw [List.length_append, hl]; exact hn, nx, nd, nn, rfl, sr.good, rr.append (hdd _ _), ?_⟩
    cases eF : F (dl ++ dd) st.h with
    | ok fs h =>
      rw [eF] at p1
      rintro H' s' e1 ev gd ⟨dx, vs, g1, g2, g3, g4⟩
      refine ⟨rfl, ?_⟩
      have ev2 := ev.frz (o := .ins (g.ca c) dx vs) g2 g3 nx
      exact p1 (.ref (s.heap.objs.size + 1)) H' (s'.frz (s.heap.objs.size + 1) (.ins (g.ca c) dx vs)) e1 ev2 (sr.call ev2 (gd.frz g1 g2 g3)) ⟨_, dx, vs, rfl, upd_same, g4.mono (frz_le g2) fun _ _ z => z⟩
    | exc y h =>
      rw [eF] at p1
      intro cls dd' H' s' e1 ev gd xr
      exact p1 cls dd' H' s' e1 ev (sr.call ev gd) xr
    | stuck =>
      rw [eF] at p1
      exact p1
  have hl2 : (Value.ref (s.heap.objs.size + 1) :: us ++ ds).length = (q :: ps).length := by
    have e := r2.length
    rw [FG.len _ _ _ _ hsp] at e
    exact e.symm
  refine wpAny_call (make_map (f := f) I.kIn M.makes M.init (beq_iff_eq.mp M.fn) (codeAny_mono (FG.run _ X.stack _ _ ⟨Value.ref (s.heap.objs.size + 1) :: us, []⟩ (Value.ref (s.heap.objs.size + 1) :: (us ++ ds)) _ _ _ (hr.make (g.ca c) us [])
    (under_guards.trans b.gd) (I2.env0.make (g.ca c) us []) (hb _ (Value.ref (s.heap.objs.size + 1) :: us) I2.kIn hl2) r2 hsp) ?_))
  intro res s' hq
  cases res with
  | error e => exact passAt b.tk σ pins _ _ e s' I2 hq
  | ok fl =>
    cases fl with
    | ret u =>
      obtain ⟨v, H', I3, rv, ev, q3⟩ := I2.after hq
      subst ev
      exact ⟨rv, ⟨L2.V.ref (s.heap.objs.size + 1), H', I3, rfl, q3⟩⟩
    | next => exact False.elim hq
    | brk => exact False.elim hq
    | cont => exact False.elim hq
theorem ve_make (b : Bd X g W) (V : VMake X g c n dd F) (hg : Gl X x) (hm : X.mg x = some (.ref (g.ca c))) (ha : PA X (e :: es) (tA g B W A)) (hdb : (x == ("__debug__" : Str)) = false := by decide)
    (he : starEach (e :: es) X.env = (false, eval e X.env) :: starEach es X.env := by rfl) (hpl : (backTo pos (starEach es X.env)).any (·.1) = false := by rfl) :
    PE X (.Call (.Name x p) (e :: es) [] pos) (tE g B W (mA1 (fMake c n F dd) A)) := by
  have kp : PySem.W.keepIn X.K (.ref (g.ca c)) = true := by
    obtain ⟨k, f, fd, ps, q, dvs, ds, FG, hr, M, _⟩ := V.ex
    exact M.kp
  refine ⟨fun pins s σ H Q I h => ?_⟩
  refine wpAny_Call_Name_kw (ld_glob I hg hm ?_ hdb)
  obtain ⟨env, st, sr, pp⟩ := h
  refine PySem.W.callWith_K (h₀ := X.base) I.ok.mod.kin kp (thn (ha.run pos pins s σ H _ I (bindA (Q := Q) sr pp)) fun us s1 ⟨vs, H1, I1, r, st1, xs, sr1, ev1, r1, p1⟩ => ⟨I1.kIn, ?_⟩) he hpl
  unfold fMake at p1
  by_cases hl : xs.length = n
  · rw [if_pos hl] at p1
    cases e1 : datas xs with
    | none => rw [e1] at p1; exact p1.elim
    | some dl =>
      rw [e1] at p1
      exact run_makeG b V I1 r sr1 (r1.datas e1) (by rw [r1.length, hl]) p1
  · rw [if_neg hl] at p1
    exact p1.elim
theorem ve_make0 (b : Bd X g W) (V : VMake X g c 0 dd F) (hg : Gl X x) (hm : X.mg x = some (.ref (g.ca c))) (hdb : (x == ("__debug__" : Str)) = false := by decide) :
    PE X (.Call (.Name x p) [] [] pos) (tE g B W (mA1 (fMake c 0 F dd) maNil)) := by
  have kp : PySem.W.keepIn X.K (.ref (g.ca c)) = true := by
    obtain ⟨k, f, fd, ps, q, dvs, ds, FG, hr, M, _⟩ := V.ex
    exact M.kp
  refine ⟨fun pins s σ H Q I h => ?_⟩
  refine wpAny_Call_Name_kw (ld_glob I hg hm ?_ hdb)
  obtain ⟨env, st, sr, pp⟩ := h
  exact PySem.W.callWith_K0 I.kIn kp (run_makeG (us := []) (ws := []) (dl := []) b V I .nil sr rfl rfl pp)
end
/-! ### properties -/
structure VProp (X : Cx) (g : Gi) (c : Nat) (f : Str) (F : Fn) : Prop where
  ex : ∃ (k : Nat) (p q : Addr) (fd : FuncData) (ps : List Str), FnG X.prog X.w X.K X.mg X.base k q fd ps (spD g ps.length F) ∧ Room (k + 1) X.A ∧ PropOf X.K (g.ca c) f p q ∧ Binds X.K fd ps [] ∧ ps.length = 1
  cl : g.isC c = true
/-- e.f by the getter of the class c -/
def fProp (c : Nat) (F : Fn) (x : Vl) (h : Hc) : R Vl := match ins? c x h, x with
  | some _, .d od => (match F [od] h with
    | .ok d h' => .ok (.d d) h'
    | _ => .stuck)
  | _, _ => .stuck
section
variable {X : Cx} {g : Gi} {B : Bg} {W : WXv} {pos : Pos} {e : Expr} {F : Fn} {c : Nat} {f : Str} {m : ME}
theorem ve_prop (b : Bd X g W) (V : VProp X g c f F) (he : PE X e (tE g B W m)) (hab : attributeBase e f X.env (eval e X.env) = eval e X.env := by rfl) : PE X (.Attribute e f pos) (tE g B W (m1 (fProp c F) m)) := by
  obtain ⟨k, p, q, fd, ps, FG, hr, hp, hb, hps⟩ := V.ex
  have cl : Cls X.K (g.ca c) := b.K ▸ (b.G.cls c V.cl).cl
  refine ⟨fun pins s σ H Q I h => ?_⟩
  obtain ⟨env, st, sr, pp⟩ := h
  refine attr_of hab (thn (he.run pins s σ H _ I (bindE (Q := Q) sr pp)) fun u s1 ⟨v, H1, I1, rx, st1, ox, sr1, ev1, r1, p1⟩ => ?_)
  unfold fProp at p1
  split at p1
  · next fs od ei =>
    obtain ⟨a, dx, vs, od', rfl, ex, hH, hf⟩ := ins_rep sr1.good r1 ei
    cases ex
    obtain rfl : u = Value.ref a := rx
    obtain ⟨mA, O, _, _, _, _⟩ := ins_get I1.hok hH
    obtain ⟨od2, J, _⟩ := O.look
    obtain ⟨rest, hrec⟩ := hp.rec_
    have I2 := I1.tok (s1.toks + 1)
    have hc : (PySem.W.clsIn X.K (g.ca c)).isSome = true := by
      obtain ⟨cd, hc, _⟩ := PySem.W.any_some cl.hd
      rw [hc]
      rfl
    have hsp : spD g ps.length F [.ref a] H1 Q (fun _ _ _ => False) := by
      refine ⟨st1, [od], hps.symm, sr1.good, Reps.cons (show Rep g st1.F st1.al od (.ref a) from r1) Reps.nil, ?_⟩
      cases eF : F [od] st1.h with
      | ok d h =>
        rw [eF] at p1
        intro v H' s' e1 ev gd rr
        exact p1 v H' s' e1 ev (sr1.call ev gd) rr
      | exc y h => rw [eF] at p1; exact p1.elim
      | stuck => rw [eF] at p1; exact p1.elim
    refine PySem.W.get_bind I1.kIn J (PySem.W.plainGet_of (cl.get f)).1 (PySem.W.findObj_data hc hp.at_ hp.get hp.tak) (PySem.W.plainGet_of (cl.get f)).2 (wpAny_call (PySem.W.prop_get (s := { s1 with toks := s1.toks + 1 }) I1.kIn hrec ?_))
    refine codeAny_mono (FG.run X.A.in1 X.stack { s1 with toks := s1.toks + 1 } H1 ⟨[.ref a], []⟩ [.ref a] [.ref a] Q (fun _ _ _ => False) hr.in1 b.gd I2.env0.in1 (by
      have z := hb { s1 with toks := s1.toks + 1 } [.ref a] I2.kIn (by rw [hps]; rfl)
      simpa using z) (.cons rfl .nil) hsp) ?_
    intro r s' hq
    cases r with
    | error er =>
      obtain ⟨_, _, _, _, _, _, _, _, _, _, _, _, ff⟩ := hq
      exact ff.elim
    | ok fl =>
      cases fl with
      | ret u =>
        obtain ⟨v, H', I3, rv, q3⟩ := I2.after hq
        show wpAny _ _ (handedOut u) _ _ _
        rw [PySem.W.handedOut_of (handed_of rv)]
        exact wpAny_pure ⟨v, H', I3, rv, q3⟩
      | next => exact False.elim hq
      | brk => exact False.elim hq
      | cont => exact False.elim hq
  · exact p1.elim
end
end Vi

set_option Elab.async false
set_option linter.all false
set_option maxRecDepth 100000
set_option maxHeartbeats 2000000
namespace Vi
open PySem L2 PyProof.Rows

/-! ### own exceptions with an own __init__ -/
/-- __init__'s promise: its fields, as the arguments give them -/
def spE (C : Addr) (n : Nat) (fs : List L2.V → List (Str × L2.V)) : Sp := fun vs H Q _ => ∃ (a : Addr) (ws : List L2.V) (H0 : Hp), vs = .ref a :: ws ∧ ws.length = n ∧ H0 a = none ∧ H = upd H0 a (exo a C none) ∧
  ∀ (dx : Addr) (H2 : Hp), H0 dx = none → dx ≠ a → H2 a = some (exo a C (some dx)) → H2 dx = some (exd dx (fs ws)) → (∀ b, b ≠ a → b ≠ dx → H2 b = H0 b) → Q .non H2
structure VExc (X : Cx) (g : Gi) (x : Str) (c n : Nat) (mk : List D → List (Str × D)) : Prop where
  ex : ∃ (k : Nat) (fI : Addr) (fd : FuncData) (ps : List Str) (fs : List L2.V → List (Str × L2.V)), OexC X.K (g.ca c) ∧ PySem.W.findIn X.K (.ref (g.ca c)) "__init__" = some (some (.ref fI)) ∧ PySem.W.typeIn X.K (.ref fI) = some (.type "function") ∧
    FnOk X.prog X.w X.K X.mg X.base (L2.CX X.prog X.w) k fI fd ps (spE (g.ca c) n fs) ∧ Room (k + 1) X.A ∧ Binds X.K fd ps [] ∧ X.mg x = some (.ref (g.ca c)) ∧ n ≤ 1000 ∧
    (∀ F al ds ws, Reps g F al ds ws → ds.length = n → RepF g F al (mk ds) (fs ws))
def mRaise (c n : Nat) (mk : List D → List (Str × D)) (A : MA) : MS := fun env h => (A env h).thenS env fun xs h' => if xs.length = n then (match datas xs with
  | some ds => .exc env (.obj c (mk ds)) h'
  | none => .stuck) else .stuck
section
variable {X : Cx} {g : Gi} {B : Bg} {W : WXv} {pos p pos' : Pos} {e : Expr} {es : List Expr} {A : MA} {n c : Nat} {x : Str} {mk : List D → List (Str × D)}
theorem vs_raise (b : Bd X g W) (w : VExc X g x c n mk) (hg : Gl X x) (ha : PA X (e :: es) (tA g B W A)) (hdb : (x == ("__debug__" : Str)) = false := by decide)
    (he : starEach (e :: es) X.env = (false, eval e X.env) :: starEach es X.env := by rfl) (hpl : (backTo pos' (starEach es X.env)).any (·.1) = false := by rfl) :
    PS X (.Raise (some (.Call (.Name x p) (e :: es) [] pos')) none pos) (tS g B W (mRaise c n mk A)) := by
  obtain ⟨k, fI, fd, ps, fs, T, iC, tI, F1, hr, hb, hm, hn, hmk⟩ := w.ex
  refine ps_imp (ps_raise b.calm b.tk (pmk_oex (dvs := []) (ds := []) (sp := spE (g.ca c) n fs) T iC tI F1 hr hb .nil (passes_call (E := fun _ _ _ => False) b.tk fun _ _ _ _ z => z.elim) hg hm ha hdb he hpl)) fun N σ H ⟨env, st, sr, pp⟩ => ?_
  refine tA.mono (bindSA (N := N) sr pp) ?_
  rintro vs H1 ⟨s1, xs, sr1, le1, r1, p1⟩
  by_cases hl : xs.length = n
  · rw [if_pos hl] at p1
    cases e1 : datas xs with
    | none => rw [e1] at p1; exact p1.elim
    | some ds =>
      rw [e1] at p1
      refine ⟨by rw [r1.length, hl]; exact hn, fun a ea => ⟨a, vs ++ [], H1, rfl, by rw [List.append_nil, r1.length, hl], ea, rfl, fun dx H2 nd ne h1 h2 hk => ⟨rfl, dx, _, h1, h2, nd, ?_⟩⟩⟩
      have eH : upd (del H2 a) dx (.xd (fs (vs ++ []))) = upd H1 dx (.xd (fs (vs ++ []))) := by
        funext z
        by_cases q1 : z = dx
        · rw [q1, upd_same, upd_same]
        · rw [upd_ne q1, upd_ne q1]
          by_cases q2 : z = a
          · rw [q2, del_same, ea]
          · rw [del_ne q2, hk z q2 q1]
      rw [eH]
      obtain ⟨sr2, ev2⟩ := sr1.new (o := .xd (fs (vs ++ []))) nd
      refine p1 (.ref (g.ca c)) (some dx) σ _ s1 rfl (Le.refl _) sr2 ⟨dx, _, rfl, rfl, upd_same, (sr1.own_new nd).al, ?_⟩
      rw [List.append_nil]
      exact hmk _ _ _ _ (r1.datas e1) (by rw [datas_length e1, hl])
  · rw [if_neg hl] at p1
    exact p1.elim
end
/-- an __init__ of two stores: self.f1 = p, self.f2 = 'l' -/
theorem fn_E {P : Program} {w : World} {K : PySem.W.Frag} {mg : Str → Option Value} {base : Heap} {x qual : Str} {params : Arguments} {scope : Scope} {f : Addr} {fd : FuncData} {k : Nat} {C : Addr} {self p1 f1 f2 lit : Str} {q1 q2 q3 q4 q5 q6 q7 q4' : Pos} {j : Nat}
    (F : FunD K x qual params [.Assign [.Attribute (.Name self q1) f1 q2] (.Name p1 q3) q4, .Assign [.Attribute (.Name self q5) f2 q6] (.Constant (.str lit) j q7) q4'] scope [] [] f fd) (S : FnScope [self, p1] [self, p1] scope)
    (T : OexC K C) (n1 : PySem.W.findIn K (.ref C) f1 = some none) (n2 : PySem.W.findIn K (.ref C) f2 = some none)
    (v0 : Vis scope self) (v1 : Vis scope p1)
    (d0 : (self == ("__debug__" : Str)) = false) (d0c : (self == ("__classdict__" : Str)) = false) (d1 : (p1 == ("__debug__" : Str)) = false) (d1c : (p1 == ("__classdict__" : Str)) = false) :
    FnOk P w K mg base (L2.CX P w) (k + 1) f fd [self, p1] (spE C 1 fun ws => match ws with
      | [v] => [(f2, .str lit), (f1, v)]
      | _ => []) := by
  refine F.ok S (fun vs H Q E h => ?_) ?_
  · obtain ⟨a, ws, H0, rfl, hl, _⟩ := h
    rw [List.length_cons, hl]
    rfl
  · intro cdv A outer s H vs Q E hr h
    obtain ⟨a, ws, H0, rfl, hl, ha, rfl, q⟩ := h
    obtain ⟨v, rfl⟩ : ∃ v, ws = [v] := by
      cases ws with
      | nil => cases hl
      | cons v r => cases r with
        | nil => exact ⟨v, rfl⟩
        | cons _ _ => cases hl
    refine ⟨_, pss_cons (ps_ost (pe_var (i := 0) rfl v0 d0 d0c) (pe_var (i := 1) rfl v1 d1 d1c)) (pss_cons (ps_ost (pe_var (i := 0) rfl v0 d0 d0c) pe_str) pss_nil), ?_⟩
    refine ⟨v, rfl, .ref a, rfl, a, C, rfl, T, n1, .inl ⟨upd_same, fun dx hd ne => ?_⟩⟩
    have hd0 : H0 dx = none := by rw [upd_ne ne] at hd; exact hd
    refine ⟨.ref a, rfl, a, C, rfl, T, n2, .inr ⟨dx, [(f1, v)], upd_same, ?_, Nat.le_of_ble_eq_true rfl, ?_⟩⟩
    · rw [upd_ne ne, upd_same]
    · refine q dx _ hd0 ne ?_ upd_same fun z z1 z2 => ?_
      · rw [upd_ne ne.symm, upd_same]
      · rw [upd_ne z2, upd_ne z1, upd_ne z2, upd_ne z1]
end Vi

set_option Elab.async false
set_option linter.all false
set_option maxRecDepth 100000
set_option maxHeartbeats 2000000
namespace Vi
open PySem PySem.W PySem.Calls L2 PyProof.Rows

/-! ### isinstance of a caught error that has its dict -/
section
variable {prog : Program} {w : World} {A : Around} {E : Value → Shared → Prop} {s : Shared} {K : Frag} {x Dc : Addr} {ox od : Obj}
theorem cls_of_exc {Q : Option Value → Shared → Prop} (C : L2.ExcC K Dc) (X : K.In s.heap) (I : InstAt s.heap x ox Dc (some od)) (q : Q (some (.ref Dc)) { s with toks := s.toks + 1 }) :
    wpAny (model prog w) A (getAttr? (.ref x) "__class__") Q E s := by
  obtain ⟨hga, hgt, hsub, hdct, ha, hn, htk, hm⟩ := C
  have hcs : (clsIn K Dc).isSome = true := by
    obtain ⟨cd, hc, _⟩ := any_some hdct
    rw [hc]
    rfl
  have hf := findObj_data (od := od) hcs ha hn htk
  obtain ⟨h0, gs, dr, tk, oss⟩ := s
  have ty := I.type (M := model prog w)
  have l1 := looks_findIn (M := model prog w) X hga
  have l2 := looks_findIn (M := model prog w) X hgt
  have l3 := looks_find (M := model prog w) X I hf
  have ne : (Value.builtin "BaseException.__getattribute__" == Value.builtin "object.__getattribute__") = false := by decide +kernel
  have g0 : (onTheHeap (Value.ref Dc) && Value.builtin "BaseException.__getattribute__" == Value.builtin "object.__getattribute__") = false := by
    rw [ne]
    rfl
  have g1 : (false && onTheHeap (Value.builtin "BaseException.__getattribute__")) = false := rfl
  unfold getAttr? getAttrBy? getAttrBy
  refine wpAny_bind (wpAny_mkText (wpAny_bind ?_))
  refine wpAny_attempt (wpAny_holding (wpAny_bind (ty.at ?_)))
  refine wpAny_bind (l1.at ?_)
  show wpAny _ _ (if (onTheHeap (Value.ref Dc) &&
    Value.builtin "BaseException.__getattribute__" == Value.builtin "object.__getattribute__") = true then _ else _) _ _ _
  rw [g0, if_neg (by decide)]
  unfold getAttrByItsOwn hookBefore
  refine wpAny_bind ?_
  rw [if_pos (show onTheHeap (Value.ref Dc) = true by rfl)]
  refine l2.at (wpAny_bind (wpAny_attempt (wpAny_holding ?_)))
  unfold callGetattribute
  rw [g1, if_neg (by decide)]
  unfold boundAndCalled
  rw [F.excAttr_ValueError.ga.bind (.ref x)]
  refine wpAny_bind (wpAny_pure ?_)
  show wpAny _ _ (call (.builtin "BaseException.__getattribute__") [.ref x, .str "__class__" tk]) _ _ _
  refine wpAny_call ?_
  refine codeAny_call_builtin F.excAttr_ValueError.ga.plain F.entry_bexc_ga ?_
  have sb : Looks (model prog w) h0 (isInstance (.ref x) (.type "BaseException")) true := ty.andThen (looks_subIn X hsub)
  refine @check_slot (model prog w) _ _ ⟨h0, gs, dr, tk + 1, oss⟩ "BaseException.__getattribute__" "BaseException"
    "__getattribute__" (.ref x) [.str "__class__" tk] [] _ (by decide +kernel) (by decide +kernel) sb (F.args_bexc_ga (.ref x) (.str "__class__" tk)) ?_
  unfold Builtin.«object.__getattribute__»
  refine wpAny_bind (wpAny_of_eq (a := ((Value.ref x : Value), [Value.str "__class__" tk])) (by first | rfl | (simp only [slotArgs]; rfl)) ?_)
  refine wpAny_bind (wpAny_pure (wpAny_bind (ty.at (wpAny_bind (l3.at ?_)))))
  show wpAny _ _ (holding [Value.builtin "object.__class__"] (call (.builtin "getset_descriptor.__get__") _) >>= ret) _ _ _
  refine wpAny_bind (wpAny_holding (wpAny_call ?_))
  refine class_get (s := ⟨h0, gs, dr, tk + 1, oss⟩) (ox := ox) (od := some od) X I hm ?_
  refine wpAny_pure ?_
  show wpAny _ _ (handedOut (.ref Dc)) _ _ _
  rw [handedOut_of (v := .ref Dc) rfl]
  first
    | exact wpAny_pure (wpAny_pure q)
    | exact wpAny_pure q
    | exact wpAny_pure (wpAny_bind (wpAny_pure (wpAny_pure q)))
theorem kit_exc (C : L2.ExcC K Dc) : KitX K (.ref x) (.ref Dc) (fun h => InstAt h x ox Dc (some od)) := by
  obtain ⟨cd, hc, _⟩ := any_some C.hd
  unfold clsIn at hc
  split at hc
  · rename_i c' d' cd' sl' ho
    refine ⟨fun _ _ _ I => I.type, fun _ _ X _ => ?_, fun h tp dd its n sl X htp => Bool.eq_false_iff.mpr fun q => ?_, fun X I k => cls_of_exc C X I k⟩
    · intro A' Q' E' s' k q
      unfold isType loadHead
      exact wpAny_bind (wpAny_loadPart (k _ _ (X _ _ ho)) (wpAny_pure q))
    · obtain rfl : Dc = tp := Value.ref.inj (beq_iff_eq.mp q)
      cases (X _ _ ho).symm.trans htp
  · cases hc
end
theorem ty_val {g : Gi} (t : Ty) : ∀ u, RelV (t.v g) u → u = t.val g := fun u r => by
  cases t with
  | bt n => exact r
  | own c => exact r
/-! ### the except suite -/
/-- the context of a suite that holds an exception of the class c -/
structure Su (X : Cx) (g : Gi) (B : Bg) : Prop where
  ex : ∃ (X0 : Cx) (oe : Obj) (pn : List (Addr × Obj)), X = X0.suite B.xa ((B.xa, oe) :: pn) ∧ Zc (.ref (g.ca B.xcl)) (some B.xd) oe ∧ (∃ vs, oe.data = .fields vs)
  G : GiOk g
  K : g.K = X.K
/-- the classes of errors: their fields may be read, isinstance may ask -/
structure XcOk (g : Gi) (xs : Nat → Bool) (no : Nat → Str → Bool) : Prop where
  xf : ∀ c, xs c = true → XfC g.K (g.ca c) ∧ L2.ExcC g.K (g.ca c)
  no : ∀ c f, no c f = true → PySem.W.findIn g.K (.ref (g.ca c)) f = some none
def mIsX (g : Gi) (xs : Nat → Bool) (t : Ty) (i : Nat) : ME := fun env h => match env[i]? with
  | some (some (.xc c _)) => if xs c then (match g.isi (.own c) t with
    | some b => .ok (.d (.bl b)) h
    | none => .stuck) else .stuck
  | _ => .stuck
def mXf (xs : Nat → Bool) (no : Nat → Str → Bool) (f : Str) (i : Nat) : ME := fun env h => match env[i]? with
  | some (some (.xc c fs)) => if xs c && no c f then (match fs.lookup f with
    | some d => .ok (.d d) h
    | none => .stuck) else .stuck
  | _ => .stuck
section
variable {X : Cx} {g : Gi} {B : Bg} {W : WXv} {pos p : Pos} {x : Str} {xs : Nat → Bool} {no : Nat → Str → Bool} {c : Expr}
theorem isx_call (S : Su X g B) (T : L2.ExcC X.K (g.ca B.xcl)) {σ : L2.St} {H : Hp} {s : Shared} {pins : List (Addr × Obj)} {Q : VK} {v : L2.V} {cv : Value} {us : List Value} {b : Bool} (I : Inv X pins σ H s) (r : Vals [.ref B.xa, v] us) (hcv : ∀ u, RelV v u → u = cv)
    {vs : List (Str × L2.V)} (hd : H B.xd = some (.xd vs)) (e : PySem.W.kitOne X.K (.ref (g.ca B.xcl)) cv = some b) (q : Q (.bl b) H) : wpAny (model X.prog X.w) X.A (PySem.call (.builtin "isinstance") us) (EP X pins σ Q) X.xe s := by
  obtain ⟨X0, oe, pn, rfl, hz, hv⟩ := S.ex
  cases r with
  | cons rx rr =>
    cases rr with
    | cons rt rr =>
      cases rr
      cases rx
      have ec := hcv _ rt
      subst ec
      obtain ⟨hget, _⟩ := I.pin (B.xa, oe) (List.mem_append.mpr (.inl List.mem_cons_self))
      obtain ⟨ws, hw⟩ := hv
      have hx : ObjOk X0.prog X0.w H s.heap B.xd (.xd vs) := I.hok _ _ hd
      obtain ⟨mA, hns, hr⟩ := hx
      obtain ⟨oD, ho, _⟩ := lookIn_ns hns
      have J : PySem.W.InstAt s.heap B.xa oe (g.ca B.xcl) (some oD) := ⟨hget, hz.1, by unfold PySem.W.notCls; rw [hw] <;> rfl, by rw [hz.2]; exact ho⟩
      exact PySem.W.kia_one (kit_exc T) I.kIn J e (fun z => nomatch z) fun tk => ⟨.bl b, H, I.kept (t' := tk) fun _ _ z => z, rfl, q⟩
theorem ve_isx (S : Su X g B) (o : XcOk g xs no) (t : Ty) (i : Nat) (hN : X.N[i]? = some x) (hv : Vis X.env.scope x) (hg : Gl X "isinstance") (hm : X.mg "isinstance" = none) (hc : PE X c (tC (t.v g)))
    (hd : (x == ("__debug__" : Str)) = false := by decide) (hcd : (x == ("__classdict__" : Str)) = false := by decide)
    (hs : starEach [.Name x p, c] X.env = (false, eval (.Name x p) X.env) :: starEach [c] X.env := by rfl) (hpl : (backTo pos (starEach [c] X.env)).any (·.1) = false := by rfl) (hs2 : starEach [c] X.env = (false, eval c X.env) :: starEach [] X.env := by rfl) :
    PE X (.Call (.Name "isinstance" p1) [.Name x p, c] [] pos) (tE g B W (mIsX g xs t i)) := by
  have call : CallR X (.builtin "isinstance") (fun ws H Q => ∃ (v : L2.V) (cv : Value) (b : Bool) (vs : List (Str × L2.V)), ws = [.ref B.xa, v] ∧ (∀ u, RelV v u → u = cv) ∧ L2.ExcC X.K (g.ca B.xcl) ∧ H B.xd = some (.xd vs) ∧ PySem.W.kitOne X.K (.ref (g.ca B.xcl)) cv = some b ∧ Q (.bl b) H) := by
    intro pins s σ H ws us Q I r ⟨v, cv, b, vs, e1, e2, T, e3, e4, q⟩
    subst e1
    exact isx_call S T I r e2 e3 e4 q
  refine pe_imp (pe_callB call hg hm (by decide +kernel) (pa_cons (pe_var hN hv hd hcd) (pa_cons hc pa_nil hs2) hs) (by decide) (by decide) hs hpl) fun σ H Q ⟨env, s, sr, pp⟩ => ?_
  unfold mIsX at pp
  split at pp
  · next c' fs he =>
    split at pp
    · next hx =>
      split at pp
      · next b hb =>
        obtain ⟨v, h1, h2⟩ := sr.slot i _ he
        obtain ⟨rfl, rfl, vs, h3, h4, h5⟩ := h2
        exact ⟨_, h1, t.v g, t.val g, b, vs, rfl, ty_val t, S.K ▸ (o.xf _ hx).2, h3, S.K ▸ S.G.isi _ _ _ hb, PostE.pure sr pp rfl⟩
      · exact pp.elim
    · exact pp.elim
  · exact pp.elim
theorem ve_xf (S : Su X g B) (o : XcOk g xs no) (f : Str) (i : Nat) (hN : X.N[i]? = some x) (hv : Vis X.env.scope x) (hd : (x == ("__debug__" : Str)) = false := by decide) (hcd : (x == ("__classdict__" : Str)) = false := by decide)
    (hb : attributeBase (.Name x p) f X.env (eval (.Name x p) X.env) = eval (.Name x p) X.env := by rfl) : PE X (.Attribute (.Name x p) f pos) (tE g B W (mXf xs no f i)) := by
  obtain ⟨X0, oe, pn, rfl, hz, hw⟩ := S.ex
  refine ⟨fun pins s σ H Q I h => ?_⟩
  obtain ⟨env, st, sr, pp⟩ := h
  unfold mXf at pp
  split at pp
  · next c' fs he =>
    split at pp
    · next hx =>
      obtain ⟨hx1, hx2⟩ := Bool.and_eq_true_iff.mp hx
      split at pp
      · next d hl =>
        obtain ⟨v, h1, h2⟩ := sr.slot i _ he
        obtain ⟨rfl, rfl, vs, h3, h4, h5⟩ := h2
        obtain ⟨w, w1, w2⟩ := h5.lookup hl
        exact (pe_xf (cls := .ref (g.ca B.xcl)) (d := some B.xd) (S.K ▸ (o.xf _ hx1).1) (S.K ▸ o.no _ _ hx2) hz hw (pe_var hN hv hd hcd) hb).run pins s σ H Q I ⟨.ref B.xa, h1, rfl, rfl, B.xd, vs, w, rfl, h3, w1, PostE.pure sr pp w2⟩
      · exact pp.elim
    · exact pp.elim
  · exact pp.elim
end
end Vi

set_option Elab.async false
set_option linter.all false
set_option maxRecDepth 100000
set_option maxHeartbeats 2000000
namespace Vi
open PySem L2 PyProof.Rows

def noX (env : Env) : Bool := env.all fun o => match o with
  | some (.xc _ _) => false
  | _ => true
/-- behind the suite: the name is gone -/
def unX (i : Nat) : RS → RS
  | .nx env h => if noX (env.set i none) then .nx (env.set i none) h else .stuck
  | .brk env h => if noX (env.set i none) then .brk (env.set i none) h else .stuck
  | .cnt env h => if noX (env.set i none) then .cnt (env.set i none) h else .stuck
  | .ret d h => .ret d h
  | .exc _ _ _ => .stuck
  | .stuck => .stuck
def mTry (i : Nat) (cat : Nat → Option Bool) (mb ms : MS) : MS := fun env h => match mb env h with
  | .exc env' (.obj c fs) h' => (match cat c with
    | some true => if noX (env'.set i none) && decide (i < env'.length) then unX i (ms (env'.set i (some (.xc c fs))) h') else .stuck
    | some false => .exc env' (.obj c fs) h'
    | none => .stuck)
  | .exc _ _ _ => .stuck
  | r => r
theorem noX_get {env : Env} (h : noX env = true) {i : Nat} {sl : Sl} (e : env[i]? = some (some sl)) : ∀ c fs, sl ≠ .xc c fs := fun c fs q => by
  subst q
  have m := List.mem_of_getElem? e
  have z := List.all_eq_true.mp h _ m
  cases z
section
variable {g : Gi} {B : Bg} {W : WXv} {env : Env} {s s' : Sta} {σ : L2.St} {H H' : Hp} {i : Nat}
abbrev Bg.catch (B : Bg) (a d : Addr) (c : Nat) : Bg := { B with xa := a, xd := d, xcl := c }
theorem SlRep.bg {a d : Addr} {c : Nat} {sl : Sl} {v : L2.V} (n : ∀ c fs, sl ≠ .xc c fs) : SlRep g B s H sl v ↔ SlRep g (B.catch a d c) s H sl v := by
  cases sl with
  | d x => exact Iff.rfl
  | ol xs => exact ⟨fun ⟨a, vs, h1, h2, h3, h4⟩ => ⟨a, vs, h1, h2, ⟨h3.f, h3.al, h3.new⟩, h4⟩, fun ⟨a, vs, h1, h2, h3, h4⟩ => ⟨a, vs, h1, h2, ⟨h3.f, h3.al, h3.new⟩, h4⟩⟩
  | oi c fs => exact ⟨fun ⟨a, dx, vs, h1, h2, h3, h4⟩ => ⟨a, dx, vs, h1, h2, ⟨h3.f, h3.al, h3.new⟩, h4⟩, fun ⟨a, dx, vs, h1, h2, h3, h4⟩ => ⟨a, dx, vs, h1, h2, ⟨h3.f, h3.al, h3.new⟩, h4⟩⟩
  | xc c fs => exact absurd rfl (n c fs)
theorem SR.unset (sr : SR g B env s σ H) : SR g B (env.set i none) s (σ.set i none) H := by
  have f : ∀ {j : Nat} {sl : Sl}, (env.set i none)[j]? = some (some sl) → i ≠ j ∧ env[j]? = some (some sl) := fun {j sl} h => by
    by_cases e : i = j
    · subst e
      by_cases hi : i < env.length
      · rw [List.getElem?_set_self hi] at h
        cases h
      · rw [List.getElem?_eq_none (by rw [List.length_set]; omega)] at h
        cases h
    · rw [List.getElem?_set_ne e] at h
      exact ⟨e, h⟩
  refine ⟨sr.good, sr.evo, by rw [List.length_set, List.length_set]; exact sr.len, fun j sl h => ?_, fun j k sl1 sl2 u hjk h1 h2 o1 o2 h3 h4 => ?_⟩
  · obtain ⟨e, h⟩ := f h
    rw [List.getElem?_set_ne e]
    exact sr.slot j sl h
  · obtain ⟨e1, h1⟩ := f h1
    obtain ⟨e2, h2⟩ := f h2
    rw [List.getElem?_set_ne e1] at h3
    rw [List.getElem?_set_ne e2] at h4
    exact sr.sep j k sl1 sl2 u hjk h1 h2 o1 o2 h3 h4
theorem SR.bg {a d : Addr} {c : Nat} (n : noX env = true) (sr : SR g B env s σ H) : SR g (B.catch a d c) env s σ H :=
  ⟨sr.good, sr.evo, sr.len, fun j sl h => by
    obtain ⟨v, h1, h2⟩ := sr.slot j sl h
    exact ⟨v, h1, (SlRep.bg (noX_get n h)).mp h2⟩, sr.sep⟩
theorem SR.unbg {a d : Addr} {c : Nat} (n : noX env = true) (sr : SR g (B.catch a d c) env s σ H) : SR g B env s σ H :=
  ⟨sr.good, sr.evo, sr.len, fun j sl h => by
    obtain ⟨v, h1, h2⟩ := sr.slot j sl h
    exact ⟨v, h1, (SlRep.bg (noX_get n h)).mpr h2⟩, sr.sep⟩
theorem SR.setX {c : Nat} {fs : List (Str × D)} {v : L2.V} (hi : i < env.length) (sr : SR g B (env.set i none) s (σ.set i none) H) (r : SlRep g B s H (.xc c fs) v) : SR g B (env.set i (some (.xc c fs))) s (σ.set i (some v)) H := by
  have f : ∀ {j : Nat} {sl : Sl}, i ≠ j → (env.set i (some (.xc c fs)))[j]? = some (some sl) → (env.set i none)[j]? = some (some sl) := fun {j sl} e h => by
    rw [List.getElem?_set_ne e] at h
    rw [List.getElem?_set_ne e]
    exact h
  have hl : (env.set i none).length = (σ.set i none).length := sr.len
  rw [List.length_set, List.length_set] at hl
  refine ⟨sr.good, sr.evo, by rw [List.length_set, List.length_set]; exact hl, fun j sl h => ?_, fun j k sl1 sl2 u hjk h1 h2 o1 o2 h3 h4 => ?_⟩
  · by_cases e : i = j
    · subst e
      rw [List.getElem?_set_self hi] at h
      cases h
      exact ⟨v, List.getElem?_set_self (hl ▸ hi), r⟩
    · have z := sr.slot j sl (f e h)
      rw [List.getElem?_set_ne e] at z
      rw [List.getElem?_set_ne e]
      exact z
  · have ne : ∀ {j : Nat} {sl : Sl}, (env.set i (some (.xc c fs)))[j]? = some (some sl) → sl.own = true → i ≠ j := fun {j sl} h o e => by
      subst e
      rw [List.getElem?_set_self hi] at h
      cases h
      cases o
    have n1 := ne h1 o1
    have n2 := ne h2 o2
    refine sr.sep j k sl1 sl2 u hjk (f n1 h1) (f n2 h2) o1 o2 ?_ ?_
    · rw [List.getElem?_set_ne n1] at h3
      rw [List.getElem?_set_ne n1]
      exact h3
    · rw [List.getElem?_set_ne n2] at h4
      rw [List.getElem?_set_ne n2]
      exact h4
end
/-- which classes the clause takes -/
structure Catch (X : Cx) (g : Gi) (x : Str) (cat : Nat → Option Bool) : Prop where
  ex : ∃ cv : Value, Names X x cv ∧ ∀ c b, cat c = some b → PySem.W.exmOne X.K (.ref (g.ca c)) cv = some b
section
variable {X : Cx} {g : Gi} {B : Bg} {W : WXv} {x n : Str} {i : Nat} {body suite : List Stmt} {b₀ : Stmt} {np pos pos' : Pos} {mb ms : MS} {cat : Nat → Option Bool}
theorem vs_try (b : Bd X g W) (hs : X.stack = X.env :: X.outer) (hf : X.env.frame = some X.env.locals) (hN : X.N.Nodup) (hi : X.N[i]? = some n) (hln : X.env.kindOf n = some .local) (C : Catch X g x cat)
    (hb : ∀ (W' : WXv) (pn : List (Addr × Obj)) (xe : Value → Shared → Prop), Bd (X.tr pn xe) g W' → PSs (X.tr pn xe) body (tS g B W' mb))
    (hsu : ∀ (a d : Addr) (c : Nat) (oe : Obj) (pn : List (Addr × Obj)), Su (X.suite a ((a, oe) :: pn)) g (B.catch a d c) → PSs (X.suite a ((a, oe) :: pn)) (b₀ :: suite) (tS g (B.catch a d c) (fun _ _ _ _ => False) ms)) :
    PS X (.Try body [.ExceptHandler (some (.Name x np)) (some n) (b₀ :: suite) pos'] [] [] pos) (tS g B W (mTry i cat mb ms)) := by
  obtain ⟨cv, hc, hcat⟩ := C.ex
  refine ps_imp (ps_try_as (tb := fun W' => tS g B W' mb) (ts := fun a cls d N σ H => ∃ (c : Nat) (dd : Addr), cls = .ref (g.ca c) ∧ d = some dd ∧ tS g (B.catch a dd c) (fun _ _ _ _ => False) ms N σ H) (Wout := W) hs hf hN hi hln hc b.tk
    (fun W' pn xe tk ps => hb W' pn xe ⟨b.G, b.K, b.calm, b.gd, tk, ps, b.un⟩) fun a oe cls d pn hz hv => ⟨fun pins s σ H N I h => ?_⟩) fun N σ H ⟨env, st, sr, pp⟩ => ⟨env, st, sr, ?_⟩
  · obtain ⟨c, dd, rfl, rfl, h⟩ := h
    exact (hsu a dd c oe pn ⟨⟨X, oe, pn, rfl, hz, hv⟩, b.G, b.K⟩).run pins s σ H N I h
  · unfold mTry at pp
    cases e : mb env st.h with
    | nx env' h => rw [e] at pp; exact pp
    | ret d h => rw [e] at pp; exact pp
    | brk env' h => rw [e] at pp; exact pp
    | cnt env' h => rw [e] at pp; exact pp
    | stuck => rw [e] at pp; exact pp.elim
    | exc env' y h =>
      rw [e] at pp
      cases y with
      | obj c fs =>
        intro cls dd σ' H' s' e1 le sr' xr
        obtain ⟨d, vs, rfl, rfl, hd, hal, hr⟩ := xr
        cases ec : cat c with
        | none => simp only [ec] at pp; exact pp.elim
        | some q =>
          cases q with
          | false =>
            simp only [ec] at pp
            exact ⟨false, hcat c false ec, fun z => (by cases z), fun _ => pp (.ref (g.ca c)) (some d) σ' H' s' e1 le sr' ⟨d, vs, rfl, rfl, hd, hal, hr⟩⟩
          | true =>
            simp only [ec] at pp
            by_cases hq : (noX (env'.set i none) && decide (i < env'.length)) = true
            · rw [if_pos hq] at pp
              obtain ⟨q1, q2⟩ := Bool.and_eq_true_iff.mp hq
              refine ⟨true, hcat c true ec, fun _ a ha => ⟨c, d, rfl, rfl, ?_⟩, fun z => (by cases z)⟩
              refine ⟨_, s', (sr'.unset.bg (a := a) (d := d) (c := c) q1).setX (of_decide_eq_true q2) ⟨rfl, rfl, vs, hd, hal, hr⟩, ?_⟩
              rw [e1]
              have back : ∀ {env2 : Env} {σ2 : L2.St} {H2 : Hp} {s2 : Sta}, noX (env2.set i none) = true → SR g (B.catch a d c) env2 s2 σ2 H2 → SR g B (env2.set i none) s2 (σ2.set i none) H2 := fun n2 sr2 => SR.unbg (a := a) (d := d) (c := c) n2 sr2.unset
              cases em : ms (env'.set i (some (.xc c fs))) h with
              | nx env2 h2 =>
                rw [em] at pp
                unfold unX at pp
                by_cases n2 : noX (env2.set i none) = true
                · simp only [if_pos n2] at pp
                  exact fun σ2 H2 s2 e2 le2 sr2 => pp (σ2.set i none) H2 s2 e2 (le.trans le2) (back n2 sr2)
                · simp only [if_neg n2] at pp
                  exact pp.elim
              | brk env2 h2 =>
                rw [em] at pp
                unfold unX at pp
                by_cases n2 : noX (env2.set i none) = true
                · simp only [if_pos n2] at pp
                  exact fun σ2 H2 s2 e2 le2 sr2 => pp (σ2.set i none) H2 s2 e2 (le.trans le2) (back n2 sr2)
                · simp only [if_neg n2] at pp
                  exact pp.elim
              | cnt env2 h2 =>
                rw [em] at pp
                unfold unX at pp
                by_cases n2 : noX (env2.set i none) = true
                · simp only [if_pos n2] at pp
                  exact fun σ2 H2 s2 e2 le2 sr2 => pp (σ2.set i none) H2 s2 e2 (le.trans le2) (back n2 sr2)
                · simp only [if_neg n2] at pp
                  exact pp.elim
              | ret dr h2 =>
                rw [em] at pp
                exact pp
              | exc env2 y2 h2 => rw [em] at pp; exact pp.elim
              | stuck => rw [em] at pp; exact pp.elim
            · rw [if_neg hq] at pp
              exact pp.elim
      | _ => exact pp.elim
end
end Vi

set_option Elab.async false
set_option linter.all false
set_option maxRecDepth 100000
set_option maxHeartbeats 2000000
namespace Vi
open PySem L2 PyProof.Rows

/-! ### self.f among targets -/
def gtF (g : Gi) (i : Nat) (f : Str) : TgF := fun d env => match env[i]? with
  | some (some (.oi c fs)) => if g.fld c f && decide (fs.length < 1000) then some (env.set i (some (.oi c (putD f d fs)))) else none
  | _ => none
def gAttr (K : PySem.W.Frag) (f : Str) (to : TE) : TG := fun y σ H Q => to σ H fun x H1 => ∃ (a C dx : Addr) (fs : List (Str × L2.V)), x = .ref a ∧ H1 a = some (.ins C dx fs) ∧ Cls K C ∧ NoAttr K C f ∧ fs.length < 1000 ∧ Q σ (upd H1 a (.ins C dx (putF f y fs)))
section
variable {X : Cx} {g : Gi} {pos : Pos} {o : Expr} {to : TE} {f : Str}
theorem pg_attr (ho : PE X o to) : PG X (.Attribute o f pos) (gAttr X.K f to) := by
  refine ⟨fun pins s σ H y u Q I r h => ?_⟩
  rw [assign_Attribute]
  refine wpAny_bind (wpAny_holding (thn (ho.run pins s σ H _ I h) fun ov s2 ⟨x, H2, I2, rx, a, C, dx, fs, ex, ea, c, n, l, q2⟩ => ?_))
  subst ex
  obtain rfl : ov = Value.ref a := rx
  refine wpAny_bind (wpAny_standAt (wpAny_bind (wpAny_holding ?_)))
  exact setattr_ok I2 ea c n l r fun s3 I3 => wpAny_release ⟨σ, _, I3, q2⟩
theorem vg_attr {i : Nat} (G : GiOk g) (hK : g.K = X.K) (ho : PE X o (tVar i)) : TgV X g (.Attribute o f pos) (gtF g i f) := by
  refine ⟨_, pg_attr ho, fun B env env' s σ H d v Q sr r e k => ?_⟩
  unfold gtF at e
  split at e
  · next c fs hx =>
    split at e
    · next hcl =>
      obtain ⟨hc, hl⟩ := Bool.and_eq_true_iff.mp hcl
      cases e
      obtain ⟨w, h1, h2⟩ := sr.slot i _ hx
      obtain ⟨a, dx, vs, rfl, h3, h4, h5, h6⟩ := h2
      obtain ⟨k1, k2⟩ := G.fld c f hc
      exact ⟨_, h1, a, g.ca c, dx, vs, rfl, h3, hK ▸ (G.cls c k1).cl, hK ▸ k2, by rw [h5.length]; exact of_decide_eq_true hl, k σ _ (sr.mut hx rfl h1 h4.f h4.al h4.new ⟨a, dx, _, rfl, upd_same, h4, h5.put r, h6⟩)⟩
    · cases e
  · cases e
end
end Vi

set_option Elab.async false
set_option linter.all false
set_option maxRecDepth 100000
set_option maxHeartbeats 2000000
namespace Vi
open PySem L2 PyProof.Rows

/-! ### own operations -/
/-- a special method of the class c, with n parameters -/
structure VOp (X : Cx) (g : Gi) (c : Nat) (name : Str) (n : Nat) (F : Fn) : Prop where
  ex : ∃ (k : Nat) (f : Addr) (fd : FuncData) (ps : List Str), FnG X.prog X.w X.K X.mg X.base k f fd ps (spD g ps.length F) ∧ Room (k + 1) X.A ∧ PySem.W.findIn X.K (.ref (g.ca c)) name = some (some (.ref f)) ∧ PySem.W.isFn X.K (.ref f) = true ∧ Binds X.K fd ps [] ∧ ps.length = n
  sf : PySem.W.selfFirst X.K (g.ca c) = true
/-- of which classes the operation is known -/
abbrev Tbl := Nat → Option Fn
def VOps (X : Cx) (g : Gi) (name : Str) (n : Nat) (T : Tbl) : Prop := ∀ c F, T c = some F → VOp X g c name n F
def NNI (v : L2.V) : Prop := ∀ u, RelV v u → u ≠ .notImplemented
theorem rep_nni {g : Gi} {F : Hp} {al : Nat → Option Addr} {d : D} {v : L2.V} (h : Rep g F al d v) : NNI v := fun u r e => by
  subst e
  have key : ∀ a : Addr, ¬ RelV (.ref a) .notImplemented := fun a z => by cases z
  cases d with
  | non => rw [show v = _ from h] at r; cases r
  | bl b => rw [show v = _ from h] at r; cases r
  | int i => rw [show v = _ from h] at r; obtain ⟨_, z⟩ := r; cases z
  | str x => rw [show v = _ from h] at r; obtain ⟨_, z⟩ := r; cases z
  | tup xs => obtain ⟨a, vs, rfl, _⟩ := h; exact key a r
  | lst xs => obtain ⟨a, vs, rfl, _⟩ := h; exact key a r
  | kl xs => obtain ⟨a, vs, rfl, _⟩ := h; exact key a r
  | ref n => obtain ⟨a, rfl, _⟩ := h; exact key a r
  | obj c fs => obtain ⟨a, dx, vs, rfl, _⟩ := h; exact key a r
  | cls c => rw [show v = _ from h] at r; exact key _ r
  | dK kvs => obtain ⟨a, vs, rfl, _⟩ := h; exact key a r
  | dT kvs => obtain ⟨a, vs, rfl, _⟩ := h; exact key a r
theorem nni_back {v : L2.V} {u : Value} {Q : Value → Shared → Prop} {s : Shared} (n : NNI v) (r : RelV v u) (q : Q u s) : PySem.W.CmpBack Q u s := by
  have z := n u r
  cases u <;> first | exact absurd rfl z | exact q
section
variable {X : Cx} {g : Gi} {B : Bg} {W : WXv} {env : Env} {st : Sta} {σ : L2.St} {H : Hp} {s : Shared} {pins : List (Addr × Obj)} {c n : Nat} {name : Str} {F : Fn} {Q : VK}
theorem PostE.nni {r : R D} (p : PostE g B W env st σ H (r.bind fun d h' => .ok (.d d) h') Q) : PostE g B W env st σ H (r.bind fun d h' => .ok (.d d) h') (fun v H' => Q v H' ∧ NNI v) := by
  cases r with
  | ok d h => exact fun v H' s' e1 ev sr vr => ⟨p v H' s' e1 ev sr vr, rep_nni (show Rep g s'.F s'.al d v from vr)⟩
  | exc x h => exact p
  | stuck => exact p
/-- the call of the def, at A -/
theorem run_op {f : Addr} {k : Nat} {fd : FuncData} {ps : List Str} {A : Around} {ds : List D} {vs : List L2.V} {us : List Value} (b : Bd X g W) (FG : FnG X.prog X.w X.K X.mg X.base k f fd ps (spD g ps.length F)) (hA : A = X.A ∨ A = X.A.in1) (hr : Room (k + 1) X.A) (hb : Binds X.K fd ps [])
    (I : Inv X pins σ H s) (r : Vals vs us) (hl : vs.length = ps.length) (sr : SR g B env st σ H) (rr : Reps g st.F st.al ds vs) (p : PostE g B W env st σ H ((F ds st.h).bind fun d h' => .ok (.d d) h') Q) :
    wpAny (model X.prog X.w) A (call (.ref f) us) (EP X pins σ Q) X.xe s := by
  have sp := spD_of sr hl rr p
  have bt : BindsTo s fd ⟨us, []⟩ (ps.zip us) := by
    have z := hb s us I.kIn (by rw [List.append_nil, ← r.length]; exact hl)
    rwa [List.append_nil] at z
  have go : codeAny (model X.prog X.w) A (.call (.ref f) ⟨us, []⟩) (CR (L2.CX X.prog X.w) X.stack X.prog X.w H s Q (fun cls d H' => W cls d σ H')) s := by
    rcases hA with rfl | rfl
    · exact FG.run _ X.stack s H ⟨us, []⟩ us vs Q _ (hr.mono (Nat.le_succ k)) b.gd I.env0 bt r sp
    · exact FG.run _ X.stack s H ⟨us, []⟩ us vs Q _ hr.in1 b.gd I.env0.in1 bt r sp
  refine wpAny_call (codeAny_mono go fun r s' hq => ?_)
  cases r with
  | error e => exact passAt b.tk σ pins H s e s' I hq
  | ok fl =>
    cases fl with
    | ret u => exact I.after hq
    | next => exact False.elim hq
    | brk => exact False.elim hq
    | cont => exact False.elim hq
theorem obj_at (G : GiOk g) (sr : SR g B env st σ H) (I : Inv X pins σ H s) {fs : List (Str × D)} {v : L2.V} {u : Value} (h : VlRep g B env σ st H (.d (.obj c fs)) v) (r : RelV v u) : ∃ a ox od, v = .ref a ∧ u = .ref a ∧ PySem.W.InstAt s.heap a ox (g.ca c) (some od) := by
  obtain ⟨a, dx, vs, rfl, h2, _⟩ := h
  obtain rfl : u = Value.ref a := r
  obtain ⟨mA, O, _⟩ := ins_get I.hok (sr.good.fle _ _ h2)
  obtain ⟨od, J, _⟩ := O.look
  exact ⟨a, _, od, rfl, rfl, J⟩
end
/-! a two-place operation that may look at everything -/
def OpW (X : Cx) (g : Gi) (W : WXv) (f : Value → Value → Sem Value) (F : Vl → Vl → Hc → R Vl) : Prop :=
  ∀ (B : Bg) (env : Env) (st : Sta) (σ : L2.St) (H : Hp) (s : Shared) (pins : List (Addr × Obj)) (x y : Vl) (v w : L2.V) (u1 u2 : Value) (Q : VK), Inv X pins σ H s → RelV v u1 → RelV w u2 → SR g B env st σ H → VlRep g B env σ st H x v → VlRep g B env σ st H y w →
    PostE g B W env st σ H (F x y st.h) Q → wpAny (model X.prog X.w) X.A (f u1 u2) (EP X pins σ Q) X.xe s
theorem OpV.w {X : Cx} {g : Gi} {W : WXv} {f : Value → Value → Sem Value} {F : Vl → Vl → Hc → R Vl} (h : OpV X g f F) : OpW X g W f F := by
  obtain ⟨r, h1, h2⟩ := h
  intro B env st σ H s pins x y v w u1 u2 Q I r1 r2 sr rx ry p
  exact h1 pins s σ H v w u1 u2 Q I r1 r2 (h2 B W env st σ H x y v w Q sr rx ry p)
def fOps (T : Tbl) (F0 : Vl → Vl → Hc → R Vl) (x y : Vl) (h : Hc) : R Vl := match x with
  | .d (.obj c fs) => (match T c, y with
    | some F, .d (.obj c2 gs) => if c2 = c then (F [.obj c fs, .obj c2 gs] h).bind fun d h' => .ok (.d d) h' else .stuck
    | _, _ => .stuck)
  | _ => F0 x y h
/-- e1 == e2, where own classes know of it: nf says which types may stand at the right -/
def fEqs (g : Gi) (T : Tbl) (nf : Nat → Ty → Bool) (F0 : Vl → Vl → Hc → R Vl) (x y : Vl) (h : Hc) : R Vl := match x with
  | .d (.obj c fs) => (match T c, y with
    | some F, .d yd => (match yd.ty g with
      | some t => if nf c t then (F [.obj c fs, yd] h).bind fun d h' => .ok (.d d) h' else .stuck
      | none => .stuck)
    | _, _ => .stuck)
  | _ => F0 x y h
section
variable {X : Cx} {g : Gi} {W : WXv} {T : Tbl}
theorem o_ops {op : Operator} {F0 : Vl → Vl → Hc → R Vl} (b : Bd X g W) (V : VOps X g (PySem.dunder op.info.2) 2 T) (h0 : OpV X g (binaryOp op) F0) : OpW X g W (binaryOp op) (fOps T F0) := by
  intro B env st σ H s pins x y v w u1 u2 Q I r1 r2 sr rx ry p
  unfold fOps at p
  split at p
  · next c fs =>
    split at p
    · next F c2 gs hT =>
      split at p
      · next hc =>
        subst hc
        obtain ⟨k, f, fd, ps, FG, hr, hs, hf, hb, hn⟩ := (V c2 F hT).ex
        obtain ⟨a, ox, od, rfl, rfl, J⟩ := obj_at b.G sr I rx r1
        obtain ⟨a2, ox2, od2, rfl, rfl, J2⟩ := obj_at b.G sr I ry r2
        obtain ⟨m, hF⟩ := I.fr
        refine PySem.W.binop_K hF I.ok.mod.kin J J2.type (V c2 F hT).sf hs hf ?_
        refine wpAny_mono (run_op (vs := [.ref a, .ref a2]) b FG (.inl rfl) hr hb I (.cons rfl (.cons rfl .nil)) hn.symm sr (Reps.cons rx (Reps.cons ry Reps.nil)) (PostE.nni p)) (fun u s' ⟨v, H', I', rv, q, n⟩ => nni_back n rv ⟨v, H', I', rv, q⟩) fun _ _ z => z
      · exact p.elim
    · exact p.elim
  · obtain ⟨r, q1, q2⟩ := h0
    exact q1 pins s σ H v w u1 u2 Q I r1 r2 (q2 B W env st σ H x y v w Q sr rx ry p)
theorem o_eqs {nf : Nat → Ty → Bool} {F0 : Vl → Vl → Hc → R Vl} (b : Bd X g W) (V : VOps X g "__eq__" 2 T) (hnf : ∀ c t, nf c t = true → PySem.W.notFirst X.K (g.ca c) (t.val g) = true) (h0 : OpV X g (compareOp .Eq) F0) : OpW X g W (compareOp .Eq) (fEqs g T nf F0) := by
  intro B env st σ H s pins x y v w u1 u2 Q I r1 r2 sr rx ry p
  unfold fEqs at p
  split at p
  · next c fs =>
    split at p
    · next F yd hT =>
      split at p
      · next t ht =>
        split at p
        · next hc =>
          obtain ⟨k, f, fd, ps, FG, hr, hs, hf, hb, hn⟩ := (V c F hT).ex
          obtain ⟨a, ox, od, rfl, rfl, J⟩ := obj_at b.G sr I rx r1
          obtain ⟨m, hF⟩ := I.fr
          have ty : TyX X.K H w (t.val g) := b.K ▸ Vl.tyX (x := .d yd) b.G sr.good ry ht
          obtain ⟨P, Z, pz, _⟩ := kit_of I r2 ty
          refine PySem.W.cmp_K (op := .Eq) (tb := t.val g) (by have := b.un; omega) hF I.ok.mod.kin J (Z.ty _ _ I.kIn pz) (hnf c t hc) hs hf ?_
          refine wpAny_mono (run_op (vs := [.ref a, w]) b FG (.inl rfl) hr hb I (.cons rfl (.cons r2 .nil)) hn.symm sr (Reps.cons rx (Reps.cons ry Reps.nil)) (PostE.nni p)) (fun u s' ⟨v, H', I', rv, q, n⟩ => nni_back n rv ⟨v, H', I', rv, q⟩) fun _ _ z => z
        · exact p.elim
      · exact p.elim
    · exact p.elim
  · obtain ⟨r, q1, q2⟩ := h0
    exact q1 pins s σ H v w u1 u2 Q I r1 r2 (q2 B W env st σ H x y v w Q sr rx ry p)
end
section
variable {X : Cx} {g : Gi} {B : Bg} {W : WXv} {pos : Pos} {a b : Expr} {ma mb : ME}
theorem ve_binW {op : Operator} {F : Vl → Vl → Hc → R Vl} (ho : OpW X g W (binaryOp op) F) (ha : PE X a (tE g B W ma)) (hb : PE X b (tE g B W mb)) : PE X (.BinOp a op b pos) (tE g B W (m2 F ma mb)) := by
  refine ⟨fun pins s σ H Q I ⟨env, st, sr, p⟩ => ?_⟩
  exact wpAny_BinOp (binT (R := fun v w H2 => ∃ s2 x y, SR g B env s2 σ H2 ∧ Evo st H s2 H2 ∧ VlRep g B env σ s2 H2 x v ∧ VlRep g B env σ s2 H2 y w ∧ PostE g B W env s2 σ H2 (F x y s2.h) Q) ha hb I (bind2E (Q := Q) sr p)
    fun v u s2 x y H2 I2 rx ry ⟨st2, x', y', sr2, _, r1, r2, p2⟩ => ho B env st2 σ H2 s2 pins x' y' x y v u Q I2 rx ry sr2 r1 r2 p2)
theorem ve_cmpW {op : CmpOp} {F : Vl → Vl → Hc → R Vl} (ho : OpW X g W (compareOp op) F) (ha : PE X a (tE g B W ma)) (hb : PE X b (tE g B W mb)) (hm : behindInMarks op b = false) : PE X (.Compare a [op] [b] pos) (tE g B W (m2 F ma mb)) := by
  refine ⟨fun pins s σ H Q I ⟨env, st, sr, p⟩ => ?_⟩
  exact wpAny_Compare1 (binT (R := fun v w H2 => ∃ s2 x y, SR g B env s2 σ H2 ∧ Evo st H s2 H2 ∧ VlRep g B env σ s2 H2 x v ∧ VlRep g B env σ s2 H2 y w ∧ PostE g B W env s2 σ H2 (F x y s2.h) Q) ha hb I (bind2E (Q := Q) sr p)
    fun v u s2 x y H2 I2 rx ry ⟨st2, x', y', sr2, _, r1, r2, p2⟩ => ho B env st2 σ H2 s2 pins x' y' x y v u Q I2 rx ry sr2 r1 r2 p2) hm
theorem vt_cmpW {op : CmpOp} {F : Vl → Vl → Hc → R Vl} (ho : OpW X g W (compareOp op) F) (ha : PE X a (tE g B W ma)) (hb : PE X b (tE g B W mb)) (hm : behindInMarks op b = false) : PT X (.Compare a [op] [b] pos) (tT g B W (asB (m2 F ma mb))) := by
  refine ⟨fun pins s σ H Q I h => ?_⟩
  obtain ⟨env, st, sr, p⟩ := tE_asB h
  refine wpAny_isTrue_Compare1 (thn (ha.run pins s σ H _ I (bind2E sr p)) fun v s1 ⟨x, H1, I1, r1, q1⟩ => thn (hb.run pins s1 σ H1 _ I1 q1) fun u s2 ⟨y, H2, I2, r2, st2, x', y', sr2, _, rx, ry, p2⟩ =>
    thn (ho B env st2 σ H2 s2 pins x' y' x y v u _ I2 r1 r2 sr2 rx ry p2) fun c s3 ⟨z, H3, I3, r3, k, e, q3⟩ => ?_) hm
  subst e
  cases r3
  exact wpAny_truthy_bool ⟨H3, I3, q3⟩
def fNegs (T : Tbl) (x : Vl) (h : Hc) : R Vl := match x with
  | .d (.obj c fs) => (match T c with
    | some F => (F [.obj c fs] h).bind fun d h' => .ok (.d d) h'
    | none => .stuck)
  | _ => fNeg x h
theorem ve_negs {T : Tbl} (d : Bd X g W) (V : VOps X g "__neg__" 1 T) (ha : PE X a (tE g B W ma)) : PE X (.UnaryOp .USub a pos) (tE g B W (m1 (fNegs T) ma)) := by
  refine ⟨fun pins s σ H Q I ⟨env, st, sr, p⟩ => ?_⟩
  refine UnaryOp_ (thn (ha.run pins s σ H _ I (bindE (Q := Q) sr p)) fun u s1 ⟨v, H1, I1, r1, st1, x, sr1, _, rx, p1⟩ => ?_)
  unfold fNegs at p1
  split at p1
  · next c fs =>
    split at p1
    · next F hT =>
      obtain ⟨k, f, fd, ps, FG, hr, hs, hf, hb, hn⟩ := (V c F hT).ex
      obtain ⟨a, ox, od, rfl, rfl, J⟩ := obj_at d.G sr1 I1 rx r1
      obtain ⟨m, hF⟩ := I1.fr
      exact PySem.W.ksp_neg hF I1.ok.mod.kin J hs hf (run_op (vs := [.ref a]) d FG (.inl rfl) hr hb I1 (.cons rfl .nil) hn.symm sr1 (Reps.cons rx Reps.nil) p1)
    · exact p1.elim
  · refine un_neg pins s1 σ H1 v u Q I1 r1 ?_
    unfold fNeg at p1
    split at p1
    · exact ⟨_, rx, PostE.pure sr1 p1 rfl⟩
    · exact p1.elim
/-- abs -/
def fAbss (T : Tbl) (xs : List Vl) (h : Hc) : R Vl := match xs with
  | [.d (.obj c fs)] => (match T c with
    | some F => (F [.obj c fs] h).bind fun d h' => .ok (.d d) h'
    | none => .stuck)
  | _ => fAbs xs h
theorem ve_abss {T : Tbl} {p : Pos} (d : Bd X g W) (V : VOps X g "__abs__" 1 T) (hg : Gl X "abs") (hm : X.mg "abs" = none) (ha : PA X [a] (tA g B W A))
    (he : starEach [a] X.env = (false, eval a X.env) :: starEach [] X.env := by rfl) (hpl : (backTo pos (starEach [] X.env)).any (·.1) = false := by rfl) : PE X (.Call (.Name "abs" p) [a] [] pos) (tE g B W (mA1 (fAbss T) A)) := by
  refine ⟨fun pins s σ H Q I ⟨env, st, sr, pp⟩ => ?_⟩
  refine wpAny_Call_Name_kw (ld_blt (u := .builtin "abs") I hg hm (by decide +kernel) ?_ (by decide) (by decide))
  refine PyProof.Rows.callWith_builtin1 (thn (ha.run pos pins s σ H _ I (bindA (Q := Q) sr pp)) fun us s1 ⟨vs, H1, I1, r1, st1, xs, sr1, _, rx, p1⟩ => ?_) he hpl
  unfold fAbss at p1
  split at p1
  · next c fs =>
    split at p1
    · next F hT =>
      obtain ⟨k, f, fd, ps, FG, hr, hs, hf, hb, hn⟩ := (V c F hT).ex
      obtain ⟨v, rfl, rv⟩ := rx.one
      cases r1 with
      | cons r1 rr =>
        cases rr
        obtain ⟨a, ox, od, rfl, rfl, J⟩ := obj_at d.G sr1 I1 rv r1
        refine PySem.Calls.call_function_entry kind_abs plain_abs entry_abs (args_abs _) ?_
        unfold Builtin.«abs»
        refine wpAny_bind (m := oneArg "abs" _) (wpAny_pure ?_)
        refine wpAny_bind (m := callSpecial? (.ref a) (Str.ofString "__abs__")) ?_
        refine PySem.W.special_fn I1.kIn J hs (beq_iff_eq.mp hf) ?_
        refine wpAny_mono (run_op (A := X.A.in1) (vs := [.ref a]) d FG (.inr rfl) hr hb I1 (.cons rfl .nil) hn.symm sr1 (Reps.cons rv Reps.nil) p1) (fun u s' q => ?_) fun _ _ z => z
        exact wpAny_pure ⟨_, rfl, q⟩
    · exact p1.elim
  · obtain ⟨r, q1, q2⟩ := (c_abs : CallV X g (.builtin "abs") fAbs)
    exact q1 pins s1 σ H1 vs us Q I1 r1 (q2 B W env st1 σ H1 xs vs Q sr1 rx p1)
end
end Vi

set_option Elab.async false
set_option linter.all false
set_option maxRecDepth 100000
set_option maxHeartbeats 2000000
namespace Vi
open PySem L2 PyProof.Rows

/-! ### classmethods, and a class in a slot that is called -/
structure VCMet (X : Cx) (g : Gi) (c : Nat) (m : Str) (n : Nat) (dd : List D) (F : Fn) : Prop where
  ex : ∃ (k : Nat) (p f : Addr) (mc : Value) (fd : FuncData) (ps : List Str) (dvs : List L2.V) (ds : List Value), FnG X.prog X.w X.K X.mg X.base k f fd ps (spD g ps.length F) ∧ Room k X.A ∧ ClX.CRead X.K (g.ca c) mc ∧ ClX.CMet X.K (g.ca c) mc m p f ∧
    Binds X.K fd ps ds ∧ Vals dvs ds ∧ (∀ F al, Reps g F al dd dvs) ∧ (n + 1) + dvs.length = ps.length
def mCMet (c : Nat) (n : Nat) (F : Fn) (dd : List D) (o : ME) (a : MA) : ME := fun env h => (o env h).bind fun x h1 => match x with
  | .d (.cls c') => if c' = c then (a env h1).bind fun xs h2 => (if xs.length = n then (match datas xs with
    | some ds => (F (.cls c :: (ds ++ dd)) h2).bind fun d h' => .ok (.d d) h'
    | none => .stuck) else .stuck) else .stuck
  | _ => .stuck
section
variable {X : Cx} {g : Gi} {B : Bg} {W : WXv} {pos p apos : Pos} {e o : Expr} {es : List Expr} {A : MA} {F : Fn} {dd : List D} {n c : Nat} {x m : Str} {mo : ME}
theorem ve_cmeth {pl : Sem Bool} (b : Bd X g W) (V : VCMet X g c m n dd F) (ho : PE X o (tE g B W mo)) (ha : PA X (e :: es) (tA g B W A))
    (hst : starEach (e :: es) X.env = (false, eval e X.env) :: starEach es X.env := by rfl) (hpl : (backTo pos (starEach es X.env)).any (·.1) = false := by rfl)
    (ht : eval (.Call (.Attribute o m apos) (e :: es) [] pos) X.env = (do
      let ov ← eval o X.env
      standAt apos.atName
      let (f, first) ← holding [ov] (getMethod ov m pl)
      callWith pos f first (backTo pos (starEach (e :: es) X.env)) (backToKw pos (keywordEach [] X.env))) := by rfl) :
    PE X (.Call (.Attribute o m apos) (e :: es) [] pos) (tE g B W (mCMet c n F dd mo A)) := by
  obtain ⟨k, q, f, mc, fd, ps, dvs, ds, FG, hr, cr, cm, hb, hd, hdd, hn⟩ := V.ex
  refine ⟨fun pins s σ H Q I ⟨env, st, sr, pp⟩ => ?_⟩
  refine PySem.W.methodCall_KW (pl := pl) (thn (ho.run pins s σ H _ I (bindE (Q := Q) sr pp)) fun u s1 ⟨v, H1, I1, rx, st1, ox, sr1, ev1, r1, p1⟩ => ?_) ht
  split at p1
  · next c' =>
    split at p1
    · next hc =>
      subst hc
      obtain rfl : v = .ref (g.ca c') := r1
      obtain rfl : u = Value.ref (g.ca c') := rx
      refine ClX.getmethcm_ok I1 cr cm fun s2 I2 => ?_
      refine ClX.callwith_cm I2 (ClX.base_none I1 (Nat.le_refl _)) cm.fi (thn (ha.run pos _ s2 σ H1 _ I2 (bindA (Q := Q) sr1 p1)) fun us s3 ⟨vs, H2, I3, rv, st2, xs, sr2, ev2, r2, p2⟩ => ⟨⟨ClX.pin_at I3, I3.kIn⟩, ?_⟩) hst hpl
      by_cases hx : xs.length = n
      · rw [if_pos hx] at p2
        cases ed : datas xs with
        | none => rw [ed] at p2; exact p2.elim
        | some dl =>
          rw [ed] at p2
          have rr : Reps g st2.F st2.al (.cls c' :: (dl ++ dd)) ((.ref (g.ca c') :: vs) ++ dvs) := Reps.cons (show Rep g st2.F st2.al (.cls c') (.ref (g.ca c')) from rfl) ((r2.datas ed).append (hdd st2.F st2.al))
          have sp := spD_of sr2 (n := ps.length) (by rw [List.length_append, List.length_cons, r2.length, hx]; exact hn) rr p2
          have rA : Vals ((.ref (g.ca c') :: vs) ++ dvs) ((.ref (g.ca c') :: us) ++ ds) := (show Vals (L2.V.ref (g.ca c') :: vs) (.ref (g.ca c') :: us) from .cons rfl rv).append hd
          have hl : ((Value.ref (g.ca c') :: us) ++ ds).length = ps.length := by
            rw [← rA.length]
            exact FG.len _ _ _ _ sp
          refine thn (Q := EP X ((s1.heap.objs.size, PySem.W.methodObj (.ref f) (.ref (g.ca c'))) :: pins) σ Q) (wpAny_call (PySem.W.method_call (ClX.pin_at I3) ?_)) fun _ _ y => ClX.unpinE y
          refine codeAny_mono (FG.run X.A X.stack s3 H2 ⟨.ref (g.ca c') :: us, []⟩ _ _ Q (fun cls d H' => W cls d σ H') hr b.gd I3.env0 (hb s3 (.ref (g.ca c') :: us) I3.kIn hl) rA sp) fun r s' hq => ?_
          cases r with
          | error e => exact passAt b.tk σ _ H2 s3 e s' I3 hq
          | ok fl =>
            cases fl with
            | ret u => exact I3.after hq
            | next => exact False.elim hq
            | brk => exact False.elim hq
            | cont => exact False.elim hq
      · rw [if_neg hx] at p2
        exact p2.elim
    · exact p1.elim
  · exact p1.elim
/-- x(..), x a slot that holds the class c -/
def mMakeL (i c n : Nat) (F : FnI) (dd : List D) (a : MA) : ME := fun env h => match env[i]? with
  | some (some (.d (.cls c'))) => if c' = c then (a env h).bind (fMake c n F dd) else .stuck
  | _ => .stuck
theorem ve_makeL {i : Nat} {F : FnI} (b : Bd X g W) (V : VMake X g c n dd F) (hN : X.N[i]? = some x) (hv : Vis X.env.scope x) (ha : PA X (e :: es) (tA g B W A)) (hdb : (x == ("__debug__" : Str)) = false := by decide) (hcd : (x == ("__classdict__" : Str)) = false := by decide)
    (he : starEach (e :: es) X.env = (false, eval e X.env) :: starEach es X.env := by rfl) (hpl : (backTo pos (starEach es X.env)).any (·.1) = false := by rfl) :
    PE X (.Call (.Name x p) (e :: es) [] pos) (tE g B W (mMakeL i c n F dd A)) := by
  have kp : PySem.W.keepIn X.K (.ref (g.ca c)) = true := by
    obtain ⟨k, f, fd, ps, q, dvs, ds, FG, hr, M, _⟩ := V.ex
    exact M.kp
  refine ⟨fun pins s σ H Q I ⟨env, st, sr, pp⟩ => ?_⟩
  unfold mMakeL at pp
  split at pp
  · next c' hx =>
    split at pp
    · next hc =>
      subst hc
      obtain ⟨v, h1, h2⟩ := sr.slot i _ hx
      obtain rfl : v = .ref (g.ca c') := h2
      refine wpAny_Call_Name_kw (thn ((pe_var (pos := p) hN hv hdb hcd).run pins s σ H (fun v H1 => v = .ref (g.ca c') ∧ H1 = H) I ⟨.ref (g.ca c'), h1, rfl, rfl⟩) fun u s1 ⟨v, H1, I1, r1, q1⟩ => ?_)
      obtain ⟨rfl, rfl⟩ := q1
      cases r1
      refine PySem.W.callWith_K (h₀ := X.base) I1.ok.mod.kin kp (thn (ha.run pos pins s1 σ _ _ I1 (bindA (Q := Q) sr pp)) fun us s2 ⟨vs, H2, I2, r, st1, xs, sr1, ev1, r1, p1⟩ => ⟨I2.kIn, ?_⟩) he hpl
      unfold fMake at p1
      by_cases hl : xs.length = n
      · rw [if_pos hl] at p1
        cases e1 : datas xs with
        | none => rw [e1] at p1; exact p1.elim
        | some dl =>
          rw [e1] at p1
          exact run_makeG b V I2 r sr1 (r1.datas e1) (by rw [r1.length, hl]) p1
      · rw [if_neg hl] at p1
        exact p1.elim
    · exact pp.elim
  · exact pp.elim
end
end Vi

set_option Elab.async false
set_option linter.all false
set_option maxRecDepth 100000
set_option maxHeartbeats 2000000
namespace Vi
open PySem L2 PyProof.Rows

/-! ### repr of data -/
/-- what may be shown -/
def shwB (d : PyData) : Bool := d.showable && (decide (d.depth ≤ 60) && decide (d.shown.length ≤ sizeLine))
mutual
theorem hasDict_toP : ∀ d : D, (toP d).hasDict = false
  | .non => by simp only [toP, PyData.hasDict]
  | .bl _ => by simp only [toP, PyData.hasDict]
  | .int _ => by simp only [toP, PyData.hasDict]
  | .str _ => by simp only [toP, PyData.hasDict]
  | .tup xs => by simp only [toP, PyData.hasDict]; exact hasDict_toPs xs
  | .lst xs => by simp only [toP, PyData.hasDict]; exact hasDict_toPs xs
  | .kl xs => by simp only [toP, PyData.hasDict]; exact hasDict_toPs xs
  | .ref _ => by simp only [toP, PyData.hasDict]
  | .obj _ _ => by simp only [toP, PyData.hasDict]
  | .cls _ => by simp only [toP, PyData.hasDict]
  | .dK _ => by simp only [toP, PyData.hasDict]
  | .dT _ => by simp only [toP, PyData.hasDict]
theorem hasDict_toPs : ∀ d : List D, PyData.hasDictAll (toPs d) = false
  | [] => by simp only [toPs, PyData.hasDictAll]
  | x :: r => by simp only [toPs, PyData.hasDictAll, hasDict_toP x, hasDict_toPs r, Bool.or_false]
end
def fRepr (xs : List Vl) (h : Hc) : R Vl := match xs with
  | [x] => (match x.dat? with
    | some d => if shwB (toP d) then .ok (.d (.str (toP d).shown)) h else .stuck
    | none => .stuck)
  | _ => .stuck
def rRepr (K : PySem.W.Frag) : List L2.V → Hp → VK → Prop := fun xs H Q => ∃ (v : L2.V) (d : PyData), xs = [v] ∧ Dp K H v d ∧ d.hasDict = false ∧ shwB d = true ∧ Q (.str d.shown) H
theorem call_repr {X : Cx} (hg : X.A.guards = some []) (hu : X.A.units + 64 < cLine) : CallR X (.builtin "repr") (rRepr X.K) := by
  intro pins s σ H xs us Q I r h
  obtain ⟨v, d, rfl, dp, hd, hs, q⟩ := h
  obtain ⟨s1, hs⟩ := Bool.and_eq_true_iff.mp hs
  obtain ⟨s2, s3⟩ := Bool.and_eq_true_iff.mp hs
  have s2 := of_decide_eq_true s2
  have s3 := of_decide_eq_true s3
  cases r with
  | cons r rr =>
    cases rr
    have all : ∀ (u : Tok) (tk : Tok), EP X pins σ Q (.str d.shown u) { s with toks := tk } := fun u tk => ⟨.str d.shown, H, I.tok _, ⟨_, rfl⟩, q⟩
    cases dp with
    | non => cases r; exact PySem.P.repr_of_none (all _ _)
    | bl b => cases r; exact PySem.P.repr_of_bool (all _ _)
    | int i =>
      obtain ⟨t, rfl⟩ := r
      have z : i.natAbs.log2 < 1920 := of_decide_eq_true (by simpa only [PyData.showable] using s1)
      exact PySem.P.repr_of_int z (all _ _)
    | str x =>
      obtain ⟨t, rfl⟩ := r
      exact PySem.P.repr_of_str (all _ _) s3
    | @lst a ys ds h1 h2 =>
      cases r
      obtain ⟨as, rd⟩ := Dp.reads I (.list ds) (.ref a) (.ref a) (.lst h1 h2) rfl
      exact repr_of_reads' rd s1 (PyData.noDict_hsm hd) hg (by omega) (fun _ _ e => e) (fun h' u tk k => ⟨.str (PyData.list ds).shown, H, I.kept (t' := tk) k, ⟨_, rfl⟩, q⟩) s3
    | @tup a ys ds h1 h2 =>
      cases r
      obtain ⟨as, rd⟩ := Dp.reads I (.tuple ds) (.ref a) (.ref a) (.tup h1 h2) rfl
      exact repr_of_reads' rd s1 (PyData.noDict_hsm hd) hg (by omega) (fun _ _ e => e) (fun h' u tk k => ⟨.str (PyData.tuple ds).shown, H, I.kept (t' := tk) k, ⟨_, rfl⟩, q⟩) s3
theorem c_repr {X : Cx} {g : Gi} {W : WXv} (b : Bd X g W) : CallV X g (.builtin "repr") fRepr := by
  refine ⟨_, call_repr b.gd b.un, fun B W env s σ H xs vs Q sr r p => ?_⟩
  unfold fRepr at p
  split at p
  · next x =>
    obtain ⟨v, rfl, rv⟩ := r.one
    cases e : x.dat? with
    | none => rw [e] at p; exact p.elim
    | some d =>
      rw [e] at p
      by_cases hs : shwB (toP d) = true
      · simp only [if_pos hs] at p
        exact ⟨v, toP d, rfl, b.K ▸ VlRep.dp' sr.good rv e, hasDict_toP d, hs, PostE.pure sr p rfl⟩
      · simp only [if_neg hs] at p
        exact p.elim
  · exact p.elim
end Vi

set_option Elab.async false
set_option linter.all false
set_option maxRecDepth 100000
set_option maxHeartbeats 2000000
namespace Vi
open PySem L2 PyProof.Rows

/-! ### list comprehensions -/
def wipeE (env : Env) : List Nat → Env
  | [] => env
  | v :: vs => (wipeE env vs).set v none
theorem wipe_set {σ : L2.St} {i : Nat} {o : Option L2.V} : ∀ {vs : List Nat}, i ∈ vs → wipe (σ.set i o) vs = wipe σ vs := fun {vs} => by
  have key : ∀ vs : List Nat, wipe (σ.set i o) vs = if i ∈ vs then wipe σ vs else (wipe σ vs).set i o := fun vs => by
    induction vs with
    | nil => rw [if_neg (by simp)]; rfl
    | cons v vs ih =>
      show (wipe (σ.set i o) vs).set v none = _
      rw [ih]
      by_cases e : i = v
      · subst e
        rw [if_pos (List.mem_cons_self ..)]
        by_cases h : i ∈ vs
        · rw [if_pos h]; rfl
        · rw [if_neg h, List.set_set]; rfl
      · by_cases h : i ∈ vs
        · rw [if_pos h, if_pos (List.mem_cons_of_mem _ h)]; rfl
        · have h2 : i ∉ v :: vs := fun z => by
            rcases List.mem_cons.mp z with z | z
            · exact e z
            · exact h z
          rw [if_neg h, if_neg h2]
          show ((wipe σ vs).set i o).set v none = ((wipe σ vs).set v none).set i o
          rw [List.set_comm _ _ e]
  intro h
  rw [key vs, if_pos h]
/-- targets of a comprehension: they only store into the block's own slots -/
def CgQ (g : Gi) (own : List Nat) (t : TG) (T : TgF) : Prop :=
  ∀ (B : Bg) (env env' : Env) (s : Sta) (σ : L2.St) (H : Hp) (d : D) (v : L2.V) (Q : L2.St → Hp → Prop), SR g B env s σ H → Rep g s.F s.al d v → T d env = some env' → (∀ σ', wipe σ' own = wipe σ own → SR g B env' s σ' H → Q σ' H) → t v σ H Q
def CgsQ (g : Gi) (own : List Nat) (t : TGs) (T : List D → Env → Option Env) : Prop :=
  ∀ (B : Bg) (env env' : Env) (s : Sta) (σ : L2.St) (H : Hp) (ds : List D) (vs : List L2.V) (Q : L2.St → Hp → Prop), SR g B env s σ H → Reps g s.F s.al ds vs → T ds env = some env' → (∀ σ', wipe σ' own = wipe σ own → SR g B env' s σ' H → Q σ' H) → t vs σ H Q
section
variable {g : Gi} {own : List Nat}
theorem cg_name {i : Nat} (ho : i ∈ own) : CgQ g own (gName i) (gtN i) :=
  fun B env env' s σ H d v Q sr r e k => by
    have e : env.set i (some (.d d)) = env' := Option.some.inj e
    exact k _ (wipe_set ho) (e ▸ sr.set r)
theorem cg_nil : CgsQ g own gNil gtNil := fun B env env' s σ H ds vs Q sr r e k => by
  cases ds with
  | nil =>
    have e : env = env' := Option.some.inj e
    exact ⟨r, k _ rfl (e ▸ sr)⟩
  | cons _ _ => cases e
theorem cg_cons {t : TG} {u : TGs} {T : TgF} {U : List D → Env → Option Env} (q1 : CgQ g own t T) (q2 : CgsQ g own u U) : CgsQ g own (gCons t u) (gtCons T U) := by
  intro B env env' s σ H ds vs Q sr r e k
  cases ds with
  | nil => cases e
  | cons d ds =>
    obtain ⟨v, vr, ev, r1, r2⟩ := r
    have e : (T d env).bind (fun env1 => U ds env1) = some env' := e
    cases e1 : T d env with
    | none => rw [e1] at e; cases e
    | some env1 =>
      rw [e1] at e
      exact ⟨v, vr, ev, q1 B env env1 s σ H d v _ sr r1 e1 fun σ1 w1 sr1 => q2 B env1 env' s σ1 H ds vr Q sr1 r2 e fun σ2 w2 => k σ2 (w2.trans w1)⟩
theorem cg_tup {K : PySem.W.Frag} (hK : g.K = K) {n : Nat} {t : TGs} {U : List D → Env → Option Env} (q1 : CgsQ g own t U) : CgQ g own (gTup K n t) (gtT n U) := by
  intro B env env' s σ H d v Q sr r e k
  cases d with
  | tup ds =>
    obtain ⟨a, vs, rfl, h2, h3⟩ := r
    have e : (if ds.length = n then U ds env else none) = some env' := e
    by_cases hl : ds.length = n
    · rw [if_pos hl] at e
      exact ⟨a, vs, rfl, hK ▸ sr.good.sqT h2, h3.length.trans hl, q1 B env env' s σ H ds vs Q sr h3 e k⟩
    · rw [if_neg hl] at e
      cases e
  | _ => cases e
end
section
variable {g : Gi} {B : Bg} {env : Env} {s s' s1 : Sta} {σ : L2.St} {H H' H1 : Hp}
theorem SR.wipe (sr : SR g B env s σ H) : ∀ vs : List Nat, SR g B (wipeE env vs) s (L2.wipe σ vs) H
  | [] => sr
  | v :: vs => (SR.wipe sr vs).unset
theorem Good.updO {p : Addr} {o : HO} (gd : Good g s H) (hf : s.F p = none) (hn : ∀ n, s.al n ≠ some p) : Good g s (upd H p o) := by
  refine ⟨fun a u h => ?_, gd.inj, fun n a h => ?_, fun n c h => ?_⟩
  · have ne : a ≠ p := fun e => by rw [e, hf] at h; cases h
    rw [upd_ne ne]
    exact gd.fle a u h
  · obtain ⟨h1, h2, u, h3⟩ := gd.dom n a h
    have ne : a ≠ p := fun e => hn n (by rw [← e]; exact h)
    exact ⟨h1, h2, u, by rw [upd_ne ne]; exact h3⟩
  · obtain ⟨a, h1, h2⟩ := gd.cell n c h
    have ne : a ≠ p := fun e => hn n (by rw [← e]; exact h1)
    refine ⟨a, h1, ?_⟩
    cases c with
    | lst ds => obtain ⟨vs, h3, h4⟩ := h2; exact ⟨vs, by rw [upd_ne ne]; exact h3, h4⟩
    | ins c fs => obtain ⟨dx, vs, h3, h4⟩ := h2; exact ⟨dx, vs, by rw [upd_ne ne]; exact h3, h4⟩
    | dK kvs => obtain ⟨vs, h3, h4⟩ := h2; exact ⟨vs, by rw [upd_ne ne]; exact h3, h4⟩
    | dT kvs => obtain ⟨vs, h3, h4⟩ := h2; exact ⟨vs, by rw [upd_ne ne]; exact h3, h4⟩
theorem Evo.updO {p : Addr} {o : HO} (e : Evo s1 H1 s H) (hp : H1 p = none) : Evo s1 H1 s (upd H p o) := ⟨e.f, e.al, fun a u h n => by
  obtain ⟨h1, h2, h3⟩ := e.oth a u h n
  exact ⟨by rw [upd_ne (ne_of_none h hp)]; exact h1, h2, h3⟩, e.len⟩
/-- where the items come from: a list that is frozen or someone's own, a tuple -/
def Src (K : PySem.W.Frag) (b : Bool) (a : Addr) (vs : List L2.V) (s : Sta) (H : Hp) : Prop := match b with
  | true => SqL K s.F a vs ∨ (H a = some (.lst vs) ∧ ∀ n, s.al n ≠ some a)
  | false => SqT K s.F a vs
theorem Src.evo {K : PySem.W.Frag} {b : Bool} {a : Addr} {vs : List L2.V} (e : Evo s H s' H') (h : Src K b a vs s H) : Src K b a vs s' H' := by
  cases b with
  | true =>
    rcases h with h | ⟨h1, h2⟩
    · exact .inl (sqL_mono e.f h)
    · obtain ⟨g1, _, g3⟩ := e.oth _ _ h1 h2
      exact .inr ⟨g1, g3⟩
  | false => exact sqT_mono e.f h
theorem Good.sqL' {K : PySem.W.Frag} {a : Addr} {vs : List L2.V} (gd : Good g s H) (h : SqL K s.F a vs) : SqL K H a vs := sqL_mono gd.fle h
end
def compL (o : Bool) (T : TgF) (mt : MB) (me : ME) : List D → List D → Env → Hc → R Vl
  | [], acc, _, h => .ok (Vl.ofL o acc) h
  | x :: r, acc, env, h => match T x env with
    | none => .stuck
    | some env1 => (match mt env1 h with
      | .ok b h1 => if b then (match me env1 h1 with
        | .ok (.d y) h2 => if acc.length < 16000000 then compL o T mt me r (acc ++ [y]) env h2 else .stuck
        | _ => .stuck) else compL o T mt me r acc env h1
      | _ => .stuck)
/-- tests: none, one -/
def mYes : MB := fun _ h => .ok true h
section
variable {X : Cx} {g : Gi} {B : Bg}
theorem vts_nil : PTs X [] (tT g B (fun _ _ _ _ => False) mYes) := ⟨fun pins s σ H Q I ⟨env, st, sr, p⟩ => (pts_nil (X := X)).run pins s σ H Q I (PostB.pure sr p)⟩
theorem vts_one {c : Expr} {m : MB} (h : PT X c (tT g B (fun _ _ _ _ => False) m)) : PTs X [c] (tT g B (fun _ _ _ _ => False) m) := pts_one h
end
/-- the loop's state: D is the new list -/
def CInv (g : Gi) (B : Bg) (W : WXv) (env : Env) (s1 : Sta) (σ : L2.St) (H1 : Hp) (own : List Nat) (o : Bool) (T : TgF) (mt : MB) (me : ME) (Q : VK) (Dn : Addr) (rest : List D) (H : Hp) : Prop :=
  ∃ (s' : Sta) (acc : List D) (vs : List L2.V), Good g s' H ∧ Evo s1 H1 s' H ∧ H Dn = some (.lst vs) ∧ s'.F Dn = none ∧ (∀ n, s'.al n ≠ some Dn) ∧ Reps g s'.F s'.al acc vs ∧ PostE g B W env s1 σ H1 (compL o T mt me rest acc (wipeE env own) s'.h) Q
section
variable {g : Gi} {B : Bg} {W : WXv} {env : Env} {s1 : Sta} {σ : L2.St} {H1 H : Hp} {own : List Nat} {o : Bool} {T : TgF} {mt : MB} {me : ME} {Q : VK} {Dn : Addr}
theorem comp_start {xs : List D} (sr : SR g B env s1 σ H1) (hD : H1 Dn = none) (p : PostE g B W env s1 σ H1 (compL o T mt me xs [] (wipeE env own) s1.h) Q) : CInv g B W env s1 σ H1 own o T mt me Q Dn xs (upd H1 Dn (.lst [])) := by
  obtain ⟨gd, ev⟩ := sr.good.add (o := .lst []) hD
  obtain ⟨f, a⟩ := own_free sr.good hD
  exact ⟨s1, [], [], gd, ev, upd_same, f, a, Reps.nil, p⟩
theorem comp_end (sr : SR g B env s1 σ H1) (hD : H1 Dn = none) (c : CInv g B W env s1 σ H1 own o T mt me Q Dn [] H) : Q (.ref Dn) H := by
  obtain ⟨s', acc, vs, gd, ev, hH, hf, ha, rr, p⟩ := c
  have hb : B.H Dn = none := by
    cases e : B.H Dn with
    | none => rfl
    | some u =>
      by_cases hn : ∀ n, B.s.al n ≠ some Dn
      · have z := (sr.evo.oth Dn u e hn).1
        rw [hD] at z
        cases z
      · have hn2 : ∃ n, B.s.al n = some Dn := Classical.byContradiction fun h => hn fun n z => h ⟨n, z⟩
        obtain ⟨n, h⟩ := hn2
        obtain ⟨_, _, u2, h3⟩ := sr.good.dom n Dn (sr.evo.al n Dn h)
        rw [hD] at h3
        cases h3
  have p : PostE g B W env s1 σ H1 (.ok (Vl.ofL o acc) s'.h) Q := p
  have sr2 := sr.call ev gd
  cases o with
  | true =>
    refine p (.ref Dn) H s' rfl ev sr2 ⟨Dn, vs, rfl, hH, ⟨hf, ha, hb⟩, fun i sl h1 h2 h3 => ?_, rr⟩
    obtain ⟨v, e1, e2⟩ := sr.slot i sl h1
    obtain ⟨a, u, rfl, h4⟩ := e2.there h2
    rw [h3] at e1
    cases e1
    rw [hD] at h4
    cases h4
  | false =>
    have ev2 := ev.frz (o := .lst vs) hf ha hD
    refine p (.ref Dn) H (s'.frz Dn (.lst vs)) rfl ev2 (sr.call ev2 (gd.frz hH hf ha)) ⟨Dn, vs, rfl, upd_same, rr.mono (frz_le hf) fun _ _ z => z⟩
/-- one turn -/
theorem comp_turn {t : TG} {d : D} {rest : List D} {v : L2.V} (q1 : CgQ g own t T)
    (sr : SR g B env s1 σ H1) (hD : H1 Dn = none) (c : CInv g B W env s1 σ H1 own o T mt me Q Dn (d :: rest) H) (rv : ∀ s', Evo s1 H1 s' H → Rep g s'.F s'.al d v) :
    t v (wipe σ own) H fun σ2 H2 => wipe σ2 own = wipe σ own ∧ tT g B (fun _ _ _ _ => False) mt σ2 H2 fun b H3 =>
      if b = true then tE g B (fun _ _ _ _ => False) me σ2 H3 fun y H4 => ∃ acc, H4 Dn = some (.lst acc) ∧ acc.length < sizeLine ∧ CInv g B W env s1 σ H1 own o T mt me Q Dn rest (upd H4 Dn (.lst (acc ++ [y])))
      else CInv g B W env s1 σ H1 own o T mt me Q Dn rest H3 := by
  obtain ⟨s', acc, vs, gd, ev, hH, hf, ha, rr, p⟩ := c
  have p : PostE g B W env s1 σ H1 (match T d (wipeE env own) with
    | none => .stuck
    | some env1 => (match mt env1 s'.h with
      | .ok b h1 => if b then (match me env1 h1 with
        | .ok (.d y) h2 => if acc.length < 16000000 then compL o T mt me rest (acc ++ [y]) (wipeE env own) h2 else .stuck
        | _ => .stuck) else compL o T mt me rest acc (wipeE env own) h1
      | _ => .stuck)) Q := p
  have ww : wipe (wipe σ own) own = wipe σ own := by
    have key : ∀ (l : List Nat), (∀ i ∈ l, i ∈ own) → wipe (wipe σ l) own = wipe σ own := fun l => by
      induction l with
      | nil => intro _; rfl
      | cons i l ih =>
        intro h
        show wipe ((wipe σ l).set i none) own = _
        rw [wipe_set (h i (List.mem_cons_self ..)), ih fun j hj => h j (List.mem_cons_of_mem _ hj)]
    exact key own fun _ h => h
  cases e1 : T d (wipeE env own) with
  | none => rw [e1] at p; exact p.elim
  | some env1 =>
    simp only [e1] at p
    refine q1 B (wipeE env own) env1 s' (wipe σ own) H d v _ ((sr.wipe own).call ev gd) (rv s' ev) e1 fun σ2 hw sr2 => ⟨hw.trans ww, env1, s', sr2, ?_⟩
    cases e2 : mt env1 s'.h with
    | ok b h1 =>
      simp only [e2] at p
      intro H3 s3 q3 ev3 sr3
      obtain ⟨k1, k2, k3⟩ := ev3.oth Dn _ hH ha
      cases b with
      | true =>
        rw [if_pos rfl] at p ⊢
        refine ⟨env1, s3, sr3, ?_⟩
        rw [q3]
        cases e3 : me env1 h1 with
        | ok y h2 =>
          rw [e3] at p
          cases y with
          | d y =>
            have p : PostE g B W env s1 σ H1 (if acc.length < 16000000 then compL o T mt me rest (acc ++ [y]) (wipeE env own) h2 else .stuck) Q := p
            by_cases hl : acc.length < 16000000
            · rw [if_pos hl] at p
              intro w H4 s4 q4 ev4 sr4 rw4
              obtain ⟨l1, l2, l3⟩ := ev4.oth Dn _ k1 k3
              have evA := (ev.trans ev3).trans ev4
              refine ⟨vs, l1, by rw [rr.length, sizeLine_eq]; omega, s4, acc ++ [y], vs ++ [w], sr4.good.updO (l2 (k2 hf)) l3, evA.updO hD, upd_same, l2 (k2 hf), l3, ?_, by rw [q4]; exact p⟩
              exact ((ev3.trans ev4).reps rr).append (Reps.cons (show Rep g s4.F s4.al y w from rw4) Reps.nil)
            · rw [if_neg hl] at p
              exact p.elim
          | _ => exact p.elim
        | exc x h => rw [e3] at p; exact p.elim
        | stuck => rw [e3] at p; exact p.elim
      | false =>
        simp only [Bool.false_eq_true, if_false] at p ⊢
        exact ⟨s3, acc, vs, sr3.good, ev.trans ev3, k1, k2 hf, k3, ev3.reps rr, by rw [q3]; exact p⟩
    | exc x h => simp only [e2] at p; exact p.elim
    | stuck => simp only [e2] at p; exact p.elim
end

theorem Bd.blk {X : Cx} {g : Gi} {W : WXv} {s : Shared} {H : Hp} {scope : Scope} {cenv : PySem.Env} {fp : List Addr} (b : Bd X g W) : Bd (X.blk s H scope cenv fp) g (fun _ _ _ _ => False) :=
  ⟨b.G, b.K, b.calm, b.gd, fun u s' ⟨_, _, _, _, _, _, _, _, _, _, _, _, _, _, _, _, w⟩ => w.elim, PassesOwn.never, b.un⟩
def seqC? : Vl → Option (Bool × List D)
  | .d (.lst xs) => some (true, xs)
  | .d (.kl xs) => some (true, xs)
  | .d (.tup xs) => some (false, xs)
  | .tl xs => some (true, xs)
  | .bl xs => some (true, xs)
  | _ => none
def mComp (o : Bool) (own : List Nat) (T : TgF) (mt : MB) (me src : ME) : ME := fun env h => (src env h).bind fun x h1 => match seqC? x with
  | some (_, xs) => compL o T mt me xs [] (wipeE env own) h1
  | none => .stuck
def mCompR (o : Bool) (own : List Nat) (T : TgF) (mt : MB) (me : ME) (a : MA) : ME := fun env h => (a env h).bind fun xs h1 => match xs with
  | [.d (.int j)] => if -(2 ^ 62) ≤ j ∧ j < 2 ^ 62 then compL o T mt me (rangeD 0 j.toNat) [] (wipeE env own) h1 else .stuck
  | _ => .stuck
def mCompR2 (o : Bool) (own : List Nat) (T : TgF) (mt : MB) (me : ME) (a : MA) : ME := fun env h => (a env h).bind fun xs h1 => match xs with
  | [.d (.int i), .d (.int j)] => if -(2 ^ 62) ≤ i ∧ i < 2 ^ 62 ∧ -(2 ^ 62) ≤ j ∧ j < 2 ^ 62 then compL o T mt me (rangeD i (j - i).toNat) [] (wipeE env own) h1 else .stuck
  | _ => .stuck
theorem src_of {g : Gi} {B : Bg} {env : Env} {s1 : Sta} {σ : L2.St} {H1 : Hp} {x : Vl} {v : L2.V} {b : Bool} {xs : List D} (r : VlRep g B env σ s1 H1 x v) (e : seqC? x = some (b, xs)) : ∃ a vs, v = .ref a ∧ Src g.K b a vs s1 H1 ∧ Reps g s1.F s1.al xs vs := by
  unfold seqC? at e
  split at e
  · cases e
    obtain ⟨a, vs, h1, h2, h3⟩ := r
    exact ⟨a, vs, h1, .inl (.of h2), h3⟩
  · cases e
    obtain ⟨a, vs, h1, h2, h3⟩ := r
    exact ⟨a, vs, h1, .inl h2, h3⟩
  · cases e
    obtain ⟨a, vs, h1, h2, h3⟩ := r
    exact ⟨a, vs, h1, h2, h3⟩
  · cases e
    obtain ⟨a, vs, h1, h2, h3, _, h4⟩ := r
    exact ⟨a, vs, h1, .inr ⟨h2, h3.al⟩, h4⟩
  · cases e
    obtain ⟨a, vs, h1, h2, h3, h4⟩ := r
    exact ⟨a, vs, h1, .inr ⟨h2, h3.al⟩, h4⟩
  · cases e
section
variable {X : Cx} {g : Gi} {B : Bg} {W : WXv} {own : List Nat} {o : Bool} {T : TgF} {mt : MB} {me m : ME} {t : TG} {σ : L2.St} {H : Hp} {Q : VK}
theorem lc_of (hK : g.K = X.K) (q1 : CgQ g own t T) (h : tE g B W (mComp o own T mt me m) σ H Q) :
    tLc (fun σ H R => iList X.K (tE g B W m) σ H R ∨ iTup X.K (tE g B W m) σ H R) t (tT g B (fun _ _ _ _ => False) mt) (tE g B (fun _ _ _ _ => False) me) own σ H Q := by
  obtain ⟨env, s, sr, p⟩ := h
  have p : PostE g B W env s σ H ((m env s.h).bind fun x h1 => match seqC? x with
    | some (_, xs) => compL o T mt me xs [] (wipeE env own) h1
    | none => .stuck) Q := p
  cases em : m env s.h with
  | ok x h1 =>
    rw [em] at p
    have p : PostE g B W env s σ H (match seqC? x with
      | some (_, xs) => compL o T mt me xs [] (wipeE env own) h1
      | none => .stuck) Q := p
    cases es : seqC? x with
    | none => rw [es] at p; exact p.elim
    | some q =>
      obtain ⟨bb, xs⟩ := q
      rw [es] at p
      have p : PostE g B W env s σ H (compL o T mt me xs [] (wipeE env own) h1) Q := p
      cases bb with
      | true =>
        refine .inl ⟨env, s, sr, ?_⟩
        rw [em]
        intro v H1 s1 e1 ev sr1 vr
        obtain ⟨a, vs, rfl, hsrc, hr⟩ := src_of vr es
        have sq : ∀ {s' : Sta} {H' : Hp}, Good g s' H' → Evo s1 H1 s' H' → SqL X.K H' a vs := fun gd e2 => by
          rcases hsrc.evo e2 with z | ⟨z, _⟩
          · exact hK ▸ gd.sqL' z
          · exact .of z
        refine ⟨a, rfl, ⟨vs, sq sr1.good (Evo.refl _ _)⟩, fun Dn hD => lc_list (xs := vs) (fun i H => CInv g B W env s1 σ H1 own o T mt me Q Dn (xs.drop i) H) ?_ (fun i H _ c => ?_) (fun i y H hi c => ?_) (fun H c => ?_)⟩
        · exact comp_start sr1 hD (by rw [e1]; exact PostE.later ev p)
        · obtain ⟨s', _, _, gd, e2, _⟩ := c
          exact sq gd e2
        · have hl : i < xs.length := by
            rw [← hr.length]
            exact (List.getElem?_eq_some_iff.mp hi).1
          obtain ⟨y', ey, ry⟩ := hr.get (List.getElem?_eq_getElem hl)
          rw [hi] at ey
          cases ey
          rw [List.drop_eq_getElem_cons hl] at c
          exact comp_turn q1 sr1 hD c fun s' e2 => e2.rep ry
        · rw [hr.length, List.drop_length] at c
          exact comp_end sr1 hD c
      | false =>
        refine .inr ⟨env, s, sr, ?_⟩
        rw [em]
        intro v H1 s1 e1 ev sr1 vr
        obtain ⟨a, vs, rfl, hsrc, hr⟩ := src_of vr es
        have sq : ∀ {s' : Sta} {H' : Hp}, Good g s' H' → Evo s1 H1 s' H' → SqT X.K H' a vs := fun gd e2 => hK ▸ gd.sqT (show SqT g.K _ a vs from hsrc.evo e2)
        refine ⟨a, rfl, ⟨vs, sq sr1.good (Evo.refl _ _)⟩, fun Dn hD => lc_tup (xs := vs) (fun i H => CInv g B W env s1 σ H1 own o T mt me Q Dn (xs.drop i) H) ?_ (fun i H _ c => ?_) (fun i y H hi c => ?_) (fun H c => ?_)⟩
        · exact comp_start sr1 hD (by rw [e1]; exact PostE.later ev p)
        · obtain ⟨s', _, _, gd, e2, _⟩ := c
          exact sq gd e2
        · have hl : i < xs.length := by
            rw [← hr.length]
            exact (List.getElem?_eq_some_iff.mp hi).1
          obtain ⟨y', ey, ry⟩ := hr.get (List.getElem?_eq_getElem hl)
          rw [hi] at ey
          cases ey
          rw [List.drop_eq_getElem_cons hl] at c
          exact comp_turn q1 sr1 hD c fun s' e2 => e2.rep ry
        · rw [hr.length, List.drop_length] at c
          exact comp_end sr1 hD c
  | exc x h1 =>
    rw [em] at p
    refine .inl ⟨env, s, sr, ?_⟩
    rw [em]
    exact p
  | stuck =>
    rw [em] at p
    exact p.elim
theorem lc_rangeOf {env : Env} {s1 : Sta} {lo : Int} {n : Nat} (q1 : CgQ g own t T) (sr1 : SR g B env s1 σ H) (p : PostE g B W env s1 σ H (compL o T mt me (rangeD lo n) [] (wipeE env own) s1.h) Q) (Dn : Addr) (hD : H Dn = none) :
    ∃ W' : Nat → Nat → Hp → Prop, (∃ m, W' 0 m (upd H Dn (.lst []))) ∧ ∀ i m H, W' i m H →
      ((Itr lo n).stop i H ∧ Q (.ref Dn) H) ∨ ((Itr lo n).go i H ∧ ∃ Nx : Hp → Prop, (∀ H', Nx H' → ∃ m', m' < m ∧ W' (i + 1) m' H') ∧ ∀ x H', (Itr lo n).yld i H x H' → t x (wipe σ own) H' fun σ2 H2 => wipe σ2 own = wipe σ own ∧ tT g B (fun _ _ _ _ => False) mt σ2 H2 fun b H3 =>
        if b = true then tE g B (fun _ _ _ _ => False) me σ2 H3 fun y H4 => ∃ acc, H4 Dn = some (.lst acc) ∧ acc.length < sizeLine ∧ Nx (upd H4 Dn (.lst (acc ++ [y]))) else Nx H3) := by
  refine lc_range (fun i H' => CInv g B W env s1 σ H own o T mt me Q Dn ((rangeD lo n).drop i) H') ?_ (fun i H' hi c => ?_) (fun H' c => ?_)
  · exact comp_start sr1 hD p
  · have hl : i < (rangeD lo n).length := by rw [rangeD_len]; exact hi
    rw [List.drop_eq_getElem_cons hl, rangeD_get] at c
    exact comp_turn q1 sr1 hD c fun s' e2 => (show Rep g s'.F s'.al (.int (lo + (i : Nat))) (.int (lo + (i : Nat))) from rfl)
  · rw [show (rangeD lo n).drop n = [] from List.drop_eq_nil_of_le (by rw [rangeD_len]; exact Nat.le_refl _)] at c
    exact comp_end sr1 hD c
end
section
variable {X : Cx} {g : Gi} {B : Bg} {W : WXv} {own : List (Str × Nat)} {o : Bool} {T : TgF} {mt : MB} {me m : ME} {t : TG} {elt tg iter : Expr} {ifs : List Expr} {scope : Scope} {pos p' rp : Pos} {ma : MA}
theorem ve_lc (o : Bool) (b : Bd X g W) (hN : X.N.Nodup) (he : PE X iter (tE g B W m)) (ok : BlkOk X.N X.env.scope scope own) (q1 : CgQ g (own.map (·.2)) t T)
    (hg : ∀ (s : Shared) (H : Hp) (C : Addr) (cl : List (Str × Addr)) (fp : List Addr), PG (X.blk s H scope (compEnvC scope cl C X.env) fp) tg t)
    (ht : ∀ (s : Shared) (H : Hp) (C : Addr) (cl : List (Str × Addr)) (fp : List Addr), PTs (X.blk s H scope (compEnvC scope cl C X.env) fp) ifs (tT g B (fun _ _ _ _ => False) mt))
    (hel : ∀ (s : Shared) (H : Hp) (C : Addr) (cl : List (Str × Addr)) (fp : List Addr), PE (X.blk s H scope (compEnvC scope cl C X.env) fp) elt (tE g B (fun _ _ _ _ => False) me)) (hs : ∀ x, foldedSetIterable iter X.env x = pure x := by intro _; rfl) :
    PE X (.ListComp elt [⟨tg, iter, ifs, 0⟩] scope pos) (tE g B W (mComp o (own.map (·.2)) T mt me m)) :=
  pe_imp (pe_lc b.calm hN (pi_or (pi_list (tg := tg) he) (pi_tup he)) ok hg ht hel hs) fun σ H Q h => lc_of b.K q1 h
theorem vs_setLc (o : Bool) {i : Nat} {y : Str} {py spos : Pos} (b : Bd X g W) (hN : X.N.Nodup) (hy : X.N[i]? = some y) (hyl : X.env.scope.names.lookup y = some .local) (hsw : swapsWith (.ListComp elt [⟨tg, iter, ifs, 0⟩] scope pos) (some (.Name y py)) spos.line X.env = pure true)
    (he : PE X iter (tE g B W m)) (ok : BlkOk X.N X.env.scope scope own) (q1 : CgQ g (own.map (·.2)) t T)
    (hg : ∀ (s : Shared) (H : Hp) (C : Addr) (cl : List (Str × Addr)) (fp : List Addr), PG (X.blk s H scope (compEnvC scope cl C X.env) fp) tg t)
    (ht : ∀ (s : Shared) (H : Hp) (C : Addr) (cl : List (Str × Addr)) (fp : List Addr), PTs (X.blk s H scope (compEnvC scope cl C X.env) fp) ifs (tT g B (fun _ _ _ _ => False) mt))
    (hel : ∀ (s : Shared) (H : Hp) (C : Addr) (cl : List (Str × Addr)) (fp : List Addr), PE (X.blk s H scope (compEnvC scope cl C X.env) fp) elt (tE g B (fun _ _ _ _ => False) me)) (hs : ∀ x, foldedSetIterable iter X.env x = pure x := by intro _; rfl) :
    PS X (.Assign [.Name y py] (.ListComp elt [⟨tg, iter, ifs, 0⟩] scope pos) spos) (tS g B W (mSet i (mComp o (own.map (·.2)) T mt me m))) := by
  refine ps_imp (ps_setLc b.calm hN hy hyl hsw (pi_or (pi_list (tg := tg) he) (pi_tup he)) ok hg ht hel hs) fun N σ H ⟨env, s, sr, p⟩ => ?_
  refine lc_of (W := W) (o := o) b.K q1 ?_
  exact (bindS sr p).mono fun v H1 ⟨s1, x, sr1, l1, r1, p1⟩ => setPost sr1 r1 p1
theorem range1_of {σ : L2.St} {H : Hp} {Q : VK} (q1 : CgQ g (own.map (·.2)) t T) (h : tE g B W (mCompR o (own.map (·.2)) T mt me ma) σ H Q) :
    tLc (iRng1 (tA g B W ma)) t (tT g B (fun _ _ _ _ => False) mt) (tE g B (fun _ _ _ _ => False) me) (own.map (·.2)) σ H Q := by
  obtain ⟨env, s, sr, p⟩ := h
  refine (bindA (Q := Q) sr p).mono fun vs H1 ⟨s1, xs, sr1, _, r1, p1⟩ => ?_
  split at p1
  · next j =>
    obtain ⟨v, rfl, r⟩ := r1.one
    split at p1
    · next hj =>
      have r : v = .int j := r
      exact ⟨j, by rw [r], hj.1, hj.2, fun Dn hD => lc_rangeOf q1 sr1 p1 Dn hD⟩
    · exact p1.elim
  · exact p1.elim
theorem range2_of {σ : L2.St} {H : Hp} {Q : VK} (q1 : CgQ g (own.map (·.2)) t T) (h : tE g B W (mCompR2 o (own.map (·.2)) T mt me ma) σ H Q) :
    tLc (iRng2 (tA g B W ma)) t (tT g B (fun _ _ _ _ => False) mt) (tE g B (fun _ _ _ _ => False) me) (own.map (·.2)) σ H Q := by
  obtain ⟨env, s, sr, p⟩ := h
  refine (bindA (Q := Q) sr p).mono fun vs H1 ⟨s1, xs, sr1, _, r1, p1⟩ => ?_
  split at p1
  · next i j =>
    obtain ⟨v, w, rfl, r, r'⟩ := r1.two
    split at p1
    · next hj =>
      have r : v = .int i := r
      have r' : w = .int j := r'
      exact ⟨i, j, by rw [r, r'], hj, fun Dn hD => lc_rangeOf q1 sr1 p1 Dn hD⟩
    · exact p1.elim
  · exact p1.elim
theorem ve_lcR (o : Bool) {a : Expr} (b : Bd X g W) (hN : X.N.Nodup) (hgr : Gl X "range") (hm : X.mg "range" = none) (ha : PA X [a] (tA g B W ma)) (ok : BlkOk X.N X.env.scope scope own) (q1 : CgQ g (own.map (·.2)) t T)
    (hg : ∀ (s : Shared) (H : Hp) (C : Addr) (cl : List (Str × Addr)) (fp : List Addr), PG (X.blk s H scope (compEnvC scope cl C X.env) fp) tg t)
    (ht : ∀ (s : Shared) (H : Hp) (C : Addr) (cl : List (Str × Addr)) (fp : List Addr), PTs (X.blk s H scope (compEnvC scope cl C X.env) fp) ifs (tT g B (fun _ _ _ _ => False) mt))
    (hel : ∀ (s : Shared) (H : Hp) (C : Addr) (cl : List (Str × Addr)) (fp : List Addr), PE (X.blk s H scope (compEnvC scope cl C X.env) fp) elt (tE g B (fun _ _ _ _ => False) me))
    (hst : starEach [a] X.env = [(false, eval a X.env)] := by rfl) (hs : ∀ x, foldedSetIterable (.Call (.Name "range" p') [a] [] rp) X.env x = pure x := by intro _; rfl) :
    PE X (.ListComp elt [⟨tg, .Call (.Name "range" p') [a] [] rp, ifs, 0⟩] scope pos) (tE g B W (mCompR o (own.map (·.2)) T mt me ma)) :=
  pe_imp (pe_lc b.calm hN (pi_range1 (tg := tg) hgr hm ha hst) ok hg ht hel hs) fun σ H Q h => range1_of q1 h
theorem vs_setLcR (o : Bool) {i : Nat} {y : Str} {py spos : Pos} {a : Expr} (b : Bd X g W) (hN : X.N.Nodup) (hy : X.N[i]? = some y) (hyl : X.env.scope.names.lookup y = some .local) (hsw : swapsWith (.ListComp elt [⟨tg, .Call (.Name "range" p') [a] [] rp, ifs, 0⟩] scope pos) (some (.Name y py)) spos.line X.env = pure true)
    (hgr : Gl X "range") (hm : X.mg "range" = none) (ha : PA X [a] (tA g B W ma)) (ok : BlkOk X.N X.env.scope scope own) (q1 : CgQ g (own.map (·.2)) t T)
    (hg : ∀ (s : Shared) (H : Hp) (C : Addr) (cl : List (Str × Addr)) (fp : List Addr), PG (X.blk s H scope (compEnvC scope cl C X.env) fp) tg t)
    (ht : ∀ (s : Shared) (H : Hp) (C : Addr) (cl : List (Str × Addr)) (fp : List Addr), PTs (X.blk s H scope (compEnvC scope cl C X.env) fp) ifs (tT g B (fun _ _ _ _ => False) mt))
    (hel : ∀ (s : Shared) (H : Hp) (C : Addr) (cl : List (Str × Addr)) (fp : List Addr), PE (X.blk s H scope (compEnvC scope cl C X.env) fp) elt (tE g B (fun _ _ _ _ => False) me))
    (hst : starEach [a] X.env = [(false, eval a X.env)] := by rfl) (hs : ∀ x, foldedSetIterable (.Call (.Name "range" p') [a] [] rp) X.env x = pure x := by intro _; rfl) :
    PS X (.Assign [.Name y py] (.ListComp elt [⟨tg, .Call (.Name "range" p') [a] [] rp, ifs, 0⟩] scope pos) spos) (tS g B W (mSet i (mCompR o (own.map (·.2)) T mt me ma))) := by
  refine ps_imp (ps_setLc b.calm hN hy hyl hsw (pi_range1 (tg := tg) hgr hm ha hst) ok hg ht hel hs) fun N σ H ⟨env, s, sr, p⟩ => ?_
  refine range1_of (W := W) (o := o) q1 ?_
  exact (bindS sr p).mono fun v H1 ⟨s1, x, sr1, l1, r1, p1⟩ => setPost sr1 r1 p1
end
end Vi

set_option Elab.async false
set_option linter.all false
set_option maxRecDepth 100000
set_option maxHeartbeats 2000000
namespace Vi
open PySem L2 PyProof.Rows

/-! ### a new cell that a def hands out -/
def mRetC (m : ME) : MS := fun env h => (m env h).thenS env fun x h1 => match x with
  | .tl xs => .ret (.ref h1.length) (h1 ++ [.lst xs])
  | _ => .stuck
def Sta.addC (s : Sta) (a : Addr) (c : Cell) : Sta := { F := s.F, al := fun n => if n = s.h.length then some a else s.al n, h := s.h ++ [c] }
section
variable {g : Gi} {B : Bg} {W : WXv} {env : Env} {s : Sta} {σ : L2.St} {H : Hp}
theorem addC_le {a : Addr} {c : Cell} (gd : Good g s H) : Le s (s.addC a c) := ⟨fun _ _ h => h, fun n b h => by
  show (if n = s.h.length then some a else s.al n) = some b
  have := (gd.dom n b h).1
  rw [if_neg (by omega)]
  exact h⟩
theorem addC_good {a : Addr} {xs : List D} {vs : List L2.V} (gd : Good g s H) (ha : H a = some (.lst vs)) (hf : s.F a = none) (hn : ∀ n, s.al n ≠ some a) (r : Reps g s.F s.al xs vs) : Good g (s.addC a (.lst xs)) H := by
  have le := addC_le (a := a) (c := .lst xs) gd
  have cases_ : ∀ {n : Nat} {b : Addr}, (s.addC a (.lst xs)).al n = some b → (n = s.h.length ∧ b = a) ∨ (n ≠ s.h.length ∧ s.al n = some b) := fun {n b} h => by
    have h : (if n = s.h.length then some a else s.al n) = some b := h
    by_cases e : n = s.h.length
    · rw [if_pos e] at h
      cases h
      exact .inl ⟨e, rfl⟩
    · rw [if_neg e] at h
      exact .inr ⟨e, h⟩
  refine ⟨gd.fle, fun n m b h1 h2 => ?_, fun n b h => ?_, fun n c h => ?_⟩
  · rcases cases_ h1 with ⟨e1, rfl⟩ | ⟨e1, k1⟩
    · rcases cases_ h2 with ⟨e2, _⟩ | ⟨_, k2⟩
      · rw [e1, e2]
      · exact absurd k2 (hn m)
    · rcases cases_ h2 with ⟨e2, rfl⟩ | ⟨_, k2⟩
      · exact absurd k1 (hn n)
      · exact gd.inj n m b k1 k2
  · have hl : (s.addC a (.lst xs)).h.length = s.h.length + 1 := by
      show (s.h ++ [Cell.lst xs]).length = _
      rw [List.length_append]
      rfl
    rcases cases_ h with ⟨e1, rfl⟩ | ⟨_, k1⟩
    · exact ⟨by omega, hf, _, ha⟩
    · obtain ⟨h1, h2, h3⟩ := gd.dom n b k1
      exact ⟨by omega, h2, h3⟩
  · have h : (s.h ++ [Cell.lst xs])[n]? = some c := h
    by_cases e : n < s.h.length
    · rw [List.getElem?_append_left e] at h
      obtain ⟨b, h1, h2⟩ := gd.cell n c h
      refine ⟨b, le.al _ _ h1, ?_⟩
      cases c with
      | lst ds => obtain ⟨vs, h3, h4⟩ := h2; exact ⟨vs, h3, h4.mono le.f le.al⟩
      | ins c fs => obtain ⟨dx, vs, h3, h4⟩ := h2; exact ⟨dx, vs, h3, h4.mono le.f le.al⟩
      | dK kvs => obtain ⟨vs, h3, h4⟩ := h2; exact ⟨vs, h3, h4.mono le.f le.al⟩
      | dT kvs => obtain ⟨vs, h3, h4⟩ := h2; exact ⟨vs, h3, h4.mono le.f le.al⟩
    · rw [List.getElem?_append_right (by omega)] at h
      have e2 : n = s.h.length := by
        have := (List.getElem?_eq_some_iff.mp h).1
        simp at this
        omega
      subst e2
      rw [Nat.sub_self] at h
      cases h
      exact ⟨a, if_pos rfl, vs, ha, r.mono le.f le.al⟩
theorem addC_evo {s0 : Sta} {H0 : Hp} {a : Addr} {c : Cell} (gd : Good g s H) (ev : Evo s0 H0 s H) (hb : H0 a = none) : Evo s0 H0 (s.addC a c) H := by
  have le := addC_le (a := a) (c := c) gd
  refine ⟨ev.f, fun n b h => le.al _ _ (ev.al n b h), fun b o h n => ?_, ?_⟩
  · obtain ⟨h1, h2, h3⟩ := ev.oth b o h n
    refine ⟨h1, h2, fun m z => ?_⟩
    have z : (if m = s.h.length then some a else s.al m) = some b := z
    by_cases e : m = s.h.length
    · rw [if_pos e] at z
      cases z
      rw [hb] at h
      cases h
    · rw [if_neg e] at z
      exact h3 m z
  · show _ ≤ (s.h ++ [c]).length
    rw [List.length_append]
    exact Nat.le_trans ev.len (Nat.le_add_right _ _)
end
section
variable {X : Cx} {g : Gi} {B : Bg} {W : WXv} {pos : Pos} {e : Expr} {m : ME}
theorem vs_retC (he : PE X e (tE g B W m)) : PS X (.Return (some e) pos) (tS g B W (mRetC m)) := by
  refine ps_imp (ps_ret he) fun N σ H ⟨env, s, sr, p⟩ => ?_
  refine (bindS sr p).mono fun v H1 ⟨s1, x, sr1, l1, r1, p1⟩ => ?_
  cases x with
  | tl xs =>
    obtain ⟨a, vs, rfl, h1, h2, h3, h4⟩ := r1
    exact p1 (.ref a) H1 (s1.addC a (.lst xs)) rfl (addC_evo sr1.good sr1.evo h2.new) (addC_good sr1.good h1 h2.f h2.al h4) ⟨a, rfl, if_pos rfl⟩
  | d _ => exact p1.elim
  | bl _ => exact p1.elim
  | bi _ _ => exact p1.elim
end

/-! ### a slot's list is given free: nobody changes it any more -/
def frzE (i : Nat) (env : Env) : Env := match env[i]? with
  | some (some (.ol xs)) => env.set i (some (.d (.lst xs)))
  | _ => env
section
variable {g : Gi} {B : Bg} {W : WXv} {env : Env} {s : Sta} {σ : L2.St} {H : Hp}
theorem SR.frzS (i : Nat) (sr : SR g B env s σ H) : ∃ s', s'.h = s.h ∧ Le s s' ∧ SR g B (frzE i env) s' σ H := by
  unfold frzE
  split
  · next xs hx =>
    obtain ⟨v, h1, h2⟩ := sr.slot i _ hx
    obtain ⟨a, vs, rfl, h3, h4, h5⟩ := h2
    have hi : i < env.length := (List.getElem?_eq_some_iff.mp hx).1
    have fl := frz_le (o := HO.lst vs) h4.f
    refine ⟨s.frz a (.lst vs), rfl, ⟨fl, fun _ _ z => z⟩, sr.good.frz h3 h4.f h4.al, evo_frz h4.f h4.al h4.new sr.evo, by rw [List.length_set]; exact sr.len, fun j sl h => ?_, fun j k sl1 sl2 u hjk q1 q2 o1 o2 q3 q4 => ?_⟩
    · by_cases e : i = j
      · subst e
        rw [List.getElem?_set_self hi] at h
        cases h
        exact ⟨_, h1, a, vs, rfl, upd_same, h5.mono fl fun _ _ z => z⟩
      · rw [List.getElem?_set_ne e] at h
        obtain ⟨v, g1, g2⟩ := sr.slot j sl h
        refine ⟨v, g1, ?_⟩
        have ownF : ∀ {b : Addr}, OwnA B s b → b ≠ a → OwnA B (s.frz a (.lst vs)) b := fun {b} ow ne => ⟨by
          show upd s.F a (.lst vs) b = none
          rw [upd_ne ne]
          exact ow.f, ow.al, ow.new⟩
        cases sl with
        | d x => exact Rep.mono fl (fun _ _ z => z) g2
        | ol ys =>
          obtain ⟨b, ws, rfl, k1, k2, k3⟩ := g2
          have ne : b ≠ a := fun q => by subst q; exact sr.sep i j _ _ (.ref b) e hx h rfl rfl h1 g1
          exact ⟨b, ws, rfl, k1, ownF k2 ne, k3.mono fl fun _ _ z => z⟩
        | oi c fs =>
          obtain ⟨b, dx, ws, rfl, k1, k2, k3, k4⟩ := g2
          have ne : b ≠ a := fun q => by subst q; exact sr.sep i j _ _ (.ref b) e hx h rfl rfl h1 g1
          exact ⟨b, dx, ws, rfl, k1, ownF k2 ne, k3.mono fl (fun _ _ z => z), k4⟩
        | xc c fs =>
          obtain ⟨k1, k2, ws, k3, k4, k5⟩ := g2
          exact ⟨k1, k2, ws, k3, k4, k5.mono fl fun _ _ z => z⟩
    · have f : ∀ {j : Nat} {sl : Sl}, (env.set i (some (.d (.lst xs))))[j]? = some (some sl) → sl.own = true → env[j]? = some (some sl) := fun {j sl} h o => by
        by_cases e : i = j
        · subst e
          rw [List.getElem?_set_self hi] at h
          cases h
          cases o
        · rw [List.getElem?_set_ne e] at h
          exact h
      exact sr.sep j k sl1 sl2 u hjk (f q1 o1) (f q2 o2) o1 o2 q3 q4
  · exact ⟨s, rfl, Le.refl s, sr⟩
end
def mFrz (i : Nat) (m : MS) : MS := fun env h => m (frzE i env) h
theorem vss_frz {X : Cx} {g : Gi} {B : Bg} {W : WXv} {sts : List Stmt} {m : MS} (i : Nat) (h : PSs X sts (tS g B W m)) : PSs X sts (tS g B W (mFrz i m)) :=
  pss_imp h fun N σ H ⟨env, s, sr, p⟩ => by
    obtain ⟨s', e1, le, sr'⟩ := sr.frzS i
    exact ⟨frzE i env, s', sr', by rw [e1]; exact PostS.later le p⟩

/-! ### x[k] = e, x a slot's own list -/
def fSetIxO (i : Nat) (env : Env) (xs : List D) (x z : Vl) (h3 : Hc) : RS := match x, z with
  | .d d, .d (.int k) => (match ixN xs.length k with
    | some j => .nx (env.set i (some (.ol (xs.set j d)))) h3
    | none => .stuck)
  | _, _ => .stuck
def mSetIxO (i : Nat) (e k : ME) : MS := fun env h => match env[i]? with
  | some (some (.ol xs)) => (e env h).thenS env fun x h1 => (k env h1).thenS env fun z h3 => fSetIxO i env xs x z h3
  | _ => .stuck
section
variable {X : Cx} {g : Gi} {B : Bg} {W : WXv} {pos tpos : Pos} {e o k : Expr} {m mk : ME}
theorem vs_setixO {i : Nat} (he : PE X e (tE g B W m)) (ho : PE X o (tVar i)) (hk : PE X k (tE g B W mk)) (hs : swapsWithSole [.Subscript o k tpos] e pos.line X.env = pure false := by rfl) (hw : swappedStores [.Subscript o k tpos] e X.env = pure none := by rfl)
    (h1 : (assignEach [.Subscript o k tpos] X.env).map (·.2) = [assign (.Subscript o k tpos) X.env] := by rfl)
    (ha : ∀ v, assign (.Subscript o k tpos) X.env v = (do
      let ov ← holding [v] (eval o X.env)
      let iv ← holding [v, ov] (eval k X.env)
      standAt tpos
      holding [v, ov, iv] (setItem ov iv v)
      release [v, ov, iv] []) := by intro _; rfl) : PS X (.Assign [.Subscript o k tpos] e pos) (tS g B W (mSetIxO i m mk)) := by
  refine ps_imp (ps_asg he (pg_sub ho hk set_list ha) hs hw h1) fun N σ H ⟨env, s, sr, p⟩ => ?_
  unfold mSetIxO at p
  split at p
  · next xs hx =>
    obtain ⟨v0, g1, g2⟩ := sr.slot i _ hx
    obtain ⟨a, vs, rfl, g3, g4, g5⟩ := g2
    refine (bindS sr p).mono fun v H1 ⟨s1, x, sr1, l1, r1, p1⟩ => ⟨.ref a, g1, ?_⟩
    -- the value stays known while the place is asked
    refine ⟨env, s1, sr1, ?_⟩
    cases q : mk env s1.h with
    | ok z h2 =>
      rw [q] at p1
      intro kv H3 s3 e3 ev3 sr3 r3
      have p1 : PostS g B W s1 (fSetIxO i env xs x z h2) N := p1
      unfold fSetIxO at p1
      split at p1
      · next d =>
        split at p1
        · next j hj =>
          obtain ⟨v1, f1, f2⟩ := sr3.slot i _ hx
          rw [g1] at f1
          cases f1
          obtain ⟨a', ws, ea, f3, f4, f5⟩ := f2
          cases ea
          refine ⟨a, ws, _, j, rfl, r3, f3, by rw [f5.length]; exact hj, ?_⟩
          have rd := ev3.rep (show Rep g s1.F s1.al _ v from r1)
          exact p1 σ _ s3 e3 ev3.le (sr3.mut hx rfl g1 f4.f f4.al f4.new ⟨a, _, rfl, upd_same, f4, f5.set rd j⟩)
        · exact p1.elim
      · exact p1.elim
    | exc y h2 =>
      rw [q] at p1
      intro cls dd H3 s3 e3 ev3 sr3 xr
      exact p1 cls dd σ H3 s3 e3 ev3.le sr3 xr
    | stuck =>
      rw [q] at p1
      exact p1.elim
  · exact p.elim
end
end Vi

set_option Elab.async false
set_option linter.all false
set_option maxRecDepth 100000
set_option maxHeartbeats 2000000
namespace Vi
open PySem L2 PyProof.Rows

/-! ### the head's hook: any checks of the written part, and the defs, each at an address that is told by a path -/
structure DefV where
  pth : PySem.W.Frag → Addr
  name : Str
  qual : Str
  params : Arguments
  body : List Stmt
  scope : Scope
  dfl : List He.Dv := []
def fnAt (K : PySem.W.Frag) (a : Addr) : He.FnW :=
  match K.lookup a with
  | some ⟨_, _, .func z, _⟩ =>
    some (z.name, z.qualname, z.params, z.body, z.scope, z.globals, z.closure, z.builtins)
  | _ => none
def DefV.want (d : DefV) : He.FnW :=
  some (d.name, d.qual, d.params, .stmts d.body, d.scope, mainGlobals, [], builtinsNs)
def DefV.dv (K : PySem.W.Frag) (d : DefV) : List L2.V :=
  d.dfl.map (He.Dv.v K)
def DefV.good (K : PySem.W.Frag) (d : DefV) : Bool :=
  PySem.W.keepIn K (.ref (d.pth K)) &&
  (match K.lookup (d.pth K) with
  | some ⟨_, _, .func z, _⟩ =>
    PySem.W.codeIn K z.code d.qual && He.dflB K z.defaults (d.dv K)
  | _ => false)
theorem DefV.fun_ {K : PySem.W.Frag} {d : DefV} (e : fnAt K (d.pth K) = d.want) (c : d.good K = true) : ∃ fd, FunD K d.name d.qual d.params d.body d.scope (d.dv K) [] (d.pth K) fd := by
  obtain ⟨kp, c2⟩ := Bool.and_eq_true_iff.mp c
  unfold fnAt at e
  cases q : K.lookup (d.pth K) with
  | none => rw [q] at c2; cases c2
  | some o =>
    obtain ⟨oc, od, dt, osl⟩ := o
    rw [q] at c2 e
    cases dt with
    | func z =>
      obtain ⟨z1, z2, z3, z4, z5, z6, z7, z8, z9, z10, z11, z12, z13, z14, z15⟩ := z
      have e2 : (some (z1, z2, z3, z4, z5, z6, z7, z15) : He.FnW) = d.want := e
      unfold DefV.want at e2
      simp only [Option.some.injEq, Prod.mk.injEq] at e2
      obtain ⟨p1, p2, p3, p4, p5, p6, p7, p8⟩ := e2
      subst p1 p2 p3 p4 p5 p6 p7 p8
      have c3 : (PySem.W.codeIn K z13 d.qual && He.dflB K z8 (d.dv K)) = true := c2
      obtain ⟨k1, k2⟩ := Bool.and_eq_true_iff.mp c3
      exact ⟨_, ⟨oc, od, z8, z9, z10, z11, z12, z13, z14, osl, rfl, q, k1, He.dflB_ok k2, .inl rfl⟩, kp⟩
    | _ => cases c2
/-- what the names reach, from some roots -/
def reach (g : Addr → Option Obj) (roots : List Addr) : Nat → List Addr
  | 0 => roots
  | n + 1 => He.growD g (reach g roots n)
abbrev AlV : Type := Bool × List He.FnW
def obsV (ck : List (PySem.W.Frag → Bool)) (fn : List DefV) (K : PySem.W.Frag) : AlV :=
  ((ck.all fun f => f K) && (fn.all fun d => d.good K), fn.map fun d => fnAt K (d.pth K))
def wantV (fn : List DefV) : AlV := (true, fn.map DefV.want)
def SaysV (ck : List (PySem.W.Frag → Bool)) (fn : List DefV) (K : PySem.W.Frag) : Prop := obsV ck fn K = wantV fn
def obsVG (n : Nat) (ck : List (PySem.W.Frag → Bool)) (fn : List DefV) (g : Addr → Option Obj) : AlV :=
  obsV ck fn (He.frG g (reach g [mainGlobals, cStatics] n))
def hookV (n : Nat) (ck : List (PySem.W.Frag → Bool)) (fn : List DefV) : PySem.W.Hook where
  α := AlV
  obs := fun s => obsVG n ck fn s.heap.get?
  val := fun _ => wantV fn
  says := fun _ h => ∃ K : PySem.W.Frag, K.In h ∧ SaysV ck fn K
  of := fun _ _ e => ⟨_, He.frG_in, e⟩
  keeps := fun _ _ _ ⟨K, i, c⟩ k => ⟨K, PySem.W.Frag.In.keeps i k, c⟩
theorem obsVG_eq {n : Nat} {ck : List (PySem.W.Frag → Bool)} {fn : List DefV} {g : Addr → Option Obj} {s : Shared} (h : ∀ a, g a = s.heap.get? a) : obsVG n ck fn g = (hookV n ck fn).obs s := by
  rw [show g = s.heap.get? from funext h] <;> rfl
section
variable {ck : List (PySem.W.Frag → Bool)} {fn : List DefV} {K : PySem.W.Frag}
theorem SaysV.fact (c : SaysV ck fn K) (i : Nat) {f : PySem.W.Frag → Bool} (h : ck[i]? = some f := by rfl) : f K = true := by
  have c1 := (Bool.and_eq_true_iff.mp (congrArg Prod.fst c)).1
  exact List.all_eq_true.mp c1 f (List.mem_of_getElem? h)
theorem SaysV.fun_ (c : SaysV ck fn K) (i : Nat) {d : DefV} (h : fn[i]? = some d := by rfl) : ∃ fd, FunD K d.name d.qual d.params d.body d.scope (d.dv K) [] (d.pth K) fd := by
  have c2 := (Bool.and_eq_true_iff.mp (congrArg Prod.fst c)).2
  have e : fn.map (fun d => fnAt K (d.pth K)) = fn.map DefV.want := congrArg Prod.snd c
  have e2 := congrArg (fun l => l[i]?) e
  simp only [List.getElem?_map, h, Option.map_some] at e2
  exact DefV.fun_ (Option.some.inj e2) (List.all_eq_true.mp c2 d (List.mem_of_getElem? h))
end
/-! ### checks -/
def recFn (K : PySem.W.Frag) (a : Addr) (n : String) : Addr := match PySem.W.recIn K a n with
  | some (.ref f :: _) => f
  | _ => 0
def eqv (a b : Option (Option Value)) : Bool := decide (a = b)
theorem eqv_ok {a b : Option (Option Value)} (h : eqv a b = true) : a = b := of_decide_eq_true h
/-- paths -/
abbrev pG (x : Str) : PySem.W.Frag → Addr := fun K => He.ga K x
abbrev pM (c m : Str) : PySem.W.Frag → Addr := fun K => He.ma K (He.ga K c) m
abbrev pP (c m : Str) : PySem.W.Frag → Addr := fun K => recFn K (He.ma K (He.ga K c) m) "property"
abbrev pC (c m : Str) : PySem.W.Frag → Addr := fun K => recFn K (He.ma K (He.ga K c) m) "classmethod"
def kIcls (c : Str) (K : PySem.W.Frag) : Bool :=
  (He.Fa.cls c).ok K && (eqv (PySem.W.findIn K (.ref (He.ga K c)) "__class__") (some (some (.builtin "object.__class__"))) &&
  (decide (PySem.W.mroIn K (He.ga K c) (.type "object") = some true) && PySem.W.selfFirst K (He.ga K c)))
theorem kIcls_ok {c : Str} {K : PySem.W.Frag} (h : kIcls c K = true) : ClsOk K (He.ga K c) ∧ PySem.W.selfFirst K (He.ga K c) = true := by
  obtain ⟨h1, h⟩ := Bool.and_eq_true_iff.mp h
  obtain ⟨h2, h⟩ := Bool.and_eq_true_iff.mp h
  obtain ⟨h3, h4⟩ := Bool.and_eq_true_iff.mp h
  exact ⟨⟨He.cls_ok h1, eqv_ok h2, of_decide_eq_true h3⟩, h4⟩
def kProp (c f : Str) (K : PySem.W.Frag) : Bool :=
  eqv (PySem.W.findIn K (.ref (He.ga K c)) f) (some (some (.ref (He.ma K (He.ga K c) f)))) &&
  (eqv (PySem.W.specialIn K (.ref (He.ma K (He.ga K c) f)) "__get__") (some (some (.builtin "property.__get__"))) &&
  (decide (PySem.W.takesIn K (.ref (He.ma K (He.ga K c) f)) = some true) &&
  (match PySem.W.recIn K (He.ma K (He.ga K c) f) "property" with
  | some (.ref _ :: _) => true
  | _ => false)))
theorem kProp_ok {c f : Str} {K : PySem.W.Frag} (h : kProp c f K = true) : PropOf K (He.ga K c) f (He.ma K (He.ga K c) f) (pP c f K) := by
  obtain ⟨h1, h⟩ := Bool.and_eq_true_iff.mp h
  obtain ⟨h2, h⟩ := Bool.and_eq_true_iff.mp h
  obtain ⟨h3, h4⟩ := Bool.and_eq_true_iff.mp h
  refine ⟨eqv_ok h1, eqv_ok h2, of_decide_eq_true h3, ?_⟩
  show ∃ rest, _ = some (Value.ref (recFn K _ "property") :: rest)
  unfold recFn
  split at h4
  · next f rest e => exact ⟨rest, e⟩
  · cases h4
def isGet (r : Option PySem.W.CFound) (g a o t : Value) : Bool := match r with
  | some (.get g' a' o' t') => decide (g' = g) && (decide (a' = a) && (decide (o' = o) && decide (t' = t)))
  | _ => false
theorem isGet_ok {r : Option PySem.W.CFound} {g a o t : Value} (h : isGet r g a o t = true) : r = some (.get g a o t) := by
  unfold isGet at h
  split at h
  · obtain ⟨h1, h⟩ := Bool.and_eq_true_iff.mp h
    obtain ⟨h2, h⟩ := Bool.and_eq_true_iff.mp h
    obtain ⟨h3, h4⟩ := Bool.and_eq_true_iff.mp h
    rw [of_decide_eq_true h1, of_decide_eq_true h2, of_decide_eq_true h3, of_decide_eq_true h4]
  · cases h
def kCmet (c m : Str) (K : PySem.W.Frag) : Bool :=
  PySem.W.readsIn K (He.ga K c) (.type "type") && (eqv (PySem.W.specialIn K (.ref (He.ga K c)) "__getattribute__") (some (some (.builtin "type.__getattribute__"))) &&
  (isGet (PySem.W.findCls K (.ref (He.ga K c)) (.type "type") m) (.builtin "classmethod.__get__") (.ref (He.ma K (He.ga K c) m)) .none (.ref (He.ga K c)) &&
  (PySem.W.fnIn K (pC c m K) &&
  (match PySem.W.recIn K (He.ma K (He.ga K c) m) "classmethod" with
  | some (.ref _ :: _) => true
  | _ => false))))
theorem kCmet_ok {c m : Str} {K : PySem.W.Frag} (h : kCmet c m K = true) : ClX.CRead K (He.ga K c) (.type "type") ∧ ClX.CMet K (He.ga K c) (.type "type") m (He.ma K (He.ga K c) m) (pC c m K) := by
  obtain ⟨h1, h⟩ := Bool.and_eq_true_iff.mp h
  obtain ⟨h2, h⟩ := Bool.and_eq_true_iff.mp h
  obtain ⟨h3, h⟩ := Bool.and_eq_true_iff.mp h
  obtain ⟨h4, h5⟩ := Bool.and_eq_true_iff.mp h
  refine ⟨⟨h1, eqv_ok h2⟩, isGet_ok h3, ?_, h4⟩
  show ∃ rest, _ = some (Value.ref (recFn K _ "classmethod") :: rest)
  unfold recFn
  split at h5
  · next f rest e => exact ⟨rest, e⟩
  · cases h5
/-- a special method: where it stands, a function -/
def kOp (c m : Str) (K : PySem.W.Frag) : Bool := (He.Fa.meth c m).ok K
/-- isinstance: t asks of u -/
def kKit (t u : PySem.W.Frag → Value) (b : Bool) (K : PySem.W.Frag) : Bool := decide (PySem.W.kitOne K (t K) (u K) = some b)
def kNotFirst (c : Str) (t : PySem.W.Frag → Value) (K : PySem.W.Frag) : Bool := PySem.W.notFirst K (He.ga K c) (t K)
def kCatch (c x : Str) (b : Bool) (K : PySem.W.Frag) : Bool := decide (PySem.W.exmOne K (.ref (He.ga K c)) (.ref (He.ga K x)) = some b)
def kObjGet (K : PySem.W.Frag) : Bool :=
  eqv (PySem.W.specialIn K (.builtin "object.__class__") "__get__") (some (some (.builtin "getset_descriptor.__get__"))) &&
  decide (PySem.W.takesIn K (.builtin "object.__class__") = some true)
/-- an own error class, with an own __init__ -/
def kExo (c : Str) (K : PySem.W.Frag) : Bool :=
  (match K.lookup (He.ga K c) with
  | some ⟨.type "type", _, .cls cd, sl⟩ => (match cd.mro, sl.toList with
    | .ref C' :: bm, [_, _, _, _, some (.builtin n), _] =>
      C' == He.ga K c && (n == "ValueError.__new__" && (!cd.hasDel && (cd.hasDict && PySem.HandSPX.refsVE bm)))
    | _, _ => false)
  | _ => false) &&
  (eqv (PySem.W.findIn K (.ref (He.ga K c)) "__setattr__") (some (some (.builtin "object.__setattr__"))) &&
  (decide (PySem.W.subIn K (.ref (He.ga K c)) (.type "BaseException") = some true) &&
  (decide (PySem.W.typeIn K (.ref (He.ga K c)) = some (.type "type")) && PySem.W.keepIn K (.ref (He.ga K c)))))
theorem kExo_ok {c : Str} {K : PySem.W.Frag} (h : kExo c K = true) : OexC K (He.ga K c) := by
  obtain ⟨h1, h⟩ := Bool.and_eq_true_iff.mp h
  obtain ⟨h2, h⟩ := Bool.and_eq_true_iff.mp h
  obtain ⟨h3, h⟩ := Bool.and_eq_true_iff.mp h
  obtain ⟨h4, h5⟩ := Bool.and_eq_true_iff.mp h
  refine ⟨?_, eqv_ok h2, of_decide_eq_true h3, of_decide_eq_true h4, h5⟩
  split at h1
  · next dd cd sl ho =>
    split at h1
    · next C' bm k0 k1 k2 k3 n k5 hm hs =>
      simp only [Bool.and_eq_true, beq_iff_eq, Bool.not_eq_true'] at h1
      obtain ⟨rfl, rfl, hdel, hdic, hve⟩ := h1
      obtain ⟨nm, bs, mro, ns, qn, hd, sn, sub, ab, col, del⟩ := cd
      dsimp only at hm hdel hdic
      subst hdel hdic
      have hsl : sl = #[k0, k1, k2, k3, some (.builtin "ValueError.__new__"), k5] := by
        obtain ⟨l⟩ := sl
        simp only at hs
        rw [hs]
      subst hsl
      rw [hm] at ho
      exact ⟨nm, qn, ns, bs, bm, sn, sub, ab, col, dd, k0, k1, k2, k3, k5, ho, hve⟩
    · cases h1
  · cases h1
/-- .. its fields may be read, isinstance may ask -/
def kXc (c : Str) (K : PySem.W.Frag) : Bool :=
  xfB K (He.ga K c) && (eqv (PySem.W.findIn K (.ref (He.ga K c)) "__class__") (some (some (.builtin "object.__class__"))) &&
  (decide (PySem.W.mroIn K (He.ga K c) (.type "object") = some true) && kObjGet K))
theorem kXc_ok {c : Str} {K : PySem.W.Frag} (h : kXc c K = true) : XfC K (He.ga K c) ∧ L2.ExcC K (He.ga K c) := by
  obtain ⟨h1, h⟩ := Bool.and_eq_true_iff.mp h
  obtain ⟨h2, h⟩ := Bool.and_eq_true_iff.mp h
  obtain ⟨h3, h⟩ := Bool.and_eq_true_iff.mp h
  obtain ⟨h4, h5⟩ := Bool.and_eq_true_iff.mp h
  have x := xfB_ok h1
  exact ⟨x, x.ga, x.gg, x.exC, x.hdC, eqv_ok h2, eqv_ok h4, of_decide_eq_true h5, of_decide_eq_true h3⟩
end Vi

set_option Elab.async false
set_option linter.all false
set_option maxRecDepth 100000
set_option maxHeartbeats 2000000
namespace Vi
open PySem L2 PyProof.Rows

/-! ### a program's own types: what is asked of them, in tables -/
structure PD where
  nm : List Str
  cls : List Nat
  fld : List (Nat × Str)
  isi : List ((Ty × Ty) × Bool)
  xcs : List Nat
  xno : List (Nat × Str)
  nf : List (Nat × Ty)
def PD.ca (P : PD) (K : PySem.W.Frag) (c : Nat) : Addr := He.ga K (P.nm.getD c Str.empty)
def PD.val (P : PD) (K : PySem.W.Frag) : Ty → Value
  | .bt n => .type n
  | .own c => .ref (P.ca K c)
def PD.gi (P : PD) (K : PySem.W.Frag) : Gi where
  K := K
  ca := P.ca K
  isC := fun c => decide (c ∈ P.cls)
  fld := fun c f => decide ((c, f) ∈ P.fld)
  isi := fun t u => P.isi.lookup (t, u)
def PD.ok (P : PD) (K : PySem.W.Frag) : Bool :=
  (P.cls.all fun c => kIcls (P.nm.getD c Str.empty) K) && ((P.fld.all fun p => decide (p.1 ∈ P.cls) && eqv (PySem.W.findIn K (.ref (P.ca K p.1)) p.2) (some none)) &&
  (kObjGet K && ((P.isi.all fun e => decide (PySem.W.kitOne K (P.val K e.1.1) (P.val K e.1.2) = some e.2)) &&
  ((P.xcs.all fun c => kXc (P.nm.getD c Str.empty) K) && ((P.xno.all fun p => eqv (PySem.W.findIn K (.ref (P.ca K p.1)) p.2) (some none)) &&
  P.nf.all fun p => PySem.W.notFirst K (P.ca K p.1) (P.val K p.2))))))
theorem PD.val_eq {P : PD} {K : PySem.W.Frag} (t : Ty) : t.val (P.gi K) = P.val K t := by cases t <;> rfl
theorem mem_of_lookup {α β : Type} [BEq α] [LawfulBEq α] {a : α} {b : β} : ∀ {l : List (α × β)}, l.lookup a = some b → (a, b) ∈ l
  | [], h => by cases h
  | (c, d) :: r, h => by
    rw [List.lookup_cons] at h
    cases e : (a == c) with
    | true =>
      rw [e] at h
      cases h
      rw [eq_of_beq e]
      exact List.mem_cons_self ..
    | false =>
      rw [e] at h
      exact List.mem_cons_of_mem _ (mem_of_lookup h)
section
variable {P : PD} {K : PySem.W.Frag}
theorem PD.giOk (h : P.ok K = true) : GiOk (P.gi K) := by
  obtain ⟨h1, h⟩ := Bool.and_eq_true_iff.mp h
  obtain ⟨h2, h⟩ := Bool.and_eq_true_iff.mp h
  obtain ⟨h3, h⟩ := Bool.and_eq_true_iff.mp h
  obtain ⟨h4, h⟩ := Bool.and_eq_true_iff.mp h
  obtain ⟨k1, k2⟩ := Bool.and_eq_true_iff.mp h3
  refine ⟨fun c hc => (kIcls_ok (List.all_eq_true.mp h1 c (of_decide_eq_true hc))).1, fun c f hf => ?_, eqv_ok k1, of_decide_eq_true k2, fun t u b e => ?_⟩
  · obtain ⟨g1, g2⟩ := Bool.and_eq_true_iff.mp (List.all_eq_true.mp h2 (c, f) (of_decide_eq_true hf))
    exact ⟨g1, eqv_ok g2⟩
  · have z := of_decide_eq_true (List.all_eq_true.mp h4 _ (mem_of_lookup e))
    rw [PD.val_eq, PD.val_eq]
    exact z
theorem PD.sf (h : P.ok K = true) {c : Nat} (hc : c ∈ P.cls) : PySem.W.selfFirst K (P.ca K c) = true :=
  (kIcls_ok (List.all_eq_true.mp (Bool.and_eq_true_iff.mp h).1 c hc)).2
theorem PD.xcOk (h : P.ok K = true) : XcOk (P.gi K) (fun c => decide (c ∈ P.xcs)) (fun c f => decide ((c, f) ∈ P.xno)) := by
  obtain ⟨_, h⟩ := Bool.and_eq_true_iff.mp h
  obtain ⟨_, h⟩ := Bool.and_eq_true_iff.mp h
  obtain ⟨_, h⟩ := Bool.and_eq_true_iff.mp h
  obtain ⟨_, h⟩ := Bool.and_eq_true_iff.mp h
  obtain ⟨h5, h⟩ := Bool.and_eq_true_iff.mp h
  obtain ⟨h6, h⟩ := Bool.and_eq_true_iff.mp h
  exact ⟨fun c hc => kXc_ok (List.all_eq_true.mp h5 c (of_decide_eq_true hc)), fun c f hf => eqv_ok (List.all_eq_true.mp h6 (c, f) (of_decide_eq_true hf))⟩
theorem PD.nfOk (h : P.ok K = true) : ∀ c t, decide ((c, t) ∈ P.nf) = true → PySem.W.notFirst K ((P.gi K).ca c) (t.val (P.gi K)) = true := fun c t e => by
  obtain ⟨_, h⟩ := Bool.and_eq_true_iff.mp h
  obtain ⟨_, h⟩ := Bool.and_eq_true_iff.mp h
  obtain ⟨_, h⟩ := Bool.and_eq_true_iff.mp h
  obtain ⟨_, h⟩ := Bool.and_eq_true_iff.mp h
  obtain ⟨_, h⟩ := Bool.and_eq_true_iff.mp h
  obtain ⟨_, h7⟩ := Bool.and_eq_true_iff.mp h
  rw [PD.val_eq]
  exact List.all_eq_true.mp h7 (c, t) (of_decide_eq_true e)
end
/-! ### defs that are ready -/
structure Rdy (P : Program) (w : World) (K : PySem.W.Frag) (mg : Str → Option Value) (base : Heap) (g : Gi) (x : Str) (k n : Nat) (dd : List D) (F : Fn) : Prop where
  ex : ∃ (f : Addr) (fd : FuncData) (ps : List Str) (dvs : List L2.V) (ds : List Value), FnG P w K mg base k f fd ps (spD g ps.length F) ∧ mg x = some (.ref f) ∧ PySem.W.keepIn K (.ref f) = true ∧
    Binds K fd ps ds ∧ Vals dvs ds ∧ (∀ F al, Reps g F al dd dvs) ∧ n + dvs.length = ps.length
theorem Rdy.v {X : Cx} {g : Gi} {x : Str} {k j n : Nat} {dd : List D} {F : Fn} (h : Rdy X.prog X.w X.K X.mg X.base g x k n dd F) (hr : Room j X.A) (hj : k ≤ j) : VFn X g x n dd F := by
  obtain ⟨f, fd, ps, dvs, ds, h1, h2, h3, h4, h5, h6, h7⟩ := h.ex
  exact ⟨k, f, fd, ps, dvs, ds, h1, hr.mono hj, h2, h3, h4, h5, h6, h7⟩
/-- a method, a special method -/
structure RdyM (P : Program) (w : World) (K : PySem.W.Frag) (mg : Str → Option Value) (base : Heap) (g : Gi) (c : Nat) (m : Str) (k n : Nat) (dd : List D) (F : Fn) : Prop where
  ex : ∃ (f : Addr) (fd : FuncData) (ps : List Str) (dvs : List L2.V) (ds : List Value), FnG P w K mg base k f fd ps (spD g ps.length F) ∧ Meth K (g.ca c) m f ∧
    Binds K fd ps ds ∧ Vals dvs ds ∧ (∀ F al, Reps g F al dd dvs) ∧ (n + 1) + dvs.length = ps.length
  cl : g.isC c = true
theorem RdyM.v {X : Cx} {g : Gi} {c : Nat} {m : Str} {k j n : Nat} {dd : List D} {F : Fn} (h : RdyM X.prog X.w X.K X.mg X.base g c m k n dd F) (hr : Room j X.A) (hj : k ≤ j) : VMeth X g c m n dd F := by
  obtain ⟨f, fd, ps, dvs, ds, h1, h2, h3, h4, h5, h6⟩ := h.ex
  exact ⟨⟨k, f, fd, ps, dvs, ds, h1, hr.mono hj, h2, h3, h4, h5, h6⟩, h.cl⟩
theorem RdyM.op {X : Cx} {g : Gi} {c : Nat} {m : Str} {k j n : Nat} {F : Fn} (h : RdyM X.prog X.w X.K X.mg X.base g c m k n [] F) (sf : PySem.W.selfFirst X.K (g.ca c) = true) (hr : Room j X.A) (hj : k + 1 ≤ j) : VOp X g c m (n + 1) F := by
  obtain ⟨f, fd, ps, dvs, ds, h1, h2, h3, h4, h5, h6⟩ := h.ex
  have z := h5 (fun _ => none) (fun _ => none)
  obtain rfl : dvs = [] := z
  cases h4
  exact ⟨⟨k, f, fd, ps, h1, hr.mono hj, h2.at_, h2.fn, h3, h6.symm⟩, sf⟩
structure RdyP (P : Program) (w : World) (K : PySem.W.Frag) (mg : Str → Option Value) (base : Heap) (g : Gi) (c : Nat) (m : Str) (k : Nat) (F : Fn) : Prop where
  ex : ∃ (p q : Addr) (fd : FuncData) (ps : List Str), FnG P w K mg base k q fd ps (spD g ps.length F) ∧ PropOf K (g.ca c) m p q ∧ Binds K fd ps [] ∧ ps.length = 1
  cl : g.isC c = true
theorem RdyP.v {X : Cx} {g : Gi} {c : Nat} {m : Str} {k j : Nat} {F : Fn} (h : RdyP X.prog X.w X.K X.mg X.base g c m k F) (hr : Room j X.A) (hj : k + 1 ≤ j) : VProp X g c m F := by
  obtain ⟨p, q, fd, ps, h1, h2, h3, h4⟩ := h.ex
  exact ⟨⟨k, p, q, fd, ps, h1, hr.mono hj, h2, h3, h4⟩, h.cl⟩
structure RdyI (P : Program) (w : World) (K : PySem.W.Frag) (mg : Str → Option Value) (base : Heap) (g : Gi) (c : Nat) (k n : Nat) (dd : List D) (F : FnI) : Prop where
  ex : ∃ (f : Addr) (fd : FuncData) (ps : List Str) (q : Str) (dvs : List L2.V) (ds : List Value), FnG P w K mg base k f fd (q :: ps) (spI g c ps.length F) ∧ Mk K (g.ca c) f ∧
    Binds K fd (q :: ps) ds ∧ Vals dvs ds ∧ (∀ F al, Reps g F al dd dvs) ∧ n + dvs.length = ps.length
theorem RdyI.v {X : Cx} {g : Gi} {c : Nat} {k j n : Nat} {dd : List D} {F : FnI} (h : RdyI X.prog X.w X.K X.mg X.base g c k n dd F) (hr : Room j X.A) (hj : k + 1 ≤ j) : VMake X g c n dd F := by
  obtain ⟨f, fd, ps, q, dvs, ds, h1, h2, h3, h4, h5, h6⟩ := h.ex
  exact ⟨k, f, fd, ps, q, dvs, ds, h1, hr.mono hj, h2, h3, h4, h5, h6⟩
structure RdyC (P : Program) (w : World) (K : PySem.W.Frag) (mg : Str → Option Value) (base : Heap) (g : Gi) (c : Nat) (m : Str) (k n : Nat) (dd : List D) (F : Fn) : Prop where
  ex : ∃ (p f : Addr) (mc : Value) (fd : FuncData) (ps : List Str) (dvs : List L2.V) (ds : List Value), FnG P w K mg base k f fd ps (spD g ps.length F) ∧ ClX.CRead K (g.ca c) mc ∧ ClX.CMet K (g.ca c) mc m p f ∧
    Binds K fd ps ds ∧ Vals dvs ds ∧ (∀ F al, Reps g F al dd dvs) ∧ (n + 1) + dvs.length = ps.length
theorem RdyC.v {X : Cx} {g : Gi} {c : Nat} {m : Str} {k j n : Nat} {dd : List D} {F : Fn} (h : RdyC X.prog X.w X.K X.mg X.base g c m k n dd F) (hr : Room j X.A) (hj : k ≤ j) : VCMet X g c m n dd F := by
  obtain ⟨p, f, mc, fd, ps, dvs, ds, h1, h2, h3, h4, h5, h6, h7⟩ := h.ex
  exact ⟨k, p, f, mc, fd, ps, dvs, ds, h1, hr.mono hj, h2, h3, h4, h5, h6, h7⟩
structure RdyE (P : Program) (w : World) (K : PySem.W.Frag) (mg : Str → Option Value) (base : Heap) (g : Gi) (x : Str) (c k n : Nat) (mk : List D → List (Str × D)) : Prop where
  ex : ∃ (fI : Addr) (fd : FuncData) (ps : List Str) (fs : List L2.V → List (Str × L2.V)), OexC K (g.ca c) ∧ PySem.W.findIn K (.ref (g.ca c)) "__init__" = some (some (.ref fI)) ∧ PySem.W.typeIn K (.ref fI) = some (.type "function") ∧
    FnOk P w K mg base (L2.CX P w) k fI fd ps (spE (g.ca c) n fs) ∧ Binds K fd ps [] ∧ mg x = some (.ref (g.ca c)) ∧ n ≤ 1000 ∧
    (∀ F al ds ws, Reps g F al ds ws → ds.length = n → RepF g F al (mk ds) (fs ws))
theorem RdyE.v {X : Cx} {g : Gi} {x : Str} {c k j n : Nat} {mk : List D → List (Str × D)} (h : RdyE X.prog X.w X.K X.mg X.base g x c k n mk) (hr : Room j X.A) (hj : k + 1 ≤ j) : VExc X g x c n mk := by
  obtain ⟨fI, fd, ps, fs, h1, h2, h3, h4, h5, h6, h7, h8⟩ := h.ex
  exact ⟨k, fI, fd, ps, fs, h1, h2, h3, h4, hr.mono hj, h5, h6, h7, h8⟩
end Vi

set_option Elab.async false
set_option linter.all false
set_option maxRecDepth 100000
set_option maxHeartbeats 2000000
namespace Vi
open PySem L2 PyProof.Rows

/-! ### the law's end -/
/-- the law's function keeps its promise at a heap that holds nothing but the script -/
def Says1 (F : Fn) (n : Nat) : Prop := ∀ ns : List Int, ns.length ≤ n → ∃ h, F [.kl (ns.map D.int)] [] = .ok (.bl true) h
theorem reps_ints {g : Gi} {F : Hp} {al : Nat → Option Addr} : ∀ ns : List Int, Reps g F al (ns.map D.int) (ns.map L2.V.int)
  | [] => rfl
  | n :: r => ⟨_, _, rfl, rfl, reps_ints r⟩
theorem entry_sp {g : Gi} {K : PySem.W.Frag} (hK : g.K = K) {F : Fn} {n : Nat} {ns : List Int} {H : Hp} {a : Addr} (h : Says1 F n) (hl : ns.length ≤ n) (hS : SqL K H a (ns.map L2.V.int)) :
    spD g 1 F [.ref a] H (fun v _ => v = .bl true) (fun _ _ _ => False) := by
  obtain ⟨h', e⟩ := h ns hl
  refine ⟨⟨H, fun _ => none, []⟩, [.kl (ns.map D.int)], rfl, ⟨fun _ _ z => z, fun _ _ _ z => (by cases z), fun _ _ z => (by cases z), fun n c z => (by cases z)⟩, ⟨_, _, rfl, ⟨a, _, rfl, hK ▸ hS, reps_ints ns⟩, rfl⟩, ?_⟩
  rw [e]
  intro v H' s' _ _ _ r
  exact r
section
variable {P : Program} {w : World} {K : PySem.W.Frag} {mg mb : Str → Option Value} {k : Nat} {fa a : Addr} {fd : FuncData} {x : Str} {sp : Sp} {s1 : Shared} {vs : List Value} {ns : List Int}
theorem guards0 : callerA.guards = some [] := rfl
theorem run_law (KX : K.In s1.heap) (hns : s1.heap.Ns mainGlobals mg) (hb : s1.heap.Ns builtinsNs mb) (hbb : ∀ x : Str, x ≠ "__name__" → mb x = bootBuiltins x) (hlim : s1.heap.NoLimit) (hg : s1.gens = #[])
    (ha : s1.heap.get? a = some { cls := .type "list", data := .seq vs.toArray }) (hi : IntsAre vs ns) (hl : ns.length ≤ sizeLine) (hr : Room k callerA)
    (F : ∀ base : Heap, K.In base → base.Ns mainGlobals mg → FnG P w K mg base k fa fd [x] sp) (bd : ∀ (s : Shared) (u : Value), BindsTo s fd ⟨[u], []⟩ [(x, u)])
    (hsp : ∀ H : Hp, SqL K H a (ns.map L2.V.int) → sp [.ref a] H (fun v _ => v = .bl true) fun _ _ _ => False) :
    codeAny (model P w) callerA (.call (.ref fa) ⟨[.ref a], []⟩) (fun r s' => r = .ok (.ret (.bool true)) ∧ OldK s1.heap s'.heap ∧ s'.os = s1.os ∧ AllBare s'.gens) s1 := by
  have rv := vals_ints hi
  have lenV := hi.length
  -- H: nothing, or the script alone
  have core : ∀ (H : Hp) (hO : Only H) (hS : SqL K H a (ns.map L2.V.int)) (ok : HOk P w H s1.heap) (only : ∀ b u, H b = some u → b = a) (nk : ∀ u, H a = some u → K.lookup a = none),
      codeAny (model P w) callerA (.call (.ref fa) ⟨[.ref a], []⟩) (fun r s' => r = .ok (.ret (.bool true)) ∧ OldK s1.heap s'.heap ∧ s'.os = s1.os ∧ AllBare s'.gens) s1 := by
    intro H hO hS ok only nk
    have below : ∀ {b : Addr} {o : Obj}, s1.heap.get? b = some o → H b = none → (hidT s1.heap H).get? b = some o := fun e n => hidT_get e n
    have free : ∀ {b : Addr} {o : Obj}, K.lookup b = some o → H b = none := fun {b o} e => by
      cases q : H b with
      | none => rfl
      | some u =>
        obtain rfl := only b u q
        rw [nk u q] at e
        cases e
    have noDict : ∀ {b : Addr} {o : Obj} {es : Array DictEntry} {ep : Nat}, s1.heap.get? b = some o → o.data = .dict es ep → H b = none := fun {b o es ep} e d => by
      cases q : H b with
      | none => rfl
      | some u =>
        obtain rfl := only b u q
        rw [ha] at e
        cases e
        cases (show Data.seq vs.toArray _ = Data.dict es ep from d)
    have ns' : ∀ {b : Addr} {m : Str → Option Value}, s1.heap.Ns b m → (hidT s1.heap H).Ns b m := fun ⟨o, es, ep, e, d, r⟩ => ⟨o, es, ep, below e (noDict e d), d, r⟩
    have kin : K.In (hidT s1.heap H) := fun b o e => below (KX b o e) (free e)
    have md : Mod K mg (hidT s1.heap H) := by
      refine ⟨kin, ns' hns, ⟨mb, ns' hb, hbb⟩, ?_⟩
      obtain ⟨mc, l1, l2⟩ := hlim
      exact ⟨mc, ns' l1, l2⟩
    have e0 : Env0 P w K mg (hidT s1.heap H) callerA [] s1 H :=
      ⟨rfl, md, fun b o e => of_hidT e, Nat.le_of_eq (hidT_size _ _), trivial, fun b z => (by cases z), ok, .of_eq hg⟩
    have go := (F _ kin (ns' hns)).run callerA [] s1 H ⟨[.ref a], []⟩ [.ref a] [.ref a] _ (fun _ _ _ => False) hr guards0 e0 (bd s1 (.ref a)) (.cons rfl .nil) (hsp H hS)
    refine codeAny_mono go fun r s' h => ?_
    cases r with
    | error e =>
      obtain ⟨_, _, _, _, _, _, _, _, _, _, _, _, z⟩ := h
      exact z.elim
    | ok fl =>
      cases fl with
      | next => exact h.elim
      | brk => exact h.elim
      | cont => exact h.elim
      | ret u =>
        obtain ⟨v, H', os, bare, un, ok', rr, q⟩ := h
        obtain rfl : v = .bl true := q
        obtain rfl : u = Value.bool true := rr
        refine ⟨rfl, OldK.of_keep fun b o e => ?_, os, bare⟩
        rcases hO b with z | ⟨ob, xs, z⟩
        · exact un.keep b o e z (fun y => (by cases y)) (fun y => (by cases y))
        · obtain ⟨e1, _⟩ := ok b _ z
          obtain ⟨e2, _⟩ := ok' b _ (un.frzs b ob _ z)
          rw [e] at e1
          cases e1
          exact e2
  cases hk : K.lookup a with
  | some o =>
    obtain rfl : o = { cls := .type "list", data := .seq vs.toArray } := Option.some.inj ((KX a o hk).symm.trans ha)
    refine core (fun _ => none) (fun _ => .inl rfl) (.inr ⟨_, vs.toArray, _, hk, rfl, rfl, rfl, ?_, by simpa using rv⟩) (fun b u z => (by cases z)) (fun b u z => (by cases z)) fun u z => (by cases z)
    rw [List.size_toArray, lenV]
    exact hl
  | none =>
    let o : HO := .frz { cls := .type "list", data := .seq vs.toArray } (.lst (ns.map L2.V.int))
    have at_ : ∀ {b : Addr} {u : HO}, (if b = a then some o else none) = some u → b = a ∧ u = o := fun {b u} z => by
      by_cases hb : b = a
      · rw [if_pos hb] at z
        exact ⟨hb, (Option.some.inj z).symm⟩
      · rw [if_neg hb] at z
        cases z
    refine core (fun b => if b = a then some o else none) (fun b => ?_) (.inl (.inr ⟨_, if_pos rfl⟩)) (fun b u z => ?_) (fun b u z => (at_ z).1) fun _ _ => hk
    · by_cases hb : b = a
      · exact .inr ⟨_, _, if_pos hb⟩
      · exact .inl (if_neg hb)
    · obtain ⟨rfl, rfl⟩ := at_ z
      exact ⟨ha, by rw [List.length_map]; exact hl, vs, _, rv, ha⟩
end
theorem walk_G {l : PySem.W.OpenLaw} {n k : Nat} {q : Program} {loose : List Str} {XP : (Str → Option Value) → Heap → Prop} {YP : World → Heap → Prop} {d : DefRec} {x : Str} {F : Fn}
    (hn : l.most = some n) (hn2 : n ≤ sizeLine) (hdf : d.params.defaults = []) (hr : Room k callerA) (says : Says1 F n)
    (T : ∀ (w : World) (mg : Str → Option Value) (fa : Addr) (h : Heap), YP w h → h.Ns mainGlobals mg → mg d.name = some (.ref fa) →
      ∃ (K : PySem.W.Frag) (fd : FuncData) (g : Gi), g.K = K ∧ K.In h ∧ (∀ (s : Shared) (u : Value), BindsTo s fd ⟨[u], []⟩ [(x, u)]) ∧
        ∀ base : Heap, K.In base → base.Ns mainGlobals mg → FnG l.prog w K mg base k fa fd [x] (spD g 1 F)) :
    PySem.W.WalkO q loose XP YP l.row.toRowW d [] (fun f vs => PySem.call f vs) := by
  refine Att.attach_call hn hdf fun w s0 s1 mg mb fa o pm cd doc a vs ns G Y ho hd hcd hmg hobj hints hlen hg => ?_
  obtain ⟨K, fd, g, hK, KX, bd, tf⟩ := T w mg fa _ Y G.T.g hmg
  exact run_law KX G.T.g G.T.b G.T.builtins G.T.nolimit hg hobj hints (Nat.le_trans hlen hn2) hr tf bd fun H hS => entry_sp hK says hlen hS
end Vi

set_option Elab.async false
set_option linter.all false
set_option maxRecDepth 100000
set_option maxHeartbeats 2000000
namespace Vi
open PySem L2 PyProof.Rows
/-! ### small words for the printed proofs -/
theorem bt_isinstance : bootBuiltins "isinstance" = some (.builtin "isinstance") := by decide +kernel
theorem bt_len : bootBuiltins "len" = some (.builtin "len") := by decide +kernel
theorem bt_abs : bootBuiltins "abs" = some (.builtin "abs") := by decide +kernel
theorem bt_sum : bootBuiltins "sum" = some (.builtin "sum") := by decide +kernel
theorem bt_max : bootBuiltins "max" = some (.builtin "max") := by decide +kernel
theorem bt_min : bootBuiltins "min" = some (.builtin "min") := by decide +kernel
theorem bt_repr : bootBuiltins "repr" = some (.builtin "repr") := by decide +kernel
theorem bt_int : bootBuiltins "int" = some (.type "int") := by decide +kernel
theorem bt_bool : bootBuiltins "bool" = some (.type "bool") := by decide +kernel
theorem bt_str : bootBuiltins "str" = some (.type "str") := by decide +kernel
theorem bt_list : bootBuiltins "list" = some (.type "list") := by decide +kernel
theorem bt_tuple : bootBuiltins "tuple" = some (.type "tuple") := by decide +kernel
theorem bt_dict : bootBuiltins "dict" = some (.type "dict") := by decide +kernel
theorem bt_ValueError : bootBuiltins "ValueError" = some (.type "ValueError") := by decide +kernel
/-- a builtin's value is what K says -/
def kGlobB (x id : Str) (n : String) (K : PySem.W.Frag) : Bool := eqv (PySem.W.nsIn K mainGlobals x) (some (some (.builtin n)))
/-- exceptions of two fields -/
def mkE (f1 f2 lit : Str) : List D → List (Str × D) := fun ds => match ds with
  | [v] => [(f2, .str lit), (f1, v)]
  | _ => []
theorem mkE_ok {g : Gi} {f1 f2 lit : Str} : ∀ (F : Hp) (al : Nat → Option Addr) (ds : List D) (ws : List L2.V), Reps g F al ds ws → ds.length = 1 → RepF g F al (mkE f1 f2 lit ds) ((fun ws => match ws with
      | [v] => [(f2, .str lit), (f1, v)]
      | _ => ([] : List (Str × L2.V))) ws) := by
  intro F al ds ws r hl
  match ds, hl with
  | [d], _ =>
    obtain ⟨v, r', e1, e2, e3⟩ := r
    have e3 : r' = [] := e3
    subst e3
    subst e1
    exact ⟨.str lit, [(f1, v)], rfl, rfl, v, [], rfl, e2, rfl⟩
section
variable {P : Program} {w : World} {K : PySem.W.Frag} {mg : Str → Option Value} {base : Heap} {g : Gi}
/-- what a printed proof stands on -/
structure Gnd (PDx : PD) (ck : List (PySem.W.Frag → Bool)) (fn : List DefV) (K : PySem.W.Frag) (mg : Str → Option Value) (base : Heap) : Prop where
  S : SaysV ck fn K
  X : K.In base
  G : base.Ns mainGlobals mg
  ok : PDx.ok K = true
theorem rdy_of {f : Addr} {x : Str} {fd : FuncData} {ps : List Str} {qual : Str} {params : Arguments} {body : List Stmt} {scope : Scope} {nm : Str} {k : Nat} {F : Fn} (FD : FunD K nm qual params body scope [] [] f fd) (FG : FnG P w K mg base k f fd ps (spD g ps.length F)) (hm : mg x = some (.ref f))
    (hb : ∀ (kV doc pm : Value) (an : Option Addr) (cdv ct : Value) (us : List Value), us.length = ps.length → bindArgs (PySem.W.fnOf nm qual params body scope .none kV doc pm an cdv ct) ⟨us, []⟩ = pure (ps.zip us)) {n : Nat} (hn : n = ps.length) : Rdy P w K mg base g x k n [] F :=
  ⟨f, fd, ps, [], [], FG, hm, FD.kp, FD.bindsN hb, .nil, fun _ _ => rfl, by rw [hn]; rfl⟩
theorem rdyM_of {f : Addr} {c : Nat} {m : Str} {fd : FuncData} {ps : List Str} {qual : Str} {params : Arguments} {body : List Stmt} {scope : Scope} {nm : Str} {k : Nat} {F : Fn} (FD : FunD K nm qual params body scope [] [] f fd) (FG : FnG P w K mg base k f fd ps (spD g ps.length F)) (hm : Meth K (g.ca c) m f) (hc : g.isC c = true)
    (hb : ∀ (kV doc pm : Value) (an : Option Addr) (cdv ct : Value) (us : List Value), us.length = ps.length → bindArgs (PySem.W.fnOf nm qual params body scope .none kV doc pm an cdv ct) ⟨us, []⟩ = pure (ps.zip us)) {n : Nat} (hn : n + 1 = ps.length) : RdyM P w K mg base g c m k n [] F :=
  ⟨⟨f, fd, ps, [], [], FG, hm, FD.bindsN hb, .nil, fun _ _ => rfl, by rw [← hn]; rfl⟩, hc⟩
theorem rdyP_of {p f : Addr} {c : Nat} {m : Str} {fd : FuncData} {ps : List Str} {qual : Str} {params : Arguments} {body : List Stmt} {scope : Scope} {nm : Str} {k : Nat} {F : Fn} (FD : FunD K nm qual params body scope [] [] f fd) (FG : FnG P w K mg base k f fd ps (spD g ps.length F)) (hm : PropOf K (g.ca c) m p f) (hc : g.isC c = true)
    (hb : ∀ (kV doc pm : Value) (an : Option Addr) (cdv ct : Value) (us : List Value), us.length = ps.length → bindArgs (PySem.W.fnOf nm qual params body scope .none kV doc pm an cdv ct) ⟨us, []⟩ = pure (ps.zip us)) (hn : ps.length = 1) : RdyP P w K mg base g c m k F :=
  ⟨⟨p, f, fd, ps, FG, hm, FD.bindsN hb, hn⟩, hc⟩
theorem rdyC_of {p f : Addr} {c : Nat} {m : Str} {mc : Value} {fd : FuncData} {ps : List Str} {qual : Str} {params : Arguments} {body : List Stmt} {scope : Scope} {nm : Str} {k : Nat} {F : Fn} (FD : FunD K nm qual params body scope [] [] f fd) (FG : FnG P w K mg base k f fd ps (spD g ps.length F)) (hm : ClX.CRead K (g.ca c) mc ∧ ClX.CMet K (g.ca c) mc m p f)
    (hb : ∀ (kV doc pm : Value) (an : Option Addr) (cdv ct : Value) (us : List Value), us.length = ps.length → bindArgs (PySem.W.fnOf nm qual params body scope .none kV doc pm an cdv ct) ⟨us, []⟩ = pure (ps.zip us)) {n : Nat} (hn : n + 1 = ps.length) : RdyC P w K mg base g c m k n [] F :=
  ⟨p, f, mc, fd, ps, [], [], FG, hm.1, hm.2, FD.bindsN hb, .nil, fun _ _ => rfl, by rw [← hn]; rfl⟩
end
end Vi

set_option Elab.async false
set_option linter.all false
set_option maxRecDepth 100000
set_option maxHeartbeats 2000000
namespace Vi
open PySem L2

/-! ### reckoning with mirrors: simp goes from left to right, a continuation is not looked at before its value is there -/
def RS.seq (r : RS) (b : MS) : RS := match r with
  | .nx e h => b e h
  | r => r
@[simp] theorem mSeq_eq (a b : MS) (env : Env) (h : Hc) : mSeq a b env h = (a env h).seq b := by
  unfold mSeq RS.seq
  cases a env h <;> rfl
@[simp] theorem RS.seq_nx (e : Env) (h : Hc) (b : MS) : (RS.nx e h).seq b = b e h := rfl
@[simp] theorem RS.seq_ret (d : D) (h : Hc) (b : MS) : (RS.ret d h).seq b = .ret d h := rfl
@[simp] theorem RS.seq_brk (e : Env) (h : Hc) (b : MS) : (RS.brk e h).seq b = .brk e h := rfl
@[simp] theorem RS.seq_cnt (e : Env) (h : Hc) (b : MS) : (RS.cnt e h).seq b = .cnt e h := rfl
@[simp] theorem RS.seq_exc (e : Env) (x : D) (h : Hc) (b : MS) : (RS.exc e x h).seq b = .exc e x h := rfl
@[simp] theorem RS.seq_stuck (b : MS) : RS.stuck.seq b = .stuck := rfl
/-- what waits: it is not looked at before that for which it waits is there -/
class Kn (κ : Type) where k : κ
def ap {γ κ β : Type} (F : γ → κ → β) (r : γ) [i : Kn κ] : β := F r i.k
def RS.seqU (r : RS) (b : MS) (_ : Unit) : RS := r.seq b
@[simp ↓] theorem RS.seq_ap (r : RS) (b : MS) : r.seq b = @ap RS MS (Unit → RS) RS.seqU r ⟨b⟩ () := (rfl)
@[simp] theorem RS.seq_nx_ap (e : Env) (h : Hc) (b : MS) : @ap RS MS (Unit → RS) RS.seqU (.nx e h) ⟨b⟩ () = b e h := (rfl)
@[simp] theorem RS.seq_ret_ap (d : D) (h : Hc) (b : MS) : @ap RS MS (Unit → RS) RS.seqU (.ret d h) ⟨b⟩ () = .ret d h := (rfl)
@[simp] theorem RS.seq_brk_ap (e : Env) (h : Hc) (b : MS) : @ap RS MS (Unit → RS) RS.seqU (.brk e h) ⟨b⟩ () = .brk e h := (rfl)
@[simp] theorem RS.seq_cnt_ap (e : Env) (h : Hc) (b : MS) : @ap RS MS (Unit → RS) RS.seqU (.cnt e h) ⟨b⟩ () = .cnt e h := (rfl)
@[simp] theorem RS.seq_exc_ap (e : Env) (x : D) (h : Hc) (b : MS) : @ap RS MS (Unit → RS) RS.seqU (.exc e x h) ⟨b⟩ () = .exc e x h := (rfl)
@[simp] theorem RS.seq_stuck_ap (b : MS) : @ap RS MS (Unit → RS) RS.seqU .stuck ⟨b⟩ () = .stuck := (rfl)
@[simp] theorem R.thenS_ok {α : Type} (a : α) (h : Hc) (env : Env) (k : α → Hc → RS) : (R.ok a h).thenS env k = k a h := rfl
@[simp] theorem R.thenS_exc {α : Type} (x : D) (h : Hc) (env : Env) (k : α → Hc → RS) : (R.exc x h : R α).thenS env k = .exc env x h := rfl
@[simp] theorem R.thenS_stuck {α : Type} (env : Env) (k : α → Hc → RS) : (R.stuck : R α).thenS env k = .stuck := rfl
def R.thenU {α : Type} (r : R α) (p : Env × (α → Hc → RS)) (_ : Unit) : RS := r.thenS p.1 p.2
@[simp ↓] theorem R.thenS_ap {α : Type} (r : R α) (env : Env) (k : α → Hc → RS) : r.thenS env k = @ap (R α) (Env × (α → Hc → RS)) (Unit → RS) R.thenU r ⟨(env, k)⟩ () := (rfl)
@[simp] theorem R.thenS_ok_ap {α : Type} (a : α) (h : Hc) (env : Env) (k : α → Hc → RS) : @ap (R α) (Env × (α → Hc → RS)) (Unit → RS) R.thenU (.ok a h) ⟨(env, k)⟩ () = k a h := (rfl)
@[simp] theorem R.thenS_exc_ap {α : Type} (x : D) (h : Hc) (env : Env) (k : α → Hc → RS) : @ap (R α) (Env × (α → Hc → RS)) (Unit → RS) R.thenU (.exc x h) ⟨(env, k)⟩ () = .exc env x h := (rfl)
@[simp] theorem R.thenS_stuck_ap {α : Type} (env : Env) (k : α → Hc → RS) : @ap (R α) (Env × (α → Hc → RS)) (Unit → RS) R.thenU .stuck ⟨(env, k)⟩ () = .stuck := (rfl)
def R.bindU {α β : Type} (r : R α) (k : α → Hc → R β) (_ : Unit) : R β := r.bind k
@[simp ↓] theorem R.bind_ap {α β : Type} (r : R α) (k : α → Hc → R β) : r.bind k = @ap (R α) (α → Hc → R β) (Unit → R β) R.bindU r ⟨k⟩ () := (rfl)
@[simp] theorem R.bind_ok_ap {α β : Type} (a : α) (h : Hc) (k : α → Hc → R β) : @ap (R α) (α → Hc → R β) (Unit → R β) R.bindU (.ok a h) ⟨k⟩ () = k a h := (rfl)
@[simp] theorem R.bind_exc_ap {α β : Type} (x : D) (h : Hc) (k : α → Hc → R β) : @ap (R α) (α → Hc → R β) (Unit → R β) R.bindU (.exc x h) ⟨k⟩ () = .exc x h := (rfl)
@[simp] theorem R.bind_stuck_ap {α β : Type} (k : α → Hc → R β) : @ap (R α) (α → Hc → R β) (Unit → R β) R.bindU .stuck ⟨k⟩ () = .stuck := (rfl)
/-- a def's end -/
def RS.fin : RS → R D
  | .nx _ h => .ok .non h
  | .ret d h => .ok d h
  | .exc _ x h => .exc x h
  | _ => .stuck
theorem fnOf_eq (N n : Nat) (m : MS) (ds : List D) (h : Hc) (e : ds.length = n) : fnOf N n m ds h = (m (mkEnv N ds) h).fin := by
  unfold fnOf RS.fin
  refine (if_pos e).trans ?_
  cases m (mkEnv N ds) h <;> rfl
@[simp] theorem RS.fin_nx (e : Env) (h : Hc) : (RS.nx e h).fin = .ok .non h := rfl
@[simp] theorem RS.fin_ret (d : D) (h : Hc) : (RS.ret d h).fin = .ok d h := rfl
@[simp] theorem RS.fin_exc (e : Env) (x : D) (h : Hc) : (RS.exc e x h).fin = .exc x h := rfl
/-- a choice: the branches wait for the question -/
def pick {α : Type} (c : Bool) (a b : α) : α := if c then a else b
@[simp] theorem pick_t {α : Type} (a b : α) : pick true a b = a := rfl
@[simp] theorem pick_f {α : Type} (a b : α) : pick false a b = b := rfl
def pickU {α : Type} (c : Bool) (p : α × α) (_ : Unit) : α := pick c p.1 p.2
@[simp ↓] theorem pick_ap {α : Type} (c : Bool) (a b : α) : pick c a b = @ap Bool (α × α) (Unit → α) pickU c ⟨(a, b)⟩ () := (rfl)
@[simp] theorem pick_t_ap {α : Type} (a b : α) : @ap Bool (α × α) (Unit → α) pickU true ⟨(a, b)⟩ () = a := (rfl)
@[simp] theorem pick_f_ap {α : Type} (a b : α) : @ap Bool (α × α) (Unit → α) pickU false ⟨(a, b)⟩ () = b := (rfl)
section
variable (env : Env) (h : Hc)
@[simp] theorem mIfS_eq (c : MB) (a b : MS) : mIfS c a b env h = (c env h).thenS env fun x h1 => pick x (a env h1) (b env h1) := rfl
@[simp] theorem tAndM_eq (a b : MB) : tAndM a b env h = (a env h).bind fun x h1 => pick x (b env h1) (.ok false h1) := rfl
@[simp] theorem tOrM_eq (a b : MB) : tOrM a b env h = (a env h).bind fun x h1 => pick x (.ok true h1) (b env h1) := rfl
@[simp] theorem mIf_eq (c : MB) (a b : ME) : mIf c a b env h = (c env h).bind fun x h1 => pick x (a env h1) (b env h1) := rfl
end
@[simp] theorem mVar_d (i : Nat) (env : Env) (h : Hc) (x : D) (e : env[i]? = some (some (.d x))) : mVar i env h = .ok (.d x) h := by unfold mVar; rw [e]
@[simp] theorem mVar_o (i : Nat) (env : Env) (h : Hc) (x : List D) (e : env[i]? = some (some (.ol x))) : mVar i env h = .ok (.bl x) h := by unfold mVar; rw [e]
@[simp] theorem fEq_int (neg : Bool) (a b : Int) (h : Hc) : fEq neg (.d (.int a)) (.d (.int b)) h = .ok (.d (.bl (if neg then !decide (a = b) else decide (a = b)))) h := rfl
@[simp] theorem fLen_tup (xs : List D) (h : Hc) : fLen [.d (.tup xs)] h = .ok (.d (.int xs.length)) h := rfl
@[simp] theorem fLen_lst (xs : List D) (h : Hc) : fLen [.d (.lst xs)] h = .ok (.d (.int xs.length)) h := rfl
@[simp] theorem fIx_tup (xs : List D) (i : Int) (h : Hc) : fIx (.d (.tup xs)) (.d (.int i)) h = (match atI xs i with
  | some d => .ok (.d d) h
  | none => .stuck) := rfl
@[simp] theorem fIx_lst (xs : List D) (i : Int) (h : Hc) : fIx (.d (.lst xs)) (.d (.int i)) h = (match atI xs i with
  | some d => .ok (.d d) h
  | none => .stuck) := rfl
def RS.again (r : RS) (k : MS) : RS := match r with
  | .nx e h => k e h
  | .cnt e h => k e h
  | .brk e h => .nx e h
  | r => r
@[simp] theorem RS.again_nx (e : Env) (h : Hc) (k : MS) : (RS.nx e h).again k = k e h := rfl
@[simp] theorem RS.again_cnt (e : Env) (h : Hc) (k : MS) : (RS.cnt e h).again k = k e h := rfl
@[simp] theorem RS.again_brk (e : Env) (h : Hc) (k : MS) : (RS.brk e h).again k = .nx e h := rfl
@[simp] theorem RS.again_ret (d : D) (h : Hc) (k : MS) : (RS.ret d h).again k = .ret d h := rfl
@[simp] theorem RS.again_exc (e : Env) (x : D) (h : Hc) (k : MS) : (RS.exc e x h).again k = .exc e x h := rfl
def RS.againU (r : RS) (k : MS) (_ : Unit) : RS := r.again k
@[simp ↓] theorem RS.again_ap (r : RS) (k : MS) : r.again k = @ap RS MS (Unit → RS) RS.againU r ⟨k⟩ () := (rfl)
@[simp] theorem RS.again_nx_ap (e : Env) (h : Hc) (k : MS) : @ap RS MS (Unit → RS) RS.againU (.nx e h) ⟨k⟩ () = k e h := (rfl)
@[simp] theorem RS.again_cnt_ap (e : Env) (h : Hc) (k : MS) : @ap RS MS (Unit → RS) RS.againU (.cnt e h) ⟨k⟩ () = k e h := (rfl)
@[simp] theorem RS.again_brk_ap (e : Env) (h : Hc) (k : MS) : @ap RS MS (Unit → RS) RS.againU (.brk e h) ⟨k⟩ () = .nx e h := (rfl)
@[simp] theorem RS.again_ret_ap (d : D) (h : Hc) (k : MS) : @ap RS MS (Unit → RS) RS.againU (.ret d h) ⟨k⟩ () = .ret d h := (rfl)
@[simp] theorem RS.again_exc_ap (e : Env) (x : D) (h : Hc) (k : MS) : @ap RS MS (Unit → RS) RS.againU (.exc e x h) ⟨k⟩ () = .exc e x h := (rfl)
theorem mWhile_succ (n : Nat) (c : MB) (b : MS) (env : Env) (h : Hc) : mWhile (n + 1) c b env h = (c env h).thenS env fun x h1 => pick x ((b env h1).again (mWhile n c b)) (.nx env h1) := by
  show (c env h).thenS env _ = _
  congr 1
  funext x h1
  cases x with
  | false => rfl
  | true =>
    show (match b env h1 with
      | .nx e h2 => mWhile n c b e h2
      | .cnt e h2 => mWhile n c b e h2
      | .brk e h2 => .nx e h2
      | .ret d h2 => .ret d h2
      | .exc e x h2 => .exc e x h2
      | .stuck => .stuck) = (b env h1).again _
    cases b env h1 <;> rfl
/-- a for loop's turn -/
theorem forL_cons (T : TgF) (b : MS) (x : D) (r : List D) (env : Env) (h : Hc) : forL T b (x :: r) env h = (match T x env with
    | none => .stuck
    | some env1 => (b env1 h).again (forL T b r)) := by
  show (match T x env with
    | none => RS.stuck
    | some env1 => (match b env1 h with
      | .nx e h2 => forL T b r e h2
      | .cnt e h2 => forL T b r e h2
      | .brk e h2 => .nx e h2
      | .ret d h2 => .ret d h2
      | .exc e x h2 => .exc e x h2
      | .stuck => .stuck)) = _
  cases T x env with
  | none => rfl
  | some env1 =>
    dsimp only
    cases b env1 h <;> rfl
theorem forL_nil (T : TgF) (b : MS) (env : Env) (h : Hc) : forL T b [] env h = .nx env h := rfl
@[simp] theorem fAdd_int (o : Bool) (a b : Int) (h : Hc) : fAdd o (.d (.int a)) (.d (.int b)) h = .ok (.d (.int (a + b))) h := rfl
@[simp] theorem fSum_kl (xs : List D) (h : Hc) : fSum [.d (.kl xs)] h = (match ints? xs with
      | some ns => .ok (.d (.int ns.sum)) h
      | none => .stuck) := rfl
@[simp] theorem fList_kl (o : Bool) (xs : List D) (h : Hc) : fList o [.d (.kl xs)] h = .ok (Vl.ofL o xs) h := rfl
@[simp] theorem ints_map : ∀ ns : List Int, ints? (ns.map D.int) = some ns
  | [] => rfl
  | n :: r => by
    show (ints? (r.map D.int)).map (n :: ·) = _
    rw [ints_map r]
    rfl
end Vi

set_option Elab.async false
set_option linter.all false
set_option maxRecDepth 100000
set_option maxHeartbeats 4000000
namespace G01
open PySem L2 PyProof.Rows Vi
abbrev prog : Program := PySem.Challenge.pw_swornlots_k01_fractions
def top (i : Nat) : Stmt := prog.main.body.getD i (.Pass ⟨0, 0, 0, 0⟩)
def clsB (s : Stmt) : List Stmt := match s with
  | .ClassDef (body := z) .. => z
  | _ => []
def sub (i j : Nat) : Stmt := (clsB (top i)).getD j (.Pass ⟨0, 0, 0, 0⟩)
def PDx : PD where
  nm := ["LotError", "BadFraction", "BadPlant", "BadDeed", "BadRow", "Ratio"]
  cls := [5]
  fld := [(5, "above"), (5, "below")]
  isi := [((.bt "NoneType", .bt "int"), false), ((.bt "bool", .bt "int"), true), ((.bt "int", .bt "int"), true), ((.bt "str", .bt "int"), false), ((.bt "tuple", .bt "int"), false), ((.bt "list", .bt "int"), false), ((.bt "NoneType", .bt "bool"), false), ((.bt "bool", .bt "bool"), true), ((.bt "int", .bt "bool"), false), ((.bt "str", .bt "bool"), false), ((.bt "tuple", .bt "bool"), false), ((.bt "list", .bt "bool"), false), ((.bt "NoneType", .bt "tuple"), false), ((.bt "bool", .bt "tuple"), false), ((.bt "int", .bt "tuple"), false), ((.bt "str", .bt "tuple"), false), ((.bt "tuple", .bt "tuple"), true), ((.bt "list", .bt "tuple"), false), ((.own 5, .own 5), true), ((.bt "tuple", .own 5), false), ((.bt "int", .own 5), false), ((.own 1, .own 3), false), ((.own 1, .own 2), false), ((.own 1, .own 4), false), ((.own 1, .own 1), true), ((.own 1, .bt "ValueError"), true)]
  xcs := [1]
  xno := [(1, "value")]
  nf := [(5, .own 5), (5, .bt "tuple"), (5, .bt "int")]
abbrev g0 : Gi := PDx.gi []
abbrev xsB : Nat → Bool := fun c => decide (c ∈ PDx.xcs)
abbrev xnB : Nat → Str → Bool := fun c f => decide ((c, f) ∈ PDx.xno)
abbrev nfB : Nat → Ty → Bool := fun c t => decide ((c, t) ∈ PDx.nf)
abbrev d_ZERO : D := (.tup [(.int 0), (.int 1)])
def r_BadFraction_xinitx : DefV := ⟨pM "BadFraction" "__init__", "__init__", "BadFraction.__init__", defArgs (sub 3 0), defBody (sub 3 0), defScope (sub 3 0), []⟩
def r_BadPlant_xinitx : DefV := ⟨pM "BadPlant" "__init__", "__init__", "BadPlant.__init__", defArgs (sub 4 0), defBody (sub 4 0), defScope (sub 4 0), []⟩
def r_BadDeed_xinitx : DefV := ⟨pM "BadDeed" "__init__", "__init__", "BadDeed.__init__", defArgs (sub 5 0), defBody (sub 5 0), defScope (sub 5 0), []⟩
def r_BadRow_xinitx : DefV := ⟨pM "BadRow" "__init__", "__init__", "BadRow.__init__", defArgs (sub 6 0), defBody (sub 6 0), defScope (sub 6 0), []⟩
def r_is_whole : DefV := ⟨pG "is_whole", "is_whole", "is_whole", defArgs (top 8), defBody (top 8), defScope (top 8), []⟩
def r_lowest : DefV := ⟨pG "lowest", "lowest", "lowest", defArgs (top 11), defBody (top 11), defScope (top 11), []⟩
def r_plus : DefV := ⟨pG "plus", "plus", "plus", defArgs (top 12), defBody (top 12), defScope (top 12), []⟩
def r_is_fraction : DefV := ⟨pG "is_fraction", "is_fraction", "is_fraction", defArgs (top 13), defBody (top 13), defScope (top 13), []⟩
def r_is_share : DefV := ⟨pG "is_share", "is_share", "is_share", defArgs (top 14), defBody (top 14), defScope (top 14), []⟩
def r_check_fraction : DefV := ⟨pG "check_fraction", "check_fraction", "check_fraction", defArgs (top 15), defBody (top 15), defScope (top 15), []⟩
def r_compare : DefV := ⟨pG "compare", "compare", "compare", defArgs (top 16), defBody (top 16), defScope (top 16), []⟩
def r_total : DefV := ⟨pG "total", "total", "total", defArgs (top 17), defBody (top 17), defScope (top 17), []⟩
def r_Ratio_xinitx : DefV := ⟨pM "Ratio" "__init__", "__init__", "Ratio.__init__", defArgs (sub 18 0), defBody (sub 18 0), defScope (sub 18 0), [(.int 1)]⟩
def r_Ratio_of : DefV := ⟨pC "Ratio" "of", "of", "Ratio.of", defArgs (sub 18 1), defBody (sub 18 1), defScope (sub 18 1), []⟩
def r_Ratio_pair : DefV := ⟨pP "Ratio" "pair", "pair", "Ratio.pair", defArgs (sub 18 2), defBody (sub 18 2), defScope (sub 18 2), []⟩
def r_Ratio_xaddx : DefV := ⟨pM "Ratio" "__add__", "__add__", "Ratio.__add__", defArgs (sub 18 3), defBody (sub 18 3), defScope (sub 18 3), []⟩
def r_Ratio_xsubx : DefV := ⟨pM "Ratio" "__sub__", "__sub__", "Ratio.__sub__", defArgs (sub 18 4), defBody (sub 18 4), defScope (sub 18 4), []⟩
def r_Ratio_xmulx : DefV := ⟨pM "Ratio" "__mul__", "__mul__", "Ratio.__mul__", defArgs (sub 18 5), defBody (sub 18 5), defScope (sub 18 5), []⟩
def r_Ratio_xnegx : DefV := ⟨pM "Ratio" "__neg__", "__neg__", "Ratio.__neg__", defArgs (sub 18 6), defBody (sub 18 6), defScope (sub 18 6), []⟩
def r_Ratio_xabsx : DefV := ⟨pM "Ratio" "__abs__", "__abs__", "Ratio.__abs__", defArgs (sub 18 7), defBody (sub 18 7), defScope (sub 18 7), []⟩
def r_Ratio_xeqx : DefV := ⟨pM "Ratio" "__eq__", "__eq__", "Ratio.__eq__", defArgs (sub 18 8), defBody (sub 18 8), defScope (sub 18 8), []⟩
def r_Ratio_over : DefV := ⟨pM "Ratio" "over", "over", "Ratio.over", defArgs (sub 18 9), defBody (sub 18 9), defScope (sub 18 9), []⟩
def r_Ratio_less : DefV := ⟨pM "Ratio" "less", "less", "Ratio.less", defArgs (sub 18 10), defBody (sub 18 10), defScope (sub 18 10), []⟩
def r__law_bag : DefV := ⟨pG "_law_bag", "_law_bag", "_law_bag", defArgs (top 20), defBody (top 20), defScope (top 20), []⟩
def r__law_mixed : DefV := ⟨pG "_law_mixed", "_law_mixed", "_law_mixed", defArgs (top 21), defBody (top 21), defScope (top 21), []⟩
def r__law_draw : DefV := ⟨pG "_law_draw", "_law_draw", "_law_draw", defArgs (top 22), defBody (top 22), defScope (top 22), []⟩
def r__law_pick : DefV := ⟨pG "_law_pick", "_law_pick", "_law_pick", defArgs (top 23), defBody (top 23), defScope (top 23), []⟩
def r__law_is_int : DefV := ⟨pG "_law_is_int", "_law_is_int", "_law_is_int", defArgs (top 24), defBody (top 24), defScope (top 24), []⟩
def r__law_divisor : DefV := ⟨pG "_law_divisor", "_law_divisor", "_law_divisor", defArgs (top 25), defBody (top 25), defScope (top 25), []⟩
def r__law_low : DefV := ⟨pG "_law_low", "_law_low", "_law_low", defArgs (top 26), defBody (top 26), defScope (top 26), []⟩
def r__law_plus : DefV := ⟨pG "_law_plus", "_law_plus", "_law_plus", defArgs (top 27), defBody (top 27), defScope (top 27), []⟩
def r__law_minus : DefV := ⟨pG "_law_minus", "_law_minus", "_law_minus", defArgs (top 28), defBody (top 28), defScope (top 28), []⟩
def r__law_times : DefV := ⟨pG "_law_times", "_law_times", "_law_times", defArgs (top 29), defBody (top 29), defScope (top 29), []⟩
def r__law_less : DefV := ⟨pG "_law_less", "_law_less", "_law_less", defArgs (top 30), defBody (top 30), defScope (top 30), []⟩
def r__law_fraction : DefV := ⟨pG "_law_fraction", "_law_fraction", "_law_fraction", defArgs (top 31), defBody (top 31), defScope (top 31), []⟩
def r__law_share : DefV := ⟨pG "_law_share", "_law_share", "_law_share", defArgs (top 32), defBody (top 32), defScope (top 32), []⟩
def r__law_p3_number : DefV := ⟨pG "_law_p3_number", "_law_p3_number", "_law_p3_number", defArgs (top 33), defBody (top 33), defScope (top 33), []⟩
def r__law_p3_thing : DefV := ⟨pG "_law_p3_thing", "_law_p3_thing", "_law_p3_thing", defArgs (top 34), defBody (top 34), defScope (top 34), []⟩
def r__law_p3_is : DefV := ⟨pG "_law_p3_is", "_law_p3_is", "_law_p3_is", defArgs (top 35), defBody (top 35), defScope (top 35), []⟩
def r__law_p3_sums : DefV := ⟨pG "_law_p3_sums", "_law_p3_sums", "_law_p3_sums", defArgs (top 36), defBody (top 36), defScope (top 36), []⟩
def r__law_p3_order : DefV := ⟨pG "_law_p3_order", "_law_p3_order", "_law_p3_order", defArgs (top 37), defBody (top 37), defScope (top 37), []⟩
def r__law_p3_refused : DefV := ⟨pG "_law_p3_refused", "_law_p3_refused", "_law_p3_refused", defArgs (top 38), defBody (top 38), defScope (top 38), []⟩
def r__law_p3_refusals : DefV := ⟨pG "_law_p3_refusals", "_law_p3_refusals", "_law_p3_refusals", defArgs (top 39), defBody (top 39), defScope (top 39), []⟩
def r_law : DefV := ⟨pG "law", "law", "law", defArgs (top 40), defBody (top 40), defScope (top 40), []⟩
def fn : List DefV := [r_BadFraction_xinitx, r_BadPlant_xinitx, r_BadDeed_xinitx, r_BadRow_xinitx, r_is_whole, r_lowest, r_plus, r_is_fraction, r_is_share, r_check_fraction, r_compare, r_total, r_Ratio_xinitx, r_Ratio_of, r_Ratio_pair, r_Ratio_xaddx, r_Ratio_xsubx, r_Ratio_xmulx, r_Ratio_xnegx, r_Ratio_xabsx, r_Ratio_xeqx, r_Ratio_over, r_Ratio_less, r__law_bag, r__law_mixed, r__law_draw, r__law_pick, r__law_is_int, r__law_divisor, r__law_low, r__law_plus, r__law_minus, r__law_times, r__law_less, r__law_fraction, r__law_share, r__law_p3_number, r__law_p3_thing, r__law_p3_is, r__law_p3_sums, r__law_p3_order, r__law_p3_refused, r__law_p3_refusals, r_law]
def ck : List (PySem.W.Frag → Bool) := [PDx.ok,
  (He.Fa.glo "BadDeed").ok,
  (He.Fa.glo "BadFraction").ok,
  (He.Fa.glo "BadPlant").ok,
  (He.Fa.glo "BadRow").ok,
  (He.Fa.glo "LotError").ok,
  (He.Fa.glo "Ratio").ok,
  (He.Fa.glo "ZERO").ok,
  (He.Fa.glo "_law_bag").ok,
  (He.Fa.glo "_law_divisor").ok,
  (He.Fa.glo "_law_draw").ok,
  (He.Fa.glo "_law_fraction").ok,
  (He.Fa.glo "_law_is_int").ok,
  (He.Fa.glo "_law_less").ok,
  (He.Fa.glo "_law_low").ok,
  (He.Fa.glo "_law_minus").ok,
  (He.Fa.glo "_law_mixed").ok,
  (He.Fa.glo "_law_p3_is").ok,
  (He.Fa.glo "_law_p3_number").ok,
  (He.Fa.glo "_law_p3_order").ok,
  (He.Fa.glo "_law_p3_refusals").ok,
  (He.Fa.glo "_law_p3_refused").ok,
  (He.Fa.glo "_law_p3_sums").ok,
  (He.Fa.glo "_law_p3_thing").ok,
  (He.Fa.glo "_law_pick").ok,
  (He.Fa.glo "_law_plus").ok,
  (He.Fa.glo "_law_share").ok,
  (He.Fa.glo "_law_times").ok,
  (He.Fa.glo "check_fraction").ok,
  (He.Fa.glo "compare").ok,
  (He.Fa.glo "is_fraction").ok,
  (He.Fa.glo "is_share").ok,
  (He.Fa.glo "is_whole").ok,
  (He.Fa.glo "law").ok,
  (He.Fa.glo "lowest").ok,
  (He.Fa.glo "plus").ok,
  (He.Fa.glo "total").ok,
  (He.Fa.free "ValueError").ok,
  (He.Fa.free "abs").ok,
  (He.Fa.free "bool").ok,
  (He.Fa.free "int").ok,
  (He.Fa.free "isinstance").ok,
  (He.Fa.free "len").ok,
  (He.Fa.free "list").ok,
  (He.Fa.free "max").ok,
  (He.Fa.free "range").ok,
  (He.Fa.free "repr").ok,
  (He.Fa.free "str").ok,
  (He.Fa.free "sum").ok,
  (He.Fa.free "tuple").ok,
  kGlobB "gcd" "gcd" "math.gcd",
  fun K => He.tupB K "ZERO" [(.int 0), (.int 1)],
  kExo "BadFraction",
  (He.Fa.meth "BadFraction" "__init__").ok,
  (He.Fa.noat "BadFraction" "value").ok,
  (He.Fa.noat "BadFraction" "class_name").ok,
  kExo "BadPlant",
  (He.Fa.meth "BadPlant" "__init__").ok,
  (He.Fa.noat "BadPlant" "part").ok,
  (He.Fa.noat "BadPlant" "class_name").ok,
  kExo "BadDeed",
  (He.Fa.meth "BadDeed" "__init__").ok,
  (He.Fa.noat "BadDeed" "deed").ok,
  (He.Fa.noat "BadDeed" "class_name").ok,
  kExo "BadRow",
  (He.Fa.meth "BadRow" "__init__").ok,
  (He.Fa.noat "BadRow" "number").ok,
  (He.Fa.noat "BadRow" "class_name").ok,
  (He.Fa.mkr "Ratio").ok,
  kCmet "Ratio" "of",
  kProp "Ratio" "pair",
  (He.Fa.meth "Ratio" "__add__").ok,
  (He.Fa.meth "Ratio" "__sub__").ok,
  (He.Fa.meth "Ratio" "__mul__").ok,
  (He.Fa.meth "Ratio" "__neg__").ok,
  (He.Fa.meth "Ratio" "__abs__").ok,
  (He.Fa.meth "Ratio" "__eq__").ok,
  (He.Fa.meth "Ratio" "over").ok,
  (He.Fa.meth "Ratio" "less").ok,
  kCatch "BadFraction" "LotError" true]
section
variable {P : Program} {w : World} {K : PySem.W.Frag} {mg : Str → Option Value} {base : Heap}
abbrev Gn (K : PySem.W.Frag) (mg : Str → Option Value) (base : Heap) : Prop := Gnd PDx ck fn K mg base
theorem gl_BadDeed (Z : Gn K mg base) : mg "BadDeed" = some (.ref (He.ga K "BadDeed")) := He.glo_ok Z.X Z.G (Z.S.fact 1)
theorem gl_BadFraction (Z : Gn K mg base) : mg "BadFraction" = some (.ref (He.ga K "BadFraction")) := He.glo_ok Z.X Z.G (Z.S.fact 2)
theorem gl_BadPlant (Z : Gn K mg base) : mg "BadPlant" = some (.ref (He.ga K "BadPlant")) := He.glo_ok Z.X Z.G (Z.S.fact 3)
theorem gl_BadRow (Z : Gn K mg base) : mg "BadRow" = some (.ref (He.ga K "BadRow")) := He.glo_ok Z.X Z.G (Z.S.fact 4)
theorem gl_LotError (Z : Gn K mg base) : mg "LotError" = some (.ref (He.ga K "LotError")) := He.glo_ok Z.X Z.G (Z.S.fact 5)
theorem gl_Ratio (Z : Gn K mg base) : mg "Ratio" = some (.ref (He.ga K "Ratio")) := He.glo_ok Z.X Z.G (Z.S.fact 6)
theorem gl_ZERO (Z : Gn K mg base) : mg "ZERO" = some (.ref (He.ga K "ZERO")) := He.glo_ok Z.X Z.G (Z.S.fact 7)
theorem gl__law_bag (Z : Gn K mg base) : mg "_law_bag" = some (.ref (He.ga K "_law_bag")) := He.glo_ok Z.X Z.G (Z.S.fact 8)
theorem gl__law_divisor (Z : Gn K mg base) : mg "_law_divisor" = some (.ref (He.ga K "_law_divisor")) := He.glo_ok Z.X Z.G (Z.S.fact 9)
theorem gl__law_draw (Z : Gn K mg base) : mg "_law_draw" = some (.ref (He.ga K "_law_draw")) := He.glo_ok Z.X Z.G (Z.S.fact 10)
theorem gl__law_fraction (Z : Gn K mg base) : mg "_law_fraction" = some (.ref (He.ga K "_law_fraction")) := He.glo_ok Z.X Z.G (Z.S.fact 11)
theorem gl__law_is_int (Z : Gn K mg base) : mg "_law_is_int" = some (.ref (He.ga K "_law_is_int")) := He.glo_ok Z.X Z.G (Z.S.fact 12)
theorem gl__law_less (Z : Gn K mg base) : mg "_law_less" = some (.ref (He.ga K "_law_less")) := He.glo_ok Z.X Z.G (Z.S.fact 13)
theorem gl__law_low (Z : Gn K mg base) : mg "_law_low" = some (.ref (He.ga K "_law_low")) := He.glo_ok Z.X Z.G (Z.S.fact 14)
theorem gl__law_minus (Z : Gn K mg base) : mg "_law_minus" = some (.ref (He.ga K "_law_minus")) := He.glo_ok Z.X Z.G (Z.S.fact 15)
theorem gl__law_mixed (Z : Gn K mg base) : mg "_law_mixed" = some (.ref (He.ga K "_law_mixed")) := He.glo_ok Z.X Z.G (Z.S.fact 16)
theorem gl__law_p3_is (Z : Gn K mg base) : mg "_law_p3_is" = some (.ref (He.ga K "_law_p3_is")) := He.glo_ok Z.X Z.G (Z.S.fact 17)
theorem gl__law_p3_number (Z : Gn K mg base) : mg "_law_p3_number" = some (.ref (He.ga K "_law_p3_number")) := He.glo_ok Z.X Z.G (Z.S.fact 18)
theorem gl__law_p3_order (Z : Gn K mg base) : mg "_law_p3_order" = some (.ref (He.ga K "_law_p3_order")) := He.glo_ok Z.X Z.G (Z.S.fact 19)
theorem gl__law_p3_refusals (Z : Gn K mg base) : mg "_law_p3_refusals" = some (.ref (He.ga K "_law_p3_refusals")) := He.glo_ok Z.X Z.G (Z.S.fact 20)
theorem gl__law_p3_refused (Z : Gn K mg base) : mg "_law_p3_refused" = some (.ref (He.ga K "_law_p3_refused")) := He.glo_ok Z.X Z.G (Z.S.fact 21)
theorem gl__law_p3_sums (Z : Gn K mg base) : mg "_law_p3_sums" = some (.ref (He.ga K "_law_p3_sums")) := He.glo_ok Z.X Z.G (Z.S.fact 22)
theorem gl__law_p3_thing (Z : Gn K mg base) : mg "_law_p3_thing" = some (.ref (He.ga K "_law_p3_thing")) := He.glo_ok Z.X Z.G (Z.S.fact 23)
theorem gl__law_pick (Z : Gn K mg base) : mg "_law_pick" = some (.ref (He.ga K "_law_pick")) := He.glo_ok Z.X Z.G (Z.S.fact 24)
theorem gl__law_plus (Z : Gn K mg base) : mg "_law_plus" = some (.ref (He.ga K "_law_plus")) := He.glo_ok Z.X Z.G (Z.S.fact 25)
theorem gl__law_share (Z : Gn K mg base) : mg "_law_share" = some (.ref (He.ga K "_law_share")) := He.glo_ok Z.X Z.G (Z.S.fact 26)
theorem gl__law_times (Z : Gn K mg base) : mg "_law_times" = some (.ref (He.ga K "_law_times")) := He.glo_ok Z.X Z.G (Z.S.fact 27)
theorem gl_check_fraction (Z : Gn K mg base) : mg "check_fraction" = some (.ref (He.ga K "check_fraction")) := He.glo_ok Z.X Z.G (Z.S.fact 28)
theorem gl_compare (Z : Gn K mg base) : mg "compare" = some (.ref (He.ga K "compare")) := He.glo_ok Z.X Z.G (Z.S.fact 29)
theorem gl_is_fraction (Z : Gn K mg base) : mg "is_fraction" = some (.ref (He.ga K "is_fraction")) := He.glo_ok Z.X Z.G (Z.S.fact 30)
theorem gl_is_share (Z : Gn K mg base) : mg "is_share" = some (.ref (He.ga K "is_share")) := He.glo_ok Z.X Z.G (Z.S.fact 31)
theorem gl_is_whole (Z : Gn K mg base) : mg "is_whole" = some (.ref (He.ga K "is_whole")) := He.glo_ok Z.X Z.G (Z.S.fact 32)
theorem gl_law (Z : Gn K mg base) : mg "law" = some (.ref (He.ga K "law")) := He.glo_ok Z.X Z.G (Z.S.fact 33)
theorem gl_lowest (Z : Gn K mg base) : mg "lowest" = some (.ref (He.ga K "lowest")) := He.glo_ok Z.X Z.G (Z.S.fact 34)
theorem gl_plus (Z : Gn K mg base) : mg "plus" = some (.ref (He.ga K "plus")) := He.glo_ok Z.X Z.G (Z.S.fact 35)
theorem gl_total (Z : Gn K mg base) : mg "total" = some (.ref (He.ga K "total")) := He.glo_ok Z.X Z.G (Z.S.fact 36)
theorem fr_ValueError (Z : Gn K mg base) : mg "ValueError" = none := He.free_ok Z.X Z.G (Z.S.fact 37)
theorem fr_abs (Z : Gn K mg base) : mg "abs" = none := He.free_ok Z.X Z.G (Z.S.fact 38)
theorem fr_bool (Z : Gn K mg base) : mg "bool" = none := He.free_ok Z.X Z.G (Z.S.fact 39)
theorem fr_int (Z : Gn K mg base) : mg "int" = none := He.free_ok Z.X Z.G (Z.S.fact 40)
theorem fr_isinstance (Z : Gn K mg base) : mg "isinstance" = none := He.free_ok Z.X Z.G (Z.S.fact 41)
theorem fr_len (Z : Gn K mg base) : mg "len" = none := He.free_ok Z.X Z.G (Z.S.fact 42)
theorem fr_list (Z : Gn K mg base) : mg "list" = none := He.free_ok Z.X Z.G (Z.S.fact 43)
theorem fr_max (Z : Gn K mg base) : mg "max" = none := He.free_ok Z.X Z.G (Z.S.fact 44)
theorem fr_range (Z : Gn K mg base) : mg "range" = none := He.free_ok Z.X Z.G (Z.S.fact 45)
theorem fr_repr (Z : Gn K mg base) : mg "repr" = none := He.free_ok Z.X Z.G (Z.S.fact 46)
theorem fr_str (Z : Gn K mg base) : mg "str" = none := He.free_ok Z.X Z.G (Z.S.fact 47)
theorem fr_sum (Z : Gn K mg base) : mg "sum" = none := He.free_ok Z.X Z.G (Z.S.fact 48)
theorem fr_tuple (Z : Gn K mg base) : mg "tuple" = none := He.free_ok Z.X Z.G (Z.S.fact 49)
theorem gb_gcd (Z : Gn K mg base) : mg "gcd" = some (.builtin "math.gcd") := PySem.W.mg_of Z.X Z.G (eqv_ok (Z.S.fact 50))
end
section
variable {X : Cx}
theorem gd_LotError (Z : Gn X.K X.mg X.base) : GlobD X (PDx.gi X.K) "LotError" (.cls 0) := ⟨.ref (He.ga X.K "LotError"), _, gl_LotError Z, rfl, fun _ _ => rfl⟩
theorem gd_BadFraction (Z : Gn X.K X.mg X.base) : GlobD X (PDx.gi X.K) "BadFraction" (.cls 1) := ⟨.ref (He.ga X.K "BadFraction"), _, gl_BadFraction Z, rfl, fun _ _ => rfl⟩
theorem gd_BadPlant (Z : Gn X.K X.mg X.base) : GlobD X (PDx.gi X.K) "BadPlant" (.cls 2) := ⟨.ref (He.ga X.K "BadPlant"), _, gl_BadPlant Z, rfl, fun _ _ => rfl⟩
theorem gd_BadDeed (Z : Gn X.K X.mg X.base) : GlobD X (PDx.gi X.K) "BadDeed" (.cls 3) := ⟨.ref (He.ga X.K "BadDeed"), _, gl_BadDeed Z, rfl, fun _ _ => rfl⟩
theorem gd_BadRow (Z : Gn X.K X.mg X.base) : GlobD X (PDx.gi X.K) "BadRow" (.cls 4) := ⟨.ref (He.ga X.K "BadRow"), _, gl_BadRow Z, rfl, fun _ _ => rfl⟩
theorem gd_Ratio (Z : Gn X.K X.mg X.base) : GlobD X (PDx.gi X.K) "Ratio" (.cls 5) := ⟨.ref (He.ga X.K "Ratio"), _, gl_Ratio Z, rfl, fun _ _ => rfl⟩
theorem gd_ZERO (Z : Gn X.K X.mg X.base) : GlobD X (PDx.gi X.K) "ZERO" d_ZERO := ⟨.ref (He.ga X.K "ZERO"), _, gl_ZERO Z, rfl, fun F al => ⟨_, _, rfl, He.tupB_ok (Z.S.fact 51) F, ⟨_, _, rfl, rfl, ⟨_, _, rfl, rfl, rfl⟩⟩⟩⟩
abbrev cat_LotError : Nat → Option Bool := fun c => ([(1, true)] : List (Nat × Bool)).lookup c
theorem ct_LotError (Z : Gn X.K X.mg X.base) (hg : Gl X "LotError") : Catch X (PDx.gi X.K) "LotError" cat_LotError := ⟨_, ⟨hg, rfl, .inl (gl_LotError Z)⟩, fun c b e => by
  have m := mem_of_lookup e
  simp only [List.mem_cons, Prod.mk.injEq, List.not_mem_nil, or_false] at m
  rcases m with ⟨rfl, rfl⟩
  · exact of_decide_eq_true (Z.S.fact 79)⟩
end
def m_is_whole : MS := (mRet (mAnd (m1 (fIsi g0 (.bt "int")) (mVar 0)) (mNot (m1 (fIsi g0 (.bt "bool")) (mVar 0)))))
def F_is_whole : Fn := fnOf 1 1 m_is_whole
def m_lowest : MS := (mSeq (mSet 2 (mA1 fGcd (maCons (mVar 0) (maCons (mVar 1) maNil)))) (mSeq (mIfS (asB (m2 fLt (mVar 1) (mC (.int 0)))) (mSet 2 (m1 fNeg (mVar 2))) mSkip) (mRet (mA1 fTup (maCons (m2 fDiv (mVar 0) (mVar 2)) (maCons (m2 fDiv (mVar 1) (mVar 2)) maNil))))))
def F_lowest : Fn := fnOf 3 2 m_lowest
def m_plus : MS := (mSeq (mIfS (asB (m2 (fEq false) (m2 fIx (mVar 0) (mC (.int 1))) (m2 fIx (mVar 1) (mC (.int 1))))) (mRet (mA1 (fCallN 2 F_lowest []) (maCons (m2 (fAdd false) (m2 fIx (mVar 0) (mC (.int 0))) (m2 fIx (mVar 1) (mC (.int 0)))) (maCons (m2 fIx (mVar 0) (mC (.int 1))) maNil)))) mSkip) (mRet (mA1 (fCallN 2 F_lowest []) (maCons (m2 (fAdd false) (m2 fMul (m2 fIx (mVar 0) (mC (.int 0))) (m2 fIx (mVar 1) (mC (.int 1)))) (m2 fMul (m2 fIx (mVar 1) (mC (.int 0))) (m2 fIx (mVar 0) (mC (.int 1))))) (maCons (m2 fMul (m2 fIx (mVar 0) (mC (.int 1))) (m2 fIx (mVar 1) (mC (.int 1)))) maNil)))))
def F_plus : Fn := fnOf 2 2 m_plus
def m_is_fraction : MS := (mSeq (mIfS (tOrM (tNotM (asB (m1 (fIsi g0 (.bt "tuple")) (mVar 0)))) (asB (m2 (fEq true) (mA1 fLen (maCons (mVar 0) maNil)) (mC (.int 2))))) (mRet (mC (.bl false))) mSkip) (mSeq (mUnp (gtT 2 (gtCons (gtN 1) (gtCons (gtN 2) gtNil))) (mVar 0)) (mRet (mAnd (mA1 (fCallN 1 F_is_whole []) (maCons (mVar 1) maNil)) (mAnd (mA1 (fCallN 1 F_is_whole []) (maCons (mVar 2) maNil)) (mAnd (m2 fGe (mVar 2) (mC (.int 1))) (m2 (fEq false) (mA1 fGcd (maCons (mVar 1) (maCons (mVar 2) maNil))) (mC (.int 1)))))))))
def F_is_fraction : Fn := fnOf 3 1 m_is_fraction
def m_is_share : MS := (mRet (mAnd (mA1 (fCallN 1 F_is_fraction []) (maCons (mVar 0) maNil)) (mChain fLe fLe (mC (.int 0)) (m2 fIx (mVar 0) (mC (.int 0))) (m2 fIx (mVar 0) (mC (.int 1))))))
def F_is_share : Fn := fnOf 1 1 m_is_share
def m_check_fraction : MS := (mIfS (tNotM (asB (mA1 (fCallN 1 F_is_fraction []) (maCons (mVar 0) maNil)))) (mRaise 1 1 (mkE "value" "class_name" "BadFraction") (maCons (mVar 0) maNil)) mSkip)
def F_check_fraction : Fn := fnOf 1 1 m_check_fraction
def m_compare : MS := (mSeq (mDrop (mA1 (fCallN 1 F_check_fraction []) (maCons (mVar 0) maNil))) (mSeq (mDrop (mA1 (fCallN 1 F_check_fraction []) (maCons (mVar 1) maNil))) (mSeq (mSet 2 (m2 fMul (m2 fIx (mVar 0) (mC (.int 0))) (m2 fIx (mVar 1) (mC (.int 1))))) (mSeq (mSet 3 (m2 fMul (m2 fIx (mVar 1) (mC (.int 0))) (m2 fIx (mVar 0) (mC (.int 1))))) (mSeq (mIfS (asB (m2 (fEq false) (mVar 2) (mVar 3))) (mRet (mC (.int 0))) mSkip) (mRet (mIf (asB (m2 fLt (mVar 2) (mVar 3))) (m1 fNeg (mC (.int 1))) (mC (.int 1)))))))))
def F_compare : Fn := fnOf 4 2 m_compare
def m_total : MS := (mSeq (mFor (gtN 1) (mVar 0) (mDrop (mA1 (fCallN 1 F_check_fraction []) (maCons (mVar 1) maNil)))) (mSeq (mSet 2 (mC d_ZERO)) (mSeq (mFor (gtN 1) (mVar 0) (mSet 2 (mA1 (fCallN 2 F_plus []) (maCons (mVar 2) (maCons (mVar 1) maNil))))) (mRet (mVar 2)))))
def F_total : Fn := fnOf 3 1 m_total
def m_Ratio_xinitx : MS := (mSeq (mIfS (asB (m2 (fEq false) (mVar 2) (mC (.int 0)))) (mRaise 1 1 (mkE "value" "class_name" "BadFraction") (maCons (mVar 2) maNil)) mSkip) (mUnp (gtT 2 (gtCons (gtF g0 0 "above") (gtCons (gtF g0 0 "below") gtNil))) (mA1 (fCallN 2 F_lowest []) (maCons (mVar 1) (maCons (mVar 2) maNil)))))
def FI_Ratio_xinitx : FnI := initOf 2 2 5 m_Ratio_xinitx
def m_Ratio_of : MS := (mSeq (mDrop (mA1 (fCallN 1 F_check_fraction []) (maCons (mVar 1) maNil))) (mRet (mMakeL 0 5 2 FI_Ratio_xinitx [] (maCons (m2 fIx (mVar 1) (mC (.int 0))) (maCons (m2 fIx (mVar 1) (mC (.int 1))) maNil)))))
def F_Ratio_of : Fn := fnOf 2 2 m_Ratio_of
def m_Ratio_pair : MS := (mRet (mA1 fTup (maCons (m1 (fFld g0 "above") (mVar 0)) (maCons (m1 (fFld g0 "below") (mVar 0)) maNil))))
def F_Ratio_pair : Fn := fnOf 1 1 m_Ratio_pair
def m_Ratio_xaddx : MS := (mSeq (mIfS (tNotM (asB (m1 (fIsi g0 (.own 5)) (mVar 1)))) mNever mSkip) (mRet (mA1 (fMake 5 2 FI_Ratio_xinitx []) (maCons (m2 (fAdd false) (m2 fMul (m1 (fFld g0 "above") (mVar 0)) (m1 (fFld g0 "below") (mVar 1))) (m2 fMul (m1 (fFld g0 "above") (mVar 1)) (m1 (fFld g0 "below") (mVar 0)))) (maCons (m2 fMul (m1 (fFld g0 "below") (mVar 0)) (m1 (fFld g0 "below") (mVar 1))) maNil)))))
def F_Ratio_xaddx : Fn := fnOf 2 2 m_Ratio_xaddx
def T_add : Tbl := fun c => if c = 5 then some F_Ratio_xaddx else none
def m_Ratio_xsubx : MS := (mSeq (mIfS (tNotM (asB (m1 (fIsi g0 (.own 5)) (mVar 1)))) mNever mSkip) (mRet (mA1 (fMake 5 2 FI_Ratio_xinitx []) (maCons (m2 fSub (m2 fMul (m1 (fFld g0 "above") (mVar 0)) (m1 (fFld g0 "below") (mVar 1))) (m2 fMul (m1 (fFld g0 "above") (mVar 1)) (m1 (fFld g0 "below") (mVar 0)))) (maCons (m2 fMul (m1 (fFld g0 "below") (mVar 0)) (m1 (fFld g0 "below") (mVar 1))) maNil)))))
def F_Ratio_xsubx : Fn := fnOf 2 2 m_Ratio_xsubx
def T_sub : Tbl := fun c => if c = 5 then some F_Ratio_xsubx else none
def m_Ratio_xmulx : MS := (mSeq (mIfS (tNotM (asB (m1 (fIsi g0 (.own 5)) (mVar 1)))) mNever mSkip) (mRet (mA1 (fMake 5 2 FI_Ratio_xinitx []) (maCons (m2 fMul (m1 (fFld g0 "above") (mVar 0)) (m1 (fFld g0 "above") (mVar 1))) (maCons (m2 fMul (m1 (fFld g0 "below") (mVar 0)) (m1 (fFld g0 "below") (mVar 1))) maNil)))))
def F_Ratio_xmulx : Fn := fnOf 2 2 m_Ratio_xmulx
def T_mul : Tbl := fun c => if c = 5 then some F_Ratio_xmulx else none
def m_Ratio_xnegx : MS := (mRet (mA1 (fMake 5 2 FI_Ratio_xinitx []) (maCons (m1 fNeg (m1 (fFld g0 "above") (mVar 0))) (maCons (m1 (fFld g0 "below") (mVar 0)) maNil))))
def F_Ratio_xnegx : Fn := fnOf 1 1 m_Ratio_xnegx
def T_neg : Tbl := fun c => if c = 5 then some F_Ratio_xnegx else none
def m_Ratio_xabsx : MS := (mRet (mA1 (fMake 5 2 FI_Ratio_xinitx []) (maCons (mA1 fAbs (maCons (m1 (fFld g0 "above") (mVar 0)) maNil)) (maCons (m1 (fFld g0 "below") (mVar 0)) maNil))))
def F_Ratio_xabsx : Fn := fnOf 1 1 m_Ratio_xabsx
def T_abs : Tbl := fun c => if c = 5 then some F_Ratio_xabsx else none
def m_Ratio_xeqx : MS := (mRet (mAnd (m1 (fIsi g0 (.own 5)) (mVar 1)) (mAnd (m2 (fEq false) (m1 (fFld g0 "above") (mVar 0)) (m1 (fFld g0 "above") (mVar 1))) (m2 (fEq false) (m1 (fFld g0 "below") (mVar 0)) (m1 (fFld g0 "below") (mVar 1))))))
def F_Ratio_xeqx : Fn := fnOf 2 2 m_Ratio_xeqx
def T_eq : Tbl := fun c => if c = 5 then some F_Ratio_xeqx else none
def m_Ratio_over : MS := (mRet (mA1 (fMake 5 2 FI_Ratio_xinitx []) (maCons (m2 fMul (m1 (fFld g0 "above") (mVar 0)) (m1 (fFld g0 "below") (mVar 1))) (maCons (m2 fMul (m1 (fFld g0 "below") (mVar 0)) (m1 (fFld g0 "above") (mVar 1))) maNil))))
def F_Ratio_over : Fn := fnOf 2 2 m_Ratio_over
def m_Ratio_less : MS := (mRet (m2 fLt (m2 fMul (m1 (fFld g0 "above") (mVar 0)) (m1 (fFld g0 "below") (mVar 1))) (m2 fMul (m1 (fFld g0 "above") (mVar 1)) (m1 (fFld g0 "below") (mVar 0)))))
def F_Ratio_less : Fn := fnOf 2 2 m_Ratio_less
def m__law_bag : MS := (mRetC (mA1 (fLst true) (maCons (mA1 (fList false) (maCons (mVar 0) maNil)) (maCons (mC (.int 0)) (maCons (mC (.int 0)) (maCons (m2 fMod (mA1 fIntOf (maCons (mA1 fSum (maCons (mVar 0) maNil)) maNil)) (mC (.int 1000003))) (maCons (mC (.int 0)) (maCons (mC (.int 0)) maNil))))))))
def F__law_bag : Fn := fnOf 1 1 m__law_bag
def m__law_mixed : MS := (mSeq (mSet 2 (m2 fMod (mA1 fIntOf (maCons (m2 (fAdd false) (m2 fMul (m2 (fAdd false) (mVar 0) (mC (.int 1))) (mC (.int 48271))) (m2 fMul (m2 (fAdd false) (mVar 1) (mC (.int 1))) (mC (.int 69621)))) maNil)) (mC (.int 2147483647)))) (mRet (m2 fDiv (m2 fMod (mA1 fIntOf (maCons (m2 (fAdd false) (m2 (fAdd false) (m2 fMul (mVar 2) (mVar 2)) (m2 fMul (mVar 2) (mC (.int 16807)))) (m2 fMul (mC (.int 7)) (mVar 1))) maNil)) (mC (.int 2147483629))) (mC (.int 7)))))
def F__law_mixed : Fn := fnOf 3 2 m__law_mixed
def m__law_draw : MS := (mSeq (mIfS (asB (m2 fLt (mVar 1) (mC (.int 2)))) (mRet (mC (.int 0))) mSkip) (mSeq (mSetIx (m2 (fAdd false) (m2 fIx (mVar 0) (mC (.int 5))) (mC (.int 1))) (mVar 0) (mC (.int 5))) (mSeq (mIfS (tAndM (asB (m2 (fEq false) (m2 fIx (mVar 0) (mC (.int 2))) (mC (.int 0)))) (tAndM (asB (m2 (fEq false) (m2 fIx (mVar 0) (mC (.int 4))) (mC (.int 0)))) (asB (m2 fLt (m2 fIx (mVar 0) (mC (.int 1))) (mA1 fLen (maCons (m2 fIx (mVar 0) (mC (.int 0))) maNil)))))) (mSeq (mSet 2 (m2 fIx (m2 fIx (mVar 0) (mC (.int 0))) (m2 fIx (mVar 0) (mC (.int 1))))) (mSeq (mSetIx (m2 (fAdd false) (m2 fIx (mVar 0) (mC (.int 1))) (mC (.int 1))) (mVar 0) (mC (.int 1))) (mIfS (asB (m2 fGe (mA1 fAbs (maCons (mVar 2) maNil)) (m2 fPow (mC (.int 10)) (mC (.int 18))))) (mSetIx (mA1 fAbs (maCons (mVar 2) maNil)) (mVar 0) (mC (.int 2))) (mSeq (mSetIx (m2 (fAdd false) (m2 fMul (mC (.int 2)) (mA1 fAbs (maCons (mVar 2) maNil))) (mA1 fIntOf (maCons (m2 fLt (mVar 2) (mC (.int 0))) maNil))) (mVar 0) (mC (.int 3))) (mSetIx (mC (.int 15)) (mVar 0) (mC (.int 4))))))) mSkip) (mSeq (mIfS (asB (m2 fGt (m2 fIx (mVar 0) (mC (.int 2))) (mC (.int 0)))) (mSeq (mSet 3 (m2 fMod (mA1 fIntOf (maCons (m2 fIx (mVar 0) (mC (.int 2))) maNil)) (mVar 1))) (mSeq (mSetIx (m2 fDiv (m2 fIx (mVar 0) (mC (.int 2))) (mVar 1)) (mVar 0) (mC (.int 2))) (mRet (mVar 3)))) mSkip) (mSeq (mIfS (asB (m2 fGt (m2 fIx (mVar 0) (mC (.int 4))) (mC (.int 0)))) (mSetIx (m2 fSub (m2 fIx (mVar 0) (mC (.int 4))) (mC (.int 1))) (mVar 0) (mC (.int 4))) mSkip) (mRet (m2 fMod (mA1 fIntOf (maCons (mA1 (fCallN 2 F__law_mixed []) (maCons (m2 fIx (mVar 0) (mC (.int 3))) (maCons (m2 fIx (mVar 0) (mC (.int 5))) maNil))) maNil)) (mVar 1))))))))
def F__law_draw : Fn := fnOf 4 2 m__law_draw
def m__law_pick : MS := (mRet (m2 fIx (mVar 1) (mA1 (fCallN 2 F__law_draw []) (maCons (mVar 0) (maCons (mA1 fLen (maCons (mVar 1) maNil)) maNil)))))
def F__law_pick : Fn := fnOf 2 2 m__law_pick
def m__law_is_int : MS := (mRet (mAnd (m1 (fIsi g0 (.bt "int")) (mVar 0)) (mNot (m1 (fIsi g0 (.bt "bool")) (mVar 0)))))
def F__law_is_int : Fn := fnOf 1 1 m__law_is_int
def m__law_divisor : MS := (mSeq (mSet 0 (mA1 fAbs (maCons (mVar 0) maNil))) (mSeq (mSet 1 (mA1 fAbs (maCons (mVar 1) maNil))) (mSeq (mWhile 2000 (asB (m2 fGt (mVar 1) (mC (.int 0)))) (mSeq (mSet 2 (m2 fMod (mA1 fIntOf (maCons (mVar 0) maNil)) (mVar 1))) (mSeq (mSet 0 (mVar 1)) (mSet 1 (mVar 2))))) (mRet (mVar 0)))))
def F__law_divisor : Fn := fnOf 3 2 m__law_divisor
def m__law_low : MS := (mSeq (mIfS (asB (m2 fLt (mVar 1) (mC (.int 0)))) (mSeq (mSet 0 (m1 fNeg (mVar 0))) (mSet 1 (m1 fNeg (mVar 1)))) mSkip) (mSeq (mSet 2 (mA1 fMax2 (maCons (mC (.int 1)) (maCons (mA1 (fCallN 2 F__law_divisor []) (maCons (mVar 0) (maCons (mVar 1) maNil))) maNil)))) (mRet (mA1 fTup (maCons (m2 fDiv (mVar 0) (mVar 2)) (maCons (m2 fDiv (mVar 1) (mVar 2)) maNil))))))
def F__law_low : Fn := fnOf 3 2 m__law_low
def m__law_plus : MS := (mRet (mA1 (fCallN 2 F__law_low []) (maCons (m2 (fAdd false) (m2 fMul (m2 fIx (mVar 0) (mC (.int 0))) (m2 fIx (mVar 1) (mC (.int 1)))) (m2 fMul (m2 fIx (mVar 1) (mC (.int 0))) (m2 fIx (mVar 0) (mC (.int 1))))) (maCons (m2 fMul (m2 fIx (mVar 0) (mC (.int 1))) (m2 fIx (mVar 1) (mC (.int 1)))) maNil))))
def F__law_plus : Fn := fnOf 2 2 m__law_plus
def m__law_minus : MS := (mRet (mA1 (fCallN 2 F__law_low []) (maCons (m2 fSub (m2 fMul (m2 fIx (mVar 0) (mC (.int 0))) (m2 fIx (mVar 1) (mC (.int 1)))) (m2 fMul (m2 fIx (mVar 1) (mC (.int 0))) (m2 fIx (mVar 0) (mC (.int 1))))) (maCons (m2 fMul (m2 fIx (mVar 0) (mC (.int 1))) (m2 fIx (mVar 1) (mC (.int 1)))) maNil))))
def F__law_minus : Fn := fnOf 2 2 m__law_minus
def m__law_times : MS := (mRet (mA1 (fCallN 2 F__law_low []) (maCons (m2 fMul (m2 fIx (mVar 0) (mC (.int 0))) (m2 fIx (mVar 1) (mC (.int 0)))) (maCons (m2 fMul (m2 fIx (mVar 0) (mC (.int 1))) (m2 fIx (mVar 1) (mC (.int 1)))) maNil))))
def F__law_times : Fn := fnOf 2 2 m__law_times
def m__law_less : MS := (mRet (m2 fLt (m2 fMul (m2 fIx (mVar 0) (mC (.int 0))) (m2 fIx (mVar 1) (mC (.int 1)))) (m2 fMul (m2 fIx (mVar 1) (mC (.int 0))) (m2 fIx (mVar 0) (mC (.int 1))))))
def F__law_less : Fn := fnOf 2 2 m__law_less
def m__law_fraction : MS := (mSeq (mIfS (tOrM (tNotM (asB (m1 (fIsi g0 (.bt "tuple")) (mVar 0)))) (asB (m2 (fEq true) (mA1 fLen (maCons (mVar 0) maNil)) (mC (.int 2))))) (mRet (mC (.bl false))) mSkip) (mSeq (mIfS (tOrM (tNotM (asB (mA1 (fCallN 1 F__law_is_int []) (maCons (m2 fIx (mVar 0) (mC (.int 0))) maNil)))) (tOrM (tNotM (asB (mA1 (fCallN 1 F__law_is_int []) (maCons (m2 fIx (mVar 0) (mC (.int 1))) maNil)))) (asB (m2 fLt (m2 fIx (mVar 0) (mC (.int 1))) (mC (.int 1)))))) (mRet (mC (.bl false))) mSkip) (mRet (m2 (fEq false) (mA1 (fCallN 2 F__law_divisor []) (maCons (m2 fIx (mVar 0) (mC (.int 0))) (maCons (m2 fIx (mVar 0) (mC (.int 1))) maNil))) (mC (.int 1))))))
def F__law_fraction : Fn := fnOf 1 1 m__law_fraction
def m__law_share : MS := (mSeq (mSet 1 (m2 (fAdd false) (mC (.int 1)) (mA1 (fCallN 2 F__law_draw []) (maCons (mVar 0) (maCons (mC (.int 6)) maNil))))) (mSeq (mIfS (asB (m2 (fEq false) (mA1 (fCallN 2 F__law_draw []) (maCons (mVar 0) (maCons (mC (.int 11)) maNil))) (mC (.int 5)))) (mSet 1 (m2 (fAdd false) (mC (.int 1)) (mA1 (fCallN 2 F__law_draw []) (maCons (mVar 0) (maCons (mC (.int 997)) maNil))))) mSkip) (mRet (mA1 (fCallN 2 F__law_low []) (maCons (mA1 (fCallN 2 F__law_draw []) (maCons (mVar 0) (maCons (m2 (fAdd false) (mVar 1) (mC (.int 1))) maNil))) (maCons (mVar 1) maNil))))))
def F__law_share : Fn := fnOf 2 1 m__law_share
def m__law_p3_number : MS := (mSeq (mSet 1 (mA1 (fCallN 2 F__law_draw []) (maCons (mVar 0) (maCons (mC (.int 4)) maNil)))) (mSeq (mSet 2 (mA1 (fCallN 2 F__law_draw []) (maCons (mVar 0) (maCons (m2 fIx (mA1 (fLst false) (maCons (mC (.int 3)) (maCons (mC (.int 100)) (maCons (mC (.int 100000000)) (maCons (mC (.int 100000000)) maNil))))) (mVar 1)) maNil)))) (mSeq (mIfS (asB (m2 fGt (mVar 1) (mC (.int 1)))) (mForR (gtN 3) (maCons (mA1 (fCallN 2 F__law_draw []) (maCons (mVar 0) (maCons (mC (.int 4)) maNil))) maNil) (mSet 2 (m2 (fAdd false) (m2 fMul (mVar 2) (mC (.int 100000000))) (mA1 (fCallN 2 F__law_draw []) (maCons (mVar 0) (maCons (mC (.int 100000000)) maNil)))))) mSkip) (mSeq (mIfS (asB (m2 (fEq false) (mA1 (fCallN 2 F__law_draw []) (maCons (mVar 0) (maCons (mC (.int 2)) maNil))) (mC (.int 1)))) (mRet (m1 fNeg (mVar 2))) mSkip) (mRet (mVar 2))))))
def F__law_p3_number : Fn := fnOf 4 1 m__law_p3_number
def m__law_p3_thing : MS := (mSeq (mSet 2 (m2 fIx (mVar 1) (mC (.int 0)))) (mSeq (mSet 3 (m2 fIx (mVar 1) (mC (.int 1)))) (mSeq (mSet 4 (mA1 (fLst false) (maCons (mVar 1) (maCons (mVar 1) (maCons (mA1 (fCallN 1 F__law_share []) (maCons (mVar 0) maNil)) (maCons (mA1 fTup (maCons (mC (.int 1)) (maCons (mC (.int 1)) maNil))) (maCons (mA1 fTup (maCons (mC (.int 0)) (maCons (mC (.int 1)) maNil))) (maCons (mA1 fTup (maCons (m2 fMul (mC (.int 2)) (mVar 2)) (maCons (m2 fMul (mC (.int 2)) (mVar 3)) maNil))) (maCons (mA1 fTup (maCons (mVar 2) (maCons (m1 fNeg (mVar 3)) maNil))) (maCons (mA1 fTup (maCons (mVar 2) (maCons (mC (.int 0)) maNil))) maNil)))))))))) (mSeq (mSet 4 (m2 (fAdd false) (mVar 4) (mA1 (fLst false) (maCons (mA1 fTup (maCons (mC (.int 0)) (maCons (mVar 3) maNil))) (maCons (mA1 fTup (maCons (mC (.bl true)) (maCons (mVar 3) maNil))) (maCons (mA1 fTup (maCons (mVar 2) (maCons (mC (.bl true)) maNil))) (maCons (mA1 (fLst false) (maCons (mVar 2) (maCons (mVar 3) maNil))) (maCons (mA1 fTup (maCons (mVar 2) maNil)) (maCons (mA1 fTup (maCons (mVar 2) (maCons (mVar 3) (maCons (mC (.int 1)) maNil)))) maNil))))))))) (mSeq (mSet 4 (m2 (fAdd false) (mVar 4) (mA1 (fLst false) (maCons (mA1 fTup (maCons (mA1 fStrOf (maCons (mVar 2) maNil)) (maCons (mVar 3) maNil))) (maCons (mC .non) (maCons (mVar 2) (maCons (mC (.str "1/2")) (maCons (mA1 fTup (maCons (mA1 fTup (maCons (mC (.int 1)) (maCons (mC (.int 1)) maNil))) (maCons (mC (.int 1)) maNil))) maNil)))))))) (mRet (mA1 (fCallN 2 F__law_pick []) (maCons (mVar 0) (maCons (mVar 4) maNil)))))))))
def F__law_p3_thing : Fn := fnOf 5 2 m__law_p3_thing
def m__law_p3_is : MS := (mSeq (mIfS (tOrM (tNotM (asB (m1 (fIsi g0 (.own 5)) (mVar 0)))) (asB (m2 (fEq true) (mA1 fRepr (maCons (m1 (fProp 5 F_Ratio_pair) (mVar 0)) maNil)) (mA1 fRepr (maCons (mVar 1) maNil))))) (mRet (mC (.bl false))) mSkip) (mRet (m2 (fEq false) (mA1 fRepr (maCons (mA1 fTup (maCons (m1 (fFld g0 "above") (mVar 0)) (maCons (m1 (fFld g0 "below") (mVar 0)) maNil))) maNil)) (mA1 fRepr (maCons (mVar 1) maNil)))))
def F__law_p3_is : Fn := fnOf 2 2 m__law_p3_is
def m__law_p3_sums : MS := (mSeq (mIfS (tOrM (tNotM (asB (mA1 (fCallN 2 F__law_p3_is []) (maCons (m2 (fOps T_add (fAdd false)) (mVar 0) (mVar 1)) (maCons (mA1 (fCallN 2 F__law_plus []) (maCons (mVar 2) (maCons (mVar 3) maNil))) maNil))))) (tNotM (asB (mA1 (fCallN 2 F__law_p3_is []) (maCons (m2 (fOps T_sub fSub) (mVar 0) (mVar 1)) (maCons (mA1 (fCallN 2 F__law_minus []) (maCons (mVar 2) (maCons (mVar 3) maNil))) maNil)))))) (mRet (mC (.bl false))) mSkip) (mSeq (mIfS (tOrM (tNotM (asB (mA1 (fCallN 2 F__law_p3_is []) (maCons (m2 (fOps T_mul fMul) (mVar 0) (mVar 1)) (maCons (mA1 (fCallN 2 F__law_times []) (maCons (mVar 2) (maCons (mVar 3) maNil))) maNil))))) (tNotM (asB (mA1 (fCallN 2 F__law_p3_is []) (maCons (m1 (fNegs T_neg) (mVar 0)) (maCons (mA1 fTup (maCons (m1 (fNegs T_neg) (m2 fIx (mVar 2) (mC (.int 0)))) (maCons (m2 fIx (mVar 2) (mC (.int 1))) maNil))) maNil)))))) (mRet (mC (.bl false))) mSkip) (mSeq (mIfS (tNotM (asB (mA1 (fCallN 2 F__law_p3_is []) (maCons (mA1 (fAbss T_abs) (maCons (mVar 0) maNil)) (maCons (mA1 fTup (maCons (mA1 (fAbss T_abs) (maCons (m2 fIx (mVar 2) (mC (.int 0))) maNil)) (maCons (m2 fIx (mVar 2) (mC (.int 1))) maNil))) maNil))))) (mRet (mC (.bl false))) mSkip) (mSeq (mSet 4 (mA1 (fLst false) (maCons (mMeth 5 "less" 1 F_Ratio_less [] (mVar 0) (maCons (mVar 1) maNil)) (maCons (mMeth 5 "less" 1 F_Ratio_less [] (mVar 1) (maCons (mVar 0) maNil)) (maCons (m2 (fEqs g0 T_eq nfB (fEq false)) (mVar 0) (mVar 1)) (maCons (m2 (fEqs g0 T_eq nfB (fEq false)) (mVar 0) (mVar 2)) (maCons (m2 (fEqs g0 T_eq nfB (fEq false)) (mVar 0) (m2 fIx (mVar 2) (mC (.int 0)))) maNil))))))) (mSeq (mIfS (asB (m2 (fEq true) (mA1 fRepr (maCons (mVar 4) maNil)) (mA1 fRepr (maCons (mA1 (fLst false) (maCons (mA1 (fCallN 2 F__law_less []) (maCons (mVar 2) (maCons (mVar 3) maNil))) (maCons (mA1 (fCallN 2 F__law_less []) (maCons (mVar 3) (maCons (mVar 2) maNil))) (maCons (m2 (fEqs g0 T_eq nfB (fEq false)) (mVar 2) (mVar 3)) (maCons (mC (.bl false)) (maCons (mC (.bl false)) maNil)))))) maNil)))) (mRet (mC (.bl false))) mSkip) (mSeq (mIfS (asB (m2 (fEqs g0 T_eq nfB (fEq false)) (m2 fIx (mVar 3) (mC (.int 0))) (mC (.int 0)))) (mRet (mC (.bl true))) mSkip) (mRet (mA1 (fCallN 2 F__law_p3_is []) (maCons (mMeth 5 "over" 1 F_Ratio_over [] (mVar 0) (maCons (mVar 1) maNil)) (maCons (mA1 (fCallN 2 F__law_low []) (maCons (m2 (fOps T_mul fMul) (m2 fIx (mVar 2) (mC (.int 0))) (m2 fIx (mVar 3) (mC (.int 1)))) (maCons (m2 (fOps T_mul fMul) (m2 fIx (mVar 2) (mC (.int 1))) (m2 fIx (mVar 3) (mC (.int 0)))) maNil))) maNil))))))))))
def F__law_p3_sums : Fn := fnOf 5 4 m__law_p3_sums
def m__law_p3_order : MS := (mSeq (mIfS (asB (m2 (fEq false) (mVar 0) (mVar 1))) (mRet (mC (.int 0))) mSkip) (mSeq (mIfS (asB (mA1 (fCallN 2 F__law_less []) (maCons (mVar 0) (maCons (mVar 1) maNil)))) (mRet (m1 fNeg (mC (.int 1)))) mSkip) (mRet (mC (.int 1)))))
def F__law_p3_order : Fn := fnOf 2 2 m__law_p3_order
def m__law_p3_refused : MS := (mSeq (mTry 3 cat_LotError (mIfS (asB (m2 (fEq false) (mVar 0) (mC (.int 0)))) (mDrop (mCMet 5 1 F_Ratio_of [] (mC (.cls 5)) (maCons (mVar 1) maNil))) (mIfS (asB (m2 (fEq false) (mVar 0) (mC (.int 1)))) (mDrop (mA1 (fCallN 2 F_compare []) (maCons (mVar 1) (maCons (mVar 2) maNil)))) (mIfS (asB (m2 (fEq false) (mVar 0) (mC (.int 2)))) (mDrop (mA1 (fCallN 2 F_compare []) (maCons (mVar 2) (maCons (mVar 1) maNil)))) (mIfS (asB (m2 (fEq false) (mVar 0) (mC (.int 3)))) (mDrop (mA1 (fCallN 2 F_compare []) (maCons (mVar 1) (maCons (mC .non) maNil)))) (mIfS (asB (m2 (fEq false) (mVar 0) (mC (.int 4)))) (mDrop (mA1 (fCallN 1 F_total []) (maCons (mA1 (fLst false) (maCons (mVar 2) (maCons (mVar 1) (maCons (mC .non) maNil)))) maNil))) (mIfS (asB (m2 (fEq false) (mVar 0) (mC (.int 5)))) (mDrop (mA1 (fCallN 1 F_total []) (maCons (mA1 fTup (maCons (mVar 1) (maCons (mVar 2) (maCons (mC (.str "odd")) maNil)))) maNil))) (mIfS (asB (m2 (fEq false) (mVar 0) (mC (.int 6)))) (mDrop (mA1 (fMake 5 2 FI_Ratio_xinitx []) (maCons (m2 fIx (mVar 2) (mC (.int 0))) (maCons (mC (.int 0)) maNil)))) (mDrop (mMeth 5 "over" 1 F_Ratio_over [] (mA1 (fMake 5 2 FI_Ratio_xinitx []) (maCons (m2 fIx (mVar 2) (mC (.int 0))) (maCons (m2 fIx (mVar 2) (mC (.int 1))) maNil))) (maCons (mA1 (fMake 5 2 FI_Ratio_xinitx []) (maCons (mC (.int 0)) (maCons (m2 fIx (mVar 2) (mC (.int 1))) maNil))) maNil)))))))))) (mSeq (mSet 4 (mOr (mIsX g0 xsB (.own 3) 3) (mOr (mIsX g0 xsB (.own 2) 3) (mIsX g0 xsB (.own 4) 3)))) (mIfS (tAndM (asB (mIsX g0 xsB (.own 1) 3)) (tAndM (asB (mIsX g0 xsB (.bt "ValueError") 3)) (tNotM (asB (mVar 4))))) (mRet (mA1 (fLst false) (maCons (mXf xsB xnB "value" 3) maNil))) mSkip))) (mRet (mA1 (fLst false) maNil)))
def F__law_p3_refused : Fn := fnOf 5 3 m__law_p3_refused
def m__law_p3_refusals : MS := (mSeq (mSet 2 (mA1 (fCallN 1 F__law_fraction []) (maCons (mVar 0) maNil))) (mSeq (mIfS (asB (m2 (fEq true) (mA1 fRepr (maCons (mA1 (fLst false) (maCons (mA1 (fCallN 1 F_is_fraction []) (maCons (mVar 0) maNil)) (maCons (mA1 (fCallN 1 F_is_share []) (maCons (mVar 0) maNil)) maNil))) maNil)) (mA1 fRepr (maCons (mA1 (fLst false) (maCons (mVar 2) (maCons (mAnd (mVar 2) (mChain fLe fLe (mC (.int 0)) (m2 fIx (mVar 0) (mC (.int 0))) (m2 fIx (mVar 0) (mC (.int 1))))) maNil))) maNil)))) (mRet (mC (.bl false))) mSkip) (mSeq (mIfS (tAndM (asB (mVar 2)) (tNotM (asB (mA1 (fCallN 2 F__law_p3_is []) (maCons (mCMet 5 1 F_Ratio_of [] (mC (.cls 5)) (maCons (mVar 0) maNil)) (maCons (mVar 0) maNil)))))) (mRet (mC (.bl false))) mSkip) (mSeq (mSet 3 (mA1 (fLst false) (maCons (mA1 (fLst false) maNil) (maCons (mA1 (fLst false) maNil) (maCons (mA1 (fLst false) maNil) (maCons (mA1 (fLst false) (maCons (mC .non) maNil)) (maCons (mA1 (fLst false) (maCons (mC .non) maNil)) (maCons (mA1 (fLst false) (maCons (mC (.str "odd")) maNil)) (maCons (mA1 (fLst false) (maCons (mC (.int 0)) maNil)) (maCons (mA1 (fLst false) (maCons (mC (.int 0)) maNil)) maNil)))))))))) (mSeq (mForR (gtN 4) (maCons (mC (.int 8)) maNil) (mSeq (mSet 5 (m2 fIx (mVar 3) (mVar 4))) (mSeq (mIfS (tAndM (tNotM (asB (mVar 2))) (asB (m2 fLt (mVar 4) (mC (.int 6))))) (mSet 5 (mA1 (fLst false) (maCons (mVar 0) maNil))) mSkip) (mIfS (asB (m2 (fEq true) (mA1 fRepr (maCons (mA1 (fCallN 3 F__law_p3_refused []) (maCons (mVar 4) (maCons (mVar 0) (maCons (mVar 1) maNil)))) maNil)) (mA1 fRepr (maCons (mVar 5) maNil)))) (mRet (mC (.bl false))) mSkip)))) (mRet (mC (.bl true))))))))
def F__law_p3_refusals : Fn := fnOf 6 2 m__law_p3_refusals
def m_law : MS := (mSeq (mSet 1 (mA1 (fCallN 1 F__law_bag []) (maCons (mVar 0) maNil))) (mSeq (mSet 2 (mA1 (fLst true) maNil)) (mSeq (mForR (gtN 3) (maCons (mC (.int 3)) maNil) (mSeq (mSet 13 (mA1 (fCallN 1 F__law_p3_number []) (maCons (mVar 1) maNil))) (mSeq (mSet 14 (mA1 (fCallN 1 F__law_p3_number []) (maCons (mVar 1) maNil))) (mSeq (mIfS (asB (m2 (fEq false) (mVar 14) (mC (.int 0)))) (mSet 14 (mC (.int 1))) mSkip) (mAppend 2 (mA1 fTup (maCons (mVar 13) (maCons (mVar 14) maNil)))))))) (mSeq (mIfS (asB (m2 (fEq false) (mA1 (fCallN 2 F__law_draw []) (maCons (mVar 1) (maCons (mC (.int 3)) maNil))) (mC (.int 1)))) (mSetIxO 2 (mA1 fTup (maCons (m2 fMul (m1 fNeg (mC (.int 3))) (m2 fIx (m2 fIx (mVar 2) (mC (.int 0))) (mC (.int 0)))) (maCons (m2 fMul (m1 fNeg (mC (.int 3))) (m2 fIx (m2 fIx (mVar 2) (mC (.int 0))) (mC (.int 1)))) maNil))) (mC (.int 1))) mSkip) (mFrz 2 (mSeq (mSet 4 (mComp false [9] (gtN 9) mYes (mA1 (fCallN 2 F__law_low []) (maCons (m2 fIx (mVar 9) (mC (.int 0))) (maCons (m2 fIx (mVar 9) (mC (.int 1))) maNil))) (mVar 2))) (mSeq (mSet 5 (mA1 (fMake 5 2 FI_Ratio_xinitx []) (maCons (m2 fIx (m2 fIx (mVar 2) (mC (.int 0))) (mC (.int 0))) (maCons (m2 fIx (m2 fIx (mVar 2) (mC (.int 0))) (mC (.int 1))) maNil)))) (mSeq (mSet 6 (mA1 (fMake 5 2 FI_Ratio_xinitx []) (maCons (m2 fIx (m2 fIx (mVar 2) (mC (.int 1))) (mC (.int 0))) (maCons (m2 fIx (m2 fIx (mVar 2) (mC (.int 1))) (mC (.int 1))) maNil)))) (mSeq (mIfS (tOrM (tNotM (asB (mA1 (fCallN 2 F__law_p3_is []) (maCons (mA1 (fMake 5 1 FI_Ratio_xinitx [(.int 1)]) (maCons (m2 fIx (m2 fIx (mVar 2) (mC (.int 2))) (mC (.int 0))) maNil)) (maCons (mA1 fTup (maCons (m2 fIx (m2 fIx (mVar 2) (mC (.int 2))) (mC (.int 0))) (maCons (mC (.int 1)) maNil))) maNil))))) (tNotM (asB (mA1 (fCallN 4 F__law_p3_sums []) (maCons (mVar 5) (maCons (mVar 6) (maCons (m2 fIx (mVar 4) (mC (.int 0))) (maCons (m2 fIx (mVar 4) (mC (.int 1))) maNil)))))))) (mRet (mC (.bl false))) mSkip) (mSeq (mIfS (tOrM (tNotM (asB (mA1 (fCallN 2 F__law_p3_is []) (maCons (mVar 5) (maCons (m2 fIx (mVar 4) (mC (.int 0))) maNil))))) (tNotM (asB (mA1 (fCallN 2 F__law_p3_is []) (maCons (mVar 6) (maCons (m2 fIx (mVar 4) (mC (.int 1))) maNil)))))) (mRet (mC (.bl false))) mSkip) (mSeq (mSet 7 (mCompR false [3] (gtN 3) mYes (mA1 (fCallN 2 F__law_pick []) (maCons (mVar 1) (maCons (mVar 4) maNil))) (maCons (mA1 (fCallN 2 F__law_draw []) (maCons (mVar 1) (maCons (mC (.int 5)) maNil))) maNil))) (mSeq (mSet 8 (mA1 fTup (maCons (mC (.int 0)) (maCons (mC (.int 1)) maNil)))) (mSeq (mFor (gtN 9) (mVar 7) (mSet 8 (mA1 (fCallN 2 F__law_plus []) (maCons (mVar 8) (maCons (mVar 9) maNil))))) (mSeq (mSet 10 (mA1 fTuple (maCons (mVar 7) maNil))) (mSeq (mSet 11 (mA1 (fLst false) (maCons (mA1 (fCallN 1 F_total []) (maCons (mVar 7) maNil)) (maCons (mA1 (fCallN 1 F_total []) (maCons (mA1 fTuple (maCons (mVar 7) maNil)) maNil)) (maCons (mA1 (fCallN 2 F_compare []) (maCons (m2 fIx (mVar 4) (mC (.int 0))) (maCons (m2 fIx (mVar 4) (mC (.int 1))) maNil))) (maCons (mA1 (fCallN 2 F_compare []) (maCons (m2 fIx (mVar 4) (mC (.int 2))) (maCons (m2 fIx (mVar 4) (mC (.int 0))) maNil))) (maCons (mA1 fTuple (maCons (mVar 7) maNil)) maNil))))))) (mSeq (mSet 12 (mA1 (fLst false) (maCons (mVar 8) (maCons (mVar 8) (maCons (mA1 (fCallN 2 F__law_p3_order []) (maCons (m2 fIx (mVar 4) (mC (.int 0))) (maCons (m2 fIx (mVar 4) (mC (.int 1))) maNil))) (maCons (mA1 (fCallN 2 F__law_p3_order []) (maCons (m2 fIx (mVar 4) (mC (.int 2))) (maCons (m2 fIx (mVar 4) (mC (.int 0))) maNil))) (maCons (mVar 10) maNil))))))) (mSeq (mIfS (asB (m2 (fEq true) (mA1 fRepr (maCons (mVar 11) maNil)) (mA1 fRepr (maCons (mVar 12) maNil)))) (mRet (mC (.bl false))) mSkip) (mRet (mA1 (fCallN 2 F__law_p3_refusals []) (maCons (mA1 (fCallN 2 F__law_p3_thing []) (maCons (mVar 1) (maCons (m2 fIx (mVar 4) (mC (.int 2))) maNil))) (maCons (m2 fIx (mVar 4) (mC (.int 0))) maNil)))))))))))))))))))))
def F_law : Fn := fnOf 15 1 m_law
section
variable {P : Program} {w : World} {K : PySem.W.Frag} {mg : Str → Option Value} {base : Heap}
theorem ok_BadFraction_xinitx (Z : Gn K mg base) : RdyE P w K mg base (PDx.gi K) "BadFraction" 1 1 1 (mkE "value" "class_name" "BadFraction") := by
  obtain ⟨fd, FD⟩ := SaysV.fun_ Z.S 0
  have sc : FnScope ["self", "value"] ["self", "value"] (defScope (sub 3 0)) := ⟨rfl, rfl, rfl, by decide +kernel, rfl, by decide +kernel, by decide +kernel⟩
  have T := kExo_ok (Z.S.fact 52)
  have M := He.meth_ok (Z.S.fact 53)
  exact ⟨_, fd, _, _, T, M.at_, beq_iff_eq.mp M.fn, fn_E FD sc T (He.noat_ok (Z.S.fact 54)) (He.noat_ok (Z.S.fact 55)) (Or.inl rfl) (Or.inl rfl) rfl rfl rfl rfl, FD.bindsN (ps := ["self", "value"]) (fun _ _ _ _ _ _ us hl => match us, hl with | [_, _], _ => rfl), gl_BadFraction Z, by decide, mkE_ok⟩
theorem ok_BadPlant_xinitx (Z : Gn K mg base) : RdyE P w K mg base (PDx.gi K) "BadPlant" 2 1 1 (mkE "part" "class_name" "BadPlant") := by
  obtain ⟨fd, FD⟩ := SaysV.fun_ Z.S 1
  have sc : FnScope ["self", "part"] ["self", "part"] (defScope (sub 4 0)) := ⟨rfl, rfl, rfl, by decide +kernel, rfl, by decide +kernel, by decide +kernel⟩
  have T := kExo_ok (Z.S.fact 56)
  have M := He.meth_ok (Z.S.fact 57)
  exact ⟨_, fd, _, _, T, M.at_, beq_iff_eq.mp M.fn, fn_E FD sc T (He.noat_ok (Z.S.fact 58)) (He.noat_ok (Z.S.fact 59)) (Or.inl rfl) (Or.inl rfl) rfl rfl rfl rfl, FD.bindsN (ps := ["self", "part"]) (fun _ _ _ _ _ _ us hl => match us, hl with | [_, _], _ => rfl), gl_BadPlant Z, by decide, mkE_ok⟩
theorem ok_BadDeed_xinitx (Z : Gn K mg base) : RdyE P w K mg base (PDx.gi K) "BadDeed" 3 1 1 (mkE "deed" "class_name" "BadDeed") := by
  obtain ⟨fd, FD⟩ := SaysV.fun_ Z.S 2
  have sc : FnScope ["self", "deed"] ["self", "deed"] (defScope (sub 5 0)) := ⟨rfl, rfl, rfl, by decide +kernel, rfl, by decide +kernel, by decide +kernel⟩
  have T := kExo_ok (Z.S.fact 60)
  have M := He.meth_ok (Z.S.fact 61)
  exact ⟨_, fd, _, _, T, M.at_, beq_iff_eq.mp M.fn, fn_E FD sc T (He.noat_ok (Z.S.fact 62)) (He.noat_ok (Z.S.fact 63)) (Or.inl rfl) (Or.inl rfl) rfl rfl rfl rfl, FD.bindsN (ps := ["self", "deed"]) (fun _ _ _ _ _ _ us hl => match us, hl with | [_, _], _ => rfl), gl_BadDeed Z, by decide, mkE_ok⟩
theorem ok_BadRow_xinitx (Z : Gn K mg base) : RdyE P w K mg base (PDx.gi K) "BadRow" 4 1 1 (mkE "number" "class_name" "BadRow") := by
  obtain ⟨fd, FD⟩ := SaysV.fun_ Z.S 3
  have sc : FnScope ["self", "number"] ["self", "number"] (defScope (sub 6 0)) := ⟨rfl, rfl, rfl, by decide +kernel, rfl, by decide +kernel, by decide +kernel⟩
  have T := kExo_ok (Z.S.fact 64)
  have M := He.meth_ok (Z.S.fact 65)
  exact ⟨_, fd, _, _, T, M.at_, beq_iff_eq.mp M.fn, fn_E FD sc T (He.noat_ok (Z.S.fact 66)) (He.noat_ok (Z.S.fact 67)) (Or.inl rfl) (Or.inl rfl) rfl rfl rfl rfl, FD.bindsN (ps := ["self", "number"]) (fun _ _ _ _ _ _ us hl => match us, hl with | [_, _], _ => rfl), gl_BadRow Z, by decide, mkE_ok⟩
theorem ok_is_whole (Z : Gn K mg base) : Rdy P w K mg base (PDx.gi K) "is_whole" 1 1 [] F_is_whole := by
  obtain ⟨fd, FD⟩ := SaysV.fun_ Z.S 4
  have sc : FnScope ["thing"] ["thing"] (defScope (top 8)) := ⟨rfl, rfl, rfl, by decide +kernel, rfl, by decide +kernel, by decide +kernel⟩
  exact rdy_of FD (fn_D (k := 0) (m := m_is_whole) (PD.giOk Z.ok) FD sc (fun cdv A outer s H E B hr b => (vs_one (vs_ret (ve_and (ve_isi b.G b.K (.bt "int") rfl (fr_isinstance Z) (ve_var 0) (pe_bltn (v := .ty "int") rfl (fr_int Z) bt_int rfl)) (ve_one (ve_not (ve_isi b.G b.K (.bt "bool") rfl (fr_isinstance Z) (ve_var 0) (pe_bltn (v := .ty "bool") rfl (fr_bool Z) bt_bool rfl))))))))) (gl_is_whole Z) (fun _ _ _ _ _ _ us hl => match us, hl with | [_], _ => rfl) rfl
theorem ok_lowest (Z : Gn K mg base) : Rdy P w K mg base (PDx.gi K) "lowest" 1 2 [] F_lowest := by
  obtain ⟨fd, FD⟩ := SaysV.fun_ Z.S 5
  have sc : FnScope ["above", "below", "common"] ["above", "below"] (defScope (top 11)) := ⟨rfl, rfl, rfl, by decide +kernel, rfl, by decide +kernel, by decide +kernel⟩
  exact rdy_of FD (fn_D (k := 0) (m := m_lowest) (PD.giOk Z.ok) FD sc (fun cdv A outer s H E B hr b => (vs_cons (vs_set sc.nd rfl (Or.inl rfl) (ve_callG c_gcd rfl (gb_gcd Z) (va_cons (ve_var 0) (va_cons (ve_var 1) va_nil)))) (vs_cons (vs_if (vt_cmp o_lt (ve_var 1) ve_int rfl) (vs_one (vs_set sc.nd rfl (Or.inl rfl) (ve_neg (ve_var 2)))) vs_nil) (vs_one (vs_ret (ve_tup (va_cons (ve_bin o_div (ve_var 0) (ve_var 2)) (va_cons (ve_bin o_div (ve_var 1) (ve_var 2)) va_nil))))))))) (gl_lowest Z) (fun _ _ _ _ _ _ us hl => match us, hl with | [_, _], _ => rfl) rfl
theorem ok_plus (Z : Gn K mg base) : Rdy P w K mg base (PDx.gi K) "plus" 2 2 [] F_plus := by
  obtain ⟨fd, FD⟩ := SaysV.fun_ Z.S 6
  have sc : FnScope ["first", "second"] ["first", "second"] (defScope (top 12)) := ⟨rfl, rfl, rfl, by decide +kernel, rfl, by decide +kernel, by decide +kernel⟩
  exact rdy_of FD (fn_D (k := 1) (m := m_plus) (PD.giOk Z.ok) FD sc (fun cdv A outer s H E B hr b => (vs_cons (vs_if (vt_cmp (o_eq b.K b.un) (ve_ix b.K (ve_var 0) ve_int fun _ _ => rfl) (ve_ix b.K (ve_var 1) ve_int fun _ _ => rfl) rfl) (vs_one (vs_ret (ve_call ((ok_lowest Z).v hr (by decide)) b.gd b.tk rfl (va_cons (ve_bin (o_add false b.K) (ve_ix b.K (ve_var 0) ve_int fun _ _ => rfl) (ve_ix b.K (ve_var 1) ve_int fun _ _ => rfl)) (va_cons (ve_ix b.K (ve_var 0) ve_int fun _ _ => rfl) va_nil))))) vs_nil) (vs_one (vs_ret (ve_call ((ok_lowest Z).v hr (by decide)) b.gd b.tk rfl (va_cons (ve_bin (o_add false b.K) (ve_bin o_mul (ve_ix b.K (ve_var 0) ve_int fun _ _ => rfl) (ve_ix b.K (ve_var 1) ve_int fun _ _ => rfl)) (ve_bin o_mul (ve_ix b.K (ve_var 1) ve_int fun _ _ => rfl) (ve_ix b.K (ve_var 0) ve_int fun _ _ => rfl))) (va_cons (ve_bin o_mul (ve_ix b.K (ve_var 0) ve_int fun _ _ => rfl) (ve_ix b.K (ve_var 1) ve_int fun _ _ => rfl)) va_nil)))))))) (gl_plus Z) (fun _ _ _ _ _ _ us hl => match us, hl with | [_, _], _ => rfl) rfl
theorem ok_is_fraction (Z : Gn K mg base) : Rdy P w K mg base (PDx.gi K) "is_fraction" 2 1 [] F_is_fraction := by
  obtain ⟨fd, FD⟩ := SaysV.fun_ Z.S 7
  have sc : FnScope ["thing", "above", "below"] ["thing"] (defScope (top 13)) := ⟨rfl, rfl, rfl, by decide +kernel, rfl, by decide +kernel, by decide +kernel⟩
  exact rdy_of FD (fn_D (k := 1) (m := m_is_fraction) (PD.giOk Z.ok) FD sc (fun cdv A outer s H E B hr b => (vs_cons (vs_if (PW.pt (vw_or (vt_not (vt_val (ve_isi b.G b.K (.bt "tuple") rfl (fr_isinstance Z) (ve_var 0) (pe_bltn (v := .ty "tuple") rfl (fr_tuple Z) bt_tuple rfl)))) (vw_or1 (vt_cmp (o_ne b.K b.un) (ve_callB (c_len b.K) rfl (fr_len Z) bt_len (va_cons (ve_var 0) va_nil)) ve_int rfl)))) (vs_one (vs_ret ve_bl)) vs_nil) (vs_cons (vs_unp (ve_var 0) (vg_tup b.K b.calm (vg_cons (vg_name sc.nd rfl (Or.inl rfl)) (vg_cons (vg_name sc.nd rfl (Or.inl rfl)) vg_nil)))) (vs_one (vs_ret (ve_and (ve_call ((ok_is_whole Z).v hr (by decide)) b.gd b.tk rfl (va_cons (ve_var 1) va_nil)) (ve_and (ve_call ((ok_is_whole Z).v hr (by decide)) b.gd b.tk rfl (va_cons (ve_var 2) va_nil)) (ve_and (ve_cmp o_ge (ve_var 2) ve_int rfl) (ve_one (ve_cmp (o_eq b.K b.un) (ve_callG c_gcd rfl (gb_gcd Z) (va_cons (ve_var 1) (va_cons (ve_var 2) va_nil))) ve_int rfl))))))))))) (gl_is_fraction Z) (fun _ _ _ _ _ _ us hl => match us, hl with | [_], _ => rfl) rfl
theorem ok_is_share (Z : Gn K mg base) : Rdy P w K mg base (PDx.gi K) "is_share" 3 1 [] F_is_share := by
  obtain ⟨fd, FD⟩ := SaysV.fun_ Z.S 8
  have sc : FnScope ["thing"] ["thing"] (defScope (top 14)) := ⟨rfl, rfl, rfl, by decide +kernel, rfl, by decide +kernel, by decide +kernel⟩
  exact rdy_of FD (fn_D (k := 2) (m := m_is_share) (PD.giOk Z.ok) FD sc (fun cdv A outer s H E B hr b => (vs_one (vs_ret (ve_and (ve_call ((ok_is_fraction Z).v hr (by decide)) b.gd b.tk rfl (va_cons (ve_var 0) va_nil)) (ve_one (ve_chain o_le o_le ve_int (ve_ix b.K (ve_var 0) ve_int fun _ _ => rfl) (ve_ix b.K (ve_var 0) ve_int fun _ _ => rfl)))))))) (gl_is_share Z) (fun _ _ _ _ _ _ us hl => match us, hl with | [_], _ => rfl) rfl
theorem ok_check_fraction (Z : Gn K mg base) : Rdy P w K mg base (PDx.gi K) "check_fraction" 3 1 [] F_check_fraction := by
  obtain ⟨fd, FD⟩ := SaysV.fun_ Z.S 9
  have sc : FnScope ["thing"] ["thing"] (defScope (top 15)) := ⟨rfl, rfl, rfl, by decide +kernel, rfl, by decide +kernel, by decide +kernel⟩
  exact rdy_of FD (fn_D (k := 2) (m := m_check_fraction) (PD.giOk Z.ok) FD sc (fun cdv A outer s H E B hr b => (vs_one (vs_if (vt_not (vt_val (ve_call ((ok_is_fraction Z).v hr (by decide)) b.gd b.tk rfl (va_cons (ve_var 0) va_nil)))) (vs_one (vs_raise b ((ok_BadFraction_xinitx Z).v hr (by decide)) rfl (va_cons (ve_var 0) va_nil))) vs_nil)))) (gl_check_fraction Z) (fun _ _ _ _ _ _ us hl => match us, hl with | [_], _ => rfl) rfl
theorem ok_compare (Z : Gn K mg base) : Rdy P w K mg base (PDx.gi K) "compare" 4 2 [] F_compare := by
  obtain ⟨fd, FD⟩ := SaysV.fun_ Z.S 10
  have sc : FnScope ["first", "second", "left", "right"] ["first", "second"] (defScope (top 16)) := ⟨rfl, rfl, rfl, by decide +kernel, rfl, by decide +kernel, by decide +kernel⟩
  exact rdy_of FD (fn_D (k := 3) (m := m_compare) (PD.giOk Z.ok) FD sc (fun cdv A outer s H E B hr b => (vs_cons (vs_expr (ve_call ((ok_check_fraction Z).v hr (by decide)) b.gd b.tk rfl (va_cons (ve_var 0) va_nil))) (vs_cons (vs_expr (ve_call ((ok_check_fraction Z).v hr (by decide)) b.gd b.tk rfl (va_cons (ve_var 1) va_nil))) (vs_cons (vs_set sc.nd rfl (Or.inl rfl) (ve_bin o_mul (ve_ix b.K (ve_var 0) ve_int fun _ _ => rfl) (ve_ix b.K (ve_var 1) ve_int fun _ _ => rfl))) (vs_cons (vs_set sc.nd rfl (Or.inl rfl) (ve_bin o_mul (ve_ix b.K (ve_var 1) ve_int fun _ _ => rfl) (ve_ix b.K (ve_var 0) ve_int fun _ _ => rfl))) (vs_cons (vs_if (vt_cmp (o_eq b.K b.un) (ve_var 2) (ve_var 3) rfl) (vs_one (vs_ret ve_int)) vs_nil) (vs_one (vs_ret (ve_if (vt_cmp o_lt (ve_var 2) (ve_var 3) rfl) (ve_neg ve_int) ve_int)))))))))) (gl_compare Z) (fun _ _ _ _ _ _ us hl => match us, hl with | [_, _], _ => rfl) rfl
theorem ok_total (Z : Gn K mg base) : Rdy P w K mg base (PDx.gi K) "total" 4 1 [] F_total := by
  obtain ⟨fd, FD⟩ := SaysV.fun_ Z.S 11
  have sc : FnScope ["pairs", "pair", "result"] ["pairs"] (defScope (top 17)) := ⟨rfl, rfl, rfl, by decide +kernel, rfl, by decide +kernel, by decide +kernel⟩
  exact rdy_of FD (fn_D (k := 3) (m := m_total) (PD.giOk Z.ok) FD sc (fun cdv A outer s H E B hr b => (vs_cons (vs_for b.K b.ps b.calm (ve_var 0) (vg_name sc.nd rfl (Or.inl rfl)) (vs_one (vs_expr (ve_call ((ok_check_fraction Z).v hr (by decide)) b.gd b.tk rfl (va_cons (ve_var 1) va_nil))))) (vs_cons (vs_set sc.nd rfl (Or.inl rfl) (ve_glob rfl (gd_ZERO Z))) (vs_cons (vs_for b.K b.ps b.calm (ve_var 0) (vg_name sc.nd rfl (Or.inl rfl)) (vs_one (vs_set sc.nd rfl (Or.inl rfl) (ve_call ((ok_plus Z).v hr (by decide)) b.gd b.tk rfl (va_cons (ve_var 2) (va_cons (ve_var 1) va_nil)))))) (vs_one (vs_ret (ve_var 2)))))))) (gl_total Z) (fun _ _ _ _ _ _ us hl => match us, hl with | [_], _ => rfl) rfl
theorem ok_Ratio_xinitx_1 (Z : Gn K mg base) : RdyI P w K mg base (PDx.gi K) 5 3 1 [(.int 1)] FI_Ratio_xinitx := by
  obtain ⟨fd, FD⟩ := SaysV.fun_ Z.S 12
  have sc : FnScope ["self", "above", "below"] ["self", "above", "below"] (defScope (sub 18 0)) := ⟨rfl, rfl, rfl, by decide +kernel, rfl, by decide +kernel, by decide +kernel⟩
  obtain ⟨ds, vd, bn⟩ := FD.binds1 (ps := ["self", "above", "below"]) 2 0 (fun z => nomatch z) rfl (fun _ _ _ _ _ _ _ us its h1 h2 => match us, its, h1, h2 with | [_, _], [_], _, _ => ⟨_, rfl, rfl⟩)
  exact ⟨_, fd, _, _, _, ds, fn_I (c := 5) (k := 2) (m := m_Ratio_xinitx) (PD.giOk Z.ok) FD sc (fun cdv A outer s H E B hr b => (vs_cons (vs_if (vt_cmp (o_eq b.K b.un) (ve_var 2) ve_int rfl) (vs_one (vs_raise b ((ok_BadFraction_xinitx Z).v hr (by decide)) rfl (va_cons (ve_var 2) va_nil))) vs_nil) (vs_one (vs_unp (ve_call ((ok_lowest Z).v hr (by decide)) b.gd b.tk rfl (va_cons (ve_var 1) (va_cons (ve_var 2) va_nil))) (vg_tup b.K b.calm (vg_cons (vg_attr b.G b.K (pe_var (i := 0) rfl (Or.inl rfl))) (vg_cons (vg_attr b.G b.K (pe_var (i := 0) rfl (Or.inl rfl))) vg_nil))))))), He.mkr_ok (Z.S.fact 68), bn, vd, fun _ _ => ⟨_, _, rfl, rfl, rfl⟩, rfl⟩
theorem ok_Ratio_xinitx_2 (Z : Gn K mg base) : RdyI P w K mg base (PDx.gi K) 5 3 2 [] FI_Ratio_xinitx := by
  obtain ⟨fd, FD⟩ := SaysV.fun_ Z.S 12
  have sc : FnScope ["self", "above", "below"] ["self", "above", "below"] (defScope (sub 18 0)) := ⟨rfl, rfl, rfl, by decide +kernel, rfl, by decide +kernel, by decide +kernel⟩
  obtain ⟨ds, vd, bn⟩ := FD.binds1 (ps := ["self", "above", "below"]) 3 1 (fun z => nomatch z) rfl (fun _ _ _ _ _ _ _ us its h1 h2 => match us, its, h1, h2 with | [_, _, _], [_], _, _ => ⟨_, rfl, rfl⟩)
  exact ⟨_, fd, _, _, _, ds, fn_I (c := 5) (k := 2) (m := m_Ratio_xinitx) (PD.giOk Z.ok) FD sc (fun cdv A outer s H E B hr b => (vs_cons (vs_if (vt_cmp (o_eq b.K b.un) (ve_var 2) ve_int rfl) (vs_one (vs_raise b ((ok_BadFraction_xinitx Z).v hr (by decide)) rfl (va_cons (ve_var 2) va_nil))) vs_nil) (vs_one (vs_unp (ve_call ((ok_lowest Z).v hr (by decide)) b.gd b.tk rfl (va_cons (ve_var 1) (va_cons (ve_var 2) va_nil))) (vg_tup b.K b.calm (vg_cons (vg_attr b.G b.K (pe_var (i := 0) rfl (Or.inl rfl))) (vg_cons (vg_attr b.G b.K (pe_var (i := 0) rfl (Or.inl rfl))) vg_nil))))))), He.mkr_ok (Z.S.fact 68), bn, vd, fun _ _ => rfl, rfl⟩
theorem ok_Ratio_of (Z : Gn K mg base) : RdyC P w K mg base (PDx.gi K) 5 "of" 5 1 [] F_Ratio_of := by
  obtain ⟨fd, FD⟩ := SaysV.fun_ Z.S 13
  have sc : FnScope ["cls", "pair"] ["cls", "pair"] (defScope (sub 18 1)) := ⟨rfl, rfl, rfl, by decide +kernel, rfl, by decide +kernel, by decide +kernel⟩
  exact rdyC_of (g := PDx.gi K) (c := 5) FD (fn_D (k := 4) (m := m_Ratio_of) (PD.giOk Z.ok) FD sc (fun cdv A outer s H E B hr b => (vs_cons (vs_expr (ve_call ((ok_check_fraction Z).v hr (by decide)) b.gd b.tk rfl (va_cons (ve_var 1) va_nil))) (vs_one (vs_ret (ve_makeL b ((ok_Ratio_xinitx_2 Z).v hr (by decide)) rfl (Or.inl rfl) (va_cons (ve_ix b.K (ve_var 1) ve_int fun _ _ => rfl) (va_cons (ve_ix b.K (ve_var 1) ve_int fun _ _ => rfl) va_nil)))))))) (kCmet_ok (c := "Ratio") (m := "of") (Z.S.fact 69)) (fun _ _ _ _ _ _ us hl => match us, hl with | [_, _], _ => rfl) rfl
theorem ok_Ratio_pair (Z : Gn K mg base) : RdyP P w K mg base (PDx.gi K) 5 "pair" 1 F_Ratio_pair := by
  obtain ⟨fd, FD⟩ := SaysV.fun_ Z.S 14
  have sc : FnScope ["self"] ["self"] (defScope (sub 18 2)) := ⟨rfl, rfl, rfl, by decide +kernel, rfl, by decide +kernel, by decide +kernel⟩
  exact rdyP_of (g := PDx.gi K) (c := 5) FD (fn_D (k := 0) (m := m_Ratio_pair) (PD.giOk Z.ok) FD sc (fun cdv A outer s H E B hr b => (vs_one (vs_ret (ve_tup (va_cons (ve_fld b.G b.K (ve_var 0)) (va_cons (ve_fld b.G b.K (ve_var 0)) va_nil))))))) (kProp_ok (Z.S.fact 70)) (show decide (5 ∈ PDx.cls) = true by decide) (fun _ _ _ _ _ _ us hl => match us, hl with | [_], _ => rfl) rfl
theorem ok_Ratio_xaddx (Z : Gn K mg base) : RdyM P w K mg base (PDx.gi K) 5 "__add__" 5 1 [] F_Ratio_xaddx := by
  obtain ⟨fd, FD⟩ := SaysV.fun_ Z.S 15
  have sc : FnScope ["self", "other"] ["self", "other"] (defScope (sub 18 3)) := ⟨rfl, rfl, rfl, by decide +kernel, rfl, by decide +kernel, by decide +kernel⟩
  exact rdyM_of (g := PDx.gi K) (c := 5) FD (fn_D (k := 4) (m := m_Ratio_xaddx) (PD.giOk Z.ok) FD sc (fun cdv A outer s H E B hr b => (vs_cons (vs_if (vt_not (vt_val (ve_isi b.G b.K (.own 5) rfl (fr_isinstance Z) (ve_var 1) (pe_glob rfl (gl_Ratio Z) rfl)))) (vs_one vs_never) vs_nil) (vs_one (vs_ret (ve_make b ((ok_Ratio_xinitx_2 Z).v hr (by decide)) rfl (gl_Ratio Z) (va_cons (ve_bin (o_add false b.K) (ve_bin o_mul (ve_fld b.G b.K (ve_var 0)) (ve_fld b.G b.K (ve_var 1))) (ve_bin o_mul (ve_fld b.G b.K (ve_var 1)) (ve_fld b.G b.K (ve_var 0)))) (va_cons (ve_bin o_mul (ve_fld b.G b.K (ve_var 0)) (ve_fld b.G b.K (ve_var 1))) va_nil)))))))) (He.meth_ok (Z.S.fact 71)) (show decide (5 ∈ PDx.cls) = true by decide) (fun _ _ _ _ _ _ us hl => match us, hl with | [_, _], _ => rfl) rfl
theorem vo_add {X : Cx} {j : Nat} (Z : Gn X.K X.mg X.base) (hr : Room j X.A) (hj : 6 ≤ j) : VOps X (PDx.gi X.K) "__add__" 2 T_add := fun c F e => by
  have e : (if c = 5 then some F_Ratio_xaddx else none) = some F := e
  by_cases h : c = 5
  · rw [if_pos h] at e
    cases e
    subst h
    exact (ok_Ratio_xaddx Z).op (PD.sf Z.ok (by decide)) hr hj
  · rw [if_neg h] at e
    cases e
theorem ok_Ratio_xsubx (Z : Gn K mg base) : RdyM P w K mg base (PDx.gi K) 5 "__sub__" 5 1 [] F_Ratio_xsubx := by
  obtain ⟨fd, FD⟩ := SaysV.fun_ Z.S 16
  have sc : FnScope ["self", "other"] ["self", "other"] (defScope (sub 18 4)) := ⟨rfl, rfl, rfl, by decide +kernel, rfl, by decide +kernel, by decide +kernel⟩
  exact rdyM_of (g := PDx.gi K) (c := 5) FD (fn_D (k := 4) (m := m_Ratio_xsubx) (PD.giOk Z.ok) FD sc (fun cdv A outer s H E B hr b => (vs_cons (vs_if (vt_not (vt_val (ve_isi b.G b.K (.own 5) rfl (fr_isinstance Z) (ve_var 1) (pe_glob rfl (gl_Ratio Z) rfl)))) (vs_one vs_never) vs_nil) (vs_one (vs_ret (ve_make b ((ok_Ratio_xinitx_2 Z).v hr (by decide)) rfl (gl_Ratio Z) (va_cons (ve_bin o_sub (ve_bin o_mul (ve_fld b.G b.K (ve_var 0)) (ve_fld b.G b.K (ve_var 1))) (ve_bin o_mul (ve_fld b.G b.K (ve_var 1)) (ve_fld b.G b.K (ve_var 0)))) (va_cons (ve_bin o_mul (ve_fld b.G b.K (ve_var 0)) (ve_fld b.G b.K (ve_var 1))) va_nil)))))))) (He.meth_ok (Z.S.fact 72)) (show decide (5 ∈ PDx.cls) = true by decide) (fun _ _ _ _ _ _ us hl => match us, hl with | [_, _], _ => rfl) rfl
theorem vo_sub {X : Cx} {j : Nat} (Z : Gn X.K X.mg X.base) (hr : Room j X.A) (hj : 6 ≤ j) : VOps X (PDx.gi X.K) "__sub__" 2 T_sub := fun c F e => by
  have e : (if c = 5 then some F_Ratio_xsubx else none) = some F := e
  by_cases h : c = 5
  · rw [if_pos h] at e
    cases e
    subst h
    exact (ok_Ratio_xsubx Z).op (PD.sf Z.ok (by decide)) hr hj
  · rw [if_neg h] at e
    cases e
theorem ok_Ratio_xmulx (Z : Gn K mg base) : RdyM P w K mg base (PDx.gi K) 5 "__mul__" 5 1 [] F_Ratio_xmulx := by
  obtain ⟨fd, FD⟩ := SaysV.fun_ Z.S 17
  have sc : FnScope ["self", "other"] ["self", "other"] (defScope (sub 18 5)) := ⟨rfl, rfl, rfl, by decide +kernel, rfl, by decide +kernel, by decide +kernel⟩
  exact rdyM_of (g := PDx.gi K) (c := 5) FD (fn_D (k := 4) (m := m_Ratio_xmulx) (PD.giOk Z.ok) FD sc (fun cdv A outer s H E B hr b => (vs_cons (vs_if (vt_not (vt_val (ve_isi b.G b.K (.own 5) rfl (fr_isinstance Z) (ve_var 1) (pe_glob rfl (gl_Ratio Z) rfl)))) (vs_one vs_never) vs_nil) (vs_one (vs_ret (ve_make b ((ok_Ratio_xinitx_2 Z).v hr (by decide)) rfl (gl_Ratio Z) (va_cons (ve_bin o_mul (ve_fld b.G b.K (ve_var 0)) (ve_fld b.G b.K (ve_var 1))) (va_cons (ve_bin o_mul (ve_fld b.G b.K (ve_var 0)) (ve_fld b.G b.K (ve_var 1))) va_nil)))))))) (He.meth_ok (Z.S.fact 73)) (show decide (5 ∈ PDx.cls) = true by decide) (fun _ _ _ _ _ _ us hl => match us, hl with | [_, _], _ => rfl) rfl
theorem vo_mul {X : Cx} {j : Nat} (Z : Gn X.K X.mg X.base) (hr : Room j X.A) (hj : 6 ≤ j) : VOps X (PDx.gi X.K) "__mul__" 2 T_mul := fun c F e => by
  have e : (if c = 5 then some F_Ratio_xmulx else none) = some F := e
  by_cases h : c = 5
  · rw [if_pos h] at e
    cases e
    subst h
    exact (ok_Ratio_xmulx Z).op (PD.sf Z.ok (by decide)) hr hj
  · rw [if_neg h] at e
    cases e
theorem ok_Ratio_xnegx (Z : Gn K mg base) : RdyM P w K mg base (PDx.gi K) 5 "__neg__" 5 0 [] F_Ratio_xnegx := by
  obtain ⟨fd, FD⟩ := SaysV.fun_ Z.S 18
  have sc : FnScope ["self"] ["self"] (defScope (sub 18 6)) := ⟨rfl, rfl, rfl, by decide +kernel, rfl, by decide +kernel, by decide +kernel⟩
  exact rdyM_of (g := PDx.gi K) (c := 5) FD (fn_D (k := 4) (m := m_Ratio_xnegx) (PD.giOk Z.ok) FD sc (fun cdv A outer s H E B hr b => (vs_one (vs_ret (ve_make b ((ok_Ratio_xinitx_2 Z).v hr (by decide)) rfl (gl_Ratio Z) (va_cons (ve_neg (ve_fld b.G b.K (ve_var 0))) (va_cons (ve_fld b.G b.K (ve_var 0)) va_nil))))))) (He.meth_ok (Z.S.fact 74)) (show decide (5 ∈ PDx.cls) = true by decide) (fun _ _ _ _ _ _ us hl => match us, hl with | [_], _ => rfl) rfl
theorem vo_neg {X : Cx} {j : Nat} (Z : Gn X.K X.mg X.base) (hr : Room j X.A) (hj : 6 ≤ j) : VOps X (PDx.gi X.K) "__neg__" 1 T_neg := fun c F e => by
  have e : (if c = 5 then some F_Ratio_xnegx else none) = some F := e
  by_cases h : c = 5
  · rw [if_pos h] at e
    cases e
    subst h
    exact (ok_Ratio_xnegx Z).op (PD.sf Z.ok (by decide)) hr hj
  · rw [if_neg h] at e
    cases e
theorem ok_Ratio_xabsx (Z : Gn K mg base) : RdyM P w K mg base (PDx.gi K) 5 "__abs__" 5 0 [] F_Ratio_xabsx := by
  obtain ⟨fd, FD⟩ := SaysV.fun_ Z.S 19
  have sc : FnScope ["self"] ["self"] (defScope (sub 18 7)) := ⟨rfl, rfl, rfl, by decide +kernel, rfl, by decide +kernel, by decide +kernel⟩
  exact rdyM_of (g := PDx.gi K) (c := 5) FD (fn_D (k := 4) (m := m_Ratio_xabsx) (PD.giOk Z.ok) FD sc (fun cdv A outer s H E B hr b => (vs_one (vs_ret (ve_make b ((ok_Ratio_xinitx_2 Z).v hr (by decide)) rfl (gl_Ratio Z) (va_cons (ve_callB c_abs rfl (fr_abs Z) bt_abs (va_cons (ve_fld b.G b.K (ve_var 0)) va_nil)) (va_cons (ve_fld b.G b.K (ve_var 0)) va_nil))))))) (He.meth_ok (Z.S.fact 75)) (show decide (5 ∈ PDx.cls) = true by decide) (fun _ _ _ _ _ _ us hl => match us, hl with | [_], _ => rfl) rfl
theorem vo_abs {X : Cx} {j : Nat} (Z : Gn X.K X.mg X.base) (hr : Room j X.A) (hj : 6 ≤ j) : VOps X (PDx.gi X.K) "__abs__" 1 T_abs := fun c F e => by
  have e : (if c = 5 then some F_Ratio_xabsx else none) = some F := e
  by_cases h : c = 5
  · rw [if_pos h] at e
    cases e
    subst h
    exact (ok_Ratio_xabsx Z).op (PD.sf Z.ok (by decide)) hr hj
  · rw [if_neg h] at e
    cases e
theorem ok_Ratio_xeqx (Z : Gn K mg base) : RdyM P w K mg base (PDx.gi K) 5 "__eq__" 1 1 [] F_Ratio_xeqx := by
  obtain ⟨fd, FD⟩ := SaysV.fun_ Z.S 20
  have sc : FnScope ["self", "other"] ["self", "other"] (defScope (sub 18 8)) := ⟨rfl, rfl, rfl, by decide +kernel, rfl, by decide +kernel, by decide +kernel⟩
  exact rdyM_of (g := PDx.gi K) (c := 5) FD (fn_D (k := 0) (m := m_Ratio_xeqx) (PD.giOk Z.ok) FD sc (fun cdv A outer s H E B hr b => (vs_one (vs_ret (ve_and (ve_isi b.G b.K (.own 5) rfl (fr_isinstance Z) (ve_var 1) (pe_glob rfl (gl_Ratio Z) rfl)) (ve_and (ve_cmp (o_eq b.K b.un) (ve_fld b.G b.K (ve_var 0)) (ve_fld b.G b.K (ve_var 1)) rfl) (ve_one (ve_cmp (o_eq b.K b.un) (ve_fld b.G b.K (ve_var 0)) (ve_fld b.G b.K (ve_var 1)) rfl)))))))) (He.meth_ok (Z.S.fact 76)) (show decide (5 ∈ PDx.cls) = true by decide) (fun _ _ _ _ _ _ us hl => match us, hl with | [_, _], _ => rfl) rfl
theorem vo_eq {X : Cx} {j : Nat} (Z : Gn X.K X.mg X.base) (hr : Room j X.A) (hj : 2 ≤ j) : VOps X (PDx.gi X.K) "__eq__" 2 T_eq := fun c F e => by
  have e : (if c = 5 then some F_Ratio_xeqx else none) = some F := e
  by_cases h : c = 5
  · rw [if_pos h] at e
    cases e
    subst h
    exact (ok_Ratio_xeqx Z).op (PD.sf Z.ok (by decide)) hr hj
  · rw [if_neg h] at e
    cases e
theorem ok_Ratio_over (Z : Gn K mg base) : RdyM P w K mg base (PDx.gi K) 5 "over" 5 1 [] F_Ratio_over := by
  obtain ⟨fd, FD⟩ := SaysV.fun_ Z.S 21
  have sc : FnScope ["self", "other"] ["self", "other"] (defScope (sub 18 9)) := ⟨rfl, rfl, rfl, by decide +kernel, rfl, by decide +kernel, by decide +kernel⟩
  exact rdyM_of (g := PDx.gi K) (c := 5) FD (fn_D (k := 4) (m := m_Ratio_over) (PD.giOk Z.ok) FD sc (fun cdv A outer s H E B hr b => (vs_one (vs_ret (ve_make b ((ok_Ratio_xinitx_2 Z).v hr (by decide)) rfl (gl_Ratio Z) (va_cons (ve_bin o_mul (ve_fld b.G b.K (ve_var 0)) (ve_fld b.G b.K (ve_var 1))) (va_cons (ve_bin o_mul (ve_fld b.G b.K (ve_var 0)) (ve_fld b.G b.K (ve_var 1))) va_nil))))))) (He.meth_ok (Z.S.fact 77)) (show decide (5 ∈ PDx.cls) = true by decide) (fun _ _ _ _ _ _ us hl => match us, hl with | [_, _], _ => rfl) rfl
theorem ok_Ratio_less (Z : Gn K mg base) : RdyM P w K mg base (PDx.gi K) 5 "less" 1 1 [] F_Ratio_less := by
  obtain ⟨fd, FD⟩ := SaysV.fun_ Z.S 22
  have sc : FnScope ["self", "other"] ["self", "other"] (defScope (sub 18 10)) := ⟨rfl, rfl, rfl, by decide +kernel, rfl, by decide +kernel, by decide +kernel⟩
  exact rdyM_of (g := PDx.gi K) (c := 5) FD (fn_D (k := 0) (m := m_Ratio_less) (PD.giOk Z.ok) FD sc (fun cdv A outer s H E B hr b => (vs_one (vs_ret (ve_cmp o_lt (ve_bin o_mul (ve_fld b.G b.K (ve_var 0)) (ve_fld b.G b.K (ve_var 1))) (ve_bin o_mul (ve_fld b.G b.K (ve_var 1)) (ve_fld b.G b.K (ve_var 0))) rfl))))) (He.meth_ok (Z.S.fact 78)) (show decide (5 ∈ PDx.cls) = true by decide) (fun _ _ _ _ _ _ us hl => match us, hl with | [_, _], _ => rfl) rfl
theorem ok__law_bag (Z : Gn K mg base) : Rdy P w K mg base (PDx.gi K) "_law_bag" 1 1 [] F__law_bag := by
  obtain ⟨fd, FD⟩ := SaysV.fun_ Z.S 23
  have sc : FnScope ["_law_script"] ["_law_script"] (defScope (top 20)) := ⟨rfl, rfl, rfl, by decide +kernel, rfl, by decide +kernel, by decide +kernel⟩
  exact rdy_of FD (fn_D (k := 0) (m := m__law_bag) (PD.giOk Z.ok) FD sc (fun cdv A outer s H E B hr b => (vs_one (vs_retC (ve_lst (o := true) (va_cons (ve_callTy (c_list false b.K) rfl (fr_list Z) bt_list (va_cons (ve_var 0) va_nil)) (va_cons ve_int (va_cons ve_int (va_cons (ve_bin o_mod (ve_callTy c_int rfl (fr_int Z) bt_int (va_cons (ve_callB (c_sum b.K b.calm) rfl (fr_sum Z) bt_sum (va_cons (ve_var 0) va_nil)) va_nil)) ve_int) (va_cons ve_int (va_cons ve_int va_nil))))))))))) (gl__law_bag Z) (fun _ _ _ _ _ _ us hl => match us, hl with | [_], _ => rfl) rfl
theorem ok__law_mixed (Z : Gn K mg base) : Rdy P w K mg base (PDx.gi K) "_law_mixed" 1 2 [] F__law_mixed := by
  obtain ⟨fd, FD⟩ := SaysV.fun_ Z.S 24
  have sc : FnScope ["_law_seed", "_law_turn", "_law_first"] ["_law_seed", "_law_turn"] (defScope (top 21)) := ⟨rfl, rfl, rfl, by decide +kernel, rfl, by decide +kernel, by decide +kernel⟩
  exact rdy_of FD (fn_D (k := 0) (m := m__law_mixed) (PD.giOk Z.ok) FD sc (fun cdv A outer s H E B hr b => (vs_cons (vs_set sc.nd rfl (Or.inl rfl) (ve_bin o_mod (ve_callTy c_int rfl (fr_int Z) bt_int (va_cons (ve_bin (o_add false b.K) (ve_bin o_mul (ve_bin (o_add false b.K) (ve_var 0) ve_int) ve_int) (ve_bin o_mul (ve_bin (o_add false b.K) (ve_var 1) ve_int) ve_int)) va_nil)) ve_int)) (vs_one (vs_ret (ve_bin o_div (ve_bin o_mod (ve_callTy c_int rfl (fr_int Z) bt_int (va_cons (ve_bin (o_add false b.K) (ve_bin (o_add false b.K) (ve_bin o_mul (ve_var 2) (ve_var 2)) (ve_bin o_mul (ve_var 2) ve_int)) (ve_bin o_mul ve_int (ve_var 1))) va_nil)) ve_int) ve_int)))))) (gl__law_mixed Z) (fun _ _ _ _ _ _ us hl => match us, hl with | [_, _], _ => rfl) rfl
theorem ok__law_draw (Z : Gn K mg base) : Rdy P w K mg base (PDx.gi K) "_law_draw" 2 2 [] F__law_draw := by
  obtain ⟨fd, FD⟩ := SaysV.fun_ Z.S 25
  have sc : FnScope ["_law_bag_here", "_law_many", "_law_cell", "_law_value"] ["_law_bag_here", "_law_many"] (defScope (top 22)) := ⟨rfl, rfl, rfl, by decide +kernel, rfl, by decide +kernel, by decide +kernel⟩
  exact rdy_of FD (fn_D (k := 1) (m := m__law_draw) (PD.giOk Z.ok) FD sc (fun cdv A outer s H E B hr b => (vs_cons (vs_if (vt_cmp o_lt (ve_var 1) ve_int rfl) (vs_one (vs_ret ve_int)) vs_nil) (vs_cons (vs_setix (ve_bin (o_add false b.K) (ve_ix b.K (ve_var 0) ve_int fun _ _ => rfl) ve_int) (ve_var 0) ve_int) (vs_cons (vs_if (PW.pt (vw_and (vt_cmp (o_eq b.K b.un) (ve_ix b.K (ve_var 0) ve_int fun _ _ => rfl) ve_int rfl) (vw_and (vt_cmp (o_eq b.K b.un) (ve_ix b.K (ve_var 0) ve_int fun _ _ => rfl) ve_int rfl) (vw_and1 (vt_cmp o_lt (ve_ix b.K (ve_var 0) ve_int fun _ _ => rfl) (ve_callB (c_len b.K) rfl (fr_len Z) bt_len (va_cons (ve_ix b.K (ve_var 0) ve_int fun _ _ => rfl) va_nil)) rfl))))) (vs_cons (vs_set sc.nd rfl (Or.inl rfl) (ve_ix b.K (ve_ix b.K (ve_var 0) ve_int fun _ _ => rfl) (ve_ix b.K (ve_var 0) ve_int fun _ _ => rfl) fun _ _ => rfl)) (vs_cons (vs_setix (ve_bin (o_add false b.K) (ve_ix b.K (ve_var 0) ve_int fun _ _ => rfl) ve_int) (ve_var 0) ve_int) (vs_one (vs_if (vt_cmp o_ge (ve_callB c_abs rfl (fr_abs Z) bt_abs (va_cons (ve_var 2) va_nil)) (ve_bin o_pow ve_int ve_int) rfl) (vs_one (vs_setix (ve_callB c_abs rfl (fr_abs Z) bt_abs (va_cons (ve_var 2) va_nil)) (ve_var 0) ve_int)) (vs_cons (vs_setix (ve_bin (o_add false b.K) (ve_bin o_mul ve_int (ve_callB c_abs rfl (fr_abs Z) bt_abs (va_cons (ve_var 2) va_nil))) (ve_callTy c_int rfl (fr_int Z) bt_int (va_cons (ve_cmp o_lt (ve_var 2) ve_int rfl) va_nil))) (ve_var 0) ve_int) (vs_one (vs_setix ve_int (ve_var 0) ve_int))))))) vs_nil) (vs_cons (vs_if (vt_cmp o_gt (ve_ix b.K (ve_var 0) ve_int fun _ _ => rfl) ve_int rfl) (vs_cons (vs_set sc.nd rfl (Or.inl rfl) (ve_bin o_mod (ve_callTy c_int rfl (fr_int Z) bt_int (va_cons (ve_ix b.K (ve_var 0) ve_int fun _ _ => rfl) va_nil)) (ve_var 1))) (vs_cons (vs_setix (ve_bin o_div (ve_ix b.K (ve_var 0) ve_int fun _ _ => rfl) (ve_var 1)) (ve_var 0) ve_int) (vs_one (vs_ret (ve_var 3))))) vs_nil) (vs_cons (vs_if (vt_cmp o_gt (ve_ix b.K (ve_var 0) ve_int fun _ _ => rfl) ve_int rfl) (vs_one (vs_setix (ve_bin o_sub (ve_ix b.K (ve_var 0) ve_int fun _ _ => rfl) ve_int) (ve_var 0) ve_int)) vs_nil) (vs_one (vs_ret (ve_bin o_mod (ve_callTy c_int rfl (fr_int Z) bt_int (va_cons (ve_call ((ok__law_mixed Z).v hr (by decide)) b.gd b.tk rfl (va_cons (ve_ix b.K (ve_var 0) ve_int fun _ _ => rfl) (va_cons (ve_ix b.K (ve_var 0) ve_int fun _ _ => rfl) va_nil))) va_nil)) (ve_var 1))))))))))) (gl__law_draw Z) (fun _ _ _ _ _ _ us hl => match us, hl with | [_, _], _ => rfl) rfl
theorem ok__law_pick (Z : Gn K mg base) : Rdy P w K mg base (PDx.gi K) "_law_pick" 3 2 [] F__law_pick := by
  obtain ⟨fd, FD⟩ := SaysV.fun_ Z.S 26
  have sc : FnScope ["_law_bag_here", "_law_row"] ["_law_bag_here", "_law_row"] (defScope (top 23)) := ⟨rfl, rfl, rfl, by decide +kernel, rfl, by decide +kernel, by decide +kernel⟩
  exact rdy_of FD (fn_D (k := 2) (m := m__law_pick) (PD.giOk Z.ok) FD sc (fun cdv A outer s H E B hr b => (vs_one (vs_ret (ve_ix b.K (ve_var 1) (ve_call ((ok__law_draw Z).v hr (by decide)) b.gd b.tk rfl (va_cons (ve_var 0) (va_cons (ve_callB (c_len b.K) rfl (fr_len Z) bt_len (va_cons (ve_var 1) va_nil)) va_nil))) fun _ _ => rfl))))) (gl__law_pick Z) (fun _ _ _ _ _ _ us hl => match us, hl with | [_, _], _ => rfl) rfl
theorem ok__law_is_int (Z : Gn K mg base) : Rdy P w K mg base (PDx.gi K) "_law_is_int" 1 1 [] F__law_is_int := by
  obtain ⟨fd, FD⟩ := SaysV.fun_ Z.S 27
  have sc : FnScope ["_law_thing"] ["_law_thing"] (defScope (top 24)) := ⟨rfl, rfl, rfl, by decide +kernel, rfl, by decide +kernel, by decide +kernel⟩
  exact rdy_of FD (fn_D (k := 0) (m := m__law_is_int) (PD.giOk Z.ok) FD sc (fun cdv A outer s H E B hr b => (vs_one (vs_ret (ve_and (ve_isi b.G b.K (.bt "int") rfl (fr_isinstance Z) (ve_var 0) (pe_bltn (v := .ty "int") rfl (fr_int Z) bt_int rfl)) (ve_one (ve_not (ve_isi b.G b.K (.bt "bool") rfl (fr_isinstance Z) (ve_var 0) (pe_bltn (v := .ty "bool") rfl (fr_bool Z) bt_bool rfl))))))))) (gl__law_is_int Z) (fun _ _ _ _ _ _ us hl => match us, hl with | [_], _ => rfl) rfl
theorem ok__law_divisor (Z : Gn K mg base) : Rdy P w K mg base (PDx.gi K) "_law_divisor" 1 2 [] F__law_divisor := by
  obtain ⟨fd, FD⟩ := SaysV.fun_ Z.S 28
  have sc : FnScope ["_law_first", "_law_second", "_law_left"] ["_law_first", "_law_second"] (defScope (top 25)) := ⟨rfl, rfl, rfl, by decide +kernel, rfl, by decide +kernel, by decide +kernel⟩
  exact rdy_of FD (fn_D (k := 0) (m := m__law_divisor) (PD.giOk Z.ok) FD sc (fun cdv A outer s H E B hr b => (vs_cons (vs_set sc.nd rfl (Or.inl rfl) (ve_callB c_abs rfl (fr_abs Z) bt_abs (va_cons (ve_var 0) va_nil))) (vs_cons (vs_set sc.nd rfl (Or.inl rfl) (ve_callB c_abs rfl (fr_abs Z) bt_abs (va_cons (ve_var 1) va_nil))) (vs_cons (vs_while 2000 b.ps (vt_cmp o_gt (ve_var 1) ve_int rfl) (vs_cons (vs_set sc.nd rfl (Or.inl rfl) (ve_bin o_mod (ve_callTy c_int rfl (fr_int Z) bt_int (va_cons (ve_var 0) va_nil)) (ve_var 1))) (vs_cons (vs_set sc.nd rfl (Or.inl rfl) (ve_var 1)) (vs_one (vs_set sc.nd rfl (Or.inl rfl) (ve_var 2)))))) (vs_one (vs_ret (ve_var 0)))))))) (gl__law_divisor Z) (fun _ _ _ _ _ _ us hl => match us, hl with | [_, _], _ => rfl) rfl
theorem ok__law_low (Z : Gn K mg base) : Rdy P w K mg base (PDx.gi K) "_law_low" 2 2 [] F__law_low := by
  obtain ⟨fd, FD⟩ := SaysV.fun_ Z.S 29
  have sc : FnScope ["_law_above", "_law_below", "_law_shared"] ["_law_above", "_law_below"] (defScope (top 26)) := ⟨rfl, rfl, rfl, by decide +kernel, rfl, by decide +kernel, by decide +kernel⟩
  exact rdy_of FD (fn_D (k := 1) (m := m__law_low) (PD.giOk Z.ok) FD sc (fun cdv A outer s H E B hr b => (vs_cons (vs_if (vt_cmp o_lt (ve_var 1) ve_int rfl) (vs_cons (vs_set sc.nd rfl (Or.inl rfl) (ve_neg (ve_var 0))) (vs_one (vs_set sc.nd rfl (Or.inl rfl) (ve_neg (ve_var 1))))) vs_nil) (vs_cons (vs_set sc.nd rfl (Or.inl rfl) (ve_callB (c_max2 b.calm) rfl (fr_max Z) bt_max (va_cons ve_int (va_cons (ve_call ((ok__law_divisor Z).v hr (by decide)) b.gd b.tk rfl (va_cons (ve_var 0) (va_cons (ve_var 1) va_nil))) va_nil)))) (vs_one (vs_ret (ve_tup (va_cons (ve_bin o_div (ve_var 0) (ve_var 2)) (va_cons (ve_bin o_div (ve_var 1) (ve_var 2)) va_nil))))))))) (gl__law_low Z) (fun _ _ _ _ _ _ us hl => match us, hl with | [_, _], _ => rfl) rfl
theorem ok__law_plus (Z : Gn K mg base) : Rdy P w K mg base (PDx.gi K) "_law_plus" 3 2 [] F__law_plus := by
  obtain ⟨fd, FD⟩ := SaysV.fun_ Z.S 30
  have sc : FnScope ["_law_first", "_law_second"] ["_law_first", "_law_second"] (defScope (top 27)) := ⟨rfl, rfl, rfl, by decide +kernel, rfl, by decide +kernel, by decide +kernel⟩
  exact rdy_of FD (fn_D (k := 2) (m := m__law_plus) (PD.giOk Z.ok) FD sc (fun cdv A outer s H E B hr b => (vs_one (vs_ret (ve_call ((ok__law_low Z).v hr (by decide)) b.gd b.tk rfl (va_cons (ve_bin (o_add false b.K) (ve_bin o_mul (ve_ix b.K (ve_var 0) ve_int fun _ _ => rfl) (ve_ix b.K (ve_var 1) ve_int fun _ _ => rfl)) (ve_bin o_mul (ve_ix b.K (ve_var 1) ve_int fun _ _ => rfl) (ve_ix b.K (ve_var 0) ve_int fun _ _ => rfl))) (va_cons (ve_bin o_mul (ve_ix b.K (ve_var 0) ve_int fun _ _ => rfl) (ve_ix b.K (ve_var 1) ve_int fun _ _ => rfl)) va_nil))))))) (gl__law_plus Z) (fun _ _ _ _ _ _ us hl => match us, hl with | [_, _], _ => rfl) rfl
theorem ok__law_minus (Z : Gn K mg base) : Rdy P w K mg base (PDx.gi K) "_law_minus" 3 2 [] F__law_minus := by
  obtain ⟨fd, FD⟩ := SaysV.fun_ Z.S 31
  have sc : FnScope ["_law_first", "_law_second"] ["_law_first", "_law_second"] (defScope (top 28)) := ⟨rfl, rfl, rfl, by decide +kernel, rfl, by decide +kernel, by decide +kernel⟩
  exact rdy_of FD (fn_D (k := 2) (m := m__law_minus) (PD.giOk Z.ok) FD sc (fun cdv A outer s H E B hr b => (vs_one (vs_ret (ve_call ((ok__law_low Z).v hr (by decide)) b.gd b.tk rfl (va_cons (ve_bin o_sub (ve_bin o_mul (ve_ix b.K (ve_var 0) ve_int fun _ _ => rfl) (ve_ix b.K (ve_var 1) ve_int fun _ _ => rfl)) (ve_bin o_mul (ve_ix b.K (ve_var 1) ve_int fun _ _ => rfl) (ve_ix b.K (ve_var 0) ve_int fun _ _ => rfl))) (va_cons (ve_bin o_mul (ve_ix b.K (ve_var 0) ve_int fun _ _ => rfl) (ve_ix b.K (ve_var 1) ve_int fun _ _ => rfl)) va_nil))))))) (gl__law_minus Z) (fun _ _ _ _ _ _ us hl => match us, hl with | [_, _], _ => rfl) rfl
theorem ok__law_times (Z : Gn K mg base) : Rdy P w K mg base (PDx.gi K) "_law_times" 3 2 [] F__law_times := by
  obtain ⟨fd, FD⟩ := SaysV.fun_ Z.S 32
  have sc : FnScope ["_law_first", "_law_second"] ["_law_first", "_law_second"] (defScope (top 29)) := ⟨rfl, rfl, rfl, by decide +kernel, rfl, by decide +kernel, by decide +kernel⟩
  exact rdy_of FD (fn_D (k := 2) (m := m__law_times) (PD.giOk Z.ok) FD sc (fun cdv A outer s H E B hr b => (vs_one (vs_ret (ve_call ((ok__law_low Z).v hr (by decide)) b.gd b.tk rfl (va_cons (ve_bin o_mul (ve_ix b.K (ve_var 0) ve_int fun _ _ => rfl) (ve_ix b.K (ve_var 1) ve_int fun _ _ => rfl)) (va_cons (ve_bin o_mul (ve_ix b.K (ve_var 0) ve_int fun _ _ => rfl) (ve_ix b.K (ve_var 1) ve_int fun _ _ => rfl)) va_nil))))))) (gl__law_times Z) (fun _ _ _ _ _ _ us hl => match us, hl with | [_, _], _ => rfl) rfl
theorem ok__law_less (Z : Gn K mg base) : Rdy P w K mg base (PDx.gi K) "_law_less" 1 2 [] F__law_less := by
  obtain ⟨fd, FD⟩ := SaysV.fun_ Z.S 33
  have sc : FnScope ["_law_first", "_law_second"] ["_law_first", "_law_second"] (defScope (top 30)) := ⟨rfl, rfl, rfl, by decide +kernel, rfl, by decide +kernel, by decide +kernel⟩
  exact rdy_of FD (fn_D (k := 0) (m := m__law_less) (PD.giOk Z.ok) FD sc (fun cdv A outer s H E B hr b => (vs_one (vs_ret (ve_cmp o_lt (ve_bin o_mul (ve_ix b.K (ve_var 0) ve_int fun _ _ => rfl) (ve_ix b.K (ve_var 1) ve_int fun _ _ => rfl)) (ve_bin o_mul (ve_ix b.K (ve_var 1) ve_int fun _ _ => rfl) (ve_ix b.K (ve_var 0) ve_int fun _ _ => rfl)) rfl))))) (gl__law_less Z) (fun _ _ _ _ _ _ us hl => match us, hl with | [_, _], _ => rfl) rfl
theorem ok__law_fraction (Z : Gn K mg base) : Rdy P w K mg base (PDx.gi K) "_law_fraction" 2 1 [] F__law_fraction := by
  obtain ⟨fd, FD⟩ := SaysV.fun_ Z.S 34
  have sc : FnScope ["_law_thing"] ["_law_thing"] (defScope (top 31)) := ⟨rfl, rfl, rfl, by decide +kernel, rfl, by decide +kernel, by decide +kernel⟩
  exact rdy_of FD (fn_D (k := 1) (m := m__law_fraction) (PD.giOk Z.ok) FD sc (fun cdv A outer s H E B hr b => (vs_cons (vs_if (PW.pt (vw_or (vt_not (vt_val (ve_isi b.G b.K (.bt "tuple") rfl (fr_isinstance Z) (ve_var 0) (pe_bltn (v := .ty "tuple") rfl (fr_tuple Z) bt_tuple rfl)))) (vw_or1 (vt_cmp (o_ne b.K b.un) (ve_callB (c_len b.K) rfl (fr_len Z) bt_len (va_cons (ve_var 0) va_nil)) ve_int rfl)))) (vs_one (vs_ret ve_bl)) vs_nil) (vs_cons (vs_if (PW.pt (vw_or (vt_not (vt_val (ve_call ((ok__law_is_int Z).v hr (by decide)) b.gd b.tk rfl (va_cons (ve_ix b.K (ve_var 0) ve_int fun _ _ => rfl) va_nil)))) (vw_or (vt_not (vt_val (ve_call ((ok__law_is_int Z).v hr (by decide)) b.gd b.tk rfl (va_cons (ve_ix b.K (ve_var 0) ve_int fun _ _ => rfl) va_nil)))) (vw_or1 (vt_cmp o_lt (ve_ix b.K (ve_var 0) ve_int fun _ _ => rfl) ve_int rfl))))) (vs_one (vs_ret ve_bl)) vs_nil) (vs_one (vs_ret (ve_cmp (o_eq b.K b.un) (ve_call ((ok__law_divisor Z).v hr (by decide)) b.gd b.tk rfl (va_cons (ve_ix b.K (ve_var 0) ve_int fun _ _ => rfl) (va_cons (ve_ix b.K (ve_var 0) ve_int fun _ _ => rfl) va_nil))) ve_int rfl))))))) (gl__law_fraction Z) (fun _ _ _ _ _ _ us hl => match us, hl with | [_], _ => rfl) rfl
theorem ok__law_share (Z : Gn K mg base) : Rdy P w K mg base (PDx.gi K) "_law_share" 3 1 [] F__law_share := by
  obtain ⟨fd, FD⟩ := SaysV.fun_ Z.S 35
  have sc : FnScope ["_law_bag_here", "_law_below"] ["_law_bag_here"] (defScope (top 32)) := ⟨rfl, rfl, rfl, by decide +kernel, rfl, by decide +kernel, by decide +kernel⟩
  exact rdy_of FD (fn_D (k := 2) (m := m__law_share) (PD.giOk Z.ok) FD sc (fun cdv A outer s H E B hr b => (vs_cons (vs_set sc.nd rfl (Or.inl rfl) (ve_bin (o_add false b.K) ve_int (ve_call ((ok__law_draw Z).v hr (by decide)) b.gd b.tk rfl (va_cons (ve_var 0) (va_cons ve_int va_nil))))) (vs_cons (vs_if (vt_cmp (o_eq b.K b.un) (ve_call ((ok__law_draw Z).v hr (by decide)) b.gd b.tk rfl (va_cons (ve_var 0) (va_cons ve_int va_nil))) ve_int rfl) (vs_one (vs_set sc.nd rfl (Or.inl rfl) (ve_bin (o_add false b.K) ve_int (ve_call ((ok__law_draw Z).v hr (by decide)) b.gd b.tk rfl (va_cons (ve_var 0) (va_cons ve_int va_nil)))))) vs_nil) (vs_one (vs_ret (ve_call ((ok__law_low Z).v hr (by decide)) b.gd b.tk rfl (va_cons (ve_call ((ok__law_draw Z).v hr (by decide)) b.gd b.tk rfl (va_cons (ve_var 0) (va_cons (ve_bin (o_add false b.K) (ve_var 1) ve_int) va_nil))) (va_cons (ve_var 1) va_nil))))))))) (gl__law_share Z) (fun _ _ _ _ _ _ us hl => match us, hl with | [_], _ => rfl) rfl
theorem ok__law_p3_number (Z : Gn K mg base) : Rdy P w K mg base (PDx.gi K) "_law_p3_number" 3 1 [] F__law_p3_number := by
  obtain ⟨fd, FD⟩ := SaysV.fun_ Z.S 36
  have sc : FnScope ["_law_bag_here", "_law_way", "_law_number", "_law_k"] ["_law_bag_here"] (defScope (top 33)) := ⟨rfl, rfl, rfl, by decide +kernel, rfl, by decide +kernel, by decide +kernel⟩
  exact rdy_of FD (fn_D (k := 2) (m := m__law_p3_number) (PD.giOk Z.ok) FD sc (fun cdv A outer s H E B hr b => (vs_cons (vs_set sc.nd rfl (Or.inl rfl) (ve_call ((ok__law_draw Z).v hr (by decide)) b.gd b.tk rfl (va_cons (ve_var 0) (va_cons ve_int va_nil)))) (vs_cons (vs_set sc.nd rfl (Or.inl rfl) (ve_call ((ok__law_draw Z).v hr (by decide)) b.gd b.tk rfl (va_cons (ve_var 0) (va_cons (ve_ix b.K (ve_lst (o := false) (va_cons ve_int (va_cons ve_int (va_cons ve_int (va_cons ve_int va_nil))))) (ve_var 1) fun _ _ => rfl) va_nil)))) (vs_cons (vs_if (vt_cmp o_gt (ve_var 1) ve_int rfl) (vs_one (vs_forR1 b.ps b.calm rfl (fr_range Z) (va_cons (ve_call ((ok__law_draw Z).v hr (by decide)) b.gd b.tk rfl (va_cons (ve_var 0) (va_cons ve_int va_nil))) va_nil) (vg_name sc.nd rfl (Or.inl rfl)) (vs_one (vs_set sc.nd rfl (Or.inl rfl) (ve_bin (o_add false b.K) (ve_bin o_mul (ve_var 2) ve_int) (ve_call ((ok__law_draw Z).v hr (by decide)) b.gd b.tk rfl (va_cons (ve_var 0) (va_cons ve_int va_nil)))))))) vs_nil) (vs_cons (vs_if (vt_cmp (o_eq b.K b.un) (ve_call ((ok__law_draw Z).v hr (by decide)) b.gd b.tk rfl (va_cons (ve_var 0) (va_cons ve_int va_nil))) ve_int rfl) (vs_one (vs_ret (ve_neg (ve_var 2)))) vs_nil) (vs_one (vs_ret (ve_var 2))))))))) (gl__law_p3_number Z) (fun _ _ _ _ _ _ us hl => match us, hl with | [_], _ => rfl) rfl
theorem ok__law_p3_thing (Z : Gn K mg base) : Rdy P w K mg base (PDx.gi K) "_law_p3_thing" 4 2 [] F__law_p3_thing := by
  obtain ⟨fd, FD⟩ := SaysV.fun_ Z.S 37
  have sc : FnScope ["_law_bag_here", "_law_pair", "_law_above", "_law_below", "_law_things"] ["_law_bag_here", "_law_pair"] (defScope (top 34)) := ⟨rfl, rfl, rfl, by decide +kernel, rfl, by decide +kernel, by decide +kernel⟩
  exact rdy_of FD (fn_D (k := 3) (m := m__law_p3_thing) (PD.giOk Z.ok) FD sc (fun cdv A outer s H E B hr b => (vs_cons (vs_set sc.nd rfl (Or.inl rfl) (ve_ix b.K (ve_var 1) ve_int fun _ _ => rfl)) (vs_cons (vs_set sc.nd rfl (Or.inl rfl) (ve_ix b.K (ve_var 1) ve_int fun _ _ => rfl)) (vs_cons (vs_set sc.nd rfl (Or.inl rfl) (ve_lst (o := false) (va_cons (ve_var 1) (va_cons (ve_var 1) (va_cons (ve_call ((ok__law_share Z).v hr (by decide)) b.gd b.tk rfl (va_cons (ve_var 0) va_nil)) (va_cons (ve_tup (va_cons ve_int (va_cons ve_int va_nil))) (va_cons (ve_tup (va_cons ve_int (va_cons ve_int va_nil))) (va_cons (ve_tup (va_cons (ve_bin o_mul ve_int (ve_var 2)) (va_cons (ve_bin o_mul ve_int (ve_var 3)) va_nil))) (va_cons (ve_tup (va_cons (ve_var 2) (va_cons (ve_neg (ve_var 3)) va_nil))) (va_cons (ve_tup (va_cons (ve_var 2) (va_cons ve_int va_nil))) va_nil)))))))))) (vs_cons (vs_set sc.nd rfl (Or.inl rfl) (ve_bin (o_add false b.K) (ve_var 4) (ve_lst (o := false) (va_cons (ve_tup (va_cons ve_int (va_cons (ve_var 3) va_nil))) (va_cons (ve_tup (va_cons ve_bl (va_cons (ve_var 3) va_nil))) (va_cons (ve_tup (va_cons (ve_var 2) (va_cons ve_bl va_nil))) (va_cons (ve_lst (o := false) (va_cons (ve_var 2) (va_cons (ve_var 3) va_nil))) (va_cons (ve_tup (va_cons (ve_var 2) va_nil)) (va_cons (ve_tup (va_cons (ve_var 2) (va_cons (ve_var 3) (va_cons ve_int va_nil)))) va_nil))))))))) (vs_cons (vs_set sc.nd rfl (Or.inl rfl) (ve_bin (o_add false b.K) (ve_var 4) (ve_lst (o := false) (va_cons (ve_tup (va_cons (ve_callTy c_str rfl (fr_str Z) bt_str (va_cons (ve_var 2) va_nil)) (va_cons (ve_var 3) va_nil))) (va_cons ve_non (va_cons (ve_var 2) (va_cons ve_str (va_cons (ve_tup (va_cons (ve_tup (va_cons ve_int (va_cons ve_int va_nil))) (va_cons ve_int va_nil))) va_nil)))))))) (vs_one (vs_ret (ve_call ((ok__law_pick Z).v hr (by decide)) b.gd b.tk rfl (va_cons (ve_var 0) (va_cons (ve_var 4) va_nil)))))))))))) (gl__law_p3_thing Z) (fun _ _ _ _ _ _ us hl => match us, hl with | [_, _], _ => rfl) rfl
theorem ok__law_p3_is (Z : Gn K mg base) : Rdy P w K mg base (PDx.gi K) "_law_p3_is" 3 2 [] F__law_p3_is := by
  obtain ⟨fd, FD⟩ := SaysV.fun_ Z.S 38
  have sc : FnScope ["_law_thing", "_law_due"] ["_law_thing", "_law_due"] (defScope (top 35)) := ⟨rfl, rfl, rfl, by decide +kernel, rfl, by decide +kernel, by decide +kernel⟩
  exact rdy_of FD (fn_D (k := 2) (m := m__law_p3_is) (PD.giOk Z.ok) FD sc (fun cdv A outer s H E B hr b => (vs_cons (vs_if (PW.pt (vw_or (vt_not (vt_val (ve_isi b.G b.K (.own 5) rfl (fr_isinstance Z) (ve_var 0) (pe_glob rfl (gl_Ratio Z) rfl)))) (vw_or1 (vt_cmp (o_ne b.K b.un) (ve_callB (c_repr b) rfl (fr_repr Z) bt_repr (va_cons (ve_prop b ((ok_Ratio_pair Z).v hr (by decide)) (ve_var 0)) va_nil)) (ve_callB (c_repr b) rfl (fr_repr Z) bt_repr (va_cons (ve_var 1) va_nil)) rfl)))) (vs_one (vs_ret ve_bl)) vs_nil) (vs_one (vs_ret (ve_cmp (o_eq b.K b.un) (ve_callB (c_repr b) rfl (fr_repr Z) bt_repr (va_cons (ve_tup (va_cons (ve_fld b.G b.K (ve_var 0)) (va_cons (ve_fld b.G b.K (ve_var 0)) va_nil))) va_nil)) (ve_callB (c_repr b) rfl (fr_repr Z) bt_repr (va_cons (ve_var 1) va_nil)) rfl)))))) (gl__law_p3_is Z) (fun _ _ _ _ _ _ us hl => match us, hl with | [_, _], _ => rfl) rfl
theorem ok__law_p3_sums (Z : Gn K mg base) : Rdy P w K mg base (PDx.gi K) "_law_p3_sums" 7 4 [] F__law_p3_sums := by
  obtain ⟨fd, FD⟩ := SaysV.fun_ Z.S 39
  have sc : FnScope ["_law_first", "_law_second", "_law_one", "_law_two", "_law_told"] ["_law_first", "_law_second", "_law_one", "_law_two"] (defScope (top 36)) := ⟨rfl, rfl, rfl, by decide +kernel, rfl, by decide +kernel, by decide +kernel⟩
  exact rdy_of FD (fn_D (k := 6) (m := m__law_p3_sums) (PD.giOk Z.ok) FD sc (fun cdv A outer s H E B hr b => (vs_cons (vs_if (PW.pt (vw_or (vt_not (vt_val (ve_call ((ok__law_p3_is Z).v hr (by decide)) b.gd b.tk rfl (va_cons (ve_binW (o_ops b (vo_add Z hr (by decide)) (o_add false b.K)) (ve_var 0) (ve_var 1)) (va_cons (ve_call ((ok__law_plus Z).v hr (by decide)) b.gd b.tk rfl (va_cons (ve_var 2) (va_cons (ve_var 3) va_nil))) va_nil))))) (vw_or1 (vt_not (vt_val (ve_call ((ok__law_p3_is Z).v hr (by decide)) b.gd b.tk rfl (va_cons (ve_binW (o_ops b (vo_sub Z hr (by decide)) o_sub) (ve_var 0) (ve_var 1)) (va_cons (ve_call ((ok__law_minus Z).v hr (by decide)) b.gd b.tk rfl (va_cons (ve_var 2) (va_cons (ve_var 3) va_nil))) va_nil)))))))) (vs_one (vs_ret ve_bl)) vs_nil) (vs_cons (vs_if (PW.pt (vw_or (vt_not (vt_val (ve_call ((ok__law_p3_is Z).v hr (by decide)) b.gd b.tk rfl (va_cons (ve_binW (o_ops b (vo_mul Z hr (by decide)) o_mul) (ve_var 0) (ve_var 1)) (va_cons (ve_call ((ok__law_times Z).v hr (by decide)) b.gd b.tk rfl (va_cons (ve_var 2) (va_cons (ve_var 3) va_nil))) va_nil))))) (vw_or1 (vt_not (vt_val (ve_call ((ok__law_p3_is Z).v hr (by decide)) b.gd b.tk rfl (va_cons (ve_negs b (vo_neg Z hr (by decide)) (ve_var 0)) (va_cons (ve_tup (va_cons (ve_negs b (vo_neg Z hr (by decide)) (ve_ix b.K (ve_var 2) ve_int fun _ _ => rfl)) (va_cons (ve_ix b.K (ve_var 2) ve_int fun _ _ => rfl) va_nil))) va_nil)))))))) (vs_one (vs_ret ve_bl)) vs_nil) (vs_cons (vs_if (vt_not (vt_val (ve_call ((ok__law_p3_is Z).v hr (by decide)) b.gd b.tk rfl (va_cons (ve_abss b (vo_abs Z hr (by decide)) rfl (fr_abs Z) (va_cons (ve_var 0) va_nil)) (va_cons (ve_tup (va_cons (ve_abss b (vo_abs Z hr (by decide)) rfl (fr_abs Z) (va_cons (ve_ix b.K (ve_var 2) ve_int fun _ _ => rfl) va_nil)) (va_cons (ve_ix b.K (ve_var 2) ve_int fun _ _ => rfl) va_nil))) va_nil))))) (vs_one (vs_ret ve_bl)) vs_nil) (vs_cons (vs_set sc.nd rfl (Or.inl rfl) (ve_lst (o := false) (va_cons (ve_meth b ((ok_Ratio_less Z).v hr (by decide)) (ve_var 0) (va_cons (ve_var 1) va_nil)) (va_cons (ve_meth b ((ok_Ratio_less Z).v hr (by decide)) (ve_var 1) (va_cons (ve_var 0) va_nil)) (va_cons (ve_cmpW (o_eqs b (vo_eq Z hr (by decide)) (PD.nfOk Z.ok) (o_eq b.K b.un)) (ve_var 0) (ve_var 1) rfl) (va_cons (ve_cmpW (o_eqs b (vo_eq Z hr (by decide)) (PD.nfOk Z.ok) (o_eq b.K b.un)) (ve_var 0) (ve_var 2) rfl) (va_cons (ve_cmpW (o_eqs b (vo_eq Z hr (by decide)) (PD.nfOk Z.ok) (o_eq b.K b.un)) (ve_var 0) (ve_ix b.K (ve_var 2) ve_int fun _ _ => rfl) rfl) va_nil))))))) (vs_cons (vs_if (vt_cmp (o_ne b.K b.un) (ve_callB (c_repr b) rfl (fr_repr Z) bt_repr (va_cons (ve_var 4) va_nil)) (ve_callB (c_repr b) rfl (fr_repr Z) bt_repr (va_cons (ve_lst (o := false) (va_cons (ve_call ((ok__law_less Z).v hr (by decide)) b.gd b.tk rfl (va_cons (ve_var 2) (va_cons (ve_var 3) va_nil))) (va_cons (ve_call ((ok__law_less Z).v hr (by decide)) b.gd b.tk rfl (va_cons (ve_var 3) (va_cons (ve_var 2) va_nil))) (va_cons (ve_cmpW (o_eqs b (vo_eq Z hr (by decide)) (PD.nfOk Z.ok) (o_eq b.K b.un)) (ve_var 2) (ve_var 3) rfl) (va_cons ve_bl (va_cons ve_bl va_nil)))))) va_nil)) rfl) (vs_one (vs_ret ve_bl)) vs_nil) (vs_cons (vs_if (vt_cmpW (o_eqs b (vo_eq Z hr (by decide)) (PD.nfOk Z.ok) (o_eq b.K b.un)) (ve_ix b.K (ve_var 3) ve_int fun _ _ => rfl) ve_int rfl) (vs_one (vs_ret ve_bl)) vs_nil) (vs_one (vs_ret (ve_call ((ok__law_p3_is Z).v hr (by decide)) b.gd b.tk rfl (va_cons (ve_meth b ((ok_Ratio_over Z).v hr (by decide)) (ve_var 0) (va_cons (ve_var 1) va_nil)) (va_cons (ve_call ((ok__law_low Z).v hr (by decide)) b.gd b.tk rfl (va_cons (ve_binW (o_ops b (vo_mul Z hr (by decide)) o_mul) (ve_ix b.K (ve_var 2) ve_int fun _ _ => rfl) (ve_ix b.K (ve_var 3) ve_int fun _ _ => rfl)) (va_cons (ve_binW (o_ops b (vo_mul Z hr (by decide)) o_mul) (ve_ix b.K (ve_var 2) ve_int fun _ _ => rfl) (ve_ix b.K (ve_var 3) ve_int fun _ _ => rfl)) va_nil))) va_nil))))))))))))) (gl__law_p3_sums Z) (fun _ _ _ _ _ _ us hl => match us, hl with | [_, _, _, _], _ => rfl) rfl
theorem ok__law_p3_order (Z : Gn K mg base) : Rdy P w K mg base (PDx.gi K) "_law_p3_order" 2 2 [] F__law_p3_order := by
  obtain ⟨fd, FD⟩ := SaysV.fun_ Z.S 40
  have sc : FnScope ["_law_one", "_law_two"] ["_law_one", "_law_two"] (defScope (top 37)) := ⟨rfl, rfl, rfl, by decide +kernel, rfl, by decide +kernel, by decide +kernel⟩
  exact rdy_of FD (fn_D (k := 1) (m := m__law_p3_order) (PD.giOk Z.ok) FD sc (fun cdv A outer s H E B hr b => (vs_cons (vs_if (vt_cmp (o_eq b.K b.un) (ve_var 0) (ve_var 1) rfl) (vs_one (vs_ret ve_int)) vs_nil) (vs_cons (vs_if (vt_val (ve_call ((ok__law_less Z).v hr (by decide)) b.gd b.tk rfl (va_cons (ve_var 0) (va_cons (ve_var 1) va_nil)))) (vs_one (vs_ret (ve_neg ve_int))) vs_nil) (vs_one (vs_ret ve_int)))))) (gl__law_p3_order Z) (fun _ _ _ _ _ _ us hl => match us, hl with | [_, _], _ => rfl) rfl
theorem ok__law_p3_refused (Z : Gn K mg base) : Rdy P w K mg base (PDx.gi K) "_law_p3_refused" 7 3 [] F__law_p3_refused := by
  obtain ⟨fd, FD⟩ := SaysV.fun_ Z.S 41
  have sc : FnScope ["_law_way", "_law_thing", "_law_pair", "e", "_law_other"] ["_law_way", "_law_thing", "_law_pair"] (defScope (top 38)) := ⟨rfl, rfl, rfl, by decide +kernel, rfl, by decide +kernel, by decide +kernel⟩
  exact rdy_of FD (fn_D (k := 6) (m := m__law_p3_refused) (PD.giOk Z.ok) FD sc (fun cdv A outer s H E B hr b => (vs_cons (vs_try b rfl rfl sc.nd rfl rfl (ct_LotError Z rfl) (fun W1 pn xe b1 => (vs_one (vs_if (vt_cmp (o_eq b1.K b1.un) (ve_var 0) ve_int rfl) (vs_one (vs_expr (ve_cmeth b1 ((ok_Ratio_of Z).v hr (by decide)) (ve_glob rfl (gd_Ratio Z)) (va_cons (ve_var 1) va_nil)))) (vs_one (vs_if (vt_cmp (o_eq b1.K b1.un) (ve_var 0) ve_int rfl) (vs_one (vs_expr (ve_call ((ok_compare Z).v hr (by decide)) b1.gd b1.tk rfl (va_cons (ve_var 1) (va_cons (ve_var 2) va_nil))))) (vs_one (vs_if (vt_cmp (o_eq b1.K b1.un) (ve_var 0) ve_int rfl) (vs_one (vs_expr (ve_call ((ok_compare Z).v hr (by decide)) b1.gd b1.tk rfl (va_cons (ve_var 2) (va_cons (ve_var 1) va_nil))))) (vs_one (vs_if (vt_cmp (o_eq b1.K b1.un) (ve_var 0) ve_int rfl) (vs_one (vs_expr (ve_call ((ok_compare Z).v hr (by decide)) b1.gd b1.tk rfl (va_cons (ve_var 1) (va_cons ve_non va_nil))))) (vs_one (vs_if (vt_cmp (o_eq b1.K b1.un) (ve_var 0) ve_int rfl) (vs_one (vs_expr (ve_call ((ok_total Z).v hr (by decide)) b1.gd b1.tk rfl (va_cons (ve_lst (o := false) (va_cons (ve_var 2) (va_cons (ve_var 1) (va_cons ve_non va_nil)))) va_nil)))) (vs_one (vs_if (vt_cmp (o_eq b1.K b1.un) (ve_var 0) ve_int rfl) (vs_one (vs_expr (ve_call ((ok_total Z).v hr (by decide)) b1.gd b1.tk rfl (va_cons (ve_tup (va_cons (ve_var 1) (va_cons (ve_var 2) (va_cons ve_str va_nil)))) va_nil)))) (vs_one (vs_if (vt_cmp (o_eq b1.K b1.un) (ve_var 0) ve_int rfl) (vs_one (vs_expr (ve_make b1 ((ok_Ratio_xinitx_2 Z).v hr (by decide)) rfl (gl_Ratio Z) (va_cons (ve_ix b1.K (ve_var 2) ve_int fun _ _ => rfl) (va_cons ve_int va_nil))))) (vs_one (vs_expr (ve_meth b1 ((ok_Ratio_over Z).v hr (by decide)) (ve_make b1 ((ok_Ratio_xinitx_2 Z).v hr (by decide)) rfl (gl_Ratio Z) (va_cons (ve_ix b1.K (ve_var 2) ve_int fun _ _ => rfl) (va_cons (ve_ix b1.K (ve_var 2) ve_int fun _ _ => rfl) va_nil))) (va_cons (ve_make b1 ((ok_Ratio_xinitx_2 Z).v hr (by decide)) rfl (gl_Ratio Z) (va_cons ve_int (va_cons (ve_ix b1.K (ve_var 2) ve_int fun _ _ => rfl) va_nil))) va_nil))))))))))))))))))) (fun a1 d1 c1 oe pn S => (vs_cons (vs_set sc.nd rfl (Or.inl rfl) (ve_or (ve_isx S (PD.xcOk Z.ok) (.own 3) 3 rfl (Or.inl rfl) rfl (fr_isinstance Z) (pe_glob rfl (gl_BadDeed Z) rfl)) (ve_or (ve_isx S (PD.xcOk Z.ok) (.own 2) 3 rfl (Or.inl rfl) rfl (fr_isinstance Z) (pe_glob rfl (gl_BadPlant Z) rfl)) (ve_one (ve_isx S (PD.xcOk Z.ok) (.own 4) 3 rfl (Or.inl rfl) rfl (fr_isinstance Z) (pe_glob rfl (gl_BadRow Z) rfl)))))) (vs_one (vs_if (PW.pt (vw_and (vt_val (ve_isx S (PD.xcOk Z.ok) (.own 1) 3 rfl (Or.inl rfl) rfl (fr_isinstance Z) (pe_glob rfl (gl_BadFraction Z) rfl))) (vw_and (vt_val (ve_isx S (PD.xcOk Z.ok) (.bt "ValueError") 3 rfl (Or.inl rfl) rfl (fr_isinstance Z) (pe_bltn (v := .ty "ValueError") rfl (fr_ValueError Z) bt_ValueError rfl))) (vw_and1 (vt_not (vt_val (ve_var 4))))))) (vs_one (vs_ret (ve_lst (o := false) (va_cons (ve_xf S (PD.xcOk Z.ok) "value" 3 rfl (Or.inl rfl)) va_nil)))) vs_nil))))) (vs_one (vs_ret (ve_lst (o := false) va_nil)))))) (gl__law_p3_refused Z) (fun _ _ _ _ _ _ us hl => match us, hl with | [_, _, _], _ => rfl) rfl
theorem ok__law_p3_refusals (Z : Gn K mg base) : Rdy P w K mg base (PDx.gi K) "_law_p3_refusals" 8 2 [] F__law_p3_refusals := by
  obtain ⟨fd, FD⟩ := SaysV.fun_ Z.S 42
  have sc : FnScope ["_law_thing", "_law_pair", "_law_good", "_law_dues", "_law_way", "_law_due"] ["_law_thing", "_law_pair"] (defScope (top 39)) := ⟨rfl, rfl, rfl, by decide +kernel, rfl, by decide +kernel, by decide +kernel⟩
  exact rdy_of FD (fn_D (k := 7) (m := m__law_p3_refusals) (PD.giOk Z.ok) FD sc (fun cdv A outer s H E B hr b => (vs_cons (vs_set sc.nd rfl (Or.inl rfl) (ve_call ((ok__law_fraction Z).v hr (by decide)) b.gd b.tk rfl (va_cons (ve_var 0) va_nil))) (vs_cons (vs_if (vt_cmp (o_ne b.K b.un) (ve_callB (c_repr b) rfl (fr_repr Z) bt_repr (va_cons (ve_lst (o := false) (va_cons (ve_call ((ok_is_fraction Z).v hr (by decide)) b.gd b.tk rfl (va_cons (ve_var 0) va_nil)) (va_cons (ve_call ((ok_is_share Z).v hr (by decide)) b.gd b.tk rfl (va_cons (ve_var 0) va_nil)) va_nil))) va_nil)) (ve_callB (c_repr b) rfl (fr_repr Z) bt_repr (va_cons (ve_lst (o := false) (va_cons (ve_var 2) (va_cons (ve_and (ve_var 2) (ve_one (ve_chain o_le o_le ve_int (ve_ix b.K (ve_var 0) ve_int fun _ _ => rfl) (ve_ix b.K (ve_var 0) ve_int fun _ _ => rfl)))) va_nil))) va_nil)) rfl) (vs_one (vs_ret ve_bl)) vs_nil) (vs_cons (vs_if (PW.pt (vw_and (vt_val (ve_var 2)) (vw_and1 (vt_not (vt_val (ve_call ((ok__law_p3_is Z).v hr (by decide)) b.gd b.tk rfl (va_cons (ve_cmeth b ((ok_Ratio_of Z).v hr (by decide)) (ve_glob rfl (gd_Ratio Z)) (va_cons (ve_var 0) va_nil)) (va_cons (ve_var 0) va_nil)))))))) (vs_one (vs_ret ve_bl)) vs_nil) (vs_cons (vs_set sc.nd rfl (Or.inl rfl) (ve_lst (o := false) (va_cons (ve_lst (o := false) va_nil) (va_cons (ve_lst (o := false) va_nil) (va_cons (ve_lst (o := false) va_nil) (va_cons (ve_lst (o := false) (va_cons ve_non va_nil)) (va_cons (ve_lst (o := false) (va_cons ve_non va_nil)) (va_cons (ve_lst (o := false) (va_cons ve_str va_nil)) (va_cons (ve_lst (o := false) (va_cons ve_int va_nil)) (va_cons (ve_lst (o := false) (va_cons ve_int va_nil)) va_nil)))))))))) (vs_cons (vs_forR1 b.ps b.calm rfl (fr_range Z) (va_cons ve_int va_nil) (vg_name sc.nd rfl (Or.inl rfl)) (vs_cons (vs_set sc.nd rfl (Or.inl rfl) (ve_ix b.K (ve_var 3) (ve_var 4) fun _ _ => rfl)) (vs_cons (vs_if (PW.pt (vw_and (vt_not (vt_val (ve_var 2))) (vw_and1 (vt_cmp o_lt (ve_var 4) ve_int rfl)))) (vs_one (vs_set sc.nd rfl (Or.inl rfl) (ve_lst (o := false) (va_cons (ve_var 0) va_nil)))) vs_nil) (vs_one (vs_if (vt_cmp (o_ne b.K b.un) (ve_callB (c_repr b) rfl (fr_repr Z) bt_repr (va_cons (ve_call ((ok__law_p3_refused Z).v hr (by decide)) b.gd b.tk rfl (va_cons (ve_var 4) (va_cons (ve_var 0) (va_cons (ve_var 1) va_nil)))) va_nil)) (ve_callB (c_repr b) rfl (fr_repr Z) bt_repr (va_cons (ve_var 5) va_nil)) rfl) (vs_one (vs_ret ve_bl)) vs_nil))))) (vs_one (vs_ret ve_bl))))))))) (gl__law_p3_refusals Z) (fun _ _ _ _ _ _ us hl => match us, hl with | [_, _], _ => rfl) rfl
theorem fg_law (Z : Gn K mg base) {fd : FuncData} (FD : FunD K r_law.name r_law.qual r_law.params r_law.body r_law.scope [] [] (r_law.pth K) fd) : FnG P w K mg base 9 (r_law.pth K) fd ["_law_script"] (spD (PDx.gi K) 1 F_law) := by
  have sc : FnScope ["_law_script", "_law_bag_here", "_law_pairs", "_law_k", "_law_lows", "_law_first", "_law_second", "_law_row", "_law_summed", "_law_pair", "_law_before", "_law_told", "_law_due", "_law_above", "_law_below"] ["_law_script"] (defScope (top 40)) := ⟨rfl, rfl, rfl, by decide +kernel, rfl, by decide +kernel, by decide +kernel⟩
  exact fn_D (k := 8) (m := m_law) (PD.giOk Z.ok) FD sc (fun cdv A outer s H E B hr b => (vs_cons (vs_set sc.nd rfl (Or.inr rfl) (ve_call ((ok__law_bag Z).v hr (by decide)) b.gd b.tk rfl (va_cons (ve_var 0) va_nil))) (vs_cons (vs_set sc.nd rfl (Or.inl rfl) (ve_lst (o := true) va_nil)) (vs_cons (vs_forR1 b.ps b.calm rfl (fr_range Z) (va_cons ve_int va_nil) (vg_name sc.nd rfl (Or.inl rfl)) (vs_cons (vs_set sc.nd rfl (Or.inl rfl) (ve_call ((ok__law_p3_number Z).v hr (by decide)) b.gd b.tk rfl (va_cons (ve_var 1) va_nil))) (vs_cons (vs_set sc.nd rfl (Or.inl rfl) (ve_call ((ok__law_p3_number Z).v hr (by decide)) b.gd b.tk rfl (va_cons (ve_var 1) va_nil))) (vs_cons (vs_if (vt_cmp (o_eq b.K b.un) (ve_var 14) ve_int rfl) (vs_one (vs_set sc.nd rfl (Or.inl rfl) ve_int)) vs_nil) (vs_one (vs_append b.K (pe_var (i := 2) rfl (Or.inl rfl)) (ve_tup (va_cons (ve_var 13) (va_cons (ve_var 14) va_nil))))))))) (vs_cons (vs_if (vt_cmp (o_eq b.K b.un) (ve_call ((ok__law_draw Z).v hr (by decide)) b.gd b.tk rfl (va_cons (ve_var 1) (va_cons ve_int va_nil))) ve_int rfl) (vs_one (vs_setixO (ve_tup (va_cons (ve_bin o_mul (ve_neg ve_int) (ve_ix b.K (ve_ix b.K (ve_var 2) ve_int fun _ _ => rfl) ve_int fun _ _ => rfl)) (va_cons (ve_bin o_mul (ve_neg ve_int) (ve_ix b.K (ve_ix b.K (ve_var 2) ve_int fun _ _ => rfl) ve_int fun _ _ => rfl)) va_nil))) (pe_var (i := 2) rfl (Or.inl rfl)) ve_int)) vs_nil) (vss_frz 2 (vs_cons (vs_set sc.nd rfl (Or.inr rfl) (ve_lc (o := false) (own := [("_law_pair", 9)]) b sc.nd (ve_var 2) (blkOk_by (own := [("_law_pair", 9)]) rfl) (cg_name (i := 9) (by decide)) (fun _ _ _ _ _ => pg_name sc.nd rfl (Or.inl rfl)) (fun _ _ _ _ _ => vts_nil) (fun _ _ _ _ _ => (ve_call ((ok__law_low Z).v hr (by decide)) b.blk.gd b.blk.tk rfl (va_cons (ve_ix b.blk.K (ve_var 9) ve_int fun _ _ => rfl) (va_cons (ve_ix b.blk.K (ve_var 9) ve_int fun _ _ => rfl) va_nil)))))) (vs_cons (vs_set sc.nd rfl (Or.inl rfl) (ve_make b ((ok_Ratio_xinitx_2 Z).v hr (by decide)) rfl (gl_Ratio Z) (va_cons (ve_ix b.K (ve_ix b.K (ve_var 2) ve_int fun _ _ => rfl) ve_int fun _ _ => rfl) (va_cons (ve_ix b.K (ve_ix b.K (ve_var 2) ve_int fun _ _ => rfl) ve_int fun _ _ => rfl) va_nil)))) (vs_cons (vs_set sc.nd rfl (Or.inl rfl) (ve_make b ((ok_Ratio_xinitx_2 Z).v hr (by decide)) rfl (gl_Ratio Z) (va_cons (ve_ix b.K (ve_ix b.K (ve_var 2) ve_int fun _ _ => rfl) ve_int fun _ _ => rfl) (va_cons (ve_ix b.K (ve_ix b.K (ve_var 2) ve_int fun _ _ => rfl) ve_int fun _ _ => rfl) va_nil)))) (vs_cons (vs_if (PW.pt (vw_or (vt_not (vt_val (ve_call ((ok__law_p3_is Z).v hr (by decide)) b.gd b.tk rfl (va_cons (ve_make b ((ok_Ratio_xinitx_1 Z).v hr (by decide)) rfl (gl_Ratio Z) (va_cons (ve_ix b.K (ve_ix b.K (ve_var 2) ve_int fun _ _ => rfl) ve_int fun _ _ => rfl) va_nil)) (va_cons (ve_tup (va_cons (ve_ix b.K (ve_ix b.K (ve_var 2) ve_int fun _ _ => rfl) ve_int fun _ _ => rfl) (va_cons ve_int va_nil))) va_nil))))) (vw_or1 (vt_not (vt_val (ve_call ((ok__law_p3_sums Z).v hr (by decide)) b.gd b.tk rfl (va_cons (ve_var 5) (va_cons (ve_var 6) (va_cons (ve_ix b.K (ve_var 4) ve_int fun _ _ => rfl) (va_cons (ve_ix b.K (ve_var 4) ve_int fun _ _ => rfl) va_nil)))))))))) (vs_one (vs_ret ve_bl)) vs_nil) (vs_cons (vs_if (PW.pt (vw_or (vt_not (vt_val (ve_call ((ok__law_p3_is Z).v hr (by decide)) b.gd b.tk rfl (va_cons (ve_var 5) (va_cons (ve_ix b.K (ve_var 4) ve_int fun _ _ => rfl) va_nil))))) (vw_or1 (vt_not (vt_val (ve_call ((ok__law_p3_is Z).v hr (by decide)) b.gd b.tk rfl (va_cons (ve_var 6) (va_cons (ve_ix b.K (ve_var 4) ve_int fun _ _ => rfl) va_nil)))))))) (vs_one (vs_ret ve_bl)) vs_nil) (vs_cons (vs_setLcR (o := false) (own := [("_law_k", 3)]) b sc.nd rfl rfl (sw_true rfl rfl rfl rfl) rfl (fr_range Z) (va_cons (ve_call ((ok__law_draw Z).v hr (by decide)) b.gd b.tk rfl (va_cons (ve_var 1) (va_cons ve_int va_nil))) va_nil) (blkOk_by (own := [("_law_k", 3)]) rfl) (cg_name (i := 3) (by decide)) (fun _ _ _ _ _ => pg_name sc.nd rfl (Or.inl rfl)) (fun _ _ _ _ _ => vts_nil) (fun _ _ _ _ _ => (ve_call ((ok__law_pick Z).v hr (by decide)) b.blk.gd b.blk.tk rfl (va_cons (ve_var 1) (va_cons (ve_var 4) va_nil))))) (vs_cons (vs_set sc.nd rfl (Or.inl rfl) (ve_tup (va_cons ve_int (va_cons ve_int va_nil)))) (vs_cons (vs_for b.K b.ps b.calm (ve_var 7) (vg_name sc.nd rfl (Or.inl rfl)) (vs_one (vs_set sc.nd rfl (Or.inl rfl) (ve_call ((ok__law_plus Z).v hr (by decide)) b.gd b.tk rfl (va_cons (ve_var 8) (va_cons (ve_var 9) va_nil)))))) (vs_cons (vs_set sc.nd rfl (Or.inl rfl) (ve_callTy (c_tuple b.K) rfl (fr_tuple Z) bt_tuple (va_cons (ve_var 7) va_nil))) (vs_cons (vs_set sc.nd rfl (Or.inl rfl) (ve_lst (o := false) (va_cons (ve_call ((ok_total Z).v hr (by decide)) b.gd b.tk rfl (va_cons (ve_var 7) va_nil)) (va_cons (ve_call ((ok_total Z).v hr (by decide)) b.gd b.tk rfl (va_cons (ve_callTy (c_tuple b.K) rfl (fr_tuple Z) bt_tuple (va_cons (ve_var 7) va_nil)) va_nil)) (va_cons (ve_call ((ok_compare Z).v hr (by decide)) b.gd b.tk rfl (va_cons (ve_ix b.K (ve_var 4) ve_int fun _ _ => rfl) (va_cons (ve_ix b.K (ve_var 4) ve_int fun _ _ => rfl) va_nil))) (va_cons (ve_call ((ok_compare Z).v hr (by decide)) b.gd b.tk rfl (va_cons (ve_ix b.K (ve_var 4) ve_int fun _ _ => rfl) (va_cons (ve_ix b.K (ve_var 4) ve_int fun _ _ => rfl) va_nil))) (va_cons (ve_callTy (c_tuple b.K) rfl (fr_tuple Z) bt_tuple (va_cons (ve_var 7) va_nil)) va_nil))))))) (vs_cons (vs_set sc.nd rfl (Or.inl rfl) (ve_lst (o := false) (va_cons (ve_var 8) (va_cons (ve_var 8) (va_cons (ve_call ((ok__law_p3_order Z).v hr (by decide)) b.gd b.tk rfl (va_cons (ve_ix b.K (ve_var 4) ve_int fun _ _ => rfl) (va_cons (ve_ix b.K (ve_var 4) ve_int fun _ _ => rfl) va_nil))) (va_cons (ve_call ((ok__law_p3_order Z).v hr (by decide)) b.gd b.tk rfl (va_cons (ve_ix b.K (ve_var 4) ve_int fun _ _ => rfl) (va_cons (ve_ix b.K (ve_var 4) ve_int fun _ _ => rfl) va_nil))) (va_cons (ve_var 10) va_nil))))))) (vs_cons (vs_if (vt_cmp (o_ne b.K b.un) (ve_callB (c_repr b) rfl (fr_repr Z) bt_repr (va_cons (ve_var 11) va_nil)) (ve_callB (c_repr b) rfl (fr_repr Z) bt_repr (va_cons (ve_var 12) va_nil)) rfl) (vs_one (vs_ret ve_bl)) vs_nil) (vs_one (vs_ret (ve_call ((ok__law_p3_refusals Z).v hr (by decide)) b.gd b.tk rfl (va_cons (ve_call ((ok__law_p3_thing Z).v hr (by decide)) b.gd b.tk rfl (va_cons (ve_var 1) (va_cons (ve_ix b.K (ve_var 4) ve_int fun _ _ => rfl) va_nil))) (va_cons (ve_ix b.K (ve_var 4) ve_int fun _ _ => rfl) va_nil)))))))))))))))))))))))
end
end G01

set_option Elab.async false
set_option linter.all false
set_option maxRecDepth 100000
set_option maxHeartbeats 1000000
namespace G01
open PySem L2 Vi
abbrev gg (a b : Int) : Int := (Nat.gcd a.natAbs b.natAbs : Nat)
/-- what both sides reckon: in lowest terms, the lower one above 0 -/
def lowA (a b : Int) : Int := if b < 0 then -(a / gg a b) else a / gg a b
def lowB (a b : Int) : Int := if b < 0 then -(b / gg a b) else b / gg a b
/-- small enough to be reckoned with -/
abbrev Sm (a : Int) : Prop := a.natAbs.log2 < 8000
theorem gg_pos {a b : Int} (hb : b ≠ 0) : 0 < gg a b := by
  have : 0 < Nat.gcd a.natAbs b.natAbs := Nat.gcd_pos_of_pos_right _ (Int.natAbs_pos.mpr hb)
  exact Int.natCast_pos.mpr this
theorem log2_mono {a b : Nat} (h : a ≤ b) : a.log2 ≤ b.log2 := by
  by_cases ha : a = 0
  · subst ha
    simp
  · exact (Nat.le_log2 (by omega)).mpr (Nat.le_trans (Nat.log2_self_le ha) h)
theorem gg_small {a b : Int} (hb : b ≠ 0) (s : Sm b) : (gg a b).natAbs.log2 < 8000 := by
  refine Nat.lt_of_le_of_lt (log2_mono ?_) s
  exact Nat.le_of_dvd (Int.natAbs_pos.mpr hb) (Nat.gcd_dvd_right _ _)
theorem fdiv_pos {a g : Int} (hg : 0 < g) : a.fdiv g = a / g := Int.fdiv_eq_ediv_of_nonneg a (by omega)
theorem fdiv_neg' {a g : Int} (hg : 0 < g) (hd : g ∣ a) : a.fdiv (-g) = -(a / g) := by
  obtain ⟨c, rfl⟩ := hd
  have e1 : g * c / g = c := Int.mul_ediv_cancel_left c (by omega)
  rw [e1]
  have e2 : g * c = (-g) * (-c) := by rw [Int.neg_mul_neg]
  rw [e2, Int.mul_fdiv_cancel_left _ (by omega)]
theorem cDiv_of {i g : Int} (h0 : g ≠ 0) (h : g.natAbs.log2 < 8000) : cDiv i g = true := by
  unfold cDiv
  have : g.natAbs.log2 < 9000 := by omega
  simp [h0, this]
theorem gg_dvd_l {a b : Int} : gg a b ∣ a := Int.natAbs_dvd_natAbs.mp (by
  show (gg a b).natAbs ∣ a.natAbs
  exact Nat.gcd_dvd_left _ _)
theorem gg_dvd_r {a b : Int} : gg a b ∣ b := Int.natAbs_dvd_natAbs.mp (by
  show (gg a b).natAbs ∣ b.natAbs
  exact Nat.gcd_dvd_right _ _)
theorem v_lowest {a b : Int} {h : Hc} (hb : b ≠ 0) (s : Sm b) : F_lowest [.int a, .int b] h = .ok (.tup [.int (lowA a b), .int (lowB a b)]) h := by
  refine (fnOf_eq _ _ _ _ _ rfl).trans ?_
  unfold m_lowest lowA lowB
  have g0 := gg_pos (a := a) hb
  have gs := gg_small (a := a) hb s
  by_cases hn : b < 0
  · have c1 : cDiv a (-gg a b) = true := cDiv_of (by omega) (by rw [Int.natAbs_neg]; exact gs)
    have c2 : cDiv b (-gg a b) = true := cDiv_of (by omega) (by rw [Int.natAbs_neg]; exact gs)
    simp [hn, c1, c2, fdiv_neg' g0 gg_dvd_l, fdiv_neg' g0 gg_dvd_r]
  · have c1 : cDiv a (gg a b) = true := cDiv_of (by omega) gs
    have c2 : cDiv b (gg a b) = true := cDiv_of (by omega) gs
    simp [hn, c1, c2, fdiv_pos g0]
/-- Euclid's loop -/
theorem euclid_half {x y : Nat} (hy : 0 < y) (hr : 0 < x % y) : y % (x % y) < (y + 1) / 2 := by
  have h1 : x % y < y := Nat.mod_lt _ hy
  have h2 : y % (x % y) < x % y := Nat.mod_lt _ hr
  have h3 := Nat.div_add_mod y (x % y)
  have h4 : 1 ≤ y / (x % y) := Nat.div_pos (by omega) hr
  have h5 : x % y * 1 ≤ x % y * (y / (x % y)) := Nat.mul_le_mul_left _ h4
  omega

theorem loop_div (h : Hc) (z : Option Sl) : ∀ (k n x y : Nat), y < 2 ^ k → 2 * k + 1 ≤ n → ∃ z', mWhile n (asB (m2 fGt (mVar 1) (mC (.int 0)))) (mSeq (mSet 2 (m2 fMod (mA1 fIntOf (maCons (mVar 0) maNil)) (mVar 1))) (mSeq (mSet 0 (mVar 1)) (mSet 1 (mVar 2)))) [some (.d (.int x)), some (.d (.int y)), z] h = .nx [some (.d (.int (Nat.gcd x y : Nat))), some (.d (.int 0)), z'] h := by
  have stop : ∀ (n x : Nat) (z : Option Sl), 1 ≤ n → mWhile n (asB (m2 fGt (mVar 1) (mC (.int 0)))) (mSeq (mSet 2 (m2 fMod (mA1 fIntOf (maCons (mVar 0) maNil)) (mVar 1))) (mSeq (mSet 0 (mVar 1)) (mSet 1 (mVar 2)))) [some (.d (.int x)), some (.d (.int (0 : Nat))), z] h = .nx [some (.d (.int x)), some (.d (.int 0)), z] h := fun n x z hn => by
    obtain ⟨m, rfl⟩ : ∃ m, n = m + 1 := ⟨n - 1, by omega⟩
    rw [mWhile_succ]
    simp
  have step : ∀ (n x y : Nat) (z : Option Sl), 0 < y → mWhile (n + 1) (asB (m2 fGt (mVar 1) (mC (.int 0)))) (mSeq (mSet 2 (m2 fMod (mA1 fIntOf (maCons (mVar 0) maNil)) (mVar 1))) (mSeq (mSet 0 (mVar 1)) (mSet 1 (mVar 2)))) [some (.d (.int x)), some (.d (.int y)), z] h
      = mWhile n (asB (m2 fGt (mVar 1) (mC (.int 0)))) (mSeq (mSet 2 (m2 fMod (mA1 fIntOf (maCons (mVar 0) maNil)) (mVar 1))) (mSeq (mSet 0 (mVar 1)) (mSet 1 (mVar 2)))) [some (.d (.int y)), some (.d (.int (x % y : Nat))), some (.d (.int (x % y : Nat)))] h := fun n x y z hy => by
    rw [mWhile_succ]
    simp [hy]
  intro k
  induction k generalizing z with
  | zero =>
    intro n x y hy hn
    obtain rfl : y = 0 := by simpa using hy
    exact ⟨z, by rw [stop n x z (by omega), Nat.gcd_zero_right]⟩
  | succ k ih =>
    intro n x y hy hn
    by_cases h0 : y = 0
    · subst h0
      exact ⟨z, by rw [stop n x z (by omega), Nat.gcd_zero_right]⟩
    · obtain ⟨m, rfl⟩ : ∃ m, n = m + 1 := ⟨n - 1, by omega⟩
      rw [step m x y z (by omega)]
      have e1 : Nat.gcd x y = Nat.gcd y (x % y) := by rw [Nat.gcd_comm x y, Nat.gcd_rec y x, Nat.gcd_comm]
      by_cases h1 : x % y = 0
      · rw [h1, stop m y _ (by omega), e1, h1, Nat.gcd_zero_right]
        exact ⟨_, rfl⟩
      · obtain ⟨m', rfl⟩ : ∃ m', m = m' + 1 := ⟨m - 1, by omega⟩
        rw [step m' y (x % y) _ (by omega)]
        have hh := euclid_half (x := x) (y := y) (by omega) (by omega)
        have hp : 2 ^ (k + 1) = 2 * 2 ^ k := by rw [Nat.pow_succ]; omega
        have e2 : Nat.gcd y (x % y) = Nat.gcd (x % y) (y % (x % y)) := by rw [Nat.gcd_comm y (x % y), Nat.gcd_rec (x % y) y, Nat.gcd_comm]
        rw [e1, e2]
        exact ih _ m' (x % y) (y % (x % y)) (by omega) (by omega)
theorem abs_if (a : Int) : (if a < 0 then -a else a) = (a.natAbs : Int) := by
  split <;> omega
theorem v_divisor {a b : Int} {h : Hc} (hb : b.natAbs < 2 ^ 900) : F__law_divisor [.int a, .int b] h = .ok (.int (gg a b)) h := by
  refine (fnOf_eq _ _ _ _ _ rfl).trans ?_
  unfold m__law_divisor
  obtain ⟨z', e⟩ := loop_div h none 900 2000 a.natAbs b.natAbs hb (by omega)
  simp [abs_if]
  rw [e]
  simp

theorem log2_lt {a k : Nat} (h : a < 2 ^ k) (hk : 0 < k) : a.log2 < k := by
  by_cases h0 : a = 0
  · subst h0
    simpa using hk
  · exact (Nat.log2_lt h0).mpr h
theorem gg_neg (a b : Int) : gg (-a) (-b) = gg a b := by
  unfold gg
  rw [Int.natAbs_neg, Int.natAbs_neg]
theorem neg_div {a g : Int} (hd : g ∣ a) : -a / g = -(a / g) := Int.neg_ediv_of_dvd hd
theorem max_gg {g : Int} (h : 0 < g) : (if g > 1 then g else 1) = g := by split <;> omega
theorem v_low {a b : Int} {h : Hc} (hb : b ≠ 0) (s : b.natAbs < 2 ^ 900) : F__law_low [.int a, .int b] h = .ok (.tup [.int (lowA a b), .int (lowB a b)]) h := by
  refine (fnOf_eq _ _ _ _ _ rfl).trans ?_
  have g0 := gg_pos (a := a) hb
  have gs := gg_small (a := a) hb (show b.natAbs.log2 < 8000 from Nat.lt_trans (log2_lt s (by omega)) (by omega))
  have c1 : ∀ i, cDiv i (gg a b) = true := fun i => cDiv_of (by omega) gs
  unfold m__law_low lowA lowB
  by_cases hn : b < 0
  · have e := v_divisor (a := -a) (b := -b) (h := h) (by rw [Int.natAbs_neg]; exact s)
    rw [gg_neg] at e
    simp [hn, e, max_gg g0, c1, fdiv_pos g0, neg_div gg_dvd_l, neg_div gg_dvd_r]
  · have e := v_divisor (a := a) (b := b) (h := h) s
    simp [hn, e, max_gg g0, c1, fdiv_pos g0]
end G01

set_option Elab.async false
set_option linter.all false
set_option maxRecDepth 100000
set_option maxHeartbeats 2000000
namespace G01
open PySem L2 Vi
theorem fIx_ref (n : Nat) (i : Int) (h : Hc) (xs : List D) (e : h[n]? = some (.lst xs)) : fIx (.d (.ref n)) (.d (.int i)) h = (match atI xs i with
  | some d => .ok (.d d) h
  | none => .stuck) := by
  show (match h[n]? with
    | some (.lst xs) => (match atI xs i with
      | some d => R.ok (Vl.d d) h
      | none => .stuck)
    | _ => .stuck) = _
  rw [e]
abbrev bagC (ns : List Int) (p v sd l c : Int) : Hc := [.lst [.lst (ns.map D.int), .int p, .int v, .int sd, .int l, .int c]]
theorem v_bag (ns : List Int) : F__law_bag [.kl (ns.map D.int)] [] = .ok (.ref 0) (bagC ns 0 0 (ns.sum % 1000003) 0 0) := by
  refine (fnOf_eq _ _ _ _ _ rfl).trans ?_
  unfold m__law_bag
  simp [mRetC]
theorem cMul_of {i j : Int} (hi : i.natAbs < 2 ^ 1000) (hj : j.natAbs < 2 ^ 1000) : cMul i j = true := by
  have h1 := log2_lt hi (by omega)
  have h2 := log2_lt hj (by omega)
  unfold cMul
  exact decide_eq_true (by omega)
theorem cDivS {i j : Int} (h0 : j ≠ 0) (h : j.natAbs < 2 ^ 1000) : cDiv i j = true := cDiv_of h0 (by have := log2_lt h (by omega); omega)
theorem v_mixed {s t : Int} {h : Hc} (h1 : 0 ≤ s) (h2 : s < 2 ^ 70) (h3 : 0 ≤ t) (h4 : t < 2 ^ 70) : ∃ r, 0 ≤ r ∧ F__law_mixed [.int s, .int t] h = .ok (.int r) h := by
  have a1 : cMul (s + 1) 48271 = true := cMul_of (by omega) (by omega)
  have a2 : cMul (t + 1) 69621 = true := cMul_of (by omega) (by omega)
  have m1 : 0 ≤ ((s + 1) * 48271 + (t + 1) * 69621) % 2147483647 := Int.emod_nonneg _ (by omega)
  have m2 : ((s + 1) * 48271 + (t + 1) * 69621) % 2147483647 < 2147483647 := Int.emod_lt_of_pos _ (by omega)
  generalize hf : ((s + 1) * 48271 + (t + 1) * 69621) % 2147483647 = f at m1 m2
  have a3 : cMul f f = true := cMul_of (by omega) (by omega)
  have a4 : cMul f 16807 = true := cMul_of (by omega) (by omega)
  have a5 : cMul 7 t = true := cMul_of (by omega) (by omega)
  have a6 : cDiv ((f * f + f * 16807 + 7 * t) % 2147483629) 7 = true := cDivS (by omega) (by omega)
  have nn : 0 ≤ ((f * f + f * 16807 + 7 * t) % 2147483629) := Int.emod_nonneg _ (by omega)
  refine ⟨((f * f + f * 16807 + 7 * t) % 2147483629) / 7, by omega, ?_⟩
  refine (fnOf_eq _ _ _ _ _ rfl).trans ?_
  unfold m__law_mixed
  simp [a1, a2, hf, a3, a4, a5, a6, fdiv_pos]

/-- the parts of a draw -/
def tl1 : MS := mIfS (asB (m2 fGt (m2 fIx (mVar 0) (mC (.int 2))) (mC (.int 0)))) (mSeq (mSet 3 (m2 fMod (mA1 fIntOf (maCons (m2 fIx (mVar 0) (mC (.int 2))) maNil)) (mVar 1))) (mSeq (mSetIx (m2 fDiv (m2 fIx (mVar 0) (mC (.int 2))) (mVar 1)) (mVar 0) (mC (.int 2))) (mRet (mVar 3)))) mSkip
def tl2 : MS := mSeq (mIfS (asB (m2 fGt (m2 fIx (mVar 0) (mC (.int 4))) (mC (.int 0)))) (mSetIx (m2 fSub (m2 fIx (mVar 0) (mC (.int 4))) (mC (.int 1))) (mVar 0) (mC (.int 4))) mSkip) (mRet (m2 fMod (mA1 fIntOf (maCons (mA1 (fCallN 2 F__law_mixed []) (maCons (m2 fIx (mVar 0) (mC (.int 3))) (maCons (m2 fIx (mVar 0) (mC (.int 5))) maNil))) maNil)) (mVar 1)))
def hd2 : MS := mSeq (mSet 2 (m2 fIx (m2 fIx (mVar 0) (mC (.int 0))) (m2 fIx (mVar 0) (mC (.int 1))))) (mSeq (mSetIx (m2 (fAdd false) (m2 fIx (mVar 0) (mC (.int 1))) (mC (.int 1))) (mVar 0) (mC (.int 1))) (mIfS (asB (m2 fGe (mA1 fAbs (maCons (mVar 2) maNil)) (m2 fPow (mC (.int 10)) (mC (.int 18))))) (mSetIx (mA1 fAbs (maCons (mVar 2) maNil)) (mVar 0) (mC (.int 2))) (mSeq (mSetIx (m2 (fAdd false) (m2 fMul (mC (.int 2)) (mA1 fAbs (maCons (mVar 2) maNil))) (mA1 fIntOf (maCons (m2 fLt (mVar 2) (mC (.int 0))) maNil))) (mVar 0) (mC (.int 3))) (mSetIx (mC (.int 15)) (mVar 0) (mC (.int 4))))))
theorem draw_parts : m__law_draw = mSeq (mIfS (asB (m2 fLt (mVar 1) (mC (.int 2)))) (mRet (mC (.int 0))) mSkip) (mSeq (mSetIx (m2 (fAdd false) (m2 fIx (mVar 0) (mC (.int 5))) (mC (.int 1))) (mVar 0) (mC (.int 5))) (mSeq (mIfS (tAndM (asB (m2 (fEq false) (m2 fIx (mVar 0) (mC (.int 2))) (mC (.int 0)))) (tAndM (asB (m2 (fEq false) (m2 fIx (mVar 0) (mC (.int 4))) (mC (.int 0)))) (asB (m2 fLt (m2 fIx (mVar 0) (mC (.int 1))) (mA1 fLen (maCons (m2 fIx (mVar 0) (mC (.int 0))) maNil)))))) hd2 mSkip) (mSeq tl1 tl2))) := rfl
abbrev envD (many : Int) (a b : Option Sl) : Vi.Env := [some (.d (.ref 0)), some (.d (.int many)), a, b]
@[simp] theorem bix (ns : List Int) (p v sd l c i : Int) : fIx (.d (.ref 0)) (.d (.int i)) (bagC ns p v sd l c) = (match atI [.lst (ns.map D.int), .int p, .int v, .int sd, .int l, .int c] i with
  | some d => .ok (.d d) (bagC ns p v sd l c)
  | none => .stuck) := fIx_ref 0 i _ _ rfl
theorem at6 (a b c d e f : D) : atI [a, b, c, d, e, f] 0 = some a ∧ atI [a, b, c, d, e, f] 1 = some b ∧ atI [a, b, c, d, e, f] 2 = some c ∧ atI [a, b, c, d, e, f] 3 = some d ∧ atI [a, b, c, d, e, f] 4 = some e ∧ atI [a, b, c, d, e, f] 5 = some f := by
  refine ⟨?_, ?_, ?_, ?_, ?_, ?_⟩ <;> simp [atI, ixN]
theorem ix6 : ixN 6 0 = some 0 ∧ ixN 6 1 = some 1 ∧ ixN 6 2 = some 2 ∧ ixN 6 3 = some 3 ∧ ixN 6 4 = some 4 ∧ ixN 6 5 = some 5 := by
  refine ⟨?_, ?_, ?_, ?_, ?_, ?_⟩ <;> simp [ixN]
/-- a bag that may be drawn from m times at least -/
def BG (m : Int) (h : Hc) : Prop := ∃ (ns : List Int) (p v sd l c : Int), h = bagC ns p v sd l c ∧ 0 ≤ p ∧ 0 ≤ v ∧ 0 ≤ sd ∧ sd < 2 ^ 66 ∧ 0 ≤ l ∧ 0 ≤ c ∧ c ≤ m
theorem v_tl2 (ns : List Int) {p v sd l c many : Int} {a b : Option Sl} (h1 : 0 ≤ sd) (h2 : sd < 2 ^ 66) (h3 : 0 ≤ l) (h4 : 0 ≤ c) (h5 : c < 2 ^ 66) (hm : 2 ≤ many) :
    ∃ r l', 0 ≤ r ∧ r < many ∧ 0 ≤ l' ∧ tl2 (envD many a b) (bagC ns p v sd l c) = .ret (.int r) (bagC ns p v sd l' c) := by
  have go : ∀ l' : Int, ∃ r, 0 ≤ r ∧ r < many ∧ (mRet (m2 fMod (mA1 fIntOf (maCons (mA1 (fCallN 2 F__law_mixed []) (maCons (m2 fIx (mVar 0) (mC (.int 3))) (maCons (m2 fIx (mVar 0) (mC (.int 5))) maNil))) maNil)) (mVar 1))) (envD many a b) (bagC ns p v sd l' c) = .ret (.int r) (bagC ns p v sd l' c) := fun l' => by
    obtain ⟨r, _, e⟩ := v_mixed (s := sd) (t := c) (h := bagC ns p v sd l' c) h1 (by omega) h4 (by omega)
    refine ⟨r % many, Int.emod_nonneg _ (by omega), Int.emod_lt_of_pos _ (by omega), ?_⟩
    have hp : 0 < many := by omega
    simp [at6, e, hp]
  by_cases hl : 0 < l
  · obtain ⟨r, r1, r2, e⟩ := go (l - 1)
    refine ⟨r, l - 1, r1, r2, by omega, ?_⟩
    unfold tl2
    rw [mSeq_eq]
    have e0 : (mIfS (asB (m2 fGt (m2 fIx (mVar 0) (mC (.int 4))) (mC (.int 0)))) (mSetIx (m2 fSub (m2 fIx (mVar 0) (mC (.int 4))) (mC (.int 1))) (mVar 0) (mC (.int 4))) mSkip) (envD many a b) (bagC ns p v sd l c) = .nx (envD many a b) (bagC ns p v sd (l - 1) c) := by
      simp [at6, ix6, hl]
    rw [e0]
    exact e
  · obtain ⟨r, r1, r2, e⟩ := go l
    refine ⟨r, l, r1, r2, h3, ?_⟩
    unfold tl2
    rw [mSeq_eq]
    have e0 : (mIfS (asB (m2 fGt (m2 fIx (mVar 0) (mC (.int 4))) (mC (.int 0)))) (mSetIx (m2 fSub (m2 fIx (mVar 0) (mC (.int 4))) (mC (.int 1))) (mVar 0) (mC (.int 4))) mSkip) (envD many a b) (bagC ns p v sd l c) = .nx (envD many a b) (bagC ns p v sd l c) := by
      simp [at6, ix6, hl]
    rw [e0]
    exact e
theorem v_tl (ns : List Int) {p v sd l c many : Int} {a b : Option Sl} (hv : 0 ≤ v) (h1 : 0 ≤ sd) (h2 : sd < 2 ^ 66) (h3 : 0 ≤ l) (h4 : 0 ≤ c) (h5 : c < 2 ^ 66) (hm : 2 ≤ many) (hm2 : many < 2 ^ 66) :
    ∃ r v' l', 0 ≤ r ∧ r < many ∧ 0 ≤ v' ∧ 0 ≤ l' ∧ (mSeq tl1 tl2) (envD many a b) (bagC ns p v sd l c) = .ret (.int r) (bagC ns p v' sd l' c) := by
  rw [mSeq_eq]
  by_cases h0 : 0 < v
  · refine ⟨v % many, v / many, l, Int.emod_nonneg _ (by omega), Int.emod_lt_of_pos _ (by omega), Int.ediv_nonneg hv (by omega), h3, ?_⟩
    have hp : 0 < many := by omega
    have cd : cDiv v many = true := cDivS (by omega) (by omega)
    unfold tl1
    simp [at6, ix6, h0, hp, cd, fdiv_pos hp]
  · obtain ⟨r, l', r1, r2, r3, e⟩ := v_tl2 ns (p := p) (v := v) (a := a) (b := b) h1 h2 h3 h4 h5 hm
    refine ⟨r, v, l', r1, r2, hv, r3, ?_⟩
    have e0 : tl1 (envD many a b) (bagC ns p v sd l c) = .nx (envD many a b) (bagC ns p v sd l c) := by
      unfold tl1
      simp [at6, ix6, h0]
    rw [e0]
    exact e

theorem atI_map (ns : List Int) {p : Int} (h0 : 0 ≤ p) (h1 : p < ns.length) : ∃ z, atI (ns.map D.int) p = some (.int z) := by
  have hl : p.toNat < ns.length := by omega
  refine ⟨ns[p.toNat], ?_⟩
  unfold atI ixN
  rw [if_pos h0, List.length_map, if_pos h1]
  show (ns.map D.int)[p.toNat]? = _
  rw [List.getElem?_map, List.getElem?_eq_getElem hl]
  rfl
theorem v_hd2 (ns : List Int) {p sd c many : Int} {a b : Option Sl} (h0 : 0 ≤ p) (hp : p < ns.length) (h1 : 0 ≤ sd) (h2 : sd < 2 ^ 66) :
    ∃ a' v' sd' l', 0 ≤ v' ∧ 0 ≤ sd' ∧ sd' < 2 ^ 66 ∧ 0 ≤ l' ∧ hd2 (envD many a b) (bagC ns p 0 sd 0 c) = .nx (envD many a' b) (bagC ns (p + 1) v' sd' l' c) := by
  obtain ⟨z, ez⟩ := atI_map ns h0 hp
  have pw : cPow 10 18 = true := by decide
  by_cases hz : (1000000000000000000 : Int) ≤ (z.natAbs : Int)
  · refine ⟨some (.d (.int z)), z.natAbs, sd, 0, by omega, h1, h2, by omega, ?_⟩
    unfold hd2
    simp [at6, ix6, ez, pw, abs_if, hz]
  · have cm : cMul 2 (z.natAbs : Int) = true := cMul_of (by omega) (by omega)
    refine ⟨some (.d (.int z)), 0, 2 * (z.natAbs : Int) + (if z < 0 then 1 else 0), 15, by omega, by split <;> omega, by split <;> omega, by omega, ?_⟩
    unfold hd2
    simp [at6, ix6, ez, pw, abs_if, hz, cm]
/-- a draw -/
theorem v_draw {m many : Int} {h : Hc} (g : BG m h) (hm : m < 2 ^ 60) (h0 : 0 ≤ many) (h1 : many < 2 ^ 66) :
    ∃ r h', F__law_draw [.ref 0, .int many] h = .ok (.int r) h' ∧ BG (m + 1) h' ∧ 0 ≤ r ∧ (2 ≤ many → r < many) ∧ (many < 2 → r = 0) := by
  obtain ⟨ns, p, v, sd, l, c, rfl, g1, g2, g3, g4, g5, g6, g7⟩ := g
  by_cases hs : many < 2
  · refine ⟨0, bagC ns p v sd l c, ?_, ⟨ns, p, v, sd, l, c, rfl, g1, g2, g3, g4, g5, g6, by omega⟩, by omega, fun z => by omega, fun _ => rfl⟩
    refine (fnOf_eq _ _ _ _ _ rfl).trans ?_
    rw [draw_parts]
    simp [hs]
  · have fin : ∀ {p' v' sd' l' : Int} {a : Option Sl}, 0 ≤ p' → 0 ≤ v' → 0 ≤ sd' → sd' < 2 ^ 66 → 0 ≤ l' → (mIfS (tAndM (asB (m2 (fEq false) (m2 fIx (mVar 0) (mC (.int 2))) (mC (.int 0)))) (tAndM (asB (m2 (fEq false) (m2 fIx (mVar 0) (mC (.int 4))) (mC (.int 0)))) (asB (m2 fLt (m2 fIx (mVar 0) (mC (.int 1))) (mA1 fLen (maCons (m2 fIx (mVar 0) (mC (.int 0))) maNil)))))) hd2 mSkip) (envD many none none) (bagC ns p v sd l (c + 1)) = .nx (envD many a none) (bagC ns p' v' sd' l' (c + 1)) →
        ∃ r h', F__law_draw [.ref 0, .int many] (bagC ns p v sd l c) = .ok (.int r) h' ∧ BG (m + 1) h' ∧ 0 ≤ r ∧ (2 ≤ many → r < many) ∧ (many < 2 → r = 0) := fun {p' v' sd' l' a} k1 k2 k3 k4 k5 e => by
      obtain ⟨r, v2, l2, r1, r2, r3, r4, e2⟩ := v_tl ns (p := p') (v := v') (sd := sd') (l := l') (c := c + 1) (many := many) (a := a) (b := none) k2 k3 k4 k5 (by omega) (by omega) (by omega) h1
      refine ⟨r, bagC ns p' v2 sd' l2 (c + 1), ?_, ⟨ns, p', v2, sd', l2, c + 1, rfl, k1, r3, k3, k4, r4, by omega, by omega⟩, r1, fun _ => r2, fun z => absurd z hs⟩
      refine (fnOf_eq _ _ _ _ _ rfl).trans ?_
      rw [draw_parts, mSeq_eq]
      have e3 : (mIfS (asB (m2 fLt (mVar 1) (mC (.int 2)))) (mRet (mC (.int 0))) mSkip) (mkEnv 4 [.ref 0, .int many]) (bagC ns p v sd l c) = .nx (envD many none none) (bagC ns p v sd l c) := by simp [hs]
      rw [e3, RS.seq_nx, mSeq_eq]
      have e4 : (mSetIx (m2 (fAdd false) (m2 fIx (mVar 0) (mC (.int 5))) (mC (.int 1))) (mVar 0) (mC (.int 5))) (envD many none none) (bagC ns p v sd l c) = .nx (envD many none none) (bagC ns p v sd l (c + 1)) := by simp [at6, ix6]
      rw [e4, RS.seq_nx, mSeq_eq, e, RS.seq_nx, e2]
      rfl
    by_cases hv : v = 0
    · by_cases hl : l = 0
      · by_cases hp : p < ns.length
        · subst hv hl
          obtain ⟨a', v', sd', l', q1, q2, q3, q4, e⟩ := v_hd2 ns (p := p) (sd := sd) (c := c + 1) (many := many) (a := none) (b := none) g1 hp g3 g4
          refine fin (p' := p + 1) (v' := v') (sd' := sd') (l' := l') (a := a') (by omega) q1 q2 q3 q4 ?_
          rw [← e]
          simp [at6, hp, fLen_lst]
        · exact fin (a := none) g1 g2 g3 g4 g5 (by simp [at6, hv, hl, hp, fLen_lst])
      · exact fin (a := none) g1 g2 g3 g4 g5 (by simp [at6, hv, hl])
    · exact fin (a := none) g1 g2 g3 g4 g5 (by simp [at6, hv])
end G01

set_option Elab.async false
set_option linter.all false
set_option maxRecDepth 100000
set_option maxHeartbeats 2000000
namespace Vi
def RS.fini (c : Nat) : RS → R (List (PySem.Str × D))
  | .nx (some (.oi c' fs) :: _) h => if c' = c then .ok fs h else .stuck
  | .exc _ x h => .exc x h
  | _ => .stuck
theorem initOf_eq (N n c : Nat) (m : MS) (ds : List D) (h : Hc) (e : ds.length = n) : initOf N n c m ds h = (m (some (.oi c []) :: mkEnv N ds) h).fini c := by
  unfold initOf RS.fini
  refine (if_pos e).trans ?_
  cases m (some (.oi c []) :: mkEnv N ds) h with
  | nx env h =>
    cases env with
    | nil => rfl
    | cons a r => cases a with
      | none => rfl
      | some sl => cases sl <;> rfl
  | _ => rfl
@[simp] theorem RS.fini_nx (c : Nat) (fs : List (PySem.Str × D)) (r : Env) (h : Hc) : (RS.nx (some (.oi c fs) :: r) h).fini c = .ok fs h := if_pos rfl
@[simp] theorem RS.fini_exc (c : Nat) (e : Env) (x : D) (h : Hc) : (RS.exc e x h).fini c = .exc x h := rfl
end Vi
namespace G01
open PySem L2 Vi
abbrev rat (a b : Int) : D := .obj 5 [("above", .int a), ("below", .int b)]
abbrev frac (a b : Int) : D := .tup [.int a, .int b]
@[simp] theorem at2 (x y : D) : atI [x, y] 0 = some x ∧ atI [x, y] 1 = some y := by
  refine ⟨?_, ?_⟩ <;> simp [atI, ixN]
@[simp] theorem fl_a (a b : Int) (h : Hc) : fFld g0 "above" (.d (rat a b)) h = .ok (.d (.int a)) h := rfl
@[simp] theorem fl_b (a b : Int) (h : Hc) : fFld g0 "below" (.d (rat a b)) h = .ok (.d (.int b)) h := rfl
theorem gtF_a (x : D) (r : Vi.Env) : gtF g0 0 "above" x (some (.oi 5 []) :: r) = some (some (.oi 5 [("above", x)]) :: r) := rfl
theorem gtF_b (x y : D) (r : Vi.Env) : gtF g0 0 "below" y (some (.oi 5 [("above", x)]) :: r) = some (some (.oi 5 [("above", x), ("below", y)]) :: r) := rfl
theorem v_init {a b : Int} {h : Hc} (hb : b ≠ 0) (s : Sm b) : FI_Ratio_xinitx [.int a, .int b] h = .ok [("above", .int (lowA a b)), ("below", .int (lowB a b))] h := by
  refine (initOf_eq _ _ _ _ _ _ rfl).trans ?_
  unfold m_Ratio_xinitx
  simp [hb, v_lowest hb s, gtF_a, gtF_b]
theorem v_init0 {a : Int} {h : Hc} : FI_Ratio_xinitx [.int a, .int 0] h = .exc (.obj 1 [("class_name", .str "BadFraction"), ("value", .int 0)]) h := by
  refine (initOf_eq 2 2 5 m_Ratio_xinitx [.int a, .int 0] h rfl).trans ?_
  unfold m_Ratio_xinitx
  simp [mRaise, mkE]
theorem v_make {a b : Int} {h : Hc} (hb : b ≠ 0) (s : Sm b) : fMake 5 2 FI_Ratio_xinitx [] [.d (.int a), .d (.int b)] h = .ok (.d (rat (lowA a b) (lowB a b))) h := by
  unfold fMake
  simp [v_init hb s]
theorem v_pair (a b : Int) (h : Hc) : F_Ratio_pair [rat a b] h = .ok (frac a b) h := by
  refine (fnOf_eq 1 1 m_Ratio_pair [rat a b] h rfl).trans ?_
  unfold m_Ratio_pair
  simp
@[simp] theorem isR (a b : Int) (h : Hc) : fIsi g0 (.own 5) (.d (rat a b)) h = .ok (.d (.bl true)) h := rfl
abbrev Bt (k : Nat) (a : Int) : Prop := a.natAbs < 2 ^ k
theorem Bt.mul {a b : Int} {j k : Nat} (h1 : Bt j a) (h2 : Bt k b) : Bt (j + k) (a * b) := by
  unfold Bt
  rw [Int.natAbs_mul, Nat.pow_add]
  exact Nat.mul_lt_mul'' h1 h2
theorem Bt.add {a b : Int} {k : Nat} (h1 : Bt k a) (h2 : Bt k b) : Bt (k + 1) (a + b) := by
  unfold Bt at *
  have := Int.natAbs_add_le a b
  rw [Nat.pow_succ]
  omega
theorem Bt.sub {a b : Int} {k : Nat} (h1 : Bt k a) (h2 : Bt k b) : Bt (k + 1) (a - b) := by
  unfold Bt at *
  have := Int.natAbs_sub_le a b
  rw [Nat.pow_succ]
  omega
theorem Bt.up {a : Int} {j k : Nat} (h : Bt j a) (hk : j ≤ k) : Bt k a := Nat.lt_of_lt_of_le h (Nat.pow_le_pow_right (by omega) hk)
theorem Bt.neg {a : Int} {k : Nat} (h : Bt k a) : Bt k (-a) := by unfold Bt at *; omega
theorem Bt.sm {a : Int} {k : Nat} (h : Bt k a) (hk : k ≤ 900) : Sm a := by
  have := log2_lt (h.up hk) (by omega)
  show a.natAbs.log2 < 8000
  omega
theorem Bt.cm {a b : Int} {j k : Nat} (h1 : Bt j a) (h2 : Bt k b) (hj : j ≤ 1000) (hk : k ≤ 1000) : cMul a b = true := cMul_of (h1.up hj) (h2.up hk)
theorem natAbs_ediv_le (a g : Int) (hg : 0 < g) : (a / g).natAbs ≤ a.natAbs := by
  have e : (a / g) = a.fdiv g := (fdiv_pos hg).symm
  rw [e]
  exact PySem.natAbs_fdiv_le a g
theorem Bt.lowA {a b : Int} {k : Nat} (hb : b ≠ 0) (h : Bt k a) : Bt k (lowA a b) := by
  have := natAbs_ediv_le a (gg a b) (gg_pos hb)
  unfold Bt G01.lowA at *
  split <;> omega
theorem Bt.lowB {a b : Int} {k : Nat} (hb : b ≠ 0) (h : Bt k b) : Bt k (lowB a b) := by
  have := natAbs_ediv_le b (gg a b) (gg_pos hb)
  unfold Bt G01.lowB at *
  split <;> omega
theorem lowB_pos {a b : Int} (hb : b ≠ 0) : 0 < lowB a b := by
  have g0 := gg_pos (a := a) hb
  have hc : gg a b * (b / gg a b) = b := Int.mul_ediv_cancel' gg_dvd_r
  generalize b / gg a b = c at hc
  have e : lowB a b = if b < 0 then -c else c := by
    unfold lowB
    rw [show b / gg a b = c from by
      have := Int.mul_ediv_cancel_left c (show gg a b ≠ 0 by omega)
      rw [hc] at this
      exact this]
  rw [e]
  split
  · next hn =>
    have : c < 0 := by
      by_cases hc0 : 0 ≤ c
      · have := Int.mul_nonneg (by omega : 0 ≤ gg a b) hc0
        omega
      · omega
    omega
  · next hn =>
    by_cases hc0 : c ≤ 0
    · have : gg a b * c ≤ 0 := Int.mul_nonpos_of_nonneg_of_nonpos (by omega) hc0
      omega
    · omega
end G01

set_option Elab.async false
set_option linter.all false
set_option maxRecDepth 100000
set_option maxHeartbeats 2000000
set_option exponentiation.threshold 2000
namespace G01
open PySem L2 Vi
section
variable {a b c d : Int} {h : Hc}
/-- sizes of all that is reckoned -/
structure Ok4 (a b c d : Int) : Prop where
  ha : Bt 400 a
  hb : Bt 400 b
  hc : Bt 400 c
  hd : Bt 400 d
  b0 : b ≠ 0
  d0 : d ≠ 0
theorem Ok4.m (o : Ok4 a b c d) : cMul a d = true ∧ cMul c b = true ∧ cMul b d = true ∧ cMul a c = true ∧ cMul b c = true ∧ cMul a b = true ∧ cMul d b = true :=
  ⟨o.ha.cm o.hd (by omega) (by omega), o.hc.cm o.hb (by omega) (by omega), o.hb.cm o.hd (by omega) (by omega), o.ha.cm o.hc (by omega) (by omega), o.hb.cm o.hc (by omega) (by omega), o.ha.cm o.hb (by omega) (by omega), o.hd.cm o.hb (by omega) (by omega)⟩
theorem Ok4.bd (o : Ok4 a b c d) : b * d ≠ 0 ∧ Bt 800 (b * d) := ⟨Int.mul_ne_zero o.b0 o.d0, o.hb.mul o.hd⟩
theorem s8 {x : Int} (h : Bt 800 x) : Sm x := h.sm (by omega)
theorem p9 {x : Int} (h : Bt 800 x) : x.natAbs < 2 ^ 900 := h.up (by omega)
theorem v_add (o : Ok4 a b c d) : F_Ratio_xaddx [rat a b, rat c d] h = .ok (rat (lowA (a * d + c * b) (b * d)) (lowB (a * d + c * b) (b * d))) h := by
  refine (fnOf_eq 2 2 m_Ratio_xaddx [rat a b, rat c d] h rfl).trans ?_
  unfold m_Ratio_xaddx
  simp [o.m, v_make o.bd.1 (s8 o.bd.2)]
theorem v_sub (o : Ok4 a b c d) : F_Ratio_xsubx [rat a b, rat c d] h = .ok (rat (lowA (a * d - c * b) (b * d)) (lowB (a * d - c * b) (b * d))) h := by
  refine (fnOf_eq 2 2 m_Ratio_xsubx [rat a b, rat c d] h rfl).trans ?_
  unfold m_Ratio_xsubx
  simp [o.m, v_make o.bd.1 (s8 o.bd.2)]
theorem v_mul (o : Ok4 a b c d) : F_Ratio_xmulx [rat a b, rat c d] h = .ok (rat (lowA (a * c) (b * d)) (lowB (a * c) (b * d))) h := by
  refine (fnOf_eq 2 2 m_Ratio_xmulx [rat a b, rat c d] h rfl).trans ?_
  unfold m_Ratio_xmulx
  simp [o.m, v_make o.bd.1 (s8 o.bd.2)]
theorem v_over (o : Ok4 a b c d) (c0 : c ≠ 0) : F_Ratio_over [rat a b, rat c d] h = .ok (rat (lowA (a * d) (b * c)) (lowB (a * d) (b * c))) h := by
  refine (fnOf_eq 2 2 m_Ratio_over [rat a b, rat c d] h rfl).trans ?_
  unfold m_Ratio_over
  simp [o.m, v_make (Int.mul_ne_zero o.b0 c0) (s8 (o.hb.mul o.hc))]
theorem v_neg (o : Ok4 a b c d) : F_Ratio_xnegx [rat a b] h = .ok (rat (lowA (-a) b) (lowB (-a) b)) h := by
  refine (fnOf_eq 1 1 m_Ratio_xnegx [rat a b] h rfl).trans ?_
  unfold m_Ratio_xnegx
  simp [v_make o.b0 (o.hb.sm (by omega))]
theorem v_abs (o : Ok4 a b c d) : F_Ratio_xabsx [rat a b] h = .ok (rat (lowA (if a < 0 then -a else a) b) (lowB (if a < 0 then -a else a) b)) h := by
  refine (fnOf_eq 1 1 m_Ratio_xabsx [rat a b] h rfl).trans ?_
  unfold m_Ratio_xabsx
  simp [v_make o.b0 (o.hb.sm (by omega))]
theorem v_less (o : Ok4 a b c d) : F_Ratio_less [rat a b, rat c d] h = .ok (.bl (decide (a * d < c * b))) h := by
  refine (fnOf_eq 2 2 m_Ratio_less [rat a b, rat c d] h rfl).trans ?_
  unfold m_Ratio_less
  simp [o.m]
theorem v_eqR : F_Ratio_xeqx [rat a b, rat c d] h = .ok (.bl (decide (a = c) && decide (b = d))) h := by
  refine (fnOf_eq 2 2 m_Ratio_xeqx [rat a b, rat c d] h rfl).trans ?_
  unfold m_Ratio_xeqx
  by_cases h1 : a = c <;> simp [h1]
theorem v_eqT {xs : List D} : F_Ratio_xeqx [rat a b, .tup xs] h = .ok (.bl false) h := by
  refine (fnOf_eq 2 2 m_Ratio_xeqx [rat a b, .tup xs] h rfl).trans ?_
  unfold m_Ratio_xeqx
  have e : fIsi g0 (.own 5) (.d (.tup xs)) h = .ok (.d (.bl false)) h := rfl
  simp [e]
theorem v_eqI {i : Int} : F_Ratio_xeqx [rat a b, .int i] h = .ok (.bl false) h := by
  refine (fnOf_eq 2 2 m_Ratio_xeqx [rat a b, .int i] h rfl).trans ?_
  unfold m_Ratio_xeqx
  have e : fIsi g0 (.own 5) (.d (.int i)) h = .ok (.d (.bl false)) h := rfl
  simp [e]
/-! the law's own reckoning -/
theorem v_lplus (o : Ok4 a b c d) : F__law_plus [frac a b, frac c d] h = .ok (frac (lowA (a * d + c * b) (b * d)) (lowB (a * d + c * b) (b * d))) h := by
  refine (fnOf_eq 2 2 m__law_plus [frac a b, frac c d] h rfl).trans ?_
  unfold m__law_plus
  simp [o.m, v_low o.bd.1 (p9 o.bd.2)]
theorem v_lminus (o : Ok4 a b c d) : F__law_minus [frac a b, frac c d] h = .ok (frac (lowA (a * d - c * b) (b * d)) (lowB (a * d - c * b) (b * d))) h := by
  refine (fnOf_eq 2 2 m__law_minus [frac a b, frac c d] h rfl).trans ?_
  unfold m__law_minus
  simp [o.m, v_low o.bd.1 (p9 o.bd.2)]
theorem v_ltimes (o : Ok4 a b c d) : F__law_times [frac a b, frac c d] h = .ok (frac (lowA (a * c) (b * d)) (lowB (a * c) (b * d))) h := by
  refine (fnOf_eq 2 2 m__law_times [frac a b, frac c d] h rfl).trans ?_
  unfold m__law_times
  simp [o.m, v_low o.bd.1 (p9 o.bd.2)]
theorem v_lless (o : Ok4 a b c d) : F__law_less [frac a b, frac c d] h = .ok (.bl (decide (a * d < c * b))) h := by
  refine (fnOf_eq 2 2 m__law_less [frac a b, frac c d] h rfl).trans ?_
  unfold m__law_less
  simp [o.m]
theorem eqF (neg : Bool) (a b c d : Int) (h : Hc) : fEq neg (.d (frac a b)) (.d (frac c d)) h = .ok (.d (.bl (if neg then !(decide (a = c) && decide (b = d)) else (decide (a = c) && decide (b = d))))) h := by
  have e : eqD (frac a b) (frac c d) = (decide (a = c) && decide (b = d)) := by
    show PyData.eqv (.tuple [.int a, .int b]) (.tuple [.int c, .int d]) = _
    by_cases h1 : a = c <;> by_cases h2 : b = d <;> simp [PyData.eqv, PyData.eqvAll, h1, h2]
  rw [← e]
  rfl
theorem v_lorder (o : Ok4 a b c d) : F__law_p3_order [frac a b, frac c d] h = .ok (.int (if (decide (a = c) && decide (b = d)) then 0 else if a * d < c * b then -1 else 1)) h := by
  refine (fnOf_eq 2 2 m__law_p3_order [frac a b, frac c d] h rfl).trans ?_
  unfold m__law_p3_order
  have e := eqF false a b c d h
  generalize (decide (a = c) && decide (b = d)) = z at e ⊢
  by_cases h3 : a * d < c * b <;> cases z <;> simp [e, v_lless o, h3]
end
end G01

set_option Elab.async false
set_option linter.all false
set_option maxRecDepth 100000
set_option maxHeartbeats 2000000
set_option exponentiation.threshold 2000
namespace G01
open PySem L2 Vi
theorem shw_of {d : PyData} (h1 : d.showable = true) (h2 : d.depth ≤ 60) (h3 : d.leavesShort 902 = true) (h4 : d.weight ≤ 18000) : shwB d = true := by
  have e := PyData.shown_le 902 (by omega) d h3
  have : d.shown.length ≤ sizeLine := by
    rw [sizeLine_eq]
    have : (902 + 2) * d.weight ≤ 904 * 18000 := Nat.mul_le_mul_left _ h4
    omega
  unfold shwB
  rw [h1, decide_eq_true h2, decide_eq_true this]
  rfl
theorem shI_1 {i : Int} (h : Bt 900 i) : (PyData.int i).showable = true := by
  simp only [PyData.showable]
  have := log2_lt h (by omega)
  exact decide_eq_true (by omega)
theorem shI_2 {i : Int} (h : Bt 900 i) : (PyData.int i).leavesShort 902 = true := by
  simp only [PyData.leavesShort, PyData.shown]
  have := int_text_length_le (k := 900) (by omega) (log2_lt h (by omega))
  refine decide_eq_true ?_
  show (Str.ofString (toString i)).length ≤ 902
  rw [ofString_length]
  omega
theorem shI_3 {i : Int} (h : Bt 900 i) : (PyData.int i).weight ≤ 900 := by
  simp only [PyData.weight]
  have := log2_lt h (by omega)
  split <;> omega
theorem shw_frac {a b : Int} (ha : Bt 900 a) (hb : Bt 900 b) : shwB (toP (frac a b)) = true := by
  have w1 := shI_3 ha
  have w2 := shI_3 hb
  have s1 := shI_1 ha
  have s2 := shI_1 hb
  have l1 := shI_2 ha
  have l2 := shI_2 hb
  show shwB (.tuple [.int a, .int b]) = true
  refine shw_of ?_ ?_ ?_ ?_
  · simp only [PyData.showable, PyData.showableAll] at s1 s2 ⊢
    simp [s1, s2]
  · simp [PyData.depth, PyData.depthAll]
  · simp only [PyData.leavesShort, PyData.leavesShortAll] at l1 l2 ⊢
    simp [l1, l2]
  · simp only [PyData.weight, PyData.weightAll] at w1 w2 ⊢
    omega
theorem repr_frac {a b : Int} {h : Hc} (ha : Bt 900 a) (hb : Bt 900 b) : fRepr [.d (frac a b)] h = .ok (.d (.str (toP (frac a b)).shown)) h := by
  have e : fRepr [.d (frac a b)] h = (if shwB (toP (frac a b)) then .ok (.d (.str (toP (frac a b)).shown)) h else .stuck) := rfl
  rw [e, shw_frac ha hb]
  rfl
theorem eq_str (neg : Bool) (x : PySem.Str) (h : Hc) : fEq neg (.d (.str x)) (.d (.str x)) h = .ok (.d (.bl (!neg))) h := by
  have e : fEq neg (.d (.str x)) (.d (.str x)) h = .ok (.d (.bl (if neg then !decide (x = x) else decide (x = x)))) h := rfl
  rw [e, decide_eq_true rfl]
  cases neg <;> rfl
theorem v_prop (a b : Int) (h : Hc) : fProp 5 F_Ratio_pair (.d (rat a b)) h = .ok (.d (frac a b)) h := by
  unfold fProp
  have e : ins? 5 (.d (rat a b)) h = some [(("above" : PySem.Str), D.int a), (("below" : PySem.Str), D.int b)] := rfl
  rw [e]
  simp [v_pair]
/-- a Ratio and its due -/
theorem v_is {a b : Int} {h : Hc} (ha : Bt 900 a) (hb : Bt 900 b) : F__law_p3_is [rat a b, frac a b] h = .ok (.bl true) h := by
  refine (fnOf_eq 2 2 m__law_p3_is [rat a b, frac a b] h rfl).trans ?_
  unfold m__law_p3_is
  simp [v_prop, repr_frac ha hb, eq_str]
end G01

set_option Elab.async false
set_option linter.all false
set_option maxRecDepth 100000
set_option maxHeartbeats 4000000
set_option exponentiation.threshold 2000
namespace G01
open PySem L2 Vi
/-- in lowest terms -/
structure Low (a b : Int) : Prop where
  pos : 0 < b
  one : gg a b = 1
theorem Low.a {a b : Int} (l : Low a b) : lowA a b = a := by
  have := l.pos
  unfold lowA
  rw [if_neg (by omega), l.one, Int.ediv_one]
theorem Low.b {a b : Int} (l : Low a b) : lowB a b = b := by
  have := l.pos
  unfold lowB
  rw [if_neg (by omega), l.one, Int.ediv_one]
theorem Low.neg {a b : Int} (l : Low a b) : Low (-a) b := ⟨l.pos, by
  have := l.one
  unfold gg at *
  rw [Int.natAbs_neg]
  exact this⟩
theorem Low.abs {a b : Int} (l : Low a b) : Low (if a < 0 then -a else a) b := by
  split
  · exact l.neg
  · exact l
theorem op_add (a b c d : Int) (h : Hc) : fOps T_add (fAdd false) (.d (rat a b)) (.d (rat c d)) h = (F_Ratio_xaddx [rat a b, rat c d] h).bind fun d h' => .ok (.d d) h' := rfl
theorem op_sub (a b c d : Int) (h : Hc) : fOps T_sub fSub (.d (rat a b)) (.d (rat c d)) h = (F_Ratio_xsubx [rat a b, rat c d] h).bind fun d h' => .ok (.d d) h' := rfl
theorem op_mul (a b c d : Int) (h : Hc) : fOps T_mul fMul (.d (rat a b)) (.d (rat c d)) h = (F_Ratio_xmulx [rat a b, rat c d] h).bind fun d h' => .ok (.d d) h' := rfl
theorem op_muli (a b : Int) (h : Hc) : fOps T_mul fMul (.d (.int a)) (.d (.int b)) h = fMul (.d (.int a)) (.d (.int b)) h := rfl
theorem op_neg (a b : Int) (h : Hc) : fNegs T_neg (.d (rat a b)) h = (F_Ratio_xnegx [rat a b] h).bind fun d h' => .ok (.d d) h' := rfl
theorem op_negi (a : Int) (h : Hc) : fNegs T_neg (.d (.int a)) h = .ok (.d (.int (-a))) h := rfl
theorem op_abs (a b : Int) (h : Hc) : fAbss T_abs [.d (rat a b)] h = (F_Ratio_xabsx [rat a b] h).bind fun d h' => .ok (.d d) h' := rfl
theorem op_absi (a : Int) (h : Hc) : fAbss T_abs [.d (.int a)] h = .ok (.d (.int (if a < 0 then -a else a))) h := rfl
theorem op_eqR (a b c d : Int) (h : Hc) : fEqs g0 T_eq nfB (fEq false) (.d (rat a b)) (.d (rat c d)) h = (F_Ratio_xeqx [rat a b, rat c d] h).bind fun d h' => .ok (.d d) h' := rfl
theorem op_eqT (a b : Int) (xs : List D) (h : Hc) : fEqs g0 T_eq nfB (fEq false) (.d (rat a b)) (.d (.tup xs)) h = (F_Ratio_xeqx [rat a b, .tup xs] h).bind fun d h' => .ok (.d d) h' := rfl
theorem op_eqI (a b i : Int) (h : Hc) : fEqs g0 T_eq nfB (fEq false) (.d (rat a b)) (.d (.int i)) h = (F_Ratio_xeqx [rat a b, .int i] h).bind fun d h' => .ok (.d d) h' := rfl
theorem op_eqF (a b c d : Int) (h : Hc) : fEqs g0 T_eq nfB (fEq false) (.d (frac a b)) (.d (frac c d)) h = fEq false (.d (frac a b)) (.d (frac c d)) h := rfl
theorem op_eqii (a b : Int) (h : Hc) : fEqs g0 T_eq nfB (fEq false) (.d (.int a)) (.d (.int b)) h = fEq false (.d (.int a)) (.d (.int b)) h := rfl
theorem ins_rat (a b : Int) (h : Hc) : ins? 5 (.d (rat a b)) h = some [(("above" : PySem.Str), D.int a), (("below" : PySem.Str), D.int b)] := rfl
theorem no_less (a b : Int) : (List.lookup ("less" : PySem.Str) [(("above" : PySem.Str), D.int a), (("below" : PySem.Str), D.int b)]).isNone = true := rfl
theorem no_over (a b : Int) : (List.lookup ("over" : PySem.Str) [(("above" : PySem.Str), D.int a), (("below" : PySem.Str), D.int b)]).isNone = true := rfl
theorem mMeth_eq (c : Nat) (m : PySem.Str) (n : Nat) (F : Fn) (dd : List D) (o : ME) (a : MA) (env : Vi.Env) (h : Hc) : mMeth c m n F dd o a env h = (o env h).bind fun x h1 => (match ins? c x h1 with
  | some fs => pick (fs.lookup m).isNone ((a env h1).bind fun xs h2 => fMeth c m n F dd x xs h2) .stuck
  | none => .stuck) := by
  unfold mMeth
  congr 1
theorem meth_less (a b c d : Int) (h : Hc) (i j : Nat) (env : Vi.Env) (e1 : env[i]? = some (some (.d (rat a b)))) (e2 : env[j]? = some (some (.d (rat c d)))) :
    mMeth 5 "less" 1 F_Ratio_less [] (mVar i) (maCons (mVar j) maNil) env h = (F_Ratio_less [rat a b, rat c d] h).bind fun d h' => .ok (.d d) h' := by
  rw [mMeth_eq, mVar_d i env h _ e1, R.bind_ok]
  simp only [ins_rat, no_less, pick_t, maCons, maNil, mVar_d j env h _ e2, R.bind_ok]
  rfl
theorem meth_over (a b c d : Int) (h : Hc) (i j : Nat) (env : Vi.Env) (e1 : env[i]? = some (some (.d (rat a b)))) (e2 : env[j]? = some (some (.d (rat c d)))) :
    mMeth 5 "over" 1 F_Ratio_over [] (mVar i) (maCons (mVar j) maNil) env h = (F_Ratio_over [rat a b, rat c d] h).bind fun d h' => .ok (.d d) h' := by
  rw [mMeth_eq, mVar_d i env h _ e1, R.bind_ok]
  simp only [ins_rat, no_over, pick_t, maCons, maNil, mVar_d j env h _ e2, R.bind_ok]
  rfl
theorem shw_bools (x y z : Bool) : shwB (toP (.lst [.bl x, .bl y, .bl z, .bl false, .bl false])) = true := by
  show shwB (.list [.bool x, .bool y, .bool z, .bool false, .bool false]) = true
  refine shw_of ?_ ?_ ?_ ?_ <;> simp [PyData.showable, PyData.showableAll, PyData.depth, PyData.depthAll, PyData.leavesShort, PyData.leavesShortAll, PyData.weight, PyData.weightAll]
theorem repr_bools (x y z : Bool) (h : Hc) : fRepr [.d (.lst [.bl x, .bl y, .bl z, .bl false, .bl false])] h = .ok (.d (.str (toP (.lst [.bl x, .bl y, .bl z, .bl false, .bl false])).shown)) h := by
  have e : fRepr [.d (.lst [.bl x, .bl y, .bl z, .bl false, .bl false])] h = (if shwB (toP (.lst [.bl x, .bl y, .bl z, .bl false, .bl false])) then .ok (.d (.str (toP (.lst [.bl x, .bl y, .bl z, .bl false, .bl false])).shown)) h else .stuck) := rfl
  rw [e, shw_bools]
  rfl
theorem v_sums {a b c d : Int} {h : Hc} (l1 : Low a b) (l2 : Low c d) (ha : Bt 200 a) (hb : Bt 200 b) (hc : Bt 200 c) (hd : Bt 200 d) : F__law_p3_sums [rat a b, rat c d, frac a b, frac c d] h = .ok (.bl true) h := by
  have p1 := l1.pos
  have p2 := l2.pos
  have o : Ok4 a b c d := ⟨ha.up (by omega), hb.up (by omega), hc.up (by omega), hd.up (by omega), by omega, by omega⟩
  have o2 : Ok4 c d a b := ⟨o.hc, o.hd, o.ha, o.hb, o.d0, o.b0⟩
  have bd := o.bd
  have B : ∀ {x y : Int}, y ≠ 0 → Bt 801 x → Bt 800 y → Bt 900 (lowA x y) ∧ Bt 900 (lowB x y) := fun hy h1 h2 => ⟨(Bt.lowA hy h1).up (by omega), (Bt.lowB hy h2).up (by omega)⟩
  have k1 := B bd.1 (Bt.add (o.ha.mul o.hd) (o.hc.mul o.hb)) bd.2
  have k2 := B bd.1 (Bt.sub (o.ha.mul o.hd) (o.hc.mul o.hb)) bd.2
  have k3 := B bd.1 ((o.ha.mul o.hc).up (by omega)) bd.2
  have i1 := v_is (h := h) k1.1 k1.2
  have i2 := v_is (h := h) k2.1 k2.2
  have i3 := v_is (h := h) k3.1 k3.2
  have n1 := v_neg (h := h) o
  rw [l1.neg.a, l1.neg.b] at n1
  have a1 := v_abs (h := h) o
  rw [l1.abs.a, l1.abs.b] at a1
  have i4 := v_is (a := -a) (b := b) (h := h) ((Bt.neg ha).up (by omega)) (hb.up (by omega))
  have i5 := v_is (a := if a < 0 then -a else a) (b := b) (h := h) (by
    split
    · exact (Bt.neg ha).up (by omega)
    · exact ha.up (by omega)) (hb.up (by omega))
  have ml1 := fun t => meth_less a b c d h 0 1 [some (.d (rat a b)), some (.d (rat c d)), some (.d (frac a b)), some (.d (frac c d)), t] rfl rfl
  have ml2 := fun t => meth_less c d a b h 1 0 [some (.d (rat a b)), some (.d (rat c d)), some (.d (frac a b)), some (.d (frac c d)), t] rfl rfl
  have mo := fun t => meth_over a b c d h 0 1 [some (.d (rat a b)), some (.d (rat c d)), some (.d (frac a b)), some (.d (frac c d)), t] rfl rfl
  refine (fnOf_eq 5 4 m__law_p3_sums [rat a b, rat c d, frac a b, frac c d] h rfl).trans ?_
  unfold m__law_p3_sums
  simp [op_add, v_add o, v_lplus o, i1, op_sub, v_sub o, v_lminus o, i2, op_mul, v_mul o, v_ltimes o, i3, op_neg, n1, op_negi, i4, op_abs, a1, op_absi, i5, ml1, ml2, v_less o, v_less o2, op_eqR, v_eqR, op_eqT, v_eqT, op_eqI, v_eqI, v_lless o, v_lless o2, op_eqF, eqF, repr_bools, eq_str, op_eqii]
  by_cases c0 : c = 0
  · simp [c0]
  · have bc : b * c ≠ 0 := Int.mul_ne_zero o.b0 c0
    have sz := o.hb.mul o.hc
    have k4 := B bc ((o.ha.mul o.hd).up (by omega)) sz
    have i6 := v_is (h := h) k4.1 k4.2
    simp [c0, mo, v_over o c0, op_muli, o.m, v_low bc (p9 sz), i6]
end G01

set_option Elab.async false
set_option linter.all false
set_option maxRecDepth 100000
set_option maxHeartbeats 4000000
set_option exponentiation.threshold 2000
namespace G01
open PySem L2 Vi
theorem BG.up {m n : Int} {h : Hc} (g : BG m h) (hm : m ≤ n) : BG n h := by
  obtain ⟨ns, p, v, sd, l, c, e, g1, g2, g3, g4, g5, g6, g7⟩ := g
  exact ⟨ns, p, v, sd, l, c, e, g1, g2, g3, g4, g5, g6, by omega⟩
def nbody : MS := mSet 2 (m2 (fAdd false) (m2 fMul (mVar 2) (mC (.int 100000000))) (mA1 (fCallN 2 F__law_draw []) (maCons (mVar 0) (maCons (mC (.int 100000000)) maNil))))
/-- the further digits -/
theorem num_loop : ∀ (xs : List D) (j : Nat) (m n : Int) (way : Option Sl) (kv : Option Sl) (h : Hc), BG m h → m + xs.length < 2 ^ 60 → j + xs.length ≤ 4 → 0 ≤ n → n < 100000000 ^ j →
    ∃ n' kv' h', forL (gtN 3) nbody xs [some (.d (.ref 0)), way, some (.d (.int n)), kv] h = .nx [some (.d (.ref 0)), way, some (.d (.int n')), kv'] h' ∧ BG (m + xs.length) h' ∧ 0 ≤ n' ∧ n' < 100000000 ^ 4 := by
  intro xs
  induction xs with
  | nil =>
    intro j m n way kv h g hm hj h0 h1
    have hp : (100000000 : Int) ^ j ≤ 100000000 ^ 4 := by
      have : j ≤ 4 := by simpa using hj
      match j, this with
      | 0, _ => decide
      | 1, _ => decide
      | 2, _ => decide
      | 3, _ => decide
      | 4, _ => decide
    exact ⟨n, kv, h, rfl, by simpa using g, h0, by omega⟩
  | cons x xs ih =>
    intro j m n way kv h g hm hj h0 h1
    simp only [List.length_cons] at hm hj ⊢
    obtain ⟨r, h2, e, g2, r1, r2, _⟩ := v_draw (many := 100000000) g (by omega) (by omega) (by omega)
    have r2 := r2 (by omega)
    have sz : (100000000 : Int) ^ j ≤ 100000000 ^ 3 := by
      have : j ≤ 3 := by omega
      match j, this with
      | 0, _ => decide
      | 1, _ => decide
      | 2, _ => decide
      | 3, _ => decide
    have e3 : (100000000 : Int) ^ 3 = 1000000000000000000000000 := by decide
    have cm : cMul n 100000000 = true := cMul_of (show n.natAbs < 2 ^ 1000 from Nat.lt_of_lt_of_le (show n.natAbs < 2 ^ 100 by omega) (Nat.pow_le_pow_right (by omega) (by omega))) (Nat.lt_of_lt_of_le (show (100000000 : Int).natAbs < 2 ^ 100 by decide) (Nat.pow_le_pow_right (by omega) (by omega)))
    have nx : n * 100000000 + r < 100000000 ^ (j + 1) := by
      rw [Int.pow_succ]
      have : n * 100000000 ≤ (100000000 ^ j - 1) * 100000000 := Int.mul_le_mul_of_nonneg_right (by omega) (by omega)
      rw [Int.sub_mul] at this
      omega
    obtain ⟨n', kv', h', e4, g4, q1, q2⟩ := ih (j + 1) (m + 1) (n * 100000000 + r) way (some (.d x)) h2 g2 (by omega) (by omega) (by omega) nx
    refine ⟨n', kv', h', ?_, g4.up (by omega), q1, q2⟩
    rw [forL_cons, ← e4]
    unfold nbody gtN
    simp [cm, e]

theorem v_number {m : Int} {h : Hc} (g : BG m h) (hm : m < 2 ^ 50) : ∃ n h', F__law_p3_number [.ref 0] h = .ok (.int n) h' ∧ BG (m + 8) h' ∧ Bt 107 n := by
  obtain ⟨w, h1, e1, g1, w0, w1, _⟩ := v_draw (many := 4) g (by omega) (by omega) (by omega)
  have w1 := w1 (by omega)
  have ix : ∃ M : Int, atI [D.int 3, .int 100, .int 100000000, .int 100000000] w = some (.int M) ∧ 2 ≤ M ∧ M ≤ 100000000 := by
    have : w = 0 ∨ w = 1 ∨ w = 2 ∨ w = 3 := by omega
    rcases this with rfl | rfl | rfl | rfl
    · exact ⟨3, by simp [atI, ixN], by omega, by omega⟩
    · exact ⟨100, by simp [atI, ixN], by omega, by omega⟩
    · exact ⟨100000000, by simp [atI, ixN], by omega, by omega⟩
    · exact ⟨100000000, by simp [atI, ixN], by omega, by omega⟩
  obtain ⟨M, eM, M1, M2⟩ := ix
  obtain ⟨n, h2, e2, g2, n0, n1, _⟩ := v_draw (many := M) g1 (by omega) (by omega) (by omega)
  have n1 := n1 M1
  obtain ⟨k, h3, e3, g3, k0, k1, _⟩ := v_draw (many := 4) g2 (by omega) (by omega) (by omega)
  have k1 := k1 (by omega)
  have lenk : (rangeD 0 k.toNat).length = k.toNat := rangeD_len 0 k.toNat
  obtain ⟨n', kv', h4, e4, g4, q0, q1⟩ := num_loop (rangeD 0 k.toNat) 1 _ n (some (.d (.int w))) none h3 g3 (by omega) (by omega) n0 (by omega)
  have big : (100000000 : Int) ^ 4 = 100000000000000000000000000000000 := by decide
  have fin : ∀ {x : Int} {hx : Hc} {kv : Option Sl}, 0 ≤ x → x < 100000000 ^ 4 → BG (m + 7) hx → (mIfS (asB (m2 fGt (mVar 1) (mC (.int 1)))) (mForR (gtN 3) (maCons (mA1 (fCallN 2 F__law_draw []) (maCons (mVar 0) (maCons (mC (.int 4)) maNil))) maNil) nbody) mSkip) [some (.d (.ref 0)), some (.d (.int w)), some (.d (.int n)), none] h2 = .nx [some (.d (.ref 0)), some (.d (.int w)), some (.d (.int x)), kv] hx →
      ∃ n h', F__law_p3_number [.ref 0] h = .ok (.int n) h' ∧ BG (m + 8) h' ∧ Bt 107 n := fun {x hx kv} x0 x1 gx ex => by
    obtain ⟨s, h5, e5, g5, _⟩ := v_draw (many := 2) gx (by omega) (by omega) (by omega)
    have bx : Bt 107 x := show x.natAbs < 2 ^ 107 by omega
    have red : F__law_p3_number [.ref 0] h = .ok (.int (if s = 1 then -x else x)) h5 := by
      refine (fnOf_eq 4 1 m__law_p3_number [.ref 0] h rfl).trans ?_
      unfold m__law_p3_number
      unfold nbody at ex
      simp only [mSeq_eq]
      rw [show (mSet 1 (mA1 (fCallN 2 F__law_draw []) (maCons (mVar 0) (maCons (mC (.int 4)) maNil)))) (mkEnv 4 [.ref 0]) h = .nx [some (.d (.ref 0)), some (.d (.int w)), none, none] h1 by simp [e1], RS.seq_nx, mSeq_eq,
        show (mSet 2 (mA1 (fCallN 2 F__law_draw []) (maCons (mVar 0) (maCons (m2 fIx (mA1 (fLst false) (maCons (mC (.int 3)) (maCons (mC (.int 100)) (maCons (mC (.int 100000000)) (maCons (mC (.int 100000000)) maNil))))) (mVar 1)) maNil)))) [some (.d (.ref 0)), some (.d (.int w)), none, none] h1 = .nx [some (.d (.ref 0)), some (.d (.int w)), some (.d (.int n)), none] h2 by simp [eM, e2], RS.seq_nx, mSeq_eq, ex, RS.seq_nx]
      by_cases hs : s = 1 <;> simp [e5, hs]
    refine ⟨_, h5, red, g5.up (by omega), ?_⟩
    split
    · exact bx.neg
    · exact bx
  by_cases hw : 1 < w
  · refine fin q0 q1 (g4.up (by rw [lenk]; omega)) (kv := kv') ?_
    rw [mIfS_eq]
    have : (asB (m2 fGt (mVar 1) (mC (.int 1)))) [some (.d (.ref 0)), some (.d (.int w)), some (.d (.int n)), none] h2 = .ok true h2 := by simp [hw]
    rw [this, R.thenS_ok, pick_t]
    unfold mForR
    simp [e3, e4]
    omega
  · refine fin n0 (by omega) (g2.up (by omega)) (kv := none) ?_
    simp [hw]
end G01

set_option Elab.async false
set_option linter.all false
set_option maxRecDepth 100000
set_option maxHeartbeats 4000000
set_option exponentiation.threshold 2000
namespace G01
open PySem L2 Vi
@[simp] theorem w_int (i : Int) (h : Hc) : F_is_whole [.int i] h = .ok (.bl true) h := rfl
@[simp] theorem lw_int (i : Int) (h : Hc) : F__law_is_int [.int i] h = .ok (.bl true) h := rfl
@[simp] theorem isi_tup (xs : List D) (h : Hc) : fIsi g0 (.bt "tuple") (.d (.tup xs)) h = .ok (.d (.bl true)) h := rfl
theorem v_isf (a b : Int) (h : Hc) : F_is_fraction [frac a b] h = .ok (.bl (decide (1 ≤ b) && decide (gg a b = 1))) h := by
  refine (fnOf_eq 3 1 m_is_fraction [frac a b] h rfl).trans ?_
  unfold m_is_fraction
  by_cases h1 : 1 ≤ b <;> simp [h1]
theorem v_lfr {a b : Int} {h : Hc} (hb : b.natAbs < 2 ^ 900) : F__law_fraction [frac a b] h = .ok (.bl (decide (1 ≤ b) && decide (gg a b = 1))) h := by
  refine (fnOf_eq 1 1 m__law_fraction [frac a b] h rfl).trans ?_
  unfold m__law_fraction
  by_cases h1 : 1 ≤ b
  · have h2 : ¬ b < 1 := by omega
    simp [h1, h2, v_divisor hb]
  · have h2 : b < 1 := by omega
    simp [h1, h2]
theorem v_check {a b : Int} {h : Hc} (l : Low a b) : F_check_fraction [frac a b] h = .ok .non h := by
  refine (fnOf_eq 1 1 m_check_fraction [frac a b] h rfl).trans ?_
  unfold m_check_fraction
  have h1 : 1 ≤ b := by have := l.pos; omega
  have e := v_isf a b h
  rw [l.one] at e
  simp [e, h1]
theorem v_compare {a b c d : Int} {h : Hc} (o : Ok4 a b c d) (l1 : Low a b) (l2 : Low c d) : F_compare [frac a b, frac c d] h = .ok (.int (if a * d = c * b then 0 else if a * d < c * b then -1 else 1)) h := by
  refine (fnOf_eq 4 2 m_compare [frac a b, frac c d] h rfl).trans ?_
  unfold m_compare
  by_cases h1 : a * d = c * b <;> by_cases h2 : a * d < c * b <;> simp [v_check l1, v_check l2, o.m, h1, h2]

theorem gg_scale {x y k : Int} (hk : 0 < k) : gg (x * k) (y * k) = gg x y * k := by
  unfold gg
  rw [Int.natAbs_mul, Int.natAbs_mul, Nat.gcd_mul_right, Int.natCast_mul]
  congr 1
  omega
theorem low_scale {x y k : Int} (hk : 0 < k) : lowA (x * k) (y * k) = lowA x y ∧ lowB (x * k) (y * k) = lowB x y := by
  have e1 : x * k / gg (x * k) (y * k) = x / gg x y := by rw [gg_scale hk, Int.mul_ediv_mul_of_pos_left _ _ hk]
  have e2 : y * k / gg (x * k) (y * k) = y / gg x y := by rw [gg_scale hk, Int.mul_ediv_mul_of_pos_left _ _ hk]
  have e3 : (y * k < 0) ↔ (y < 0) := by
    constructor
    · intro h
      by_cases hy : 0 ≤ y
      · have := Int.mul_nonneg hy (by omega : 0 ≤ k)
        omega
      · omega
    · intro h
      exact Int.mul_neg_of_neg_of_pos h hk
  unfold lowA lowB
  rw [e1, e2]
  by_cases h : y < 0
  · rw [if_pos (e3.mpr h), if_pos h, if_pos (e3.mpr h), if_pos h]
    exact ⟨rfl, rfl⟩
  · have h' : ¬ y * k < 0 := fun z => h (e3.mp z)
    rw [if_neg h', if_neg h, if_neg h', if_neg h]
    exact ⟨rfl, rfl⟩
theorem v_plus {a b c d : Int} {h : Hc} (o : Ok4 a b c d) (hb : 0 < b) : F_plus [frac a b, frac c d] h = .ok (frac (lowA (a * d + c * b) (b * d)) (lowB (a * d + c * b) (b * d))) h := by
  refine (fnOf_eq 2 2 m_plus [frac a b, frac c d] h rfl).trans ?_
  unfold m_plus
  by_cases h1 : b = d
  · subst h1
    have sc := low_scale (x := a + c) (y := b) hb
    rw [Int.add_mul] at sc
    simp [v_lowest o.b0 (o.hb.sm (by omega)), sc]
  · simp [h1, o.m, v_lowest o.bd.1 (s8 o.bd.2)]
end G01

set_option Elab.async false
set_option linter.all false
set_option maxRecDepth 100000
set_option maxHeartbeats 4000000
set_option exponentiation.threshold 2000
namespace G01
open PySem L2 Vi
abbrev fr (p : Int × Int) : D := frac p.1 p.2
/-- one more -/
def addF (q p : Int × Int) : Int × Int := (lowA (q.1 * p.2 + p.1 * q.2) (q.2 * p.2), lowB (q.1 * p.2 + p.1 * q.2) (q.2 * p.2))
structure LowP (k : Nat) (p : Int × Int) : Prop where
  low : Low p.1 p.2
  a : Bt k p.1
  b : Bt k p.2
theorem low_of {a b : Int} (hb : b ≠ 0) : gg (lowA a b) (lowB a b) = 1 := by
  have g0 := gg_pos (a := a) hb
  have e1 : gg (a / gg a b * gg a b) (b / gg a b * gg a b) = gg (a / gg a b) (b / gg a b) * gg a b := gg_scale g0
  rw [Int.ediv_mul_cancel gg_dvd_l, Int.ediv_mul_cancel gg_dvd_r] at e1
  have e2 : gg (a / gg a b) (b / gg a b) = 1 := by
    have : 1 * gg a b = gg (a / gg a b) (b / gg a b) * gg a b := by rw [Int.one_mul]; exact e1
    exact (Int.eq_of_mul_eq_mul_right (by omega) this).symm
  unfold lowA lowB
  split
  · rw [gg_neg]
    exact e2
  · exact e2
theorem Low.of {a b : Int} (hb : b ≠ 0) : Low (G01.lowA a b) (G01.lowB a b) := ⟨lowB_pos hb, low_of hb⟩
theorem LowP.ok {j k : Nat} {q p : Int × Int} (l1 : LowP j q) (l2 : LowP k p) (hj : j ≤ 400) (hk : k ≤ 400) : Ok4 q.1 q.2 p.1 p.2 :=
  ⟨l1.a.up hj, l1.b.up hj, l2.a.up hk, l2.b.up hk, by have := l1.low.pos; omega, by have := l2.low.pos; omega⟩
theorem LowP.add {j k : Nat} {q p : Int × Int} (l1 : LowP j q) (l2 : LowP k p) : LowP (j + k + 1) (addF q p) := by
  have h0 : q.2 * p.2 ≠ 0 := Int.mul_ne_zero (by have := l1.low.pos; omega) (by have := l2.low.pos; omega)
  have s1 : Bt (j + k + 1) (q.1 * p.2 + p.1 * q.2) := Bt.add (l1.a.mul l2.b) (by
    have := l2.a.mul l1.b
    rwa [Nat.add_comm] at this)
  have s2 : Bt (j + k + 1) (q.2 * p.2) := (l1.b.mul l2.b).up (by omega)
  exact ⟨Low.of h0, Bt.lowA h0 s1, Bt.lowB h0 s2⟩
def cbody : MS := mDrop (mA1 (fCallN 1 F_check_fraction []) (maCons (mVar 1) maNil))
def pbody : MS := mSet 2 (mA1 (fCallN 2 F_plus []) (maCons (mVar 2) (maCons (mVar 1) maNil)))
theorem tot_chk (x0 : Option Sl) (r : Option Sl) (h : Hc) : ∀ (ps : List (Int × Int)) (pv : Option Sl), (∀ p ∈ ps, Low p.1 p.2) → ∃ pv', forL (gtN 1) cbody (ps.map fr) [x0, pv, r] h = .nx [x0, pv', r] h
  | [], pv, _ => ⟨pv, rfl⟩
  | p :: ps, pv, hl => by
    obtain ⟨pv', e⟩ := tot_chk x0 r h ps (some (.d (fr p))) fun z hz => hl z (List.mem_cons_of_mem _ hz)
    refine ⟨pv', ?_⟩
    rw [List.map_cons, forL_cons, ← e]
    unfold cbody gtN
    simp [v_check (hl p (List.mem_cons_self ..))]
theorem tot_sum (x0 : Option Sl) (h : Hc) : ∀ (ps : List (Int × Int)) (j : Nat) (q : Int × Int) (pv : Option Sl), (∀ p ∈ ps, LowP 110 p) → LowP j q → j + 111 * ps.length ≤ 460 → ∃ pv', forL (gtN 1) pbody (ps.map fr) [x0, pv, some (.d (fr q))] h = .nx [x0, pv', some (.d (fr (ps.foldl addF q)))] h
  | [], j, q, pv, _, _, _ => ⟨pv, rfl⟩
  | p :: ps, j, q, pv, hl, lq, hj => by
    simp only [List.length_cons] at hj
    have lp := hl p (List.mem_cons_self ..)
    obtain ⟨pv', e⟩ := tot_sum x0 h ps (j + 110 + 1) (addF q p) (some (.d (fr p))) (fun z hz => hl z (List.mem_cons_of_mem _ hz)) (lq.add lp) (by omega)
    refine ⟨pv', ?_⟩
    rw [List.map_cons, List.foldl_cons, forL_cons, ← e]
    have pl := v_plus (h := h) (lq.ok lp (by omega) (by omega)) lq.low.pos
    unfold pbody gtN addF
    simp [pl]
theorem v_total {ps : List (Int × Int)} {h : Hc} (hl : ∀ p ∈ ps, LowP 110 p) (hn : ps.length ≤ 4) (x : D) (hx : x = .lst (ps.map fr) ∨ x = .tup (ps.map fr)) : F_total [x] h = .ok (fr (ps.foldl addF (0, 1))) h := by
  have l0 : LowP 1 (0, 1) := ⟨⟨by decide, by decide⟩, by decide, by decide⟩
  obtain ⟨pv1, e1⟩ := tot_chk (some (.d x)) none h ps none fun p hp => (hl p hp).low
  obtain ⟨pv2, e2⟩ := tot_sum (some (.d x)) h ps 1 (0, 1) pv1 hl l0 (by omega)
  have sq : ∃ b, seqD? (.d x) = some (b, ps.map fr) := by
    rcases hx with rfl | rfl
    · exact ⟨true, rfl⟩
    · exact ⟨false, rfl⟩
  obtain ⟨b, sq⟩ := sq
  refine (fnOf_eq 3 1 m_total [x] h rfl).trans ?_
  unfold m_total
  unfold cbody at e1
  unfold pbody at e2
  have s1 : (mFor (gtN 1) (mVar 0) (mDrop (mA1 (fCallN 1 F_check_fraction []) (maCons (mVar 1) maNil)))) (mkEnv 3 [x]) h = .nx [some (.d x), pv1, none] h := by
    unfold mFor
    rw [show mVar 0 (mkEnv 3 [x]) h = .ok (.d x) h from rfl, R.thenS_ok, sq]
    exact e1
  rw [mSeq_eq, s1, RS.seq_nx, mSeq_eq, show (mSet 2 (mC d_ZERO)) [some (.d x), pv1, none] h = .nx [some (.d x), pv1, some (.d (fr (0, 1)))] h from rfl, RS.seq_nx, mSeq_eq]
  have s2 : (mFor (gtN 1) (mVar 0) (mSet 2 (mA1 (fCallN 2 F_plus []) (maCons (mVar 2) (maCons (mVar 1) maNil))))) [some (.d x), pv1, some (.d (fr (0, 1)))] h = .nx [some (.d x), pv2, some (.d (fr (ps.foldl addF (0, 1))))] h := by
    unfold mFor
    rw [show mVar 0 [some (.d x), pv1, some (.d (fr (0, 1)))] h = .ok (.d x) h from rfl, R.thenS_ok, sq]
    exact e2
  rw [s2]
  rfl
end G01

set_option Elab.async false
set_option linter.all false
set_option maxRecDepth 100000
set_option maxHeartbeats 4000000
set_option exponentiation.threshold 2000
namespace G01
open PySem L2 Vi
theorem atI_get {α : Type} {xs : List α} {i : Int} (h0 : 0 ≤ i) (h1 : i < xs.length) : ∃ x, atI xs i = some x ∧ x ∈ xs := by
  have hl : i.toNat < xs.length := by omega
  refine ⟨xs[i.toNat], ?_, List.getElem_mem hl⟩
  unfold atI ixN
  rw [if_pos h0, if_pos h1]
  show xs[i.toNat]? = _
  exact List.getElem?_eq_getElem hl
theorem v_pick {m : Int} {h : Hc} {xs : List D} (g : BG m h) (hm : m < 2 ^ 60) (h0 : 0 < xs.length) (h1 : xs.length < 2 ^ 60) : ∃ x h', F__law_pick [.ref 0, .lst xs] h = .ok x h' ∧ BG (m + 1) h' ∧ x ∈ xs := by
  obtain ⟨r, h2, e, g2, r0, r1, r2⟩ := v_draw (many := xs.length) g hm (by omega) (by omega)
  have r3 : r < xs.length := by
    by_cases h2 : (xs.length : Int) < 2
    · have := r2 h2
      omega
    · exact r1 (by omega)
  obtain ⟨x, ex, hx⟩ := atI_get r0 r3
  refine ⟨x, h2, ?_, g2, hx⟩
  refine (fnOf_eq 2 2 m__law_pick [.ref 0, .lst xs] h rfl).trans ?_
  unfold m__law_pick
  simp [e, ex]
theorem v_share {m : Int} {h : Hc} (g : BG m h) (hm : m < 2 ^ 50) : ∃ a b h', F__law_share [.ref 0] h = .ok (frac a b) h' ∧ BG (m + 4) h' ∧ Low a b ∧ Bt 20 a ∧ Bt 20 b := by
  obtain ⟨r1, h1, e1, g1, p1, q1, _⟩ := v_draw (many := 6) g (by omega) (by omega) (by omega)
  have q1 := q1 (by omega)
  obtain ⟨r2, h2, e2, g2, p2, q2, _⟩ := v_draw (many := 11) g1 (by omega) (by omega) (by omega)
  have fin : ∀ {z : Int} {hx : Hc}, 1 ≤ z → z ≤ 1000 → BG (m + 3) hx → (∃ e : Unit, (mIfS (asB (m2 (fEq false) (mA1 (fCallN 2 F__law_draw []) (maCons (mVar 0) (maCons (mC (.int 11)) maNil))) (mC (.int 5)))) (mSet 1 (m2 (fAdd false) (mC (.int 1)) (mA1 (fCallN 2 F__law_draw []) (maCons (mVar 0) (maCons (mC (.int 997)) maNil))))) mSkip) [some (.d (.ref 0)), some (.d (.int (1 + r1)))] h1 = .nx [some (.d (.ref 0)), some (.d (.int z))] hx) →
      ∃ a b h', F__law_share [.ref 0] h = .ok (frac a b) h' ∧ BG (m + 4) h' ∧ Low a b ∧ Bt 20 a ∧ Bt 20 b := fun {z hx} z1 z2 gx ⟨_, ex⟩ => by
    obtain ⟨r3, h3, e3, g3, p3, q3, _⟩ := v_draw (many := z + 1) gx (by omega) (by omega) (by omega)
    have q3 := q3 (by omega)
    have z0 : z ≠ 0 := by omega
    have bz : Bt 20 z := show z.natAbs < 2 ^ 20 by omega
    have br : Bt 20 r3 := show r3.natAbs < 2 ^ 20 by omega
    refine ⟨lowA r3 z, lowB r3 z, h3, ?_, g3.up (by omega), Low.of z0, Bt.lowA z0 br, Bt.lowB z0 bz⟩
    refine (fnOf_eq 2 1 m__law_share [.ref 0] h rfl).trans ?_
    unfold m__law_share
    rw [mSeq_eq, show (mSet 1 (m2 (fAdd false) (mC (.int 1)) (mA1 (fCallN 2 F__law_draw []) (maCons (mVar 0) (maCons (mC (.int 6)) maNil))))) (mkEnv 2 [.ref 0]) h = .nx [some (.d (.ref 0)), some (.d (.int (1 + r1)))] h1 by simp [e1], RS.seq_nx, mSeq_eq, ex, RS.seq_nx]
    simp [e3, v_low z0 (bz.up (by omega))]
  by_cases h5 : r2 = 5
  · obtain ⟨r4, h4, e4, g4, p4, q4, _⟩ := v_draw (many := 997) g2 (by omega) (by omega) (by omega)
    have q4 := q4 (by omega)
    exact fin (z := 1 + r4) (by omega) (by omega) (g4.up (by omega)) ⟨(), by simp [e2, h5, e4]⟩
  · exact fin (z := 1 + r1) (by omega) (by omega) (g2.up (by omega)) ⟨(), by simp [e2, h5]⟩
end G01

set_option Elab.async false
set_option linter.all false
set_option maxRecDepth 100000
set_option maxHeartbeats 4000000
set_option exponentiation.threshold 2000
namespace G01
open PySem L2 Vi
/-- a thing that is no fraction: both sides say so, and it may be shown -/
structure Bad (t : D) : Prop where
  isf : ∀ h, F_is_fraction [t] h = .ok (.bl false) h
  lfr : ∀ h, F__law_fraction [t] h = .ok (.bl false) h
  shw : shwB (toP (.lst [t])) = true
  dt : dat t = true
/-- the error that it gives -/
abbrev err (t : D) : D := .obj 1 [("class_name", .str "BadFraction"), ("value", t)]
theorem Bad.check {t : D} (b : Bad t) (h : Hc) : F_check_fraction [t] h = .exc (err t) h := by
  refine (fnOf_eq 1 1 m_check_fraction [t] h rfl).trans ?_
  unfold m_check_fraction
  simp [b.isf, mRaise, mkE]
theorem good_check {p : Int × Int} (l : Low p.1 p.2) (h : Hc) : F_check_fraction [fr p] h = .ok .non h := v_check l
theorem non_check (h : Hc) : F_check_fraction [.non] h = .exc (err .non) h := rfl
theorem odd_check (h : Hc) : F_check_fraction [.str "odd"] h = .exc (err (.str "odd")) h := rfl
/-- compare stops at the first one that is none -/
theorem cmp_1 {t u : D} {h : Hc} (b : Bad t) : F_compare [t, u] h = .exc (err t) h := by
  refine (fnOf_eq 4 2 m_compare [t, u] h rfl).trans ?_
  unfold m_compare
  simp [b.check]
theorem cmp_2 {p : Int × Int} {t : D} {h : Hc} (l : Low p.1 p.2) (b : Bad t) : F_compare [fr p, t] h = .exc (err t) h := by
  refine (fnOf_eq 4 2 m_compare [fr p, t] h rfl).trans ?_
  unfold m_compare
  simp [b.check, v_check l]
theorem cmp_3 {p : Int × Int} {h : Hc} (l : Low p.1 p.2) : F_compare [fr p, .non] h = .exc (err .non) h := by
  refine (fnOf_eq 4 2 m_compare [fr p, .non] h rfl).trans ?_
  unfold m_compare
  simp [non_check, v_check l]
/-- total stops at the first one that is none -/
theorem tot_stop {x0 r : Option Sl} {h : Hc} {t : D} (e : F_check_fraction [t] h = .exc (err t) h) (rest : List D) : ∀ (ps : List (Int × Int)) (pv : Option Sl), (∀ p ∈ ps, Low p.1 p.2) → ∃ pv', forL (gtN 1) cbody (ps.map fr ++ t :: rest) [x0, pv, r] h = .exc [x0, pv', r] (err t) h
  | [], pv, _ => by
    refine ⟨some (.d t), ?_⟩
    rw [List.map_nil, List.nil_append, forL_cons]
    unfold cbody gtN
    simp [e]
  | p :: ps, pv, hl => by
    obtain ⟨pv', e2⟩ := tot_stop e rest ps (some (.d (fr p))) fun z hz => hl z (List.mem_cons_of_mem _ hz)
    refine ⟨pv', ?_⟩
    rw [List.map_cons, List.cons_append, forL_cons, ← e2]
    unfold cbody gtN
    simp [v_check (hl p (List.mem_cons_self ..))]
theorem tot_bad {h : Hc} {t : D} (e : F_check_fraction [t] h = .exc (err t) h) (rest : List D) (ps : List (Int × Int)) (hl : ∀ p ∈ ps, Low p.1 p.2) (x : D) (hx : x = .lst (ps.map fr ++ t :: rest) ∨ x = .tup (ps.map fr ++ t :: rest)) : F_total [x] h = .exc (err t) h := by
  obtain ⟨pv', e1⟩ := tot_stop (x0 := some (.d x)) (r := none) e rest ps none hl
  have sq : ∃ b, seqD? (.d x) = some (b, ps.map fr ++ t :: rest) := by
    rcases hx with rfl | rfl
    · exact ⟨true, rfl⟩
    · exact ⟨false, rfl⟩
  obtain ⟨b, sq⟩ := sq
  refine (fnOf_eq 3 1 m_total [x] h rfl).trans ?_
  unfold m_total
  unfold cbody at e1
  have s1 : (mFor (gtN 1) (mVar 0) (mDrop (mA1 (fCallN 1 F_check_fraction []) (maCons (mVar 1) maNil)))) (mkEnv 3 [x]) h = .exc [some (.d x), pv', none] (err t) h := by
    unfold mFor
    rw [show mVar 0 (mkEnv 3 [x]) h = .ok (.d x) h from rfl, R.thenS_ok, sq]
    exact e1
  rw [mSeq_eq, s1]
  rfl
end G01

set_option Elab.async false
set_option linter.all false
set_option maxRecDepth 100000
set_option maxHeartbeats 4000000
set_option exponentiation.threshold 2000
namespace Vi
def RS.tryK (r : RS) (i : Nat) (cat : Nat → Option Bool) (ms : MS) : RS := match r with
  | .exc env' (.obj c fs) h' => (match cat c with
    | some true => if noX (env'.set i none) && decide (i < env'.length) then unX i (ms (env'.set i (some (.xc c fs))) h') else .stuck
    | some false => .exc env' (.obj c fs) h'
    | none => .stuck)
  | .exc _ _ _ => .stuck
  | r => r
theorem mTry_eq (i : Nat) (cat : Nat → Option Bool) (mb ms : MS) (env : Env) (h : Hc) : mTry i cat mb ms env h = (mb env h).tryK i cat ms := by
  unfold mTry RS.tryK
  cases mb env h <;> rfl
@[simp] theorem RS.tryK_nx (e : Env) (h : Hc) (i : Nat) (cat : Nat → Option Bool) (ms : MS) : (RS.nx e h).tryK i cat ms = .nx e h := rfl
@[simp] theorem RS.tryK_ret (d : D) (h : Hc) (i : Nat) (cat : Nat → Option Bool) (ms : MS) : (RS.ret d h).tryK i cat ms = .ret d h := rfl
end Vi
namespace G01
open PySem L2 Vi
def sute : MS := mSeq (mSet 4 (mOr (mIsX g0 xsB (.own 3) 3) (mOr (mIsX g0 xsB (.own 2) 3) (mIsX g0 xsB (.own 4) 3)))) (mIfS (tAndM (asB (mIsX g0 xsB (.own 1) 3)) (tAndM (asB (mIsX g0 xsB (.bt "ValueError") 3)) (tNotM (asB (mVar 4))))) (mRet (mA1 (fLst false) (maCons (mXf xsB xnB "value" 3) maNil))) mSkip)
theorem v_sute (w t p : D) (u : D) (h : Hc) : (RS.exc [some (.d w), some (.d t), some (.d p), none, none] (err u) h).tryK 3 cat_LotError sute = .ret (.lst [u]) h := rfl
theorem v_of_bad {t : D} (b : Bad t) (env : Vi.Env) (h : Hc) (e1 : env[1]? = some (some (.d t))) : mCMet 5 1 F_Ratio_of [] (mC (.cls 5)) (maCons (mVar 1) maNil) env h = .exc (err t) h := by
  have e : F_Ratio_of [.cls 5, t] h = .exc (err t) h := by
    refine (fnOf_eq 2 2 m_Ratio_of [.cls 5, t] h rfl).trans ?_
    unfold m_Ratio_of
    simp [b.check]
  unfold mCMet
  simp [mVar_d 1 env h _ e1, e]
theorem v_of_good {p : Int × Int} {k : Nat} (l : LowP k p) (hk : k ≤ 400) (h : Hc) : F_Ratio_of [.cls 5, fr p] h = .ok (rat p.1 p.2) h := by
  refine (fnOf_eq 2 2 m_Ratio_of [.cls 5, fr p] h rfl).trans ?_
  unfold m_Ratio_of
  have hp := l.low.pos
  have mk := v_make (a := p.1) (b := p.2) (h := h) (by omega) (l.b.sm (by omega))
  rw [l.low.a, l.low.b] at mk
  simp [v_check l.low, mMakeL, mk]
abbrev envR (w : Int) (t : D) (p : Int × Int) : Vi.Env := [some (.d (.int w)), some (.d t), some (.d (fr p)), none, none]
theorem ref_bad {w : Int} {t : D} {p : Int × Int} {k : Nat} {h : Hc} (b : Bad t) (l : LowP k p) (hk : k ≤ 400) (h0 : 0 ≤ w) (h1 : w < 6) : F__law_p3_refused [.int w, t, fr p] h = .ok (.lst [t]) h := by
  refine (fnOf_eq 5 3 m__law_p3_refused [.int w, t, fr p] h rfl).trans ?_
  unfold m__law_p3_refused
  have cases6 : w = 0 ∨ w = 1 ∨ w = 2 ∨ w = 3 ∨ w = 4 ∨ w = 5 := by omega
  have st := v_sute (.int w) t (fr p) t h
  unfold sute at st
  have t4 := tot_bad (h := h) (b.check h) [.non] [p] (fun z hz => by rcases List.mem_cons.mp hz with rfl | hz; exact l.low; cases hz) _ (.inl rfl)
  have t5 := tot_bad (h := h) (b.check h) [fr p, .str "odd"] [] (fun z hz => by cases hz) _ (.inr rfl)
  have go : ∀ (body : MS), body (envR w t p) h = .exc (envR w t p) (err t) h → ((mSeq (mTry 3 cat_LotError body (mSeq (mSet 4 (mOr (mIsX g0 xsB (.own 3) 3) (mOr (mIsX g0 xsB (.own 2) 3) (mIsX g0 xsB (.own 4) 3)))) (mIfS (tAndM (asB (mIsX g0 xsB (.own 1) 3)) (tAndM (asB (mIsX g0 xsB (.bt "ValueError") 3)) (tNotM (asB (mVar 4))))) (mRet (mA1 (fLst false) (maCons (mXf xsB xnB "value" 3) maNil))) mSkip))) (mRet (mA1 (fLst false) maNil))) (mkEnv 5 [.int w, t, fr p]) h).fin = .ok (.lst [t]) h := fun body e => by
    rw [mSeq_eq, mTry_eq]
    have e : body (mkEnv 5 [.int w, t, fr p]) h = .exc (envR w t p) (err t) h := e
    rw [e, st]
    rfl
  refine go _ ?_
  rcases cases6 with rfl | rfl | rfl | rfl | rfl | rfl
  · have e := v_of_bad b (envR 0 t p) h rfl
    simp [e]
  · simp [cmp_1 b]
  · simp [cmp_2 l.low b]
  · simp [cmp_1 b]
  · simp only [List.map_cons, List.map_nil, List.cons_append, List.nil_append] at t4
    simp [t4]
  · simp only [List.map_nil, List.nil_append] at t5
    simp [t5]
end G01

set_option Elab.async false
set_option linter.all false
set_option maxRecDepth 100000
set_option maxHeartbeats 4000000
set_option exponentiation.threshold 2000
namespace G01
open PySem L2 Vi
/-- the body of the try, and what is behind it -/
def rest13 (body : MS) : MS := mSeq (mTry 3 cat_LotError body sute) (mRet (mA1 (fLst false) maNil))
theorem ref_exc {w : Int} {t u : D} {p : Int × Int} {h : Hc} (body : MS) (e : body (envR w t p) h = .exc (envR w t p) (err u) h) : (rest13 body (envR w t p) h).fin = .ok (.lst [u]) h := by
  unfold rest13
  rw [mSeq_eq, mTry_eq, e, v_sute]
  rfl
theorem ref_nx {w : Int} {t : D} {p : Int × Int} {h : Hc} (body : MS) (e : body (envR w t p) h = .nx (envR w t p) h) : (rest13 body (envR w t p) h).fin = .ok (.lst []) h := by
  unfold rest13
  rw [mSeq_eq, mTry_eq, e]
  rfl
theorem low0 {b : Int} (hb : 0 < b) : lowA 0 b = 0 := by
  unfold lowA
  rw [if_neg (by omega), Int.zero_ediv]
theorem make0 (a : Int) (h : Hc) : fMake 5 2 FI_Ratio_xinitx [] [.d (.int a), .d (.int 0)] h = .exc (err (.int 0)) h := by
  unfold fMake
  simp [v_init0]
theorem over0 {a b d : Int} {h : Hc} (ha : Bt 400 a) (hd : Bt 400 d) (hb : Bt 400 b) : F_Ratio_over [rat a b, rat 0 d] h = .exc (err (.int 0)) h := by
  refine (fnOf_eq 2 2 m_Ratio_over [rat a b, rat 0 d] h rfl).trans ?_
  unfold m_Ratio_over
  have c1 := ha.cm hd (by omega) (by omega)
  have c2 : cMul b 0 = true := hb.cm (show Bt 1 0 by decide) (by omega) (by omega)
  simp [c1, c2, make0]
theorem ref_6 {t : D} {p : Int × Int} {h : Hc} : F__law_p3_refused [.int 6, t, fr p] h = .ok (.lst [.int 0]) h := by
  refine (fnOf_eq 5 3 m__law_p3_refused [.int 6, t, fr p] h rfl).trans ?_
  refine ref_exc _ ?_
  simp [make0]
theorem ref_7 {t : D} {p : Int × Int} {k : Nat} {h : Hc} (l : LowP k p) (hk : k ≤ 400) : F__law_p3_refused [.int 7, t, fr p] h = .ok (.lst [.int 0]) h := by
  refine (fnOf_eq 5 3 m__law_p3_refused [.int 7, t, fr p] h rfl).trans ?_
  refine ref_exc _ ?_
  have hp := l.low.pos
  have m1 := v_make (a := p.1) (b := p.2) (h := h) (by omega) (l.b.sm (by omega))
  rw [l.low.a, l.low.b] at m1
  have m2' := v_make (a := 0) (b := p.2) (h := h) (by omega) (l.b.sm (by omega))
  rw [low0 hp] at m2'
  have ov := over0 (h := h) (a := p.1) (b := p.2) (d := lowB 0 p.2) (l.a.up hk) (Bt.lowB (by omega) (l.b.up hk)) (l.b.up hk)
  simp only [mIfS_eq, mDrop, mMeth_eq]
  simp [m1, m2', ins_rat, no_over, fMeth, ov]
theorem ref_good {w : Int} {q p : Int × Int} {j k : Nat} {h : Hc} (lq : LowP j q) (l : LowP k p) (hj : j ≤ 110) (hk : k ≤ 110) : F__law_p3_refused [.int 0, fr q, fr p] h = .ok (.lst []) h ∧ F__law_p3_refused [.int 1, fr q, fr p] h = .ok (.lst []) h ∧
    F__law_p3_refused [.int 2, fr q, fr p] h = .ok (.lst []) h ∧ F__law_p3_refused [.int 3, fr q, fr p] h = .ok (.lst [.non]) h ∧ F__law_p3_refused [.int 4, fr q, fr p] h = .ok (.lst [.non]) h ∧ F__law_p3_refused [.int 5, fr q, fr p] h = .ok (.lst [.str "odd"]) h := by
  have o := lq.ok l (by omega) (by omega)
  have o2 := l.ok lq (by omega) (by omega)
  refine ⟨?_, ?_, ?_, ?_, ?_, ?_⟩
  · refine (fnOf_eq 5 3 m__law_p3_refused [.int 0, fr q, fr p] h rfl).trans (ref_nx _ ?_)
    have e := v_of_good lq (by omega) h
    simp [mCMet, e]
  · refine (fnOf_eq 5 3 m__law_p3_refused [.int 1, fr q, fr p] h rfl).trans (ref_nx _ ?_)
    simp [v_compare o lq.low l.low]
  · refine (fnOf_eq 5 3 m__law_p3_refused [.int 2, fr q, fr p] h rfl).trans (ref_nx _ ?_)
    simp [v_compare o2 l.low lq.low]
  · refine (fnOf_eq 5 3 m__law_p3_refused [.int 3, fr q, fr p] h rfl).trans (ref_exc _ ?_)
    simp [cmp_3 lq.low]
  · have e := tot_bad (h := h) (non_check h) [] [p, q] (fun z hz => by
      rcases List.mem_cons.mp hz with rfl | hz
      · exact l.low
      · rcases List.mem_cons.mp hz with rfl | hz
        · exact lq.low
        · cases hz) _ (.inl rfl)
    simp only [List.map_cons, List.map_nil, List.cons_append, List.nil_append] at e
    refine (fnOf_eq 5 3 m__law_p3_refused [.int 4, fr q, fr p] h rfl).trans (ref_exc _ ?_)
    simp [e]
  · have e := tot_bad (h := h) (odd_check h) [] [q, p] (fun z hz => by
      rcases List.mem_cons.mp hz with rfl | hz
      · exact lq.low
      · rcases List.mem_cons.mp hz with rfl | hz
        · exact l.low
        · cases hz) _ (.inr rfl)
    simp only [List.map_cons, List.map_nil, List.cons_append, List.nil_append] at e
    refine (fnOf_eq 5 3 m__law_p3_refused [.int 5, fr q, fr p] h rfl).trans (ref_exc _ ?_)
    simp [e]
end G01

set_option Elab.async false
set_option linter.all false
set_option maxRecDepth 100000
set_option maxHeartbeats 4000000
set_option exponentiation.threshold 2000
namespace G01
open PySem L2 Vi
theorem shw_b2 (x y : Bool) : shwB (toP (.lst [.bl x, .bl y])) = true := by
  show shwB (.list [.bool x, .bool y]) = true
  refine shw_of ?_ ?_ ?_ ?_ <;> simp [PyData.showable, PyData.showableAll, PyData.depth, PyData.depthAll, PyData.leavesShort, PyData.leavesShortAll, PyData.weight, PyData.weightAll]
theorem repr_of {t : D} (h1 : dat t = true) (h2 : shwB (toP t) = true) (h : Hc) : fRepr [.d t] h = .ok (.d (.str (toP t).shown)) h := by
  unfold fRepr
  have e : (Vl.d t).dat? = some t := by
    show (if dat t then some t else none) = _
    rw [if_pos h1]
  simp only [e, h2, if_true]
theorem repr_b2 (x y : Bool) (h : Hc) : fRepr [.d (.lst [.bl x, .bl y])] h = .ok (.d (.str (toP (.lst [.bl x, .bl y])).shown)) h := repr_of rfl (shw_b2 x y) h
theorem share_good {p : Int × Int} {h : Hc} (l : Low p.1 p.2) : F_is_share [fr p] h = .ok (.bl (decide (0 ≤ p.1) && decide (p.1 ≤ p.2))) h := by
  refine (fnOf_eq 1 1 m_is_share [fr p] h rfl).trans ?_
  unfold m_is_share
  have e := v_isf p.1 p.2 h
  have h1 : 1 ≤ p.2 := by have := l.pos; omega
  rw [l.one] at e
  by_cases h2 : 0 ≤ p.1 <;> simp [e, h1, h2, mChain]
theorem share_bad {t : D} {h : Hc} (b : Bad t) : F_is_share [t] h = .ok (.bl false) h := by
  refine (fnOf_eq 1 1 m_is_share [t] h rfl).trans ?_
  unfold m_is_share
  simp [b.isf]

def body14 : MS := mSeq (mSet 5 (m2 fIx (mVar 3) (mVar 4))) (mSeq (mIfS (tAndM (tNotM (asB (mVar 2))) (asB (m2 fLt (mVar 4) (mC (.int 6))))) (mSet 5 (mA1 (fLst false) (maCons (mVar 0) maNil))) mSkip) (mIfS (asB (m2 (fEq true) (mA1 fRepr (maCons (mA1 (fCallN 3 F__law_p3_refused []) (maCons (mVar 4) (maCons (mVar 0) (maCons (mVar 1) maNil)))) maNil)) (mA1 fRepr (maCons (mVar 5) maNil)))) (mRet (mC (.bl false))) mSkip))
abbrev dues : List D := [.lst [], .lst [], .lst [], .lst [.non], .lst [.non], .lst [.str "odd"], .lst [.int 0], .lst [.int 0]]
abbrev env14 (t : D) (p : Int × Int) (good : Bool) (w v : Option Sl) : Vi.Env := [some (.d t), some (.d (fr p)), some (.d (.bl good)), some (.d (.lst dues)), w, v]
theorem turn14 {t : D} {p : Int × Int} {good : Bool} {w : Int} {v : Option Sl} {X Y : List D} {h : Hc} (hY : atI dues w = some (.lst Y)) (hX : X = if (!good && decide (w < 6)) then [t] else Y)
    (e : F__law_p3_refused [.int w, t, fr p] h = .ok (.lst X) h) (h1 : dat (.lst X) = true) (h2 : shwB (toP (.lst X)) = true) : body14 (env14 t p good (some (.d (.int w))) v) h = .nx (env14 t p good (some (.d (.int w))) (some (.d (.lst X)))) h := by
  have rp := repr_of h1 h2 h
  unfold body14
  cases good with
  | true =>
    have hX : X = Y := hX
    subst hX
    simp [hY, e, rp, eq_str]
  | false =>
    by_cases hw : w < 6
    · have hX : X = [t] := by rw [hX]; simp [hw]
      subst hX
      simp [hY, e, rp, eq_str, hw]
    · have hX : X = Y := by rw [hX]; simp [hw]
      subst hX
      simp [hY, e, rp, eq_str, hw]
theorem loop14 {t : D} {p : Int × Int} {good : Bool} {h : Hc} (R : Int → List D) (hall : ∀ w, 0 ≤ w → w < 8 → F__law_p3_refused [.int w, t, fr p] h = .ok (.lst (R w)) h ∧ dat (.lst (R w)) = true ∧ shwB (toP (.lst (R w))) = true ∧ ∃ Y, atI dues w = some (.lst Y) ∧ R w = if (!good && decide (w < 6)) then [t] else Y) :
    ∀ (ws : List Int) (a v : Option Sl), (∀ w ∈ ws, 0 ≤ w ∧ w < 8) → ∃ a' v', forL (gtN 4) body14 (ws.map D.int) (env14 t p good a v) h = .nx (env14 t p good a' v') h
  | [], a, v, _ => ⟨a, v, rfl⟩
  | w :: ws, a, v, hw => by
    obtain ⟨w0, w1⟩ := hw w (List.mem_cons_self ..)
    obtain ⟨e, d1, d2, Y, hY, hX⟩ := hall w w0 w1
    obtain ⟨a', v', e2⟩ := loop14 R hall ws (some (.d (.int w))) (some (.d (.lst (R w)))) fun z hz => hw z (List.mem_cons_of_mem _ hz)
    refine ⟨a', v', ?_⟩
    rw [List.map_cons, forL_cons]
    have g1 : gtN 4 (.int w) (env14 t p good a v) = some (env14 t p good (some (.d (.int w))) v) := rfl
    rw [g1]
    show (body14 (env14 t p good (some (.d (.int w))) v) h).again _ = _
    rw [turn14 hY hX e d1 d2, RS.again_nx, e2]
theorem range8 : rangeD 0 8 = ([0, 1, 2, 3, 4, 5, 6, 7] : List Int).map D.int := rfl
theorem tail14 {t : D} {p : Int × Int} {good : Bool} {h : Hc} (R : Int → List D) (hall : ∀ w, 0 ≤ w → w < 8 → F__law_p3_refused [.int w, t, fr p] h = .ok (.lst (R w)) h ∧ dat (.lst (R w)) = true ∧ shwB (toP (.lst (R w))) = true ∧ ∃ Y, atI dues w = some (.lst Y) ∧ R w = if (!good && decide (w < 6)) then [t] else Y) :
    ((mSeq (mForR (gtN 4) (maCons (mC (.int 8)) maNil) body14) (mRet (mC (.bl true)))) (env14 t p good none none) h).fin = .ok (.bl true) h := by
  obtain ⟨a', v', e⟩ := loop14 R hall [0, 1, 2, 3, 4, 5, 6, 7] none none (fun w hw => by
    simp only [List.mem_cons, List.not_mem_nil, or_false] at hw
    omega)
  rw [← range8] at e
  rw [mSeq_eq]
  have e2 : mForR (gtN 4) (maCons (mC (.int 8)) maNil) body14 (env14 t p good none none) h = .nx (env14 t p good a' v') h := by
    unfold mForR
    rw [show maCons (mC (.int 8)) maNil (env14 t p good none none) h = .ok [.d (.int 8)] h from rfl, Vi.R.thenS_ok]
    exact e
  rw [e2]
  rfl

def due8 (t : D) (good : Bool) (w : Int) : List D := if (!good && decide (w < 6)) then [t] else if w < 3 then [] else if w < 5 then [.non] else if w < 6 then [.str "odd"] else [.int 0]
theorem due_at (t : D) (good : Bool) {w : Int} (h0 : 0 ≤ w) (h1 : w < 8) : ∃ Y, atI dues w = some (.lst Y) ∧ due8 t good w = if (!good && decide (w < 6)) then [t] else Y := by
  have : w = 0 ∨ w = 1 ∨ w = 2 ∨ w = 3 ∨ w = 4 ∨ w = 5 ∨ w = 6 ∨ w = 7 := by omega
  rcases this with rfl | rfl | rfl | rfl | rfl | rfl | rfl | rfl <;> exact ⟨_, by simp [atI, ixN]; rfl, by simp [due8]⟩
theorem shw_i0 : shwB (toP (.lst [.int 0])) = true := by decide +kernel
theorem shw_n0 : shwB (toP (.lst [.non])) = true := by decide +kernel
theorem shw_o0 : shwB (toP (.lst [.str "odd"])) = true := by decide +kernel
theorem shw_e0 : shwB (toP (.lst [])) = true := by decide +kernel
theorem v_refusals_bad {t : D} {p : Int × Int} {k : Nat} {h : Hc} (b : Bad t) (l : LowP k p) (hk : k ≤ 110) : F__law_p3_refusals [t, fr p] h = .ok (.bl true) h := by
  refine (fnOf_eq 6 2 m__law_p3_refusals [t, fr p] h rfl).trans ?_
  unfold m__law_p3_refusals
  have tl := tail14 (t := t) (p := p) (good := false) (h := h) (due8 t false) fun w h0 h1 => by
    refine ⟨?_, ?_, ?_, due_at t false h0 h1⟩
    · by_cases hw : w < 6
      · have e : due8 t false w = [t] := by simp [due8, hw]
        rw [e]
        exact ref_bad b l (by omega) h0 hw
      · have e : due8 t false w = [.int 0] := by
          have h3 : ¬ w < 3 := by omega
          have h5 : ¬ w < 5 := by omega
          simp [due8, hw, h3, h5]
        rw [e]
        have : w = 6 ∨ w = 7 := by omega
        rcases this with rfl | rfl
        · exact ref_6
        · exact ref_7 l (by omega)
    · by_cases hw : w < 6
      · have e : due8 t false w = [t] := by simp [due8, hw]
        rw [e]
        show (dat t && dats []) = true
        rw [b.dt]
        rfl
      · have h3 : ¬ w < 3 := by omega
        have h5 : ¬ w < 5 := by omega
        simp [due8, hw, h3, h5, dat, dats]
    · by_cases hw : w < 6
      · have e : due8 t false w = [t] := by simp [due8, hw]
        rw [e]
        exact b.shw
      · have h3 : ¬ w < 3 := by omega
        have h5 : ¬ w < 5 := by omega
        have e : due8 t false w = [.int 0] := by simp [due8, hw, h3, h5]
        rw [e]
        exact shw_i0
  unfold body14 at tl
  rw [mSeq_eq, show (mSet 2 (mA1 (fCallN 1 F__law_fraction []) (maCons (mVar 0) maNil))) (mkEnv 6 [t, fr p]) h = .nx [some (.d t), some (.d (fr p)), some (.d (.bl false)), none, none, none] h by simp [b.lfr], RS.seq_nx, mSeq_eq]
  have e1 : (mIfS (asB (m2 (fEq true) (mA1 fRepr (maCons (mA1 (fLst false) (maCons (mA1 (fCallN 1 F_is_fraction []) (maCons (mVar 0) maNil)) (maCons (mA1 (fCallN 1 F_is_share []) (maCons (mVar 0) maNil)) maNil))) maNil)) (mA1 fRepr (maCons (mA1 (fLst false) (maCons (mVar 2) (maCons (mAnd (mVar 2) (mChain fLe fLe (mC (.int 0)) (m2 fIx (mVar 0) (mC (.int 0))) (m2 fIx (mVar 0) (mC (.int 1))))) maNil))) maNil)))) (mRet (mC (.bl false))) mSkip) [some (.d t), some (.d (fr p)), some (.d (.bl false)), none, none, none] h = .nx [some (.d t), some (.d (fr p)), some (.d (.bl false)), none, none, none] h := by
    simp [b.isf, share_bad b, repr_b2, eq_str]
  rw [e1, RS.seq_nx, mSeq_eq]
  have e2 : (mIfS (tAndM (asB (mVar 2)) (tNotM (asB (mA1 (fCallN 2 F__law_p3_is []) (maCons (mCMet 5 1 F_Ratio_of [] (mC (.cls 5)) (maCons (mVar 0) maNil)) (maCons (mVar 0) maNil)))))) (mRet (mC (.bl false))) mSkip) [some (.d t), some (.d (fr p)), some (.d (.bl false)), none, none, none] h = .nx [some (.d t), some (.d (fr p)), some (.d (.bl false)), none, none, none] h := by simp
  rw [e2, RS.seq_nx, mSeq_eq]
  exact tl

theorem v_refusals_good {q p : Int × Int} {j k : Nat} {h : Hc} (lq : LowP j q) (l : LowP k p) (hj : j ≤ 110) (hk : k ≤ 110) : F__law_p3_refusals [fr q, fr p] h = .ok (.bl true) h := by
  refine (fnOf_eq 6 2 m__law_p3_refusals [fr q, fr p] h rfl).trans ?_
  unfold m__law_p3_refusals
  obtain ⟨r0, r1, r2, r3, r4, r5⟩ := ref_good (w := 0) (h := h) lq l hj hk
  have tl := tail14 (t := fr q) (p := p) (good := true) (h := h) (due8 (fr q) true) fun w h0 h1 => by
    have : w = 0 ∨ w = 1 ∨ w = 2 ∨ w = 3 ∨ w = 4 ∨ w = 5 ∨ w = 6 ∨ w = 7 := by omega
    have da := due_at (fr q) true h0 h1
    rcases this with rfl | rfl | rfl | rfl | rfl | rfl | rfl | rfl
    · exact ⟨r0, rfl, shw_e0, da⟩
    · exact ⟨r1, rfl, shw_e0, da⟩
    · exact ⟨r2, rfl, shw_e0, da⟩
    · exact ⟨r3, rfl, shw_n0, da⟩
    · exact ⟨r4, rfl, shw_n0, da⟩
    · exact ⟨r5, rfl, shw_o0, da⟩
    · exact ⟨ref_6, rfl, shw_i0, da⟩
    · exact ⟨ref_7 l (by omega), rfl, shw_i0, da⟩
  unfold body14 at tl
  have h1 : 1 ≤ q.2 := by have := lq.low.pos; omega
  have ef := v_isf q.1 q.2 h
  have el := v_lfr (a := q.1) (b := q.2) (h := h) (lq.b.up (by omega))
  rw [lq.low.one] at ef el
  have es := share_good (h := h) lq.low
  rw [mSeq_eq, show (mSet 2 (mA1 (fCallN 1 F__law_fraction []) (maCons (mVar 0) maNil))) (mkEnv 6 [fr q, fr p]) h = .nx [some (.d (fr q)), some (.d (fr p)), some (.d (.bl true)), none, none, none] h by simp [el, h1], RS.seq_nx, mSeq_eq]
  have e1 : (mIfS (asB (m2 (fEq true) (mA1 fRepr (maCons (mA1 (fLst false) (maCons (mA1 (fCallN 1 F_is_fraction []) (maCons (mVar 0) maNil)) (maCons (mA1 (fCallN 1 F_is_share []) (maCons (mVar 0) maNil)) maNil))) maNil)) (mA1 fRepr (maCons (mA1 (fLst false) (maCons (mVar 2) (maCons (mAnd (mVar 2) (mChain fLe fLe (mC (.int 0)) (m2 fIx (mVar 0) (mC (.int 0))) (m2 fIx (mVar 0) (mC (.int 1))))) maNil))) maNil)))) (mRet (mC (.bl false))) mSkip) [some (.d (fr q)), some (.d (fr p)), some (.d (.bl true)), none, none, none] h = .nx [some (.d (fr q)), some (.d (fr p)), some (.d (.bl true)), none, none, none] h := by
    by_cases h2 : 0 ≤ q.1 <;> simp [ef, h1, es, h2, mChain, repr_b2, eq_str]
  rw [e1, RS.seq_nx, mSeq_eq]
  have eo := v_of_good lq (by omega) h
  have ei := v_is (h := h) (lq.a.up (by omega)) (lq.b.up (by omega))
  have e2 : (mIfS (tAndM (asB (mVar 2)) (tNotM (asB (mA1 (fCallN 2 F__law_p3_is []) (maCons (mCMet 5 1 F_Ratio_of [] (mC (.cls 5)) (maCons (mVar 0) maNil)) (maCons (mVar 0) maNil)))))) (mRet (mC (.bl false))) mSkip) [some (.d (fr q)), some (.d (fr p)), some (.d (.bl true)), none, none, none] h = .nx [some (.d (fr q)), some (.d (fr p)), some (.d (.bl true)), none, none, none] h := by simp [mCMet, eo, ei]
  rw [e2, RS.seq_nx, mSeq_eq]
  exact tl
end G01

set_option Elab.async false
set_option linter.all false
set_option maxRecDepth 100000
set_option maxHeartbeats 4000000
set_option exponentiation.threshold 2000
namespace G01
open PySem L2 Vi
structure Okd (d : PyData) (w k : Nat) : Prop where
  s : d.showable = true
  l : d.leavesShort 902 = true
  w : d.weight ≤ w
  k : d.depth ≤ k
theorem Okd.int {i : Int} (h : Bt 900 i) : Okd (.int i) 900 0 := ⟨shI_1 h, shI_2 h, shI_3 h, by simp [PyData.depth]⟩
theorem Okd.bool (b : Bool) : Okd (.bool b) 0 0 := ⟨rfl, rfl, by simp [PyData.weight], by simp [PyData.depth]⟩
theorem Okd.none : Okd .none 0 0 := ⟨rfl, rfl, by simp [PyData.weight], by simp [PyData.depth]⟩
structure Okds (ds : List PyData) (w k : Nat) : Prop where
  s : PyData.showableAll ds = true
  l : PyData.leavesShortAll 902 ds = true
  w : PyData.weightAll ds ≤ w
  k : PyData.depthAll ds ≤ k
theorem Okds.nil {k : Nat} : Okds [] 0 k := ⟨rfl, rfl, by simp [PyData.weightAll], by simp [PyData.depthAll]⟩
theorem Okds.cons {d : PyData} {ds : List PyData} {v w j k : Nat} (a : Okd d v j) (b : Okds ds w k) (hj : j ≤ k) : Okds (d :: ds) (v + 1 + w) k := by
  refine ⟨?_, ?_, ?_, ?_⟩
  · simp [PyData.showableAll, a.s, b.s]
  · simp [PyData.leavesShortAll, a.l, b.l]
  · have := a.w
    have := b.w
    simp only [PyData.weightAll]
    omega
  · have := a.k
    have := b.k
    simp only [PyData.depthAll]
    omega
theorem Okds.tup {ds : List PyData} {w k : Nat} (b : Okds ds w k) : Okd (.tuple ds) w (k + 1) := ⟨by simpa [PyData.showable] using b.s, by simpa [PyData.leavesShort] using b.l, by simpa [PyData.weight] using b.w, by simpa [PyData.depth] using b.k⟩
theorem Okds.lst {ds : List PyData} {w k : Nat} (b : Okds ds w k) : Okd (.list ds) w (k + 1) := ⟨by simpa [PyData.showable] using b.s, by simpa [PyData.leavesShort] using b.l, by simpa [PyData.weight] using b.w, by simpa [PyData.depth] using b.k⟩
theorem Okd.shw {d : PyData} {w k : Nat} (o : Okd d w k) (hw : w ≤ 18000) (hk : k ≤ 60) : shwB d = true := shw_of o.s (Nat.le_trans o.k hk) o.l (Nat.le_trans o.w hw)
/-- in a list of its own -/
theorem Okd.one {d : PyData} {w k : Nat} (o : Okd d w k) (hw : w ≤ 10000) (hk : k ≤ 50) : shwB (.list [d]) = true := (Okds.lst (Okds.cons o Okds.nil (Nat.le_refl k))).shw (by omega) (by omega)
section
variable {a b : Int} (ha : Bt 300 a) (hb : Bt 300 b)
theorem i9 {x : Int} (h : Bt 300 x) : Okd (.int x) 900 0 := Okd.int (h.up (by omega))
theorem bad_frac {x y : Int} (hx : Bt 300 x) (hy : Bt 300 y) (n : ¬ (1 ≤ y ∧ gg x y = 1)) : Bad (frac x y) := by
  have f : (decide (1 ≤ y) && decide (gg x y = 1)) = false := by
    by_cases h1 : 1 ≤ y
    · have h2 : ¬ gg x y = 1 := fun z => n ⟨h1, z⟩
      simp [h2]
    · simp [h1]
  refine ⟨fun h => by rw [v_isf, f], fun h => by rw [v_lfr (hy.up (by omega)), f], ?_, rfl⟩
  exact ((Okds.cons (i9 hx) (Okds.cons (i9 hy) (Okds.nil (k := 0)) (by omega)) (by omega)).tup).one (by omega) (by omega)
theorem bad_tb (hb : Bt 300 b) : Bad (.tup [.bl true, .int b]) := ⟨fun _ => rfl, fun _ => rfl, ((Okds.cons (Okd.bool true) (Okds.cons (i9 hb) (Okds.nil (k := 0)) (by omega)) (by omega)).tup).one (by omega) (by omega), rfl⟩
theorem bad_at (ha : Bt 300 a) : Bad (.tup [.int a, .bl true]) := ⟨fun _ => rfl, fun _ => rfl, ((Okds.cons (i9 ha) (Okds.cons (Okd.bool true) (Okds.nil (k := 0)) (by omega)) (by omega)).tup).one (by omega) (by omega), rfl⟩
theorem bad_ls (ha : Bt 300 a) (hb : Bt 300 b) : Bad (.lst [.int a, .int b]) := ⟨fun _ => rfl, fun _ => rfl, ((Okds.cons (i9 ha) (Okds.cons (i9 hb) (Okds.nil (k := 0)) (by omega)) (by omega)).lst).one (by omega) (by omega), rfl⟩
theorem bad_t1 (ha : Bt 300 a) : Bad (.tup [.int a]) := ⟨fun _ => rfl, fun _ => rfl, ((Okds.cons (i9 ha) (Okds.nil (k := 0)) (by omega)).tup).one (by omega) (by omega), rfl⟩
theorem bad_t3 (ha : Bt 300 a) (hb : Bt 300 b) : Bad (.tup [.int a, .int b, .int 1]) := ⟨fun _ => rfl, fun _ => rfl, ((Okds.cons (i9 ha) (Okds.cons (i9 hb) (Okds.cons (i9 (show Bt 300 1 by decide)) (Okds.nil (k := 0)) (by omega)) (by omega)) (by omega)).tup).one (by omega) (by omega), rfl⟩
theorem bad_non : Bad .non := ⟨fun _ => rfl, fun _ => rfl, shw_n0, rfl⟩
theorem bad_int (ha : Bt 300 a) : Bad (.int a) := ⟨fun _ => rfl, fun _ => rfl, (i9 ha).one (by omega) (by omega), rfl⟩
theorem bad_half : Bad (.str "1/2") := ⟨fun _ => rfl, fun _ => rfl, by decide +kernel, rfl⟩
theorem bad_tt : Bad (.tup [.tup [.int 1, .int 1], .int 1]) := ⟨fun _ => rfl, fun _ => rfl, by decide +kernel, rfl⟩
end
end G01

set_option Elab.async false
set_option linter.all false
set_option maxRecDepth 100000
set_option maxHeartbeats 4000000
set_option exponentiation.threshold 2000
namespace G01
open PySem L2 Vi
/-- what is drawn as a thing: a good one or a bad one -/
def Thing (t : D) : Prop := (∃ q, t = fr q ∧ LowP 110 q) ∨ Bad t
theorem gg2 {a b : Int} (l : Low a b) : gg (2 * a) (2 * b) = 2 := by
  rw [Int.mul_comm 2 a, Int.mul_comm 2 b, gg_scale (by omega), l.one]
  rfl
theorem gg0 {b : Int} (hb : 0 < b) : gg 0 b = b := by
  unfold gg
  simp
  omega
theorem thing_frac {x y : Int} (hx : Bt 110 x) (hy : Bt 110 y) : Thing (frac x y) := by
  by_cases h : 1 ≤ y ∧ gg x y = 1
  · exact .inl ⟨(x, y), rfl, ⟨⟨by omega, h.2⟩, hx, hy⟩⟩
  · exact .inr (bad_frac (hx.up (by omega)) (hy.up (by omega)) h)
theorem Bt.two {a : Int} (h : Bt 108 a) : Bt 110 (2 * a) := by
  have := Bt.mul (show Bt 2 2 by decide) h
  exact this.up (by omega)
theorem bad_st {a b : Int} (ha : Bt 110 a) (hb : Bt 300 b) : Bad (.tup [.str (toString a), .int b]) := by
  have ln := int_text_length_le (k := 110) (by omega) (log2_lt ha (by omega))
  have o : Okd (.str (Str.ofString (toString a))) 200 0 := by
    refine ⟨by simp [PyData.showable], ?_, ?_, by simp [PyData.depth]⟩
    · simp only [PyData.leavesShort]
      rw [Str.ofString_eq_toList, List.all_eq_true]
      intro c hc
      simp only [List.mem_map] at hc
      obtain ⟨x, _, rfl⟩ := hc
      have := x.val.toNat_lt
      have e : x.toNat = x.val.toNat := rfl
      exact decide_eq_true (by omega)
    · simp only [PyData.weight]
      have : (Str.ofString (toString a)).length = (toString a).length := ofString_length _
      show (Str.ofString (toString a)).length ≤ 200
      omega
  exact ⟨fun _ => rfl, fun _ => rfl, ((Okds.cons o (Okds.cons (i9 hb) (Okds.nil (k := 0)) (by omega)) (by omega)).tup).one (by omega) (by omega), rfl⟩
theorem v_thing {m : Int} {h : Hc} {p : Int × Int} (g : BG m h) (hm : m < 2 ^ 50) (l : LowP 108 p) : ∃ t h', F__law_p3_thing [.ref 0, fr p] h = .ok t h' ∧ BG (m + 5) h' ∧ Thing t := by
  obtain ⟨s1, s2, h1, e1, g1, l1, b1, b2⟩ := v_share g hm
  have ha := l.a
  have hs := bad_st (a := p.1) (b := p.2) (l.a.up (by omega)) (l.b.up (by omega))
  obtain ⟨zs, hzs⟩ : ∃ zs : PySem.Str, zs = (toString p.1 : PySem.Str) := ⟨_, rfl⟩
  rw [← hzs] at hs
  have hl : p.1.natAbs.log2 < 1920 := by have := log2_lt l.a (by omega); omega
  have hb := l.b
  have A : Bt 300 p.1 := ha.up (by omega)
  have B : Bt 300 p.2 := hb.up (by omega)
  let things : List D := [fr p, fr p, frac s1 s2, frac 1 1, frac 0 1, frac (2 * p.1) (2 * p.2), frac p.1 (-p.2), frac p.1 0, frac 0 p.2, .tup [.bl true, .int p.2], .tup [.int p.1, .bl true], .lst [.int p.1, .int p.2], .tup [.int p.1], .tup [.int p.1, .int p.2, .int 1], .tup [.str zs, .int p.2], .non, .int p.1, .str "1/2", .tup [.tup [.int 1, .int 1], .int 1]]
  obtain ⟨x, h2, e2, g2, hx⟩ := v_pick (xs := things) g1 (by omega) (show 0 < 19 by omega) (show 19 < 2 ^ 60 by omega)
  refine ⟨x, h2, ?_, g2.up (by omega), ?_⟩
  · refine (fnOf_eq 5 2 m__law_p3_thing [.ref 0, fr p] h rfl).trans ?_
    unfold m__law_p3_thing
    have c1 : cMul 2 p.1 = true := (show Bt 2 2 by decide).cm ha (by omega) (by omega)
    have c2 : cMul 2 p.2 = true := (show Bt 2 2 by decide).cm hb (by omega) (by omega)
    have fs : fStrOf [.d (.int p.1)] h1 = .ok (.d (.str zs)) h1 := by
      rw [hzs]
      show (if p.1.natAbs.log2 < 1920 then R.ok (Vl.d (.str (toString p.1))) h1 else .stuck) = _
      rw [if_pos hl]
    have fa : ∀ (xs ys : List D) (hh : Hc), xs.length + ys.length ≤ 100000 → fAdd false (.d (.lst xs)) (.d (.lst ys)) hh = .ok (.d (.lst (xs ++ ys))) hh := fun xs ys hh hq => by
      show (if xs.length + ys.length ≤ 100000 then R.ok (Vl.ofL false (xs ++ ys)) hh else .stuck) = _
      rw [if_pos hq]
      rfl
    have e2' : F__law_pick [.ref 0, .lst things] h1 = .ok x h2 := e2
    simp only [things] at e2'
    simp [e1, c1, c2, fs, fa, e2']
  · simp only [things, List.mem_cons, List.not_mem_nil, or_false] at hx
    rcases hx with rfl | rfl | rfl | rfl | rfl | rfl | rfl | rfl | rfl | rfl | rfl | rfl | rfl | rfl | rfl | rfl | rfl | rfl | rfl
    · exact .inl ⟨p, rfl, ⟨l.low, ha.up (by omega), hb.up (by omega)⟩⟩
    · exact .inl ⟨p, rfl, ⟨l.low, ha.up (by omega), hb.up (by omega)⟩⟩
    · exact thing_frac (b1.up (by omega)) (b2.up (by omega))
    · exact thing_frac (by decide) (by decide)
    · exact thing_frac (by decide) (by decide)
    · exact thing_frac ha.two hb.two
    · exact thing_frac (ha.up (by omega)) (Bt.neg (hb.up (by omega)))
    · exact thing_frac (ha.up (by omega)) (by decide)
    · exact thing_frac (by decide) (hb.up (by omega))
    · exact .inr (bad_tb B)
    · exact .inr (bad_at A)
    · exact .inr (bad_ls A B)
    · exact .inr (bad_t1 A)
    · exact .inr (bad_t3 A B)
    · exact .inr hs
    · exact .inr bad_non
    · exact .inr (bad_int A)
    · exact .inr bad_half
    · exact .inr bad_tt
end G01

set_option Elab.async false
set_option linter.all false
set_option maxRecDepth 100000
set_option maxHeartbeats 4000000
set_option exponentiation.threshold 2000
namespace G01
open PySem L2 Vi
def bodyA : MS := mSeq (mSet 13 (mA1 (fCallN 1 F__law_p3_number []) (maCons (mVar 1) maNil))) (mSeq (mSet 14 (mA1 (fCallN 1 F__law_p3_number []) (maCons (mVar 1) maNil))) (mSeq (mIfS (asB (m2 (fEq false) (mVar 14) (mC (.int 0)))) (mSet 14 (mC (.int 1))) mSkip) (mAppend 2 (mA1 fTup (maCons (mVar 13) (maCons (mVar 14) maNil))))))
abbrev envA (s : D) (ps : List (Int × Int)) (k a b : Option Sl) : Vi.Env := [some (.d s), some (.d (.ref 0)), some (.ol (ps.map fr)), k, none, none, none, none, none, none, none, none, none, a, b]
/-- a pair that may be made a Ratio of -/
structure Pr (k : Nat) (p : Int × Int) : Prop where
  a : Bt k p.1
  b : Bt k p.2
  n : p.2 ≠ 0
theorem turnA {m : Int} {h : Hc} {s : D} {ps : List (Int × Int)} {k a b : Option Sl} (g : BG m h) (hm : m < 2 ^ 40) (hl : ps.length < 10) : ∃ p a' b' h', bodyA (envA s ps k a b) h = .nx (envA s (ps ++ [p]) k a' b') h' ∧ BG (m + 16) h' ∧ Pr 107 p := by
  obtain ⟨x, h1, e1, g1, b1⟩ := v_number g (by omega)
  obtain ⟨y, h2, e2, g2, b2⟩ := v_number g1 (by omega)
  have hl' : (ps.map fr).length < 100000 := by rw [List.length_map]; omega
  by_cases h0 : y = 0
  · refine ⟨(x, 1), some (.d (.int x)), some (.d (.int 1)), h2, ?_, g2.up (by omega), ⟨b1, show Bt 107 1 by decide, show (1 : Int) ≠ 0 by decide⟩⟩
    unfold bodyA
    have hl2 : ps.length < 100000 := by omega
    simp [e1, e2, h0, mAppend, hl2]
  · refine ⟨(x, y), some (.d (.int x)), some (.d (.int y)), h2, ?_, g2.up (by omega), ⟨b1, b2, h0⟩⟩
    unfold bodyA
    have hl2 : ps.length < 100000 := by omega
    simp [e1, e2, h0, mAppend, hl2]
theorem loopA {s : D} : ∀ (xs : List D) (m : Int) (h : Hc) (ps : List (Int × Int)) (k a b : Option Sl), BG m h → m + 16 * xs.length < 2 ^ 40 → ps.length + xs.length ≤ 10 → (∀ p ∈ ps, Pr 107 p) →
    ∃ qs k' a' b' h', forL (gtN 3) bodyA xs (envA s ps k a b) h = .nx (envA s qs k' a' b') h' ∧ BG (m + 16 * xs.length) h' ∧ (∀ p ∈ qs, Pr 107 p) ∧ qs.length = ps.length + xs.length
  | [], m, h, ps, k, a, b, g, hm, hn, hp => ⟨ps, k, a, b, h, rfl, by simpa using g, hp, rfl⟩
  | x :: xs, m, h, ps, k, a, b, g, hm, hn, hp => by
    simp only [List.length_cons] at hm hn ⊢
    obtain ⟨p, a', b', h1, e1, g1, pp⟩ := turnA (s := s) (ps := ps) (k := some (.d x)) (a := a) (b := b) g (by omega) (by omega)
    obtain ⟨qs, k2, a2, b2, h2, e2, g2, q1, q2⟩ := loopA xs (m + 16) h1 (ps ++ [p]) (some (.d x)) a' b' g1 (by omega) (by simp only [List.length_append, List.length_cons, List.length_nil]; omega) (fun z hz => by
      rcases List.mem_append.mp hz with hz | hz
      · exact hp z hz
      · rcases List.mem_cons.mp hz with rfl | hz
        · exact pp
        · cases hz)
    refine ⟨qs, k2, a2, b2, h2, ?_, g2.up (by omega), q1, by rw [q2]; simp only [List.length_append, List.length_cons, List.length_nil]; omega⟩
    rw [forL_cons]
    show (bodyA (envA s ps (some (.d x)) a b) h).again _ = _
    rw [e1, RS.again_nx, e2]
end G01

set_option Elab.async false
set_option linter.all false
set_option maxRecDepth 100000
set_option maxHeartbeats 4000000
set_option exponentiation.threshold 2000
namespace G01
open PySem L2 Vi
def lowF (p : Int × Int) : Int × Int := (lowA p.1 p.2, lowB p.1 p.2)
theorem Pr.low {k : Nat} {p : Int × Int} (h : Pr k p) : LowP k (lowF p) := ⟨Low.of h.n, Bt.lowA h.n h.a, Bt.lowB h.n h.b⟩
def eltL : ME := mA1 (fCallN 2 F__law_low []) (maCons (m2 fIx (mVar 9) (mC (.int 0))) (maCons (m2 fIx (mVar 9) (mC (.int 1))) maNil))
theorem elt_low {k : Nat} {p : Int × Int} {env : Vi.Env} {h : Hc} (hp : Pr k p) (hk : k ≤ 900) (he : env[9]? = some (some (.d (fr p)))) : eltL env h = .ok (.d (fr (lowF p))) h := by
  have e := v_low (a := p.1) (b := p.2) (h := h) hp.n (hp.b.up hk)
  unfold eltL
  simp [mVar_d 9 env h _ he, e, lowF]
theorem comp_low {k : Nat} {env : Vi.Env} {h : Hc} (hk : k ≤ 900) (hl : 9 < env.length) : ∀ (ps : List (Int × Int)) (acc : List D), (∀ p ∈ ps, Pr k p) → acc.length + ps.length ≤ 1000 → compL false (gtN 9) mYes eltL (ps.map fr) acc env h = .ok (.d (.lst (acc ++ ps.map fun p => fr (lowF p)))) h
  | [], acc, _, _ => by
    rw [List.map_nil, List.map_nil, List.append_nil]
    rfl
  | p :: ps, acc, hp, hn => by
    simp only [List.length_cons] at hn
    have ih := comp_low (h := h) hk hl ps (acc ++ [fr (lowF p)]) (fun z hz => hp z (List.mem_cons_of_mem _ hz)) (by simp only [List.length_append, List.length_cons, List.length_nil]; omega)
    have e := elt_low (h := h) (env := env.set 9 (some (.d (fr p)))) (hp p (List.mem_cons_self ..)) hk (List.getElem?_set_self hl)
    have ha : acc.length < 16000000 := by omega
    show (match eltL (env.set 9 (some (.d (fr p)))) h with
        | .ok (.d y) h2 => if acc.length < 16000000 then compL false (gtN 9) mYes eltL (ps.map fr) (acc ++ [y]) env h2 else .stuck
        | _ => .stuck) = _
    rw [e]
    show (if acc.length < 16000000 then compL false (gtN 9) mYes eltL (ps.map fr) (acc ++ [fr (lowF p)]) env h else .stuck) = _
    rw [if_pos ha, ih, List.map_cons, List.append_assoc]
    rfl
end G01

set_option Elab.async false
set_option linter.all false
set_option maxRecDepth 100000
set_option maxHeartbeats 4000000
set_option exponentiation.threshold 2000
namespace G01
open PySem L2 Vi
def eltP : ME := mA1 (fCallN 2 F__law_pick []) (maCons (mVar 1) (maCons (mVar 4) maNil))
theorem comp_row {k : Nat} {ls : List (Int × Int)} (hls : ∀ p ∈ ls, LowP k p) (h3 : 0 < ls.length) (h4 : ls.length < 100) {env : Vi.Env} (hl : 3 < env.length) (e1 : env[1]? = some (some (.d (.ref 0)))) (e4 : env[4]? = some (some (.d (.lst (ls.map fr))))) :
    ∀ (xs : List D) (m : Int) (h : Hc) (qs : List (Int × Int)), BG m h → m + xs.length < 2 ^ 50 → qs.length + xs.length ≤ 1000 → (∀ p ∈ qs, LowP k p) → ∃ (rs : List (Int × Int)) (h' : Hc), compL false (gtN 3) mYes eltP xs (qs.map fr) env h = .ok (.d (.lst (rs.map fr))) h' ∧ BG (m + xs.length) h' ∧ (∀ p ∈ rs, LowP k p) ∧ rs.length = qs.length + xs.length
  | [], m, h, qs, g, hm, hn, hq => ⟨qs, h, rfl, by simpa using g, hq, rfl⟩
  | x :: xs, m, h, qs, g, hm, hn, hq => by
    simp only [List.length_cons] at hm hn ⊢
    obtain ⟨t, h1, e, g1, ht⟩ := v_pick (xs := ls.map fr) g (by omega) (by rw [List.length_map]; exact h3) (by rw [List.length_map]; omega)
    obtain ⟨p, hp, rfl⟩ := List.mem_map.mp ht
    obtain ⟨rs, h2, e2, g2, q1, q2⟩ := comp_row hls h3 h4 hl e1 e4 xs (m + 1) h1 (qs ++ [p]) g1 (by omega) (by simp only [List.length_append, List.length_cons, List.length_nil]; omega) (fun z hz => by
      rcases List.mem_append.mp hz with hz | hz
      · exact hq z hz
      · rcases List.mem_cons.mp hz with rfl | hz
        · exact hls _ hp
        · cases hz)
    refine ⟨rs, h2, ?_, g2.up (by omega), q1, by rw [q2]; simp only [List.length_append, List.length_cons, List.length_nil]; omega⟩
    have s1 : (env.set 3 (some (.d x)))[1]? = some (some (.d (.ref 0))) := by rw [List.getElem?_set_ne (by omega)]; exact e1
    have s4 : (env.set 3 (some (.d x)))[4]? = some (some (.d (.lst (ls.map fr)))) := by rw [List.getElem?_set_ne (by omega)]; exact e4
    have el : eltP (env.set 3 (some (.d x))) h = .ok (.d (fr p)) h1 := by
      unfold eltP
      simp [mVar_d 1 _ h _ s1, mVar_d 4 _ h _ s4, e]
    have ha : (qs.map fr).length < 16000000 := by rw [List.length_map]; omega
    show (match eltP (env.set 3 (some (.d x))) h with
        | .ok (.d y) h2 => if (qs.map fr).length < 16000000 then compL false (gtN 3) mYes eltP xs (qs.map fr ++ [y]) env h2 else .stuck
        | _ => .stuck) = _
    rw [el]
    show (if (qs.map fr).length < 16000000 then compL false (gtN 3) mYes eltP xs (qs.map fr ++ [fr p]) env h1 else .stuck) = _
    rw [if_pos ha, ← e2, List.map_append]
    rfl
/-- the law's own sum over the row -/
def bodyS : MS := mSet 8 (mA1 (fCallN 2 F__law_plus []) (maCons (mVar 8) (maCons (mVar 9) maNil)))
theorem loop_sum {h : Hc} : ∀ (ps : List (Int × Int)) (j : Nat) (q : Int × Int) (env : Vi.Env), (∀ p ∈ ps, LowP 110 p) → LowP j q → j + 111 * ps.length ≤ 460 → 9 < env.length → env[8]? = some (some (.d (fr q))) →
    ∃ x9, forL (gtN 9) bodyS (ps.map fr) env h = .nx ((env.set 9 x9).set 8 (some (.d (fr (ps.foldl addF q))))) h ∧ (ps = [] → x9 = (env[9]?).getD none)
  | [], j, q, env, _, _, _, hl, he => by
    refine ⟨(env[9]?).getD none, ?_, fun _ => rfl⟩
    have e1 : env.set 9 ((env[9]?).getD none) = env := by
      rw [List.getElem?_eq_getElem hl]
      exact List.set_getElem_self hl
    have e2 : env.set 8 (some (.d (fr q))) = env := by
      have h8 : 8 < env.length := by omega
      rw [List.getElem?_eq_getElem h8] at he
      rw [← Option.some.inj he]
      exact List.set_getElem_self h8
    rw [e1]
    show RS.nx env h = .nx (env.set 8 (some (.d (fr q)))) h
    rw [e2]
  | p :: ps, j, q, env, hp, lq, hj, hl, he => by
    simp only [List.length_cons] at hj
    have lp := hp p (List.mem_cons_self ..)
    have pl := v_lplus (h := h) (lq.ok lp (by omega) (by omega))
    let env2 := (env.set 9 (some (.d (fr p)))).set 8 (some (.d (fr (addF q p))))
    obtain ⟨x9, e, _⟩ := loop_sum (h := h) ps (j + 110 + 1) (addF q p) env2 (fun z hz => hp z (List.mem_cons_of_mem _ hz)) (lq.add lp) (by omega) (by simp only [env2, List.length_set]; exact hl) (by
      simp only [env2]
      exact List.getElem?_set_self (by rw [List.length_set]; omega))
    refine ⟨x9, ?_, fun z => by cases z⟩
    have s8 : (env.set 9 (some (.d (fr p))))[8]? = some (some (.d (fr q))) := by rw [List.getElem?_set_ne (by omega)]; exact he
    have s9 : (env.set 9 (some (.d (fr p))))[9]? = some (some (.d (fr p))) := List.getElem?_set_self hl
    have b1 : bodyS (env.set 9 (some (.d (fr p)))) h = .nx env2 h := by
      unfold bodyS
      simp [mVar_d 8 _ h _ s8, mVar_d 9 _ h _ s9, pl, env2, addF]
    rw [List.map_cons, forL_cons]
    show (bodyS (env.set 9 (some (.d (fr p)))) h).again _ = _
    rw [b1, RS.again_nx, e, List.foldl_cons]
    simp only [env2]
    rw [List.set_comm _ _ (by omega), List.set_set, List.set_comm _ _ (show 9 ≠ 8 by omega), List.set_comm _ _ (show 9 ≠ 8 by omega)]
    simp [List.set_set]
end G01

set_option Elab.async false
set_option linter.all false
set_option maxRecDepth 100000
set_option maxHeartbeats 4000000
set_option exponentiation.threshold 2000
namespace G01
open PySem L2 Vi
theorem fIx_bl (xs : List D) (i : Int) (h : Hc) : fIx (.bl xs) (.d (.int i)) h = (match atI xs i with
  | some d => .ok (.d d) h
  | none => .stuck) := rfl
theorem at3 (x y z : D) : atI [x, y, z] 0 = some x ∧ atI [x, y, z] 1 = some y ∧ atI [x, y, z] 2 = some z := by
  refine ⟨?_, ?_, ?_⟩ <;> rfl
theorem len3 {ps : List (Int × Int)} (h : ps.length = 3) : ∃ a b c, ps = [a, b, c] := by
  match ps, h with
  | [a, b, c], _ => exact ⟨a, b, c, rfl⟩
def stepT : MS := mIfS (asB (m2 (fEq false) (mA1 (fCallN 2 F__law_draw []) (maCons (mVar 1) (maCons (mC (.int 3)) maNil))) (mC (.int 1)))) (mSetIxO 2 (mA1 fTup (maCons (m2 fMul (m1 fNeg (mC (.int 3))) (m2 fIx (m2 fIx (mVar 2) (mC (.int 0))) (mC (.int 0)))) (maCons (m2 fMul (m1 fNeg (mC (.int 3))) (m2 fIx (m2 fIx (mVar 2) (mC (.int 0))) (mC (.int 1)))) maNil))) (mC (.int 1))) mSkip
theorem Bt.m3 {a : Int} (h : Bt 107 a) : Bt 109 (-3 * a) := by
  unfold Bt at *
  rw [Int.natAbs_mul]
  have e : (-3 : Int).natAbs = 3 := rfl
  have e2 : (2 : Nat) ^ 109 = 4 * 2 ^ 107 := by decide
  rw [e, e2]
  omega
theorem turnT {m : Int} {h : Hc} {s : D} {p q r : Int × Int} {k a b : Option Sl} (g : BG m h) (hm : m < 2 ^ 40) (hp : Pr 107 p) (hq : Pr 107 q) : ∃ q' h', stepT (envA s [p, q, r] k a b) h = .nx (envA s [p, q', r] k a b) h' ∧ BG (m + 1) h' ∧ Pr 109 q' := by
  obtain ⟨d, h1, e1, g1, b1, b2, b3⟩ := v_draw (many := 3) g (by omega) (by omega) (by omega)
  by_cases hd : d = 1
  · refine ⟨(-3 * p.1, -3 * p.2), h1, ?_, g1, ⟨hp.a.m3, hp.b.m3, ?_⟩⟩
    · have c1 : cMul (-3) p.1 = true := cMul_of (by decide) (hp.a.up (show 107 ≤ 1000 by omega))
      have c2 : cMul (-3) p.2 = true := cMul_of (by decide) (hp.b.up (show 107 ≤ 1000 by omega))
      unfold stepT
      simp [e1, hd, mSetIxO, c1, c2, fSetIxO, at3, fIx_bl]
      rfl
    · have := hp.n
      show -3 * p.2 ≠ 0
      omega
  · refine ⟨q, h1, ?_, g1, ⟨hq.a.up (by omega), hq.b.up (by omega), hq.n⟩⟩
    unfold stepT
    simp [e1, hd]
/-- behind the freezing of the pairs -/
abbrev envF (s : D) (ps : List (Int × Int)) (k a b v4 v5 v6 v7 v8 v9 v10 v11 v12 : Option Sl) : Vi.Env := [some (.d s), some (.d (.ref 0)), some (.d (.lst (ps.map fr))), k, v4, v5, v6, v7, v8, v9, v10, v11, v12, a, b]
def st4 : MS := mSet 4 (mComp false [9] (gtN 9) mYes eltL (mVar 2))
def st5 : MS := mSet 5 (mA1 (fMake 5 2 FI_Ratio_xinitx []) (maCons (m2 fIx (m2 fIx (mVar 2) (mC (.int 0))) (mC (.int 0))) (maCons (m2 fIx (m2 fIx (mVar 2) (mC (.int 0))) (mC (.int 1))) maNil)))
def st6 : MS := mSet 6 (mA1 (fMake 5 2 FI_Ratio_xinitx []) (maCons (m2 fIx (m2 fIx (mVar 2) (mC (.int 1))) (mC (.int 0))) (maCons (m2 fIx (m2 fIx (mVar 2) (mC (.int 1))) (mC (.int 1))) maNil)))
section
variable {s : D} {p q r : Int × Int} {k a b v4 v5 v6 v7 v8 v9 v10 v11 v12 : Option Sl} {h : Hc}
abbrev L3 (p q r : Int × Int) : D := .lst [fr (lowF p), fr (lowF q), fr (lowF r)]
theorem at3L (x y z : D) : atI [x, y, z] 0 = some x ∧ atI [x, y, z] 1 = some y ∧ atI [x, y, z] 2 = some z := at3 x y z
theorem e_st4 (hp : Pr 109 p) (hq : Pr 109 q) (hr : Pr 109 r) : st4 (envF s [p, q, r] k a b v4 v5 v6 v7 v8 v9 v10 v11 v12) h = .nx (envF s [p, q, r] k a b (some (.d (L3 p q r))) v5 v6 v7 v8 v9 v10 v11 v12) h := by
  have e := comp_low (k := 109) (env := wipeE (envF s [p, q, r] k a b v4 v5 v6 v7 v8 v9 v10 v11 v12) [9]) (h := h) (by omega) (by show 9 < 15; omega) [p, q, r] [] (fun z hz => by
    simp only [List.mem_cons, List.not_mem_nil, or_false] at hz
    rcases hz with rfl | rfl | rfl <;> assumption) (by show 0 + 3 ≤ 1000; omega)
  unfold st4 mComp
  simp only [mSet]
  rw [show mVar 2 (envF s [p, q, r] k a b v4 v5 v6 v7 v8 v9 v10 v11 v12) h = .ok (.d (.lst ([p, q, r].map fr))) h from rfl, R.bind_ok]
  show (compL false (gtN 9) mYes eltL ([p, q, r].map fr) [] (wipeE (envF s [p, q, r] k a b v4 v5 v6 v7 v8 v9 v10 v11 v12) [9]) h).thenS _ _ = _
  rw [e]
  rfl
theorem e_st5 (hp : Pr 109 p) : st5 (envF s [p, q, r] k a b v4 v5 v6 v7 v8 v9 v10 v11 v12) h = .nx (envF s [p, q, r] k a b v4 (some (.d (rat (lowF p).1 (lowF p).2))) v6 v7 v8 v9 v10 v11 v12) h := by
  have e := v_make (a := p.1) (b := p.2) (h := h) hp.n (hp.b.sm (by omega))
  unfold st5
  simp [at3, e, lowF]
theorem e_st6 (hq : Pr 109 q) : st6 (envF s [p, q, r] k a b v4 v5 v6 v7 v8 v9 v10 v11 v12) h = .nx (envF s [p, q, r] k a b v4 v5 (some (.d (rat (lowF q).1 (lowF q).2))) v7 v8 v9 v10 v11 v12) h := by
  have e := v_make (a := q.1) (b := q.2) (h := h) hq.n (hq.b.sm (by omega))
  unfold st6
  simp [at3, e, lowF]
end
end G01

set_option Elab.async false
set_option linter.all false
set_option maxRecDepth 100000
set_option maxHeartbeats 4000000
set_option exponentiation.threshold 2000
namespace G01
open PySem L2 Vi
def st7 : MS := mIfS (tOrM (tNotM (asB (mA1 (fCallN 2 F__law_p3_is []) (maCons (mA1 (fMake 5 1 FI_Ratio_xinitx [(.int 1)]) (maCons (m2 fIx (m2 fIx (mVar 2) (mC (.int 2))) (mC (.int 0))) maNil)) (maCons (mA1 fTup (maCons (m2 fIx (m2 fIx (mVar 2) (mC (.int 2))) (mC (.int 0))) (maCons (mC (.int 1)) maNil))) maNil))))) (tNotM (asB (mA1 (fCallN 4 F__law_p3_sums []) (maCons (mVar 5) (maCons (mVar 6) (maCons (m2 fIx (mVar 4) (mC (.int 0))) (maCons (m2 fIx (mVar 4) (mC (.int 1))) maNil)))))))) (mRet (mC (.bl false))) mSkip
def st8 : MS := mIfS (tOrM (tNotM (asB (mA1 (fCallN 2 F__law_p3_is []) (maCons (mVar 5) (maCons (m2 fIx (mVar 4) (mC (.int 0))) maNil))))) (tNotM (asB (mA1 (fCallN 2 F__law_p3_is []) (maCons (mVar 6) (maCons (m2 fIx (mVar 4) (mC (.int 1))) maNil)))))) (mRet (mC (.bl false))) mSkip
def st9 : MS := mSet 7 (mCompR false [3] (gtN 3) mYes eltP (maCons (mA1 (fCallN 2 F__law_draw []) (maCons (mVar 1) (maCons (mC (.int 5)) maNil))) maNil))
def st10 : MS := mSet 8 (mA1 fTup (maCons (mC (.int 0)) (maCons (mC (.int 1)) maNil)))
def st11 : MS := mFor (gtN 9) (mVar 7) bodyS
def st12 : MS := mSet 10 (mA1 fTuple (maCons (mVar 7) maNil))
def st13 : MS := mSet 11 (mA1 (fLst false) (maCons (mA1 (fCallN 1 F_total []) (maCons (mVar 7) maNil)) (maCons (mA1 (fCallN 1 F_total []) (maCons (mA1 fTuple (maCons (mVar 7) maNil)) maNil)) (maCons (mA1 (fCallN 2 F_compare []) (maCons (m2 fIx (mVar 4) (mC (.int 0))) (maCons (m2 fIx (mVar 4) (mC (.int 1))) maNil))) (maCons (mA1 (fCallN 2 F_compare []) (maCons (m2 fIx (mVar 4) (mC (.int 2))) (maCons (m2 fIx (mVar 4) (mC (.int 0))) maNil))) (maCons (mA1 fTuple (maCons (mVar 7) maNil)) maNil))))))
def st14 : MS := mSet 12 (mA1 (fLst false) (maCons (mVar 8) (maCons (mVar 8) (maCons (mA1 (fCallN 2 F__law_p3_order []) (maCons (m2 fIx (mVar 4) (mC (.int 0))) (maCons (m2 fIx (mVar 4) (mC (.int 1))) maNil))) (maCons (mA1 (fCallN 2 F__law_p3_order []) (maCons (m2 fIx (mVar 4) (mC (.int 2))) (maCons (m2 fIx (mVar 4) (mC (.int 0))) maNil))) (maCons (mVar 10) maNil))))))
def st15 : MS := mIfS (asB (m2 (fEq true) (mA1 fRepr (maCons (mVar 11) maNil)) (mA1 fRepr (maCons (mVar 12) maNil)))) (mRet (mC (.bl false))) mSkip
def st16 : MS := mRet (mA1 (fCallN 2 F__law_p3_refusals []) (maCons (mA1 (fCallN 2 F__law_p3_thing []) (maCons (mVar 1) (maCons (m2 fIx (mVar 4) (mC (.int 2))) maNil))) (maCons (m2 fIx (mVar 4) (mC (.int 0))) maNil)))
theorem gg_one (a : Int) : gg a 1 = 1 := by
  show ((Nat.gcd a.natAbs 1 : Nat) : Int) = 1
  rw [Nat.gcd_one_right]
  rfl
theorem low_one (a : Int) : Low a 1 := ⟨by decide, gg_one a⟩
section
variable {s : D} {p q r : Int × Int} {k a b v7 v8 v9 v10 v11 v12 : Option Sl} {h : Hc}
abbrev envG (s : D) (p q r : Int × Int) (k a b v7 v8 v9 v10 v11 v12 : Option Sl) : Vi.Env := envF s [p, q, r] k a b (some (.d (L3 p q r))) (some (.d (rat (lowF p).1 (lowF p).2))) (some (.d (rat (lowF q).1 (lowF q).2))) v7 v8 v9 v10 v11 v12
theorem e_st7 (hp : Pr 109 p) (hq : Pr 109 q) (hr : Pr 109 r) : st7 (envG s p q r k a b v7 v8 v9 v10 v11 v12) h = .nx (envG s p q r k a b v7 v8 v9 v10 v11 v12) h := by
  have e := v_init (a := r.1) (b := 1) (h := h) (by decide) (show Sm 1 by decide)
  rw [(low_one r.1).a, (low_one r.1).b] at e
  have i1 := v_is (a := r.1) (b := 1) (h := h) (hr.a.up (by omega)) (by decide)
  have sm := v_sums (h := h) hp.low.low hq.low.low (hp.low.a.up (by omega)) (hp.low.b.up (by omega)) (hq.low.a.up (by omega)) (hq.low.b.up (by omega))
  unfold st7
  simp [at3, fMake, e, i1, sm]
theorem e_st8 (hp : Pr 109 p) (hq : Pr 109 q) : st8 (envG s p q r k a b v7 v8 v9 v10 v11 v12) h = .nx (envG s p q r k a b v7 v8 v9 v10 v11 v12) h := by
  have i1 := v_is (a := (lowF p).1) (b := (lowF p).2) (h := h) (hp.low.a.up (by omega)) (hp.low.b.up (by omega))
  have i2 := v_is (a := (lowF q).1) (b := (lowF q).2) (h := h) (hq.low.a.up (by omega)) (hq.low.b.up (by omega))
  unfold st8
  simp [at3, i1, i2]
theorem e_st9 {m : Int} (g : BG m h) (hm : m < 2 ^ 40) (hp : Pr 109 p) (hq : Pr 109 q) (hr : Pr 109 r) : ∃ (rs : List (Int × Int)) (h' : Hc), st9 (envG s p q r k a b v7 v8 v9 v10 v11 v12) h = .nx (envG s p q r k a b (some (.d (.lst (rs.map fr)))) v8 v9 v10 v11 v12) h' ∧ BG (m + 6) h' ∧ (∀ z ∈ rs, LowP 109 z) ∧ rs.length ≤ 4 := by
  obtain ⟨d, h1, e1, g1, b1, b2, b3⟩ := v_draw (many := 5) g (by omega) (by omega) (by omega)
  have b2 := b2 (by omega)
  obtain ⟨rs, h2, e2, g2, q1, q2⟩ := comp_row (k := 109) (ls := [lowF p, lowF q, lowF r]) (fun z hz => by
    simp only [List.mem_cons, List.not_mem_nil, or_false] at hz
    rcases hz with rfl | rfl | rfl
    · exact hp.low
    · exact hq.low
    · exact hr.low) (by show 0 < 3; omega) (by show 3 < 100; omega) (env := wipeE (envG s p q r k a b v7 v8 v9 v10 v11 v12) [3]) (by show 3 < 15; omega) rfl rfl (rangeD 0 d.toNat) (m + 1) h1 [] g1 (by rw [rangeD_len]; omega) (by rw [rangeD_len]; simp only [List.length_nil]; omega) (fun z hz => by cases hz)
  rw [rangeD_len] at g2 q2
  refine ⟨rs, h2, ?_, g2.up (by omega), q1, by rw [q2]; simp only [List.length_nil]; omega⟩
  unfold st9 mCompR
  have hd : -(2 ^ 62) ≤ d ∧ d < 2 ^ 62 := ⟨by omega, by omega⟩
  simp only [mSet]
  have ea : (maCons (mA1 (fCallN 2 F__law_draw []) (maCons (mVar 1) (maCons (mC (.int 5)) maNil))) maNil) (envG s p q r k a b v7 v8 v9 v10 v11 v12) h = .ok [.d (.int d)] h1 := by simp [e1]
  rw [ea, R.bind_ok]
  show (if -(2 ^ 62) ≤ d ∧ d < 2 ^ 62 then compL false (gtN 3) mYes eltP (rangeD 0 d.toNat) ([].map fr) (wipeE (envG s p q r k a b v7 v8 v9 v10 v11 v12) [3]) h1 else .stuck).thenS _ _ = _
  rw [if_pos hd, e2]
  rfl
end
end G01

set_option Elab.async false
set_option linter.all false
set_option maxRecDepth 100000
set_option maxHeartbeats 4000000
set_option exponentiation.threshold 2000
namespace G01
open PySem L2 Vi
theorem LowP.up {j k : Nat} {p : Int × Int} (l : LowP j p) (hk : j ≤ k) : LowP k p := ⟨l.low, l.a.up hk, l.b.up hk⟩
theorem Pr.up {j k : Nat} {p : Int × Int} (l : Pr j p) (hk : j ≤ k) : Pr k p := ⟨l.a.up hk, l.b.up hk, l.n⟩
/-- equal fractions in lowest terms -/
theorem low_eq {a b c d : Int} (l1 : Low a b) (l2 : Low c d) : a * d = c * b ↔ (a = c ∧ b = d) := by
  constructor
  · intro e
    have g1 : Nat.gcd a.natAbs b.natAbs = 1 := Int.ofNat.inj l1.one
    have g2 : Nat.gcd c.natAbs d.natAbs = 1 := Int.ofNat.inj l2.one
    have e2 : a.natAbs * d.natAbs = c.natAbs * b.natAbs := by rw [← Int.natAbs_mul, ← Int.natAbs_mul, e]
    have d1 : b.natAbs ∣ d.natAbs := Nat.Coprime.dvd_of_dvd_mul_left (m := a.natAbs) (by rw [Nat.Coprime, Nat.gcd_comm]; exact g1) ⟨c.natAbs, by rw [e2, Nat.mul_comm]⟩
    have d2 : d.natAbs ∣ b.natAbs := Nat.Coprime.dvd_of_dvd_mul_left (m := c.natAbs) (by rw [Nat.Coprime, Nat.gcd_comm]; exact g2) ⟨a.natAbs, by rw [← e2, Nat.mul_comm]⟩
    have bd := Nat.dvd_antisymm d1 d2
    have p1 := l1.pos
    have p2 := l2.pos
    have hbd : b = d := by omega
    subst hbd
    exact ⟨Int.eq_of_mul_eq_mul_right (by omega) e, rfl⟩
  · rintro ⟨rfl, rfl⟩
    rfl
theorem fold_low : ∀ (rs : List (Int × Int)) (j : Nat) (q : Int × Int), (∀ z ∈ rs, LowP 110 z) → LowP j q → LowP (j + 111 * rs.length) (rs.foldl addF q)
  | [], j, q, _, l => l
  | r :: rs, j, q, hr, l => by
    have e := fold_low rs (j + 110 + 1) (addF q r) (fun z hz => hr z (List.mem_cons_of_mem _ hz)) (l.add (hr r (List.mem_cons_self ..)))
    rw [List.foldl_cons, List.length_cons]
    exact e.up (by omega)
theorem dats_fr : ∀ rs : List (Int × Int), dats (rs.map fr) = true
  | [] => by simp [dats]
  | r :: rs => by simp [dats, dat, dats_fr rs]
theorem okd_fr {p : Int × Int} (ha : Bt 900 p.1) (hb : Bt 900 p.2) : Okd (toP (fr p)) 1802 1 := by
  have o := (Okds.cons (Okd.int ha) (Okds.cons (Okd.int hb) (Okds.nil (k := 0)) (by omega)) (by omega)).tup
  simpa [toP, toPs] using o
theorem Okds.up {ds : List PyData} {w j k : Nat} (o : Okds ds w k) (h : w ≤ j) : Okds ds j k := ⟨o.s, o.l, Nat.le_trans o.w h, o.k⟩
theorem okds_row : ∀ rs : List (Int × Int), (∀ z ∈ rs, LowP 110 z) → Okds (toPs (rs.map fr)) (1803 * rs.length) 1
  | [], _ => by
    have o := Okds.nil (k := 1)
    simpa [toPs] using o
  | r :: rs, h => by
    have l := h r (List.mem_cons_self ..)
    have o := Okds.cons (okd_fr (l.a.up (by omega)) (l.b.up (by omega))) (okds_row rs fun z hz => h z (List.mem_cons_of_mem _ hz)) (Nat.le_refl 1)
    have e : toPs ((r :: rs).map fr) = toP (fr r) :: toPs (rs.map fr) := by rw [List.map_cons]; simp [toPs]
    rw [e, List.length_cons]
    exact o.up (by omega)
/-- what is told at the end -/
def toldD (rs : List (Int × Int)) (c1 c2 : Int) : D := .lst [fr (rs.foldl addF (0, 1)), fr (rs.foldl addF (0, 1)), .int c1, .int c2, .tup (rs.map fr)]
theorem repr_told {rs : List (Int × Int)} {c1 c2 : Int} (hr : ∀ z ∈ rs, LowP 110 z) (hl : rs.length ≤ 4) (h1 : Bt 900 c1) (h2 : Bt 900 c2) (h : Hc) : ∃ x, fRepr [.d (toldD rs c1 c2)] h = .ok (.d (.str x)) h := by
  refine ⟨_, repr_of ?_ ?_ h⟩
  · simp [toldD, dat, dats, dats_fr]
  · have l := fold_low rs 1 (0, 1) hr ⟨⟨by decide, by decide⟩, by decide, by decide⟩
    have f := okd_fr (l.a.up (by omega)) (l.b.up (by omega))
    have o1 := Okds.cons ((okds_row rs hr).tup) (Okds.nil (k := 2)) (by omega)
    have o2 := Okds.cons (Okd.int h2) o1 (by omega)
    have o3 := Okds.cons (Okd.int h1) o2 (by omega)
    have o4 := Okds.cons f o3 (by omega)
    have o5 := Okds.cons f o4 (by omega)
    have o6 := o5.lst
    have e : toP (toldD rs c1 c2) = PyData.list [toP (fr (rs.foldl addF (0, 1))), toP (fr (rs.foldl addF (0, 1))), .int c1, .int c2, .tuple (toPs (rs.map fr))] := by simp [toldD, toP, toPs]
    rw [e]
    exact o6.shw (by omega) (by omega)
/-- what a comparison tells -/
def cmpF (p q : Int × Int) : Int := if p.1 * q.2 = q.1 * p.2 then 0 else if p.1 * q.2 < q.1 * p.2 then -1 else 1
theorem cmpF_b (p q : Int × Int) : Bt 900 (cmpF p q) := by
  unfold cmpF
  split
  · decide
  · split <;> decide
theorem v_cmp {j k : Nat} {p q : Int × Int} (l1 : LowP j p) (l2 : LowP k q) (hj : j ≤ 400) (hk : k ≤ 400) (h : Hc) : F_compare [fr p, fr q] h = .ok (.int (cmpF p q)) h := v_compare (l1.ok l2 hj hk) l1.low l2.low
theorem v_ord {j k : Nat} {p q : Int × Int} (l1 : LowP j p) (l2 : LowP k q) (hj : j ≤ 400) (hk : k ≤ 400) (h : Hc) : F__law_p3_order [fr p, fr q] h = .ok (.int (cmpF p q)) h := by
  rw [show F__law_p3_order [fr p, fr q] h = _ from v_lorder (l1.ok l2 hj hk)]
  have e := low_eq l1.low l2.low
  unfold cmpF
  by_cases hc : p.1 * q.2 = q.1 * p.2
  · have := e.mp hc
    simp [hc, this.1, this.2]
  · have n : ¬ (p.1 = q.1 ∧ p.2 = q.2) := fun z => hc (e.mpr z)
    have n2 : (decide (p.1 = q.1) && decide (p.2 = q.2)) = false := by
      rw [← Bool.decide_and]
      exact decide_eq_false n
    rw [n2, if_neg hc]
    rfl
end G01

set_option Elab.async false
set_option linter.all false
set_option maxRecDepth 100000
set_option maxHeartbeats 4000000
set_option exponentiation.threshold 2000
namespace G01
open PySem L2 Vi
section
variable {s : D} {p q r : Int × Int} {k a b v8 v9 v10 v11 v12 : Option Sl} {h : Hc} {rs : List (Int × Int)}
abbrev envH (s : D) (p q r : Int × Int) (rs : List (Int × Int)) (k a b v8 v9 v10 v11 v12 : Option Sl) : Vi.Env := envG s p q r k a b (some (.d (.lst (rs.map fr)))) v8 v9 v10 v11 v12
theorem e_st10 : st10 (envH s p q r rs k a b v8 v9 v10 v11 v12) h = .nx (envH s p q r rs k a b (some (.d (fr (0, 1)))) v9 v10 v11 v12) h := by
  unfold st10
  simp
theorem e_st11 (hr : ∀ z ∈ rs, LowP 110 z) (hl : rs.length ≤ 4) : ∃ x9, st11 (envH s p q r rs k a b (some (.d (fr (0, 1)))) v9 v10 v11 v12) h = .nx (envH s p q r rs k a b (some (.d (fr (rs.foldl addF (0, 1))))) x9 v10 v11 v12) h := by
  obtain ⟨x9, e, _⟩ := loop_sum (h := h) rs 1 (0, 1) (envH s p q r rs k a b (some (.d (fr (0, 1)))) v9 v10 v11 v12) hr ⟨⟨by decide, by decide⟩, by decide, by decide⟩ (by omega) (by show 9 < 15; omega) rfl
  refine ⟨x9, ?_⟩
  unfold st11 mFor
  rw [show mVar 7 (envH s p q r rs k a b (some (.d (fr (0, 1)))) v9 v10 v11 v12) h = .ok (.d (.lst (rs.map fr))) h from rfl, R.thenS_ok]
  show forL (gtN 9) bodyS (rs.map fr) (envH s p q r rs k a b (some (.d (fr (0, 1)))) v9 v10 v11 v12) h = _
  rw [e]
  rfl
theorem e_st12 : st12 (envH s p q r rs k a b v8 v9 v10 v11 v12) h = .nx (envH s p q r rs k a b v8 v9 (some (.d (.tup (rs.map fr)))) v11 v12) h := rfl
theorem e_st13 (hp : Pr 109 p) (hq : Pr 109 q) (hr : Pr 109 r) (hs : ∀ z ∈ rs, LowP 110 z) (hl : rs.length ≤ 4) : st13 (envH s p q r rs k a b v8 v9 v10 v11 v12) h = .nx (envH s p q r rs k a b v8 v9 v10 (some (.d (toldD rs (cmpF (lowF p) (lowF q)) (cmpF (lowF r) (lowF p))))) v12) h := by
  have t1 := v_total (h := h) hs hl _ (.inl rfl)
  have t2 := v_total (h := h) hs hl _ (.inr rfl)
  have c1 := v_cmp hp.low hq.low (by omega) (by omega) h
  have c2 := v_cmp hr.low hp.low (by omega) (by omega) h
  have tt : fTuple [.d (.lst (rs.map fr))] h = .ok (.d (.tup (rs.map fr))) h := rfl
  unfold st13
  simp [at3, t1, t2, c1, c2, tt, toldD]
theorem e_st14 (hp : Pr 109 p) (hq : Pr 109 q) (hr : Pr 109 r) : st14 (envH s p q r rs k a b (some (.d (fr (rs.foldl addF (0, 1))))) v9 (some (.d (.tup (rs.map fr)))) v11 v12) h = .nx (envH s p q r rs k a b (some (.d (fr (rs.foldl addF (0, 1))))) v9 (some (.d (.tup (rs.map fr)))) v11 (some (.d (toldD rs (cmpF (lowF p) (lowF q)) (cmpF (lowF r) (lowF p)))))) h := by
  have c1 := v_ord hp.low hq.low (by omega) (by omega) h
  have c2 := v_ord hr.low hp.low (by omega) (by omega) h
  unfold st14
  simp [at3, c1, c2, toldD]
theorem e_st15 (hs : ∀ z ∈ rs, LowP 110 z) (hl : rs.length ≤ 4) : st15 (envH s p q r rs k a b v8 v9 v10 (some (.d (toldD rs (cmpF (lowF p) (lowF q)) (cmpF (lowF r) (lowF p))))) (some (.d (toldD rs (cmpF (lowF p) (lowF q)) (cmpF (lowF r) (lowF p)))))) h = .nx (envH s p q r rs k a b v8 v9 v10 (some (.d (toldD rs (cmpF (lowF p) (lowF q)) (cmpF (lowF r) (lowF p))))) (some (.d (toldD rs (cmpF (lowF p) (lowF q)) (cmpF (lowF r) (lowF p)))))) h := by
  obtain ⟨x, e⟩ := repr_told hs hl (cmpF_b (lowF p) (lowF q)) (cmpF_b (lowF r) (lowF p)) h
  unfold st15
  simp [e, eq_str]
theorem e_st16 {m : Int} (g : BG m h) (hm : m < 2 ^ 40) (hp : Pr 109 p) (hr : Pr 107 r) : ∃ h', st16 (envH s p q r rs k a b v8 v9 v10 v11 v12) h = .ret (.bl true) h' := by
  obtain ⟨t, h1, e1, g1, th⟩ := v_thing g (by omega) (hr.low.up (show 107 ≤ 108 by omega))
  have e2 : F__law_p3_refusals [t, fr (lowF p)] h1 = .ok (.bl true) h1 := by
    rcases th with ⟨u, rfl, lu⟩ | b
    · exact v_refusals_good lu hp.low (by omega) (by omega)
    · exact v_refusals_bad b hp.low (by omega)
  refine ⟨h1, ?_⟩
  unfold st16
  simp [at3, e1, e2]
end
theorem says : Says1 F_law 63 := by
  intro ns hn
  have g0 : BG 0 (bagC ns 0 0 (ns.sum % 1000003) 0 0) := ⟨ns, 0, 0, ns.sum % 1000003, 0, 0, rfl, by omega, by omega, by omega, by omega, by omega, by omega, by omega⟩
  obtain ⟨qs, k1, a1, b1, h1, e3, g1, q1, q2⟩ := loopA (s := .kl (ns.map D.int)) (rangeD 0 3) 0 (bagC ns 0 0 (ns.sum % 1000003) 0 0) [] none none none g0 (by rw [rangeD_len]; omega) (by rw [rangeD_len]; simp only [List.length_nil]; omega) (fun z hz => by cases hz)
  rw [rangeD_len] at g1 q2
  obtain ⟨p, q, r, rfl⟩ := len3 q2
  have hp : Pr 107 p := q1 p (by simp)
  have hq : Pr 107 q := q1 q (by simp)
  have hr : Pr 107 r := q1 r (by simp)
  obtain ⟨q', h2, e4, g2, hq'⟩ := turnT (s := .kl (ns.map D.int)) (r := r) (k := k1) (a := a1) (b := b1) g1 (by omega) hp hq
  have hp9 := hp.up (show 107 ≤ 109 by omega)
  have hr9 := hr.up (show 107 ≤ 109 by omega)
  obtain ⟨rs, h3, e9, g3, r1, r2⟩ := e_st9 (s := .kl (ns.map D.int)) (k := k1) (a := a1) (b := b1) (v7 := none) (v8 := none) (v9 := none) (v10 := none) (v11 := none) (v12 := none) g2 (by omega) hp9 hq' hr9
  have r1' : ∀ z ∈ rs, LowP 110 z := fun z hz => (r1 z hz).up (by omega)
  obtain ⟨x9, e11⟩ := e_st11 (s := .kl (ns.map D.int)) (p := p) (q := q') (r := r) (k := k1) (a := a1) (b := b1) (v9 := none) (v10 := none) (v11 := none) (v12 := none) (h := h3) r1' r2
  obtain ⟨h4, e16⟩ := e_st16 (s := .kl (ns.map D.int)) (q := q') (rs := rs) (k := k1) (a := a1) (b := b1) (v8 := some (.d (fr (rs.foldl addF (0, 1))))) (v9 := x9) (v10 := some (.d (.tup (rs.map fr)))) (v11 := some (.d (toldD rs (cmpF (lowF p) (lowF q')) (cmpF (lowF r) (lowF p))))) (v12 := some (.d (toldD rs (cmpF (lowF p) (lowF q')) (cmpF (lowF r) (lowF p))))) g3 (by omega) hp9 hr
  refine ⟨h4, (fnOf_eq 15 1 m_law _ _ rfl).trans ?_⟩
  have w1 : (mSet 1 (mA1 (fCallN 1 F__law_bag []) (maCons (mVar 0) maNil))) (mkEnv 15 [.kl (ns.map D.int)]) [] = .nx [some (.d (.kl (ns.map D.int))), some (.d (.ref 0)), none, none, none, none, none, none, none, none, none, none, none, none, none] (bagC ns 0 0 (ns.sum % 1000003) 0 0) := by
    have e := v_bag ns
    simp [e]
  have w2 : (mSet 2 (mA1 (fLst true) maNil)) [some (.d (.kl (ns.map D.int))), some (.d (.ref 0)), none, none, none, none, none, none, none, none, none, none, none, none, none] (bagC ns 0 0 (ns.sum % 1000003) 0 0) = .nx (envA (.kl (ns.map D.int)) [] none none none) (bagC ns 0 0 (ns.sum % 1000003) 0 0) := rfl
  have w3 : (mForR (gtN 3) (maCons (mC (.int 3)) maNil) bodyA) (envA (.kl (ns.map D.int)) [] none none none) (bagC ns 0 0 (ns.sum % 1000003) 0 0) = .nx (envA (.kl (ns.map D.int)) [p, q, r] k1 a1 b1) h1 := by
    rw [← e3]
    rfl
  show (mSeq (mSet 1 (mA1 (fCallN 1 F__law_bag []) (maCons (mVar 0) maNil))) (mSeq (mSet 2 (mA1 (fLst true) maNil)) (mSeq (mForR (gtN 3) (maCons (mC (.int 3)) maNil) bodyA) (mSeq stepT (mFrz 2 (mSeq st4 (mSeq st5 (mSeq st6 (mSeq st7 (mSeq st8 (mSeq st9 (mSeq st10 (mSeq st11 (mSeq st12 (mSeq st13 (mSeq st14 (mSeq st15 st16))))))))))))))) ) (mkEnv 15 [.kl (ns.map D.int)]) []).fin = _
  rw [mSeq_eq, w1, RS.seq_nx, mSeq_eq, w2, RS.seq_nx, mSeq_eq, w3, RS.seq_nx, mSeq_eq, e4, RS.seq_nx]
  show ((mSeq st4 (mSeq st5 (mSeq st6 (mSeq st7 (mSeq st8 (mSeq st9 (mSeq st10 (mSeq st11 (mSeq st12 (mSeq st13 (mSeq st14 (mSeq st15 st16)))))))))))) (envF (.kl (ns.map D.int)) [p, q', r] k1 a1 b1 none none none none none none none none none) h2).fin = _
  rw [mSeq_eq, e_st4 hp9 hq' hr9, RS.seq_nx, mSeq_eq, e_st5 hp9, RS.seq_nx, mSeq_eq, e_st6 hq', RS.seq_nx, mSeq_eq, e_st7 hp9 hq' hr9, RS.seq_nx, mSeq_eq, e_st8 hp9 hq', RS.seq_nx, mSeq_eq, e9, RS.seq_nx, mSeq_eq, e_st10, RS.seq_nx, mSeq_eq, e11, RS.seq_nx, mSeq_eq, e_st12, RS.seq_nx, mSeq_eq, e_st13 hp9 hq' hr9 r1' r2, RS.seq_nx, mSeq_eq, e_st14 hp9 hq' hr9, RS.seq_nx, mSeq_eq, e_st15 r1' r2, RS.seq_nx, e16]
  rfl
end G01

set_option Elab.async false
set_option linter.all false
set_option maxRecDepth 100000
set_option maxHeartbeats 0
namespace G01
open PySem L2 PyProof.Rows Vi
abbrev R : PySem.W.OpenRow := PySem.W.OpenLaw.row PySem.Challenge.rw_swornlots_k01_fractions
abbrev hk : PySem.W.Hook := hookV 6 ck fn
def ob (s : PySem.W.SharedT) : AlV := obsVG 6 ck fn (HeadRun.getT s)
theorem ob_eq (s : PySem.W.SharedT) : ob s = hk.obs s.abs := obsVG_eq (HeadRun.getT_eq s)
def nl0 : List Str := ["LotError", "BadFraction", "BadPlant", "BadDeed", "BadRow", "is_whole", "ZERO", "lowest", "plus", "is_fraction", "is_share", "check_fraction", "compare", "total", "Ratio", "_law_bag", "_law_mixed", "_law_draw", "_law_pick", "_law_is_int"]
def nl1 : List Str := ["_law_divisor", "_law_low", "_law_plus", "_law_minus", "_law_times", "_law_less", "_law_fraction", "_law_share", "_law_p3_number", "_law_p3_thing", "_law_p3_is", "_law_p3_sums", "_law_p3_order", "_law_p3_refused", "_law_p3_refusals"]
theorem run (w : World) : HeadRun.RunEqI R (PySem.W.view R.prog [0, 40]) hk ob 4000 (nl0 ++ nl1) w := by
  unfold HeadRun.RunEqI
  kernel_rfl
end G01

set_option Elab.async false
set_option linter.all false
set_option maxRecDepth 100000
set_option maxHeartbeats 0
open PySem PySem.W PySem.Calls PyProof.Rows
theorem G01.ends (hs : Vi.Says1 G01.F_law 63) : PySem.Challenge.rw_swornlots_k01_fractions.Holds := by
  w_on; o_law
  refine HeadRun.head_imp (r := G01.R) (q := view G01.R.prog [0, 40]) (H := G01.hk) (ob := G01.ob) (M := 4000) (loose := G01.nl0 ++ G01.nl1) (d := HeadRun.topDef G01.R.prog 40) (kwd := []) G01.ob_eq G01.run
    (by kernel_rfl) (by kernel_rfl) (by kernel_rfl) (by rfl) (by first | assumption | decide +kernel) (by decide +kernel) ⟨rfl, rfl, rfl, rfl, rfl, by decide +kernel⟩ ?hw ?hc
  case hw => w_witness2
  case hc =>
    refine Vi.walk_G (l := PySem.Challenge.rw_swornlots_k01_fractions) (n := 63) (k := 9) (x := "_law_script") (F := G01.F_law) rfl (by decide) (by kernel_rfl) ⟨rfl, by decide, by decide⟩ hs ?T
    intro w mg fa h Y G hmg0
    obtain ⟨K, KX, c⟩ := Y
    have hmg : mg ("law" : PySem.Str) = some (.ref fa) := by
      have e : (HeadRun.topDef G01.R.prog 40).name = ("law" : PySem.Str) := by kernel_rfl
      rw [← e]
      exact hmg0
    have ok : G01.PDx.ok K = true := Vi.SaysV.fact c 0
    obtain ⟨fd, F⟩ := Vi.SaysV.fun_ c 43
    have b := L2.FunD.bindsA (ps := ["_law_script"]) F fun _ _ _ _ _ _ us hl => match us, hl with | [_], _ => rfl
    refine ⟨K, fd, G01.PDx.gi K, rfl, KX, fun s u => b s [u] rfl, fun base kin gn => ?_⟩
    have Z : G01.Gn K mg base := ⟨c, kin, gn, ok⟩
    obtain rfl : fa = G01.r_law.pth K := by
      have z := (He.glo_ok kin gn (Vi.SaysV.fact c 33)).symm.trans hmg
      cases z
      rfl
    exact G01.fg_law Z F

theorem PySem.Challenge.cw_swornlots_k01_fractions_holds : PySem.Challenge.rw_swornlots_k01_fractions.Holds :=
  G01.ends G01.says

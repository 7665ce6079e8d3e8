import PyProof.Rows.All
import Wide.All
import OpenK.AllK
import Wide.FinOn
import HandS.ForMost
import HandS.ForExc
import HandS.Defaults
import HandS.CallSlots
import HandS.Gcd
import HandS.Wide
import HandS.IsInst
import HandS.Property
import HandS.ClsMeth
import HandS.ExcInit
import HandS.ExcField
import HandS.ExcIs
import HandS.Flow
import HandS.TupAny
import HandS.Deep
import KE.KOpsOwn
import PyProof.ReprRoads
import PyProof.Rows.NestShow
import HandS.Comp
import HandS.HeadHook2
import HandS.Ends
import KE.HD3
import HandS.Codes
import PyProof.SliceSyntax
import KE.KRevSl
import HandS.SortInts
import KE.KSortTupAny
import KE.KDictCopyH
import KE.KDictSum
import HandS.Text
import HandS.OwnIter
import HandS.IterVal
import PyProof.WalksMore
import HandS.Strs
import PySem.Challenge.RW_swornlots_k02_plants
import PyProof.ReprLen
import PyProof.FitsInt
import KE.DataCmp
set_option Elab.async false
set_option linter.all false
set_option maxRecDepth 100000
set_option maxHeartbeats 2000000
namespace Vi
open PySem L2

/-! ### data -/
inductive D where
  | non | bl (b : Bool) | int (i : Int) | str (x : Str)
  | tup (xs : List D) | lst (xs : List D) | kl (xs : List D)
  | ref (n : Nat)
  | obj (c : Nat) (fs : List (Str × D))
  | cls (c : Nat)
  | dK (kvs : List (Key × D)) | dT (kvs : List (List Key × D))
inductive Cell where
  | lst (xs : List D)
  | ins (c : Nat) (fs : List (Str × D))
  | dK (kvs : List (Key × D)) | dT (kvs : List (List Key × D))
  | frz (c : Cell)
/-- what an expression gives: data, a new list (nobody else knows it), a list of a slot (to be read) -/
inductive Vl where
  | d (x : D) | tl (xs : List D) | bl (xs : List D) | bi (c : Nat) (fs : List (Str × D))
/-- what a slot holds: data, a list of its own, a new instance in its own __init__ -/
inductive Sl where
  | d (x : D) | ol (xs : List D) | oi (c : Nat) (fs : List (Str × D)) | xc (c : Nat) (fs : List (Str × D))
abbrev Env := List (Option Sl)
abbrev Hc := List Cell
inductive R (α : Type) where
  | ok (a : α) (h : Hc) | exc (x : D) (h : Hc) | stuck
def R.bind {α β : Type} (r : R α) (k : α → Hc → R β) : R β := match r with
  | .ok a h => k a h
  | .exc x h => .exc x h
  | .stuck => .stuck
@[simp] theorem R.bind_ok {α β : Type} {a : α} {h : Hc} {k : α → Hc → R β} : (R.ok a h).bind k = k a h := rfl
@[simp] theorem R.bind_exc {α β : Type} {a : D} {h : Hc} {k : α → Hc → R β} : (R.exc a h : R α).bind k = .exc a h := rfl
@[simp] theorem R.bind_stuck {α β : Type} {k : α → Hc → R β} : (R.stuck : R α).bind k = .stuck := rfl

/-! ### how data stands in the heap -/
/-- a type: a built-in one, an own class -/
inductive Ty where
  | bt (n : String) | own (c : Nat)
  deriving DecidableEq
structure Gi where
  K : PySem.W.Frag
  ca : Nat → Addr
  isC : Nat → Bool
  fld : Nat → Str → Bool
  isi : Ty → Ty → Option Bool
  kc : List D → Bool
/-- a tuple's object: made here, or one of the module's own -/
def SqK (g : Gi) (ds : List D) (F : Hp) (a : Addr) (vs : List V) : Prop := F a = some (.tup vs) ∨ (g.kc ds = true ∧ SqT g.K F a vs)
theorem SqK.sq {g : Gi} {ds : List D} {F : Hp} {a : Addr} {vs : List V} (h : SqK g ds F a vs) : SqT g.K F a vs := by
  rcases h with h | h
  · exact .inl (.inl h)
  · exact h.2
mutual
def Rep (g : Gi) (F : Hp) (al : Nat → Option Addr) : D → V → Prop
  | .non, v => v = .non
  | .bl b, v => v = .bl b
  | .int i, v => v = .int i
  | .str x, v => v = .str x
  | .tup ds, v => ∃ (a : Addr) (vs : List V), v = .ref a ∧ SqK g ds F a vs ∧ Reps g F al ds vs
  | .lst ds, v => ∃ (a : Addr) (vs : List V), v = .ref a ∧ F a = some (.lst vs) ∧ Reps g F al ds vs
  | .kl ds, v => ∃ (a : Addr) (vs : List V), v = .ref a ∧ SqL g.K F a vs ∧ Reps g F al ds vs
  | .ref n, v => ∃ a, v = .ref a ∧ al n = some a
  | .obj c fs, v => ∃ (a dx : Addr) (vs : List (Str × V)), v = .ref a ∧ F a = some (.ins (g.ca c) dx vs) ∧ RepF g F al fs vs
  | .cls c, v => v = .ref (g.ca c)
  | .dK kvs, v => ∃ (a : Addr) (vs : List (Key × V)), v = .ref a ∧ F a = some (.dK vs) ∧ RepK g F al kvs vs
  | .dT kvs, v => ∃ (a : Addr) (vs : List (List Key × V)), v = .ref a ∧ F a = some (.dT vs) ∧ RepT g F al kvs vs
def Reps (g : Gi) (F : Hp) (al : Nat → Option Addr) : List D → List V → Prop
  | [], vs => vs = []
  | d :: ds, vs => ∃ v r, vs = v :: r ∧ Rep g F al d v ∧ Reps g F al ds r
def RepF (g : Gi) (F : Hp) (al : Nat → Option Addr) : List (Str × D) → List (Str × V) → Prop
  | [], vs => vs = []
  | (k, d) :: ds, vs => ∃ v r, vs = (k, v) :: r ∧ Rep g F al d v ∧ RepF g F al ds r
def RepK (g : Gi) (F : Hp) (al : Nat → Option Addr) : List (Key × D) → List (Key × V) → Prop
  | [], vs => vs = []
  | (k, d) :: ds, vs => ∃ v r, vs = (k, v) :: r ∧ Rep g F al d v ∧ RepK g F al ds r
def RepT (g : Gi) (F : Hp) (al : Nat → Option Addr) : List (List Key × D) → List (List Key × V) → Prop
  | [], vs => vs = []
  | (k, d) :: ds, vs => ∃ v r, vs = (k, v) :: r ∧ Rep g F al d v ∧ RepT g F al ds r
end
theorem sqT_mono {K : PySem.W.Frag} {F F' : Hp} {a : Addr} {vs : List V} (e : ∀ a o, F a = some o → F' a = some o) (h : SqT K F a vs) : SqT K F' a vs := by
  rcases h with (h | ⟨o, h⟩) | h
  · exact .inl (.inl (e _ _ h))
  · exact .inl (.inr ⟨o, e _ _ h⟩)
  · exact .inr h
theorem sqK_mono {g : Gi} {ds : List D} {F F' : Hp} {a : Addr} {vs : List V} (e : ∀ a o, F a = some o → F' a = some o) (h : SqK g ds F a vs) : SqK g ds F' a vs := by
  rcases h with h | h
  · exact .inl (e _ _ h)
  · exact .inr ⟨h.1, sqT_mono e h.2⟩
theorem sqL_mono {K : PySem.W.Frag} {F F' : Hp} {a : Addr} {vs : List V} (e : ∀ a o, F a = some o → F' a = some o) (h : SqL K F a vs) : SqL K F' a vs := by
  rcases h with (h | ⟨o, h⟩) | h
  · exact .inl (.inl (e _ _ h))
  · exact .inl (.inr ⟨o, e _ _ h⟩)
  · exact .inr h
section
variable {g : Gi} {F F' : Hp} {al al' : Nat → Option Addr}
mutual
theorem Rep.mono (e : ∀ a o, F a = some o → F' a = some o) (ea : ∀ n a, al n = some a → al' n = some a) : ∀ {d : D} {v : V}, Rep g F al d v → Rep g F' al' d v
  | .non, _, h => h
  | .bl _, _, h => h
  | .int _, _, h => h
  | .str _, _, h => h
  | .tup _, _, ⟨a, vs, h1, h2, h3⟩ => ⟨a, vs, h1, sqK_mono e h2, Reps.mono e ea h3⟩
  | .lst _, _, ⟨a, vs, h1, h2, h3⟩ => ⟨a, vs, h1, e _ _ h2, Reps.mono e ea h3⟩
  | .kl _, _, ⟨a, vs, h1, h2, h3⟩ => ⟨a, vs, h1, sqL_mono e h2, Reps.mono e ea h3⟩
  | .ref _, _, ⟨a, h1, h2⟩ => ⟨a, h1, ea _ _ h2⟩
  | .obj _ _, _, ⟨a, dx, vs, h1, h2, h3⟩ => ⟨a, dx, vs, h1, e _ _ h2, RepF.mono e ea h3⟩
  | .cls _, _, h => h
  | .dK _, _, ⟨a, vs, h1, h2, h3⟩ => ⟨a, vs, h1, e _ _ h2, RepK.mono e ea h3⟩
  | .dT _, _, ⟨a, vs, h1, h2, h3⟩ => ⟨a, vs, h1, e _ _ h2, RepT.mono e ea h3⟩
theorem Reps.mono (e : ∀ a o, F a = some o → F' a = some o) (ea : ∀ n a, al n = some a → al' n = some a) : ∀ {d : List D} {v : List V}, Reps g F al d v → Reps g F' al' d v
  | [], _, h => h
  | _ :: _, _, ⟨v, r, h1, h2, h3⟩ => ⟨v, r, h1, Rep.mono e ea h2, Reps.mono e ea h3⟩
theorem RepF.mono (e : ∀ a o, F a = some o → F' a = some o) (ea : ∀ n a, al n = some a → al' n = some a) : ∀ {d : List (Str × D)} {v : List (Str × V)}, RepF g F al d v → RepF g F' al' d v
  | [], _, h => h
  | (_, _) :: _, _, ⟨v, r, h1, h2, h3⟩ => ⟨v, r, h1, Rep.mono e ea h2, RepF.mono e ea h3⟩
theorem RepK.mono (e : ∀ a o, F a = some o → F' a = some o) (ea : ∀ n a, al n = some a → al' n = some a) : ∀ {d : List (Key × D)} {v : List (Key × V)}, RepK g F al d v → RepK g F' al' d v
  | [], _, h => h
  | (_, _) :: _, _, ⟨v, r, h1, h2, h3⟩ => ⟨v, r, h1, Rep.mono e ea h2, RepK.mono e ea h3⟩
theorem RepT.mono (e : ∀ a o, F a = some o → F' a = some o) (ea : ∀ n a, al n = some a → al' n = some a) : ∀ {d : List (List Key × D)} {v : List (List Key × V)}, RepT g F al d v → RepT g F' al' d v
  | [], _, h => h
  | (_, _) :: _, _, ⟨v, r, h1, h2, h3⟩ => ⟨v, r, h1, Rep.mono e ea h2, RepT.mono e ea h3⟩
end
end

/-! ### the state -/
structure Sta where
  F : Hp
  al : Nat → Option Addr
  h : Hc
  z : Nat → Option HO
abbrev RepS (g : Gi) (s : Sta) : D → V → Prop := Rep g s.F s.al
abbrev RepsS (g : Gi) (s : Sta) : List D → List V → Prop := Reps g s.F s.al
def CellRep (g : Gi) (s : Sta) (H : Hp) (a : Addr) : Cell → Prop
  | .lst ds => ∃ vs, H a = some (.lst vs) ∧ Reps g s.F s.al ds vs
  | .ins c fs => ∃ dx vs, H a = some (.ins (g.ca c) dx vs) ∧ RepF g s.F s.al fs vs
  | .dK kvs => ∃ vs, H a = some (.dK vs) ∧ RepK g s.F s.al kvs vs
  | .dT kvs => ∃ vs, H a = some (.dT vs) ∧ RepT g s.F s.al kvs vs
  | .frz c => CellRep g s H a c
theorem CellRep.mv {g : Gi} {s s' : Sta} {H H' : Hp} {a : Addr} (e : ∀ o, H a = some o → H' a = some o) (f : ∀ a o, s.F a = some o → s'.F a = some o) (l : ∀ n a, s.al n = some a → s'.al n = some a) : ∀ {c : Cell}, CellRep g s H a c → CellRep g s' H' a c
  | .lst _, ⟨vs, h3, h4⟩ => ⟨vs, e _ h3, h4.mono f l⟩
  | .ins _ _, ⟨dx, vs, h3, h4⟩ => ⟨dx, vs, e _ h3, h4.mono f l⟩
  | .dK _, ⟨vs, h3, h4⟩ => ⟨vs, e _ h3, h4.mono f l⟩
  | .dT _, ⟨vs, h3, h4⟩ => ⟨vs, e _ h3, h4.mono f l⟩
  | .frz c, h => CellRep.mv (c := c) e f l h
/-- the cells that stand still, and what stands in them -/
structure ZOk (s : Sta) (H : Hp) : Prop where
  at_ : ∀ n o, s.z n = some o → ∃ a c, s.al n = some a ∧ H a = some o ∧ s.h[n]? = some (.frz c)
  of : ∀ n c, s.h[n]? = some (.frz c) → ∃ o, s.z n = some o
theorem ZOk.keep {s s' : Sta} {H H' : Hp} (k : ZOk s H) (ez : s'.z = s.z) (eh : s'.h = s.h) (l : ∀ n a, s.al n = some a → s'.al n = some a) (e : ∀ n a o, s.al n = some a → H a = some o → H' a = some o) : ZOk s' H' :=
  ⟨fun n o h => by
    rw [ez] at h
    obtain ⟨a, c, h1, h2, h3⟩ := k.at_ n o h
    exact ⟨a, c, l _ _ h1, e n a o h1 h2, by rw [eh]; exact h3⟩, fun n c h => by
    rw [eh] at h
    rw [ez]
    exact k.of n c h⟩
structure Good (g : Gi) (s : Sta) (H : Hp) : Prop where
  fle : ∀ a o, s.F a = some o → H a = some o
  inj : ∀ n m a, s.al n = some a → s.al m = some a → n = m
  dom : ∀ n a, s.al n = some a → n < s.h.length ∧ s.F a = none ∧ ∃ o, H a = some o
  cell : ∀ n c, s.h[n]? = some c → ∃ a, s.al n = some a ∧ CellRep g s H a c
  zed : ZOk s H
structure Evo (s : Sta) (H : Hp) (s' : Sta) (H' : Hp) : Prop where
  f : ∀ a o, s.F a = some o → s'.F a = some o
  al : ∀ n a, s.al n = some a → s'.al n = some a
  oth : ∀ a o, H a = some o → (∀ n, s.al n ≠ some a) → H' a = some o ∧ (s.F a = none → s'.F a = none) ∧ ∀ n, s'.al n ≠ some a
  len : s.h.length ≤ s'.h.length
  z : ∀ n o, s.z n = some o → s'.z n = some o
theorem Evo.refl (s : Sta) (H : Hp) : Evo s H s H := ⟨fun _ _ h => h, fun _ _ h => h, fun _ _ h n => ⟨h, fun z => z, n⟩, Nat.le_refl _, fun _ _ h => h⟩
theorem Evo.trans {s s1 s2 : Sta} {H H1 H2 : Hp} (a : Evo s H s1 H1) (b : Evo s1 H1 s2 H2) : Evo s H s2 H2 :=
  ⟨fun _ _ h => b.f _ _ (a.f _ _ h), fun _ _ h => b.al _ _ (a.al _ _ h), fun x o h n => by
    obtain ⟨h1, f1, n1⟩ := a.oth x o h n
    obtain ⟨h2, f2, n2⟩ := b.oth x o h1 n1
    exact ⟨h2, fun z => f2 (f1 z), n2⟩, Nat.le_trans a.len b.len, fun _ _ h => b.z _ _ (a.z _ _ h)⟩
section
variable {g : Gi} {s s' : Sta} {H H' : Hp}
theorem Evo.rep (e : Evo s H s' H') {d : D} {v : V} (h : Rep g s.F s.al d v) : Rep g s'.F s'.al d v := h.mono e.f e.al
theorem Evo.reps (e : Evo s H s' H') {d : List D} {v : List V} (h : Reps g s.F s.al d v) : Reps g s'.F s'.al d v := h.mono e.f e.al
theorem Evo.repF (e : Evo s H s' H') {d : List (Str × D)} {v : List (Str × V)} (h : RepF g s.F s.al d v) : RepF g s'.F s'.al d v := h.mono e.f e.al
end

/-- where a body began -/
structure Bg where
  s : Sta
  H : Hp
  me : Addr := 0
  xa : Addr := 0
  xd : Addr := 0
  xcl : Nat := 0
/-- an address that is one slot's own -/
structure OwnA (B : Bg) (s : Sta) (a : Addr) : Prop where
  f : s.F a = none
  al : ∀ n, s.al n ≠ some a
  new : B.H a = none
theorem OwnA.evo {B : Bg} {s s' : Sta} {H H' : Hp} {a : Addr} {o : HO} (e : Evo s H s' H') (h : OwnA B s a) (ho : H a = some o) : OwnA B s' a ∧ H' a = some o := by
  obtain ⟨h1, h2, h3⟩ := e.oth a o ho h.al
  exact ⟨⟨h2 h.f, h3, h.new⟩, h1⟩
def SlRep (g : Gi) (B : Bg) (s : Sta) (H : Hp) : Sl → V → Prop
  | .d x, v => Rep g s.F s.al x v
  | .ol xs, v => ∃ a vs, v = .ref a ∧ H a = some (.lst vs) ∧ OwnA B s a ∧ Reps g s.F s.al xs vs
  | .oi c fs, v => ∃ a dx vs, v = .ref a ∧ H a = some (.ins (g.ca c) dx vs) ∧ OwnA B s a ∧ RepF g s.F s.al fs vs ∧ a = B.me
  | .xc c fs, v => v = .ref B.xa ∧ c = B.xcl ∧ ∃ vs, H B.xd = some (.xd vs) ∧ (∀ n, s.al n ≠ some B.xd) ∧ RepF g s.F s.al fs vs
def Sl.own : Sl → Bool
  | .d _ => false
  | .xc _ _ => false
  | _ => true
theorem SlRep.evo {g : Gi} {B : Bg} {s s' : Sta} {H H' : Hp} (e : Evo s H s' H') : ∀ {sl : Sl} {v : V}, SlRep g B s H sl v → SlRep g B s' H' sl v
  | .d _, _, h => e.rep h
  | .ol _, _, ⟨a, vs, h1, h2, h3, h4⟩ => ⟨a, vs, h1, (h3.evo e h2).2, (h3.evo e h2).1, e.reps h4⟩
  | .oi _ _, _, ⟨a, dx, vs, h1, h2, h3, h4, h5⟩ => ⟨a, dx, vs, h1, (h3.evo e h2).2, (h3.evo e h2).1, e.repF h4, h5⟩
  | .xc _ _, _, ⟨h1, h2, vs, h3, h4, h5⟩ => ⟨h1, h2, vs, (e.oth _ _ h3 h4).1, (e.oth _ _ h3 h4).2.2, e.repF h5⟩
structure SR (g : Gi) (B : Bg) (env : Env) (s : Sta) (σ : L2.St) (H : Hp) : Prop where
  good : Good g s H
  evo : Evo B.s B.H s H
  len : env.length = σ.length
  slot : ∀ (i : Nat) (sl : Sl), env[i]? = some (some sl) → ∃ v, σ[i]? = some (some v) ∧ SlRep g B s H sl v
  sep : ∀ (i j : Nat) (sl sl' : Sl) (v : V), i ≠ j → env[i]? = some (some sl) → env[j]? = some (some sl') → sl.own = true → sl'.own = true → σ[i]? = some (some v) → σ[j]? ≠ some (some v)
/-- not one of the slots' own -/
def NotOwn (env : Env) (σ : L2.St) (a : Addr) : Prop := ∀ (i : Nat) (sl : Sl), env[i]? = some (some sl) → sl.own = true → σ[i]? ≠ some (some (.ref a))
def VlRep (g : Gi) (B : Bg) (env : Env) (σ : L2.St) (s : Sta) (H : Hp) : Vl → V → Prop
  | .d x, v => Rep g s.F s.al x v
  | .tl xs, v => ∃ a vs, v = .ref a ∧ H a = some (.lst vs) ∧ OwnA B s a ∧ NotOwn env σ a ∧ Reps g s.F s.al xs vs
  | .bl xs, v => ∃ a vs, v = .ref a ∧ H a = some (.lst vs) ∧ OwnA B s a ∧ Reps g s.F s.al xs vs
  | .bi c fs, v => ∃ a dx vs, v = .ref a ∧ H a = some (.ins (g.ca c) dx vs) ∧ OwnA B s a ∧ RepF g s.F s.al fs vs
theorem VlRep.evo {g : Gi} {B : Bg} {env : Env} {σ : L2.St} {s s' : Sta} {H H' : Hp} (e : Evo s H s' H') : ∀ {x : Vl} {v : V}, VlRep g B env σ s H x v → VlRep g B env σ s' H' x v
  | .d _, _, h => e.rep h
  | .tl _, _, ⟨a, vs, h1, h2, h3, h5, h4⟩ => ⟨a, vs, h1, (h3.evo e h2).2, (h3.evo e h2).1, h5, e.reps h4⟩
  | .bl _, _, ⟨a, vs, h1, h2, h3, h4⟩ => ⟨a, vs, h1, (h3.evo e h2).2, (h3.evo e h2).1, e.reps h4⟩
  | .bi _ _, _, ⟨a, dx, vs, h1, h2, h3, h4⟩ => ⟨a, dx, vs, h1, (h3.evo e h2).2, (h3.evo e h2).1, e.repF h4⟩
/-- an exception: its class, its fields in its own dict -/
def XRep (g : Gi) (s : Sta) (H : Hp) : D → Value → Option Addr → Prop
  | .obj c fs, cls, dd => ∃ d vs, cls = .ref (g.ca c) ∧ dd = some d ∧ H d = some (.xd vs) ∧ (∀ n, s.al n ≠ some d) ∧ RepF g s.F s.al fs vs
  | _, _, _ => False
abbrev WXv := Value → Option Addr → L2.St → Hp → Prop

/-! ### readings of mirrors -/
abbrev ME := Env → Hc → R Vl
abbrev MB := Env → Hc → R Bool
abbrev MA := Env → Hc → R (List Vl)
section
variable (g : Gi) (B : Bg) (W : WXv) (env : Env) (s : Sta) (σ : L2.St) (H : Hp)
/-- what must hold of a result r that is reckoned at (s, H) -/
def PostX (x : D) (h : Hc) : Prop := ∀ (cls : Value) (dd : Option Addr) (H' : Hp) (s' : Sta), s'.h = h → Evo s H s' H' → SR g B env s' σ H' → XRep g s' H' x cls dd → W cls dd σ H'
def PostE : R Vl → VK → Prop
  | .ok d h, Q => ∀ (v : V) (H' : Hp) (s' : Sta), s'.h = h → Evo s H s' H' → SR g B env s' σ H' → VlRep g B env σ s' H' d v → Q v H'
  | .exc x h, _ => PostX g B W env s σ H x h
  | .stuck, _ => False
def PostB : R Bool → (Bool → Hp → Prop) → Prop
  | .ok b h, Q => ∀ (H' : Hp) (s' : Sta), s'.h = h → Evo s H s' H' → SR g B env s' σ H' → Q b H'
  | .exc x h, _ => PostX g B W env s σ H x h
  | .stuck, _ => False
inductive VlReps (g : Gi) (B : Bg) (env : Env) (σ : L2.St) (s : Sta) (H : Hp) : List Vl → List V → Prop
  | nil : VlReps g B env σ s H [] []
  | cons {x : Vl} {xs : List Vl} {v : V} {vs : List V} : VlRep g B env σ s H x v → VlReps g B env σ s H xs vs → VlReps g B env σ s H (x :: xs) (v :: vs)
def PostA : R (List Vl) → (List V → Hp → Prop) → Prop
  | .ok d h, Q => ∀ (vs : List V) (H' : Hp) (s' : Sta), s'.h = h → Evo s H s' H' → SR g B env s' σ H' → VlReps g B env σ s' H' d vs → Q vs H'
  | .exc x h, _ => PostX g B W env s σ H x h
  | .stuck, _ => False
end
theorem VlReps.evo {g : Gi} {B : Bg} {env : Env} {σ : L2.St} {s s' : Sta} {H H' : Hp} (e : Evo s H s' H') : ∀ {x : List Vl} {v : List V}, VlReps g B env σ s H x v → VlReps g B env σ s' H' x v
  | _, _, .nil => .nil
  | _, _, .cons a b => .cons (a.evo e) (b.evo e)
def tE (g : Gi) (B : Bg) (W : WXv) (m : ME) : TE := fun σ H Q => ∃ env s, SR g B env s σ H ∧ PostE g B W env s σ H (m env s.h) Q
def tT (g : Gi) (B : Bg) (W : WXv) (m : MB) : TT := fun σ H Q => ∃ env s, SR g B env s σ H ∧ PostB g B W env s σ H (m env s.h) Q
def tA (g : Gi) (B : Bg) (W : WXv) (m : MA) : TA := fun σ H Q => ∃ env s, SR g B env s σ H ∧ PostA g B W env s σ H (m env s.h) Q
section
variable {g : Gi} {B : Bg} {W : WXv} {env : Env} {s s' : Sta} {σ : L2.St} {H H' : Hp}
theorem PostX.later {x : D} {h : Hc} (e : Evo s H s' H') (p : PostX g B W env s σ H x h) : PostX g B W env s' σ H' x h := fun cls dd H2 s2 e1 e2 sr xr => p cls dd H2 s2 e1 (e.trans e2) sr xr
theorem PostE.later {Q : VK} (e : Evo s H s' H') : ∀ {r : R Vl}, PostE g B W env s σ H r Q → PostE g B W env s' σ H' r Q
  | .ok _ _, p => fun v H2 s2 e1 e2 sr vr => p v H2 s2 e1 (e.trans e2) sr vr
  | .exc _ _, p => PostX.later e p
  | .stuck, p => p
theorem PostB.later {Q : Bool → Hp → Prop} (e : Evo s H s' H') : ∀ {r : R Bool}, PostB g B W env s σ H r Q → PostB g B W env s' σ H' r Q
  | .ok _ _, p => fun H2 s2 e1 e2 sr => p H2 s2 e1 (e.trans e2) sr
  | .exc _ _, p => PostX.later e p
  | .stuck, p => p
theorem PostA.later {Q : List V → Hp → Prop} (e : Evo s H s' H') : ∀ {r : R (List Vl)}, PostA g B W env s σ H r Q → PostA g B W env s' σ H' r Q
  | .ok _ _, p => fun v H2 s2 e1 e2 sr vr => p v H2 s2 e1 (e.trans e2) sr vr
  | .exc _ _, p => PostX.later e p
  | .stuck, p => p

theorem PostE.mono {Q Q' : VK} (i : ∀ v H, Q v H → Q' v H) : ∀ {r : R Vl}, PostE g B W env s σ H r Q → PostE g B W env s σ H r Q'
  | .ok _ _, p => fun v H2 s2 e1 e2 sr vr => i _ _ (p v H2 s2 e1 e2 sr vr)
  | .exc _ _, p => p
  | .stuck, p => p
theorem PostB.mono {Q Q' : Bool → Hp → Prop} (i : ∀ v H, Q v H → Q' v H) : ∀ {r : R Bool}, PostB g B W env s σ H r Q → PostB g B W env s σ H r Q'
  | .ok _ _, p => fun H2 s2 e1 e2 sr => i _ _ (p H2 s2 e1 e2 sr)
  | .exc _ _, p => p
  | .stuck, p => p
theorem PostA.mono {Q Q' : List V → Hp → Prop} (i : ∀ v H, Q v H → Q' v H) : ∀ {r : R (List Vl)}, PostA g B W env s σ H r Q → PostA g B W env s σ H r Q'
  | .ok _ _, p => fun v H2 s2 e1 e2 sr vr => i _ _ (p v H2 s2 e1 e2 sr vr)
  | .exc _ _, p => p
  | .stuck, p => p
theorem tE.mono {m : ME} {Q Q' : VK} (h : tE g B W m σ H Q) (i : ∀ v H, Q v H → Q' v H) : tE g B W m σ H Q' := by
  obtain ⟨env, s, sr, p⟩ := h
  exact ⟨env, s, sr, p.mono i⟩
theorem tT.mono {m : MB} {Q Q' : Bool → Hp → Prop} (h : tT g B W m σ H Q) (i : ∀ v H, Q v H → Q' v H) : tT g B W m σ H Q' := by
  obtain ⟨env, s, sr, p⟩ := h
  exact ⟨env, s, sr, p.mono i⟩
theorem tA.mono {m : MA} {Q Q' : List V → Hp → Prop} (h : tA g B W m σ H Q) (i : ∀ v H, Q v H → Q' v H) : tA g B W m σ H Q' := by
  obtain ⟨env, s, sr, p⟩ := h
  exact ⟨env, s, sr, p.mono i⟩
/-- one part, then the rest -/
theorem bindE {a : ME} {k : Vl → Hc → R Vl} {Q : VK} (sr : SR g B env s σ H) (p : PostE g B W env s σ H ((a env s.h).bind k) Q) :
    tE g B W a σ H fun v H1 => ∃ s1 x, SR g B env s1 σ H1 ∧ Evo s H s1 H1 ∧ VlRep g B env σ s1 H1 x v ∧ PostE g B W env s1 σ H1 (k x s1.h) Q := by
  refine ⟨env, s, sr, ?_⟩
  cases e : a env s.h with
  | ok x h1 =>
    rw [e] at p
    intro v H1 s1 e1 ev sr1 vr
    refine ⟨s1, x, sr1, ev, vr, ?_⟩
    rw [e1]
    exact PostE.later ev p
  | exc x h1 =>
    rw [e] at p
    exact p
  | stuck =>
    rw [e] at p
    exact p
theorem bindET {a : ME} {k : Vl → Hc → R Bool} {Q : Bool → Hp → Prop} (sr : SR g B env s σ H) (p : PostB g B W env s σ H ((a env s.h).bind k) Q) :
    tE g B W a σ H fun v H1 => ∃ s1 x, SR g B env s1 σ H1 ∧ Evo s H s1 H1 ∧ VlRep g B env σ s1 H1 x v ∧ PostB g B W env s1 σ H1 (k x s1.h) Q := by
  refine ⟨env, s, sr, ?_⟩
  cases e : a env s.h with
  | ok x h1 =>
    rw [e] at p
    intro v H1 s1 e1 ev sr1 vr
    refine ⟨s1, x, sr1, ev, vr, ?_⟩
    rw [e1]
    exact PostB.later ev p
  | exc x h1 =>
    rw [e] at p
    exact p
  | stuck =>
    rw [e] at p
    exact p
theorem bindTE {a : MB} {k : Bool → Hc → R Vl} {Q : VK} (sr : SR g B env s σ H) (p : PostE g B W env s σ H ((a env s.h).bind k) Q) :
    tT g B W a σ H fun b H1 => ∃ s1, SR g B env s1 σ H1 ∧ Evo s H s1 H1 ∧ PostE g B W env s1 σ H1 (k b s1.h) Q := by
  refine ⟨env, s, sr, ?_⟩
  cases e : a env s.h with
  | ok x h1 =>
    rw [e] at p
    intro H1 s1 e1 ev sr1
    refine ⟨s1, sr1, ev, ?_⟩
    rw [e1]
    exact PostE.later ev p
  | exc x h1 =>
    rw [e] at p
    exact p
  | stuck =>
    rw [e] at p
    exact p
theorem bindTT {a : MB} {k : Bool → Hc → R Bool} {Q : Bool → Hp → Prop} (sr : SR g B env s σ H) (p : PostB g B W env s σ H ((a env s.h).bind k) Q) :
    tT g B W a σ H fun b H1 => ∃ s1, SR g B env s1 σ H1 ∧ Evo s H s1 H1 ∧ PostB g B W env s1 σ H1 (k b s1.h) Q := by
  refine ⟨env, s, sr, ?_⟩
  cases e : a env s.h with
  | ok x h1 =>
    rw [e] at p
    intro H1 s1 e1 ev sr1
    refine ⟨s1, sr1, ev, ?_⟩
    rw [e1]
    exact PostB.later ev p
  | exc x h1 =>
    rw [e] at p
    exact p
  | stuck =>
    rw [e] at p
    exact p
theorem bindAA {a : ME} {b : MA} {f : Vl → List Vl → Hc → R (List Vl)} {Q : List V → Hp → Prop} (sr : SR g B env s σ H) (p : PostA g B W env s σ H ((a env s.h).bind fun x h1 => (b env h1).bind fun xs h2 => f x xs h2) Q) :
    tE g B W a σ H fun v H1 => tA g B W b σ H1 fun vs H2 => ∃ s2 x xs, SR g B env s2 σ H2 ∧ Evo s H s2 H2 ∧ VlRep g B env σ s2 H2 x v ∧ VlReps g B env σ s2 H2 xs vs ∧ PostA g B W env s2 σ H2 (f x xs s2.h) Q := by
  refine ⟨env, s, sr, ?_⟩
  cases e1 : a env s.h with
  | ok x h1 =>
    rw [e1] at p
    intro v H1 s1 q1 ev1 sr1 vr1
    refine ⟨env, s1, sr1, ?_⟩
    have p : PostA g B W env s σ H ((b env h1).bind fun xs h2 => f x xs h2) Q := p
    rw [q1]
    cases e2 : b env h1 with
    | ok xs h2 =>
      rw [e2] at p
      intro vs H2 s2 q2 ev2 sr2 vr2
      refine ⟨s2, x, xs, sr2, ev1.trans ev2, vr1.evo ev2, vr2, ?_⟩
      rw [q2]
      exact PostA.later (ev1.trans ev2) p
    | exc x h =>
      rw [e2] at p
      exact PostX.later ev1 p
    | stuck =>
      rw [e2] at p
      exact p
  | exc x h =>
    rw [e1] at p
    exact p
  | stuck =>
    rw [e1] at p
    exact p
theorem bindA {a : MA} {k : List Vl → Hc → R Vl} {Q : VK} (sr : SR g B env s σ H) (p : PostE g B W env s σ H ((a env s.h).bind k) Q) :
    tA g B W a σ H fun vs H1 => ∃ s1 xs, SR g B env s1 σ H1 ∧ Evo s H s1 H1 ∧ VlReps g B env σ s1 H1 xs vs ∧ PostE g B W env s1 σ H1 (k xs s1.h) Q := by
  refine ⟨env, s, sr, ?_⟩
  cases e : a env s.h with
  | ok x h1 =>
    rw [e] at p
    intro v H1 s1 e1 ev sr1 vr
    refine ⟨s1, x, sr1, ev, vr, ?_⟩
    rw [e1]
    exact PostE.later ev p
  | exc x h1 =>
    rw [e] at p
    exact p
  | stuck =>
    rw [e] at p
    exact p
/-- a result that changes nothing -/
theorem PostE.pure {x : Vl} {v : V} {Q : VK} (sr : SR g B env s σ H) (p : PostE g B W env s σ H (.ok x s.h) Q) (r : VlRep g B env σ s H x v) : Q v H := p v H s rfl (Evo.refl s H) sr r
theorem PostB.pure {b : Bool} {Q : Bool → Hp → Prop} (sr : SR g B env s σ H) (p : PostB g B W env s σ H (.ok b s.h) Q) : Q b H := p H s rfl (Evo.refl s H) sr
/-- a new object that is tracked nowhere -/
theorem SR.new {p : Addr} {o : HO} (sr : SR g B env s σ H) (hp : H p = none) : SR g B env s σ (upd H p o) ∧ Evo s H s (upd H p o) := by
  have ne : ∀ {a : Addr} {u : HO}, H a = some u → a ≠ p := fun h => ne_of_none h hp
  have ev : Evo s H s (upd H p o) := ⟨fun _ _ h => h, fun _ _ h => h, fun a u h n => ⟨by rw [upd_ne (ne h)]; exact h, fun z => z, n⟩, Nat.le_refl _, fun _ _ h => h⟩
  refine ⟨⟨⟨fun a u h => ?_, sr.good.inj, fun n a h => ?_, fun n c h => ?_, sr.good.zed.keep rfl rfl (fun _ _ h => h) fun n a o _ h => by rw [upd_ne (ne h)]; exact h⟩, sr.evo.trans ev, sr.len, fun i sl h => ?_, sr.sep⟩, ev⟩
  · have z := sr.good.fle a u h
    rw [upd_ne (ne z)]
    exact z
  · obtain ⟨h1, h2, u, h3⟩ := sr.good.dom n a h
    exact ⟨h1, h2, u, by rw [upd_ne (ne h3)]; exact h3⟩
  · obtain ⟨a, h1, h2⟩ := sr.good.cell n c h
    refine ⟨a, h1, ?_⟩
    exact h2.mv (fun o h3 => by rw [upd_ne (ne h3)]; exact h3) (fun _ _ h => h) fun _ _ h => h
  · obtain ⟨v, h1, h2⟩ := sr.slot i sl h
    exact ⟨v, h1, h2.evo ev⟩
theorem SR.own_new {p : Addr} (sr : SR g B env s σ H) (hp : H p = none) : OwnA B s p := by
  refine ⟨?_, fun n h => ?_, ?_⟩
  · cases e : s.F p with
    | none => rfl
    | some o =>
      have z := sr.good.fle p o e
      rw [hp] at z
      cases z
  · obtain ⟨_, _, o, h3⟩ := sr.good.dom n p h
    rw [hp] at h3
    cases h3
  · cases e : B.H p with
    | none => rfl
    | some o =>
      by_cases hn : ∀ n, B.s.al n ≠ some p
      · have z := (sr.evo.oth p o e hn).1
        rw [hp] at z
        cases z
      · have hn2 : ∃ n, B.s.al n = some p := Classical.byContradiction fun h => hn fun n z => h ⟨n, z⟩
        obtain ⟨n, h⟩ := hn2
        obtain ⟨_, _, o, h3⟩ := sr.good.dom n p (sr.evo.al n p h)
        rw [hp] at h3
        cases h3
theorem SlRep.there {sl : Sl} {v : V} (h : SlRep g B s H sl v) (o : sl.own = true) : ∃ a u, v = .ref a ∧ H a = some u := by
  cases sl with
  | d x => cases o
  | ol xs => obtain ⟨a, vs, h1, h2, _⟩ := h; exact ⟨a, _, h1, h2⟩
  | oi c fs => obtain ⟨a, dx, vs, h1, h2, _⟩ := h; exact ⟨a, _, h1, h2⟩
  | xc c fs => cases o
theorem SR.notOwn_new {p : Addr} (sr : SR g B env s σ H) (hp : H p = none) : NotOwn env σ p := fun i sl h1 h2 h3 => by
  obtain ⟨v, e1, e2⟩ := sr.slot i sl h1
  obtain ⟨a, u, rfl, h4⟩ := e2.there h2
  rw [h3] at e1
  cases e1
  rw [hp] at h4
  cases h4
/-- freeze: an owned address becomes part of what never changes -/
def Sta.frz (s : Sta) (a : Addr) (o : HO) : Sta := { s with F := upd s.F a o }
theorem evo_frz {a : Addr} {o : HO} (hf : s.F a = none) (hn : ∀ n, s.al n ≠ some a) (hb : B.H a = none) (e : Evo B.s B.H s H) : Evo B.s B.H (s.frz a o) H :=
  ⟨fun b u h => by
    have z := e.f b u h
    have ne : b ≠ a := fun q => by rw [q, hf] at z; cases z
    show upd s.F a o b = some u
    rw [upd_ne ne]; exact z, e.al, fun b u h n => by
    obtain ⟨h1, h2, h3⟩ := e.oth b u h n
    refine ⟨h1, fun z => ?_, h3⟩
    have ne : b ≠ a := fun q => by rw [q, hb] at h; cases h
    show upd s.F a o b = none
    rw [upd_ne ne]; exact h2 z, e.len, e.z⟩
end
end Vi

set_option Elab.async false
set_option linter.all false
set_option maxRecDepth 100000
set_option maxHeartbeats 2000000
namespace Vi
open PySem L2

theorem pe_imp {X : Cx} {e : Expr} {t t' : TE} (h : PE X e t) (i : ∀ σ H Q, t' σ H Q → t σ H Q) : PE X e t' := ⟨fun pins s σ H Q I q => h.run pins s σ H Q I (i σ H Q q)⟩
theorem pt_imp {X : Cx} {e : Expr} {t t' : TT} (h : PT X e t) (i : ∀ σ H Q, t' σ H Q → t σ H Q) : PT X e t' := ⟨fun pins s σ H Q I q => h.run pins s σ H Q I (i σ H Q q)⟩
theorem pw_imp {X : Cx} {e : Expr} {t t' : TT} (h : PW X e t) (i : ∀ σ H Q, t' σ H Q → t σ H Q) : PW X e t' := ⟨fun wh pins s σ H Q I q => h.run wh pins s σ H Q I (i σ H Q q)⟩
theorem pa_imp {X : Cx} {e : List Expr} {t t' : TA} (h : PA X e t) (i : ∀ σ H Q, t' σ H Q → t σ H Q) : PA X e t' := ⟨fun pos pins s σ H Q I q => h.run pos pins s σ H Q I (i σ H Q q)⟩

/-! ### mirrors -/
def mVar (i : Nat) : ME := fun env h => match env[i]? with
  | some (some (.d x)) => .ok (.d x) h
  | some (some (.ol xs)) => .ok (.bl xs) h
  | some (some (.oi c fs)) => .ok (.bi c fs) h
  | _ => .stuck
@[simp] def mC (d : D) : ME := fun _ h => .ok (.d d) h
@[simp] def m1 (f : Vl → Hc → R Vl) (a : ME) : ME := fun env h => (a env h).bind f
@[simp] def m2 (f : Vl → Vl → Hc → R Vl) (a b : ME) : ME := fun env h => (a env h).bind fun x h1 => (b env h1).bind fun y h2 => f x y h2
@[simp] def m2b (f : Vl → Vl → Hc → R Bool) (a b : ME) : MB := fun env h => (a env h).bind fun x h1 => (b env h1).bind fun y h2 => f x y h2
@[simp] def maNil : MA := fun _ h => .ok [] h
@[simp] def maCons (a : ME) (b : MA) : MA := fun env h => (a env h).bind fun x h1 => (b env h1).bind fun xs h2 => .ok (x :: xs) h2
@[simp] def mA1 (f : List Vl → Hc → R Vl) (a : MA) : ME := fun env h => (a env h).bind f
/-- all are data -/
@[simp] def datas : List Vl → Option (List D)
  | [] => some []
  | .d x :: r => (datas r).map (x :: ·)
  | _ :: _ => none
def Cell.bare : Cell → Cell
  | .frz c => c.bare
  | c => c
theorem CellRep.bare {g : Gi} {s : Sta} {H : Hp} {a : Addr} : ∀ {c : Cell}, CellRep g s H a c → CellRep g s H a c.bare
  | .lst _, h => h
  | .ins _ _, h => h
  | .dK _, h => h
  | .dT _, h => h
  | .frz c, h => CellRep.bare (c := c) h
def lst? (h : Hc) : Vl → Option (List D)
  | .d (.lst xs) => some xs
  | .d (.kl xs) => some xs
  | .tl xs => some xs
  | .bl xs => some xs
  | .d (.ref n) => (match h[n]?.map Cell.bare with
    | some (.lst xs) => some xs
    | _ => none)
  | _ => none
/-- a list that was made by the program -/
def mlst? (h : Hc) : Vl → Option (List D)
  | .d (.lst xs) => some xs
  | .tl xs => some xs
  | .bl xs => some xs
  | .d (.ref n) => (match h[n]?.map Cell.bare with
    | some (.lst xs) => some xs
    | _ => none)
  | _ => none
def tup? : Vl → Option (List D)
  | .d (.tup xs) => some xs
  | _ => none

section
variable {g : Gi} {B : Bg} {W : WXv} {env : Env} {s s' : Sta} {σ : L2.St} {H H' : Hp}
theorem Good.sqL {a : Addr} {vs : List V} (gd : Good g s H) (h : SqL g.K s.F a vs) : SqL g.K H a vs := sqL_mono gd.fle h
theorem Good.sqT {a : Addr} {vs : List V} (gd : Good g s H) (h : SqT g.K s.F a vs) : SqT g.K H a vs := sqT_mono gd.fle h
theorem ref_lst {n : Nat} {v : V} {xs : List D} (gd : Good g s H) (h : Rep g s.F s.al (.ref n) v) (e : (match s.h[n]?.map Cell.bare with
    | some (.lst xs) => some xs
    | _ => none) = some xs) : ∃ a vs, v = .ref a ∧ H a = some (.lst vs) ∧ Reps g s.F s.al xs vs := by
  obtain ⟨a, rfl, hal⟩ := h
  cases e1 : s.h[n]? with
  | none =>
    rw [e1] at e
    cases e
  | some c =>
    rw [e1] at e
    obtain ⟨b, g1, g2⟩ := gd.cell n c e1
    rw [hal] at g1
    cases g1
    have g3 := g2.bare
    have e : (match some c.bare with
      | some (.lst xs) => some xs
      | _ => none) = some xs := e
    cases ec : c.bare with
    | lst ys =>
      rw [ec] at e g3
      cases e
      obtain ⟨vs, h1, h2⟩ := g3
      exact ⟨a, vs, rfl, h1, h2⟩
    | _ =>
      rw [ec] at e
      cases e
theorem VlRep.lst {x : Vl} {v : V} {xs : List D} (gd : Good g s H) (h : VlRep g B env σ s H x v) (e : lst? s.h x = some xs) : ∃ a vs, v = .ref a ∧ SqL g.K H a vs ∧ Reps g s.F s.al xs vs := by
  cases x with
  | d x =>
    cases x with
    | lst ys => cases e; obtain ⟨a, vs, h1, h2, h3⟩ := h; exact ⟨a, vs, h1, .of (gd.fle _ _ h2), h3⟩
    | kl ys => cases e; obtain ⟨a, vs, h1, h2, h3⟩ := h; exact ⟨a, vs, h1, gd.sqL h2, h3⟩
    | ref n => obtain ⟨a, vs, h1, h2, h3⟩ := ref_lst gd h e; exact ⟨a, vs, h1, .of h2, h3⟩
    | _ => cases e
  | tl ys => cases e; obtain ⟨a, vs, h1, h2, _, _, h3⟩ := h; exact ⟨a, vs, h1, .of h2, h3⟩
  | bl ys => cases e; obtain ⟨a, vs, h1, h2, _, h3⟩ := h; exact ⟨a, vs, h1, .of h2, h3⟩
  | bi c fs => cases e
theorem VlRep.mlst {x : Vl} {v : V} {xs : List D} (gd : Good g s H) (h : VlRep g B env σ s H x v) (e : mlst? s.h x = some xs) : ∃ a vs, v = .ref a ∧ H a = some (.lst vs) ∧ Reps g s.F s.al xs vs := by
  cases x with
  | d x =>
    cases x with
    | lst ys => cases e; obtain ⟨a, vs, h1, h2, h3⟩ := h; exact ⟨a, vs, h1, gd.fle _ _ h2, h3⟩
    | ref n => exact ref_lst gd h e
    | _ => cases e
  | tl ys => cases e; obtain ⟨a, vs, h1, h2, _, _, h3⟩ := h; exact ⟨a, vs, h1, h2, h3⟩
  | bl ys => cases e; obtain ⟨a, vs, h1, h2, _, h3⟩ := h; exact ⟨a, vs, h1, h2, h3⟩
  | bi c fs => cases e
theorem VlRep.tup {x : Vl} {v : V} {xs : List D} (gd : Good g s H) (h : VlRep g B env σ s H x v) (e : tup? x = some xs) : ∃ a vs, v = .ref a ∧ SqT g.K H a vs ∧ Reps g s.F s.al xs vs := by
  cases x with
  | d x =>
    cases x with
    | tup ys => cases e; obtain ⟨a, vs, h1, h2, h3⟩ := h; exact ⟨a, vs, h1, gd.sqT h2.sq, h3⟩
    | _ => cases e
  | tl ys => cases e
  | bl ys => cases e
  | bi c fs => cases e
theorem VlReps.datas : ∀ {xs : List Vl} {vs : List V} {ds : List D}, VlReps g B env σ s H xs vs → datas xs = some ds → Reps g s.F s.al ds vs
  | [], _, _, .nil, e => by cases e; rfl
  | .d x :: r, _, ds, .cons h t, e => by
    have e1 : (Vi.datas r).map (x :: ·) = some ds := e
    cases q : Vi.datas r with
    | none => rw [q] at e1; cases e1
    | some l =>
      rw [q] at e1
      cases e1
      exact ⟨_, _, rfl, h, t.datas q⟩
  | .tl _ :: _, _, _, _, e => by cases e
  | .bl _ :: _, _, _, _, e => by cases e
  | .bi _ _ :: _, _, _, _, e => by cases e
theorem Reps.length {F : Hp} {al : Nat → Option Addr} : ∀ {ds : List D} {vs : List V}, Reps g F al ds vs → vs.length = ds.length
  | [], _, h => by rw [h]; rfl
  | _ :: _, _, ⟨v, r, h1, _, h3⟩ => by rw [h1, List.length_cons, List.length_cons, h3.length]
theorem Reps.get {F : Hp} {al : Nat → Option Addr} : ∀ {ds : List D} {vs : List V} {i : Nat} {d : D}, Reps g F al ds vs → ds[i]? = some d → ∃ v, vs[i]? = some v ∧ Rep g F al d v
  | _ :: _, _, 0, _, ⟨v, r, h1, h2, h3⟩, e => by
    cases e
    exact ⟨v, by rw [h1]; rfl, h2⟩
  | _ :: _, _, i + 1, _, ⟨v, r, h1, h2, h3⟩, e => by
    obtain ⟨w, e1, e2⟩ := h3.get (i := i) (by simpa using e)
    exact ⟨w, by rw [h1]; simpa using e1, e2⟩
theorem Reps.append {F : Hp} {al : Nat → Option Addr} : ∀ {ds es : List D} {vs ws : List V}, Reps g F al ds vs → Reps g F al es ws → Reps g F al (ds ++ es) (vs ++ ws)
  | [], _, _, _, h, k => by rw [h]; exact k
  | _ :: _, _, _, _, ⟨v, r, h1, h2, h3⟩, k => ⟨v, r ++ _, by rw [h1]; rfl, h2, h3.append k⟩
theorem Reps.drop {F : Hp} {al : Nat → Option Addr} : ∀ {ds : List D} {vs : List V} (n : Nat), Reps g F al ds vs → Reps g F al (ds.drop n) (vs.drop n)
  | _, _, 0, h => h
  | [], _, n + 1, h => by rw [h]; rfl
  | _ :: _, _, n + 1, ⟨v, r, h1, h2, h3⟩ => by rw [h1]; exact h3.drop n
theorem Reps.take {F : Hp} {al : Nat → Option Addr} : ∀ {ds : List D} {vs : List V} (n : Nat), Reps g F al ds vs → Reps g F al (ds.take n) (vs.take n)
  | _, _, 0, h => rfl
  | [], _, n + 1, h => by rw [h]; rfl
  | _ :: _, _, n + 1, ⟨v, r, h1, h2, h3⟩ => ⟨v, r.take n, by rw [h1]; rfl, h2, h3.take n⟩
theorem Reps.set {F : Hp} {al : Nat → Option Addr} {d : D} {v : V} (hd : Rep g F al d v) : ∀ {ds : List D} {vs : List V} (n : Nat), Reps g F al ds vs → Reps g F al (ds.set n d) (vs.set n v)
  | [], _, _, h => by rw [h]; rfl
  | _ :: _, _, 0, ⟨w, r, h1, h2, h3⟩ => ⟨v, r, by rw [h1]; rfl, hd, h3⟩
  | _ :: _, _, n + 1, ⟨w, r, h1, h2, h3⟩ => ⟨w, r.set n v, by rw [h1]; rfl, h2, h3.set hd n⟩
theorem Reps.cons {F : Hp} {al : Nat → Option Addr} {d : D} {v : V} {ds : List D} {vs : List V} (h : Rep g F al d v) (k : Reps g F al ds vs) : Reps g F al (d :: ds) (v :: vs) := ⟨v, vs, rfl, h, k⟩
theorem Reps.nil {F : Hp} {al : Nat → Option Addr} : Reps g F al [] [] := rfl

/-! ### a new object -/
/-- a new thing that never changes -/
theorem SR.newF {p : Addr} {o : HO} (sr : SR g B env s σ H) (hp : H p = none) :
    SR g B env (s.frz p o) σ (upd H p o) ∧ Evo s H (s.frz p o) (upd H p o) := by
  have ow := sr.own_new hp
  have ne : ∀ {a : Addr} {u : HO}, H a = some u → a ≠ p := fun h => ne_of_none h hp
  have neF : ∀ {a : Addr} {u : HO}, s.F a = some u → a ≠ p := fun h => ne (sr.good.fle _ _ h)
  have ev : Evo s H (s.frz p o) (upd H p o) := ⟨fun a u h => by
      show upd s.F p o a = some u
      rw [upd_ne (neF h)]; exact h, fun _ _ h => h, fun a u h n => ⟨by rw [upd_ne (ne h)]; exact h, fun z => by
      show upd s.F p o a = none
      rw [upd_ne (ne h)]; exact z, n⟩, Nat.le_refl _, fun _ _ h => h⟩
  refine ⟨⟨⟨fun a u h => ?_, sr.good.inj, fun n a h => ?_, fun n c h => ?_, sr.good.zed.keep rfl rfl (fun _ _ h => h) fun n a o _ h => by rw [upd_ne (ne h)]; exact h⟩, sr.evo.trans ev, sr.len, fun i sl h => ?_, sr.sep⟩, ev⟩
  · have h : upd s.F p o a = some u := h
    by_cases q : a = p
    · subst q
      rw [upd_same] at h ⊢
      exact h
    · rw [upd_ne q] at h ⊢
      exact sr.good.fle a u h
  · obtain ⟨h1, h2, u, h3⟩ := sr.good.dom n a h
    refine ⟨h1, ?_, u, by rw [upd_ne (ne h3)]; exact h3⟩
    show upd s.F p o a = none
    rw [upd_ne (ne h3)]; exact h2
  · obtain ⟨a, h1, h2⟩ := sr.good.cell n c h
    refine ⟨a, h1, ?_⟩
    exact h2.mv (fun o h3 => by rw [upd_ne (ne h3)]; exact h3) ev.f ev.al
  · obtain ⟨v, h1, h2⟩ := sr.slot i sl h
    exact ⟨v, h1, h2.evo ev⟩
theorem PostE.newT {ds : List D} {vs : List V} {p : Addr} {Q : VK} (sr : SR g B env s σ H) (h : PostE g B W env s σ H (.ok (.d (.tup ds)) s.h) Q) (r : Reps g s.F s.al ds vs) (hp : H p = none) : Q (.ref p) (upd H p (.tup vs)) := by
  obtain ⟨sr1, ev⟩ := sr.newF (o := .tup vs) hp
  exact h _ _ (s.frz p (.tup vs)) rfl ev sr1 ⟨p, vs, rfl, .inl upd_same, ev.reps r⟩
theorem PostE.newL {ds : List D} {vs : List V} {p : Addr} {Q : VK} (sr : SR g B env s σ H) (h : PostE g B W env s σ H (.ok (.d (.lst ds)) s.h) Q) (r : Reps g s.F s.al ds vs) (hp : H p = none) : Q (.ref p) (upd H p (.lst vs)) := by
  obtain ⟨sr1, ev⟩ := sr.newF (o := .lst vs) hp
  exact h _ _ (s.frz p (.lst vs)) rfl ev sr1 ⟨p, vs, rfl, upd_same, ev.reps r⟩
theorem PostE.newO {ds : List D} {vs : List V} {p : Addr} {Q : VK} (sr : SR g B env s σ H) (h : PostE g B W env s σ H (.ok (.tl ds) s.h) Q) (r : Reps g s.F s.al ds vs) (hp : H p = none) : Q (.ref p) (upd H p (.lst vs)) := by
  obtain ⟨sr1, ev⟩ := sr.new (o := .lst vs) hp
  exact h _ _ _ rfl ev sr1 ⟨p, vs, rfl, upd_same, sr.own_new hp, sr.notOwn_new hp, ev.reps r⟩
/-- either: owned or never changed -/
@[simp] def Vl.ofL (o : Bool) (ds : List D) : Vl := if o then .tl ds else .d (.lst ds)
theorem PostE.newLO {o : Bool} {ds : List D} {vs : List V} {p : Addr} {Q : VK} (sr : SR g B env s σ H) (h : PostE g B W env s σ H (.ok (Vl.ofL o ds) s.h) Q) (r : Reps g s.F s.al ds vs) (hp : H p = none) : Q (.ref p) (upd H p (.lst vs)) := by
  cases o with
  | true => exact PostE.newO sr h r hp
  | false => exact PostE.newL sr h r hp
end

/-! ### rules: names, constants, displays -/
section
variable {X : Cx} {g : Gi} {B : Bg} {W : WXv} {pos : Pos}
theorem ve_var (i : Nat) {x : Str} (hN : X.N[i]? = some x := by rfl) (hv : Vis X.env.scope x := by first | exact Or.inl rfl | exact Or.inr (Or.inl rfl) | exact Or.inr (Or.inr rfl)) (hd : (x == ("__debug__" : Str)) = false := by decide)
    (hcd : (x == ("__classdict__" : Str)) = false := by decide) : PE X (.Name x pos) (tE g B W (mVar i)) := by
  refine pe_imp (pe_var hN hv hd hcd) fun σ H Q ⟨env, s, sr, p⟩ => ?_
  unfold mVar at p
  cases e : env[i]? with
  | none => rw [e] at p; exact p.elim
  | some o =>
    rw [e] at p
    cases o with
    | none => exact p.elim
    | some sl =>
      obtain ⟨v, h1, h2⟩ := sr.slot i sl e
      refine ⟨v, h1, ?_⟩
      cases sl with
      | d x => exact PostE.pure sr p h2
      | ol xs => exact PostE.pure sr p h2
      | oi c fs =>
        obtain ⟨a, dx, vs, e1, e2, e3, e4, _⟩ := h2
        exact PostE.pure sr p ⟨a, dx, vs, e1, e2, e3, e4⟩
      | xc c fs => exact p.elim
theorem ve_int {i j} : PE X (.Constant (.int i) j pos) (tE g B W (mC (.int i))) := pe_imp pe_int fun σ H Q ⟨env, s, sr, p⟩ => PostE.pure sr p rfl
theorem ve_bl {b j} : PE X (.Constant (.bool b) j pos) (tE g B W (mC (.bl b))) := pe_imp pe_bl fun σ H Q ⟨env, s, sr, p⟩ => PostE.pure sr p rfl
theorem ve_non {j} : PE X (.Constant .none j pos) (tE g B W (mC .non)) := pe_imp pe_non fun σ H Q ⟨env, s, sr, p⟩ => PostE.pure sr p rfl
theorem ve_str {x j} : PE X (.Constant (.str x) j pos) (tE g B W (mC (.str x))) := pe_imp pe_str fun σ H Q ⟨env, s, sr, p⟩ => PostE.pure sr p rfl
/-- a module's constant -/
structure GlobD (X : Cx) (g : Gi) (x : Str) (d : D) : Prop where
  ex : ∃ (v : V) (u : Value), X.mg x = some u ∧ RelV v u ∧ ∀ F al, Rep g F al d v
theorem ve_glob {x : Str} {d : D} (hg : Gl X x) (h : GlobD X g x d) (hd : (x == ("__debug__" : Str)) = false := by decide) : PE X (.Name x pos) (tE g B W (mC d)) := by
  obtain ⟨v, u, h1, h2, h3⟩ := h.ex
  exact pe_imp (pe_glob hg h1 h2 hd) fun σ H Q ⟨env, s, sr, p⟩ => PostE.pure sr p (h3 _ _)
theorem va_nil : PA X [] (tA g B W maNil) := pa_imp pa_nil fun σ H Q ⟨env, s, sr, p⟩ => p [] H s rfl (Evo.refl s H) sr .nil
theorem va_cons {e : Expr} {es : List Expr} {a : ME} {b : MA} (ha : PE X e (tE g B W a)) (hb : PA X es (tA g B W b)) (hs : starEach (e :: es) X.env = (false, eval e X.env) :: starEach es X.env := by rfl) : PA X (e :: es) (tA g B W (maCons a b)) := by
  refine pa_imp (pa_cons ha hb hs) fun σ H Q ⟨env, s, sr, p⟩ => ?_
  refine (bindAA (f := fun x xs h => .ok (x :: xs) h) (Q := Q) sr p).mono fun v H1 h1 => h1.mono fun vs H2 ⟨s2, x, xs, sr2, ev2, vr1, vr2, p2⟩ => ?_
  exact p2 _ H2 s2 rfl (Evo.refl _ _) sr2 (.cons vr1 vr2)
@[simp] def fTup (xs : List Vl) (h : Hc) : R Vl := match datas xs with
  | some ds => if ds.length ≤ 100000 then .ok (.d (.tup ds)) h else .stuck
  | none => .stuck
@[simp] def fLst (o : Bool) (xs : List Vl) (h : Hc) : R Vl := match datas xs with
  | some ds => if ds.length ≤ 100000 then .ok (Vl.ofL o ds) h else .stuck
  | none => .stuck
theorem size_of {n : Nat} (h : n ≤ 100000) : n ≤ sizeLine := Nat.le_trans h (by decide)
theorem ve_tup {es : List Expr} {a : MA} {x1} (h : PA X es (tA g B W a)) : PE X (.Tuple es x1 pos) (tE g B W (mA1 fTup a)) := by
  refine pe_imp (pe_tup h) fun σ H Q ⟨env, s, sr, p⟩ => ?_
  refine (bindA (Q := Q) sr p).mono fun vs H1 ⟨s2, ys, sr2, ev2, vr2, p2⟩ => ?_
  unfold fTup at p2
  cases e2 : datas ys with
  | none => rw [e2] at p2; exact p2.elim
  | some ds =>
    rw [e2] at p2
    by_cases hl : ds.length ≤ 100000
    · simp only [if_pos hl] at p2
      have rr := vr2.datas e2
      exact ⟨by rw [rr.length]; exact size_of hl, fun p hp => PostE.newT sr2 p2 rr hp⟩
    · simp only [if_neg hl] at p2
      exact p2.elim
theorem ve_lst (o : Bool) {es : List Expr} {a : MA} (h : PA X es (tA g B W a)) : PE X (.List es pos) (tE g B W (mA1 (fLst o) a)) := by
  refine pe_imp (pe_lst h) fun σ H Q ⟨env, s, sr, p⟩ => ?_
  refine (bindA (Q := Q) sr p).mono fun vs H1 ⟨s2, ys, sr2, ev2, vr2, p2⟩ => ?_
  unfold fLst at p2
  cases e2 : datas ys with
  | none => rw [e2] at p2; exact p2.elim
  | some ds =>
    rw [e2] at p2
    by_cases hl : ds.length ≤ 100000
    · simp only [if_pos hl] at p2
      have rr := vr2.datas e2
      exact ⟨by rw [rr.length]; exact size_of hl, fun p hp => PostE.newLO sr2 p2 rr hp⟩
    · simp only [if_neg hl] at p2
      exact p2.elim
end
end Vi

set_option Elab.async false
set_option linter.all false
set_option maxRecDepth 100000
set_option maxHeartbeats 2000000
namespace Vi
open PySem L2

section
variable {g : Gi} {B : Bg} {W : WXv} {env : Env} {s s' : Sta} {σ : L2.St} {H H' : Hp}
theorem bind2E {a b : ME} {f : Vl → Vl → Hc → R Vl} {Q : VK} (sr : SR g B env s σ H) (p : PostE g B W env s σ H (m2 f a b env s.h) Q) :
    tE g B W a σ H fun v H1 => tE g B W b σ H1 fun w H2 => ∃ s2 x y, SR g B env s2 σ H2 ∧ Evo s H s2 H2 ∧ VlRep g B env σ s2 H2 x v ∧ VlRep g B env σ s2 H2 y w ∧ PostE g B W env s2 σ H2 (f x y s2.h) Q := by
  refine (bindE (k := fun x h1 => (b env h1).bind fun y h2 => f x y h2) sr p).mono fun v H1 ⟨s1, x, sr1, e1, r1, p1⟩ => ?_
  refine (bindE (k := fun y h2 => f x y h2) sr1 p1).mono fun w H2 ⟨s2, y, sr2, e2, r2, p2⟩ => ?_
  exact ⟨s2, x, y, sr2, e1.trans e2, r1.evo e2, r2, p2⟩
theorem bind2B {a b : ME} {f : Vl → Vl → Hc → R Bool} {Q : Bool → Hp → Prop} (sr : SR g B env s σ H) (p : PostB g B W env s σ H (m2b f a b env s.h) Q) :
    tE g B W a σ H fun v H1 => tE g B W b σ H1 fun w H2 => ∃ s2 x y, SR g B env s2 σ H2 ∧ Evo s H s2 H2 ∧ VlRep g B env σ s2 H2 x v ∧ VlRep g B env σ s2 H2 y w ∧ PostB g B W env s2 σ H2 (f x y s2.h) Q := by
  refine (bindET (k := fun x h1 => (b env h1).bind fun y h2 => f x y h2) sr p).mono fun v H1 ⟨s1, x, sr1, e1, r1, p1⟩ => ?_
  refine (bindET (k := fun y h2 => f x y h2) sr1 p1).mono fun w H2 ⟨s2, y, sr2, e2, r2, p2⟩ => ?_
  exact ⟨s2, x, y, sr2, e1.trans e2, r1.evo e2, r2, p2⟩
end
/-- what an operation on values must keep -/
def OpV (X : Cx) (g : Gi) (f : Value → Value → Sem Value) (F : Vl → Vl → Hc → R Vl) : Prop :=
  ∃ r : R2, OpR X f r ∧ ∀ (B : Bg) (W : WXv) (env : Env) (s : Sta) (σ : L2.St) (H : Hp) (x y : Vl) (v w : V) (Q : VK), SR g B env s σ H → VlRep g B env σ s H x v → VlRep g B env σ s H y w → PostE g B W env s σ H (F x y s.h) Q → r v w H Q
section
variable {X : Cx} {g : Gi} {B : Bg} {W : WXv} {pos : Pos} {a b : Expr} {ma mb : ME}
theorem ve_bin {op : Operator} {F : Vl → Vl → Hc → R Vl} (ho : OpV X g (binaryOp op) F) (ha : PE X a (tE g B W ma)) (hb : PE X b (tE g B W mb)) : PE X (.BinOp a op b pos) (tE g B W (m2 F ma mb)) := by
  obtain ⟨r, h1, h2⟩ := ho
  refine pe_imp (pe_op h1 ha hb) fun σ H Q ⟨env, s, sr, p⟩ => ?_
  refine (bind2E (Q := Q) sr p).mono fun v H1 q => q.mono fun w H2 ⟨s2, x, y, sr2, _, r1, r2, p2⟩ => ?_
  exact h2 B W env s2 σ H2 x y v w Q sr2 r1 r2 p2
theorem ve_cmp {op : CmpOp} {F : Vl → Vl → Hc → R Vl} (ho : OpV X g (compareOp op) F) (ha : PE X a (tE g B W ma)) (hb : PE X b (tE g B W mb)) (hm : behindInMarks op b = false) : PE X (.Compare a [op] [b] pos) (tE g B W (m2 F ma mb)) := by
  obtain ⟨r, h1, h2⟩ := ho
  refine pe_imp (pe_cmpR h1 ha hb hm) fun σ H Q ⟨env, s, sr, p⟩ => ?_
  refine (bind2E (Q := Q) sr p).mono fun v H1 q => q.mono fun w H2 ⟨s2, x, y, sr2, _, r1, r2, p2⟩ => ?_
  exact h2 B W env s2 σ H2 x y v w Q sr2 r1 r2 p2
/-- a value's truth, where it is a bool -/
@[simp] def asB (m : ME) : MB := fun env h => (m env h).bind fun x h1 => match x with
  | .d (.bl b) => .ok b h1
  | _ => .stuck
theorem tE_asB {m : ME} {σ : L2.St} {H : Hp} {Q : Bool → Hp → Prop} (h : tT g B W (asB m) σ H Q) : tE g B W m σ H fun v H1 => ∃ k, v = .bl k ∧ Q k H1 := by
  obtain ⟨env, s, sr, p⟩ := h
  refine (bindET sr p).mono fun v H1 ⟨s1, x, sr1, _, r1, p1⟩ => ?_
  cases x with
  | d x =>
    cases x with
    | bl b => exact ⟨b, r1, PostB.pure sr1 p1⟩
    | _ => exact p1.elim
  | _ => exact p1.elim
theorem vt_cmp {op : CmpOp} {F : Vl → Vl → Hc → R Vl} (ho : OpV X g (compareOp op) F) (ha : PE X a (tE g B W ma)) (hb : PE X b (tE g B W mb)) (hm : behindInMarks op b = false) : PT X (.Compare a [op] [b] pos) (tT g B W (asB (m2 F ma mb))) := by
  obtain ⟨r, h1, h2⟩ := ho
  refine pt_imp (pt_cmpR h1 ha hb hm) fun σ H Q h => ?_
  obtain ⟨env, s, sr, p⟩ := tE_asB h
  refine (bind2E sr p).mono fun v H1 q => q.mono fun w H2 ⟨s2, x, y, sr2, _, r1, r2, p2⟩ => ?_
  exact h2 B W env s2 σ H2 x y v w _ sr2 r1 r2 p2
/-- any expression that gives a bool, as a test -/
theorem vt_val {m : ME} (h : PE X a (tE g B W m)) (he : ∀ whole, isTrue a X.env whole = (do let v ← whole; standAt a.pos; holding [v] (truthy v)) := by intro _; rfl) : PT X a (tT g B W (asB m)) :=
  pt_imp (pt_val h he) fun σ H Q q => tE_asB q

/-! ### ints -/
@[simp] def fI (f : Int → Int → D) (x y : Vl) (h : Hc) : R Vl := match x, y with
  | .d (.int i), .d (.int j) => .ok (.d (f i j)) h
  | _, _ => .stuck
@[simp] def fIc (c : Int → Int → Bool) (f : Int → Int → D) (x y : Vl) (h : Hc) : R Vl := match x, y with
  | .d (.int i), .d (.int j) => if c i j then .ok (.d (f i j)) h else .stuck
  | _, _ => .stuck
theorem opv_I {f : Value → Value → Sem Value} {F : Int → Int → D} {G : Int → Int → V} (h : OpR X f (rI0 G)) (e : ∀ g F' al i j, Rep g F' al (F i j) (G i j)) : OpV X g f (fI F) := by
  refine ⟨_, h, fun B W env s σ H x y v w Q sr r1 r2 p => ?_⟩
  unfold fI at p
  split at p
  · exact ⟨_, _, r1, r2, PostE.pure sr p (e _ _ _ _ _)⟩
  · exact p.elim
theorem opv_Ic {f : Value → Value → Sem Value} {C : Int → Int → Prop} {c : Int → Int → Bool} {F : Int → Int → D} {G : Int → Int → V} (h : OpR X f (rI C G)) (hc : ∀ i j, c i j = true → C i j) (e : ∀ g F' al i j, Rep g F' al (F i j) (G i j)) : OpV X g f (fIc c F) := by
  refine ⟨_, h, fun B W env s σ H x y v w Q sr r1 r2 p => ?_⟩
  unfold fIc at p
  split at p
  · split at p
    · next hcc => exact ⟨_, _, r1, r2, hc _ _ hcc, PostE.pure sr p (e _ _ _ _ _)⟩
    · exact p.elim
  · exact p.elim
def cMul (i j : Int) : Bool := decide (i.natAbs.log2 + j.natAbs.log2 < 1000000)
def cDiv (_ j : Int) : Bool := decide (j ≠ 0) && decide (j.natAbs.log2 < 9000)
def cPow (i j : Int) : Bool := decide (0 ≤ j) && (decide (j ≤ 1000000) && decide (i.natAbs < 2 ^ 64))
abbrev fSub : Vl → Vl → Hc → R Vl := fI fun i j => .int (i - j)
abbrev fMul : Vl → Vl → Hc → R Vl := fIc cMul fun i j => .int (i * j)
abbrev fDiv : Vl → Vl → Hc → R Vl := fIc cDiv fun i j => .int (i.fdiv j)
abbrev fMod : Vl → Vl → Hc → R Vl := fIc (fun _ j => decide (0 < j)) fun i j => .int (i % j)
abbrev fPow : Vl → Vl → Hc → R Vl := fIc cPow fun i j => .int (i ^ j.toNat)
abbrev fLt : Vl → Vl → Hc → R Vl := fI fun i j => .bl (decide (i < j))
abbrev fLe : Vl → Vl → Hc → R Vl := fI fun i j => .bl (decide (i ≤ j))
abbrev fGt : Vl → Vl → Hc → R Vl := fI fun i j => .bl (decide (j < i))
abbrev fGe : Vl → Vl → Hc → R Vl := fI fun i j => .bl (decide (j ≤ i))
theorem o_sub : OpV X g (binaryOp .Sub) fSub := opv_I op_sub fun _ _ _ _ _ => rfl
theorem o_mul : OpV X g (binaryOp .Mult) fMul := opv_Ic op_mulW (fun i j h => of_decide_eq_true (p := i.natAbs.log2 + j.natAbs.log2 < 1000000) h) fun _ _ _ _ _ => rfl
theorem op_fdivA : OpR X (binaryOp .FloorDiv) (rI (fun _ j => j ≠ 0 ∧ j.natAbs.log2 < 9000) fun i j => .int (i.fdiv j)) := opI fun i j _ _ _ _ _ hc q =>
  PyProof.Rows.floordiv_int hc.1 q (.inl (PyProof.noPylong_of_log2 hc.2))
theorem o_div : OpV X g (binaryOp .FloorDiv) fDiv := opv_Ic op_fdivA (fun _ _ h => by
  obtain ⟨h1, h2⟩ := Bool.and_eq_true_iff.mp h
  exact ⟨of_decide_eq_true h1, of_decide_eq_true h2⟩) fun _ _ _ _ _ => rfl
theorem o_mod : OpV X g (binaryOp .Mod) fMod := opv_Ic op_mod (fun _ _ h => of_decide_eq_true h) fun _ _ _ _ _ => rfl
theorem o_pow : OpV X g (binaryOp .Pow) fPow := opv_Ic op_pow (fun _ _ h => by
  obtain ⟨h1, h2⟩ := Bool.and_eq_true_iff.mp h
  obtain ⟨h2, h3⟩ := Bool.and_eq_true_iff.mp h2
  exact ⟨of_decide_eq_true h1, of_decide_eq_true h2, of_decide_eq_true h3⟩) fun _ _ _ _ _ => rfl
theorem o_lt : OpV X g (compareOp .Lt) fLt := opv_I op_lt fun _ _ _ _ _ => rfl
theorem o_le : OpV X g (compareOp .LtE) fLe := opv_I op_le fun _ _ _ _ _ => rfl
theorem o_gt : OpV X g (compareOp .Gt) fGt := opv_I op_gt fun _ _ _ _ _ => rfl
theorem o_ge : OpV X g (compareOp .GtE) fGe := opv_I op_ge fun _ _ _ _ _ => rfl
theorem tup?_eq {x : Vl} {xs : List D} (h : tup? x = some xs) : x = .d (.tup xs) := by
  cases x with
  | d x =>
    cases x with
    | tup ys => cases h; rfl
    | _ => cases h
  | _ => cases h
/-- + of ints, texts, lists, tuples; o: a new list is owned -/
def fAdd (o : Bool) (x y : Vl) (h : Hc) : R Vl := match x, y with
  | .d (.int i), .d (.int j) => .ok (.d (.int (i + j))) h
  | .d (.str a), .d (.str b) => if a.length + b.length ≤ 100000 then .ok (.d (.str (a ++ b))) h else .stuck
  | x, y => match mlst? h x, mlst? h y with
    | some xs, some ys => if xs.length + ys.length ≤ 100000 then .ok (Vl.ofL o (xs ++ ys)) h else .stuck
    | _, _ => match tup? x, tup? y with
      | some xs, some ys => if xs.length + ys.length ≤ 100000 then .ok (.d (.tup (xs ++ ys))) h else .stuck
      | _, _ => .stuck
theorem o_add (o : Bool) (hK : g.K = X.K) : OpV X g (binaryOp .Add) (fAdd o) := by
  refine ⟨_, OpR.or op_add (OpR.or op_add_str (OpR.or op_cat op_catA)), fun B W env s σ H x y v w Q sr r1 r2 p => ?_⟩
  unfold fAdd at p
  split at p
  · exact .inl ⟨_, _, r1, r2, PostE.pure sr p rfl⟩
  · split at p
    · next hl => exact .inr (.inl ⟨_, _, r1, r2, size_of hl, PostE.pure sr p rfl⟩)
    · exact p.elim
  · split at p
    · next xs ys e1 e2 =>
      split at p
      · next hl =>
        obtain ⟨a1, vs1, rfl, h1, q1⟩ := r1.mlst sr.good e1
        obtain ⟨a2, vs2, rfl, h2, q2⟩ := r2.mlst sr.good e2
        exact .inr (.inr (.inl ⟨a1, a2, vs1, vs2, rfl, rfl, h1, h2, by rw [q1.length, q2.length]; exact size_of hl, fun p' hp => PostE.newLO sr p (q1.append q2) hp⟩))
      · exact p.elim
    · split at p
      · next xs ys e1 e2 =>
        split at p
        · next hl =>
          obtain ⟨a1, vs1, rfl, h1, q1⟩ := r1.tup sr.good e1
          obtain ⟨a2, vs2, rfl, h2, q2⟩ := r2.tup sr.good e2
          have c1 : ∀ {ds : List D} {vs : List V}, Reps g s.F s.al ds vs → vs = [] → ds = [] := fun {ds vs} q e => by
            have := q.length
            rw [e] at this
            exact List.length_eq_zero_iff.mp this.symm
          refine .inr (.inr (.inr ⟨a1, a2, vs1, vs2, rfl, rfl, hK ▸ h1, hK ▸ h2, by rw [q1.length, q2.length]; exact size_of hl, fun e => ?_, fun _ e => ?_, fun _ _ p' hp => PostE.newT sr p (q1.append q2) hp⟩))
          · have e := c1 q1 e
            subst e
            exact PostE.pure sr p (tup?_eq e2 ▸ r2)
          · have e := c1 q2 e
            subst e
            rw [List.append_nil] at p
            exact PostE.pure sr p (tup?_eq e1 ▸ r1)
        · exact p.elim
      · exact p.elim
end
end Vi

set_option Elab.async false
set_option linter.all false
set_option maxRecDepth 100000
set_option maxHeartbeats 2000000
namespace Vi
open PySem L2

/-! ### what the written part says of the classes -/
def Ty.val (g : Gi) : Ty → Value
  | .bt n => .type n
  | .own c => .ref (g.ca c)
def Ty.v (g : Gi) : Ty → V
  | .bt n => .ty n
  | .own c => .ref (g.ca c)
structure ClsOk (K : PySem.W.Frag) (C : Addr) : Prop where
  cl : Cls K C
  ha : PySem.W.findIn K (.ref C) "__class__" = some (some (.builtin "object.__class__"))
  hm : PySem.W.mroIn K C (.type "object") = some true
structure GiOk (g : Gi) : Prop where
  cls : ∀ c, g.isC c = true → ClsOk g.K (g.ca c)
  fld : ∀ c f, g.fld c f = true → g.isC c = true ∧ NoAttr g.K (g.ca c) f
  hn : PySem.W.specialIn g.K (.builtin "object.__class__") "__get__" = some (some (.builtin "getset_descriptor.__get__"))
  htk : PySem.W.takesIn g.K (.builtin "object.__class__") = some true
  isi : ∀ t u b, g.isi t u = some b → PySem.W.kitOne g.K (t.val g) (u.val g) = some b
def D.ty (g : Gi) : D → Option Ty
  | .non => some (.bt "NoneType")
  | .bl _ => some (.bt "bool")
  | .int _ => some (.bt "int")
  | .str _ => some (.bt "str")
  | .tup _ => some (.bt "tuple")
  | .lst _ => some (.bt "list")
  | .kl _ => none
  | .ref _ => none
  | .obj c _ => if g.isC c then some (.own c) else none
  | .cls _ => none
  | .dK _ => some (.bt "dict")
  | .dT _ => some (.bt "dict")
/-- asks only isC: so that it is the same for g0 and PDx.gi K -/
def Cell.tyC (isC : Nat → Bool) : Cell → Option Ty
  | .lst _ => some (.bt "list")
  | .ins c _ => if isC c then some (.own c) else none
  | .dK _ => some (.bt "dict")
  | .dT _ => some (.bt "dict")
  | .frz c => c.tyC isC
def Cell.ty (g : Gi) (c : Cell) : Option Ty := c.tyC g.isC
def Vl.ty (g : Gi) (h : Hc) : Vl → Option Ty
  | .d (.ref n) => h[n]?.bind (Cell.ty g)
  | .d x => x.ty g
  | .tl _ => some (.bt "list")
  | .bl _ => some (.bt "list")
  | .bi c _ => if g.isC c then some (.own c) else none
theorem ClsOk.ty {g : Gi} (G : GiOk g) {H : Hp} {c : Nat} {a dx : Addr} {vs : List (Str × V)} (hc : g.isC c = true) (h : H a = some (.ins (g.ca c) dx vs)) : TyX g.K H (.ref a) ((Ty.own c).val g) :=
  let k := G.cls c hc
  .base (.ins h k.cl k.ha G.hn G.htk k.hm)
theorem ty_up {g : Gi} {d : D} {t : Ty} {h : Hc} (e : d.ty g = some t) : (Vl.d d).ty g h = some t := by
  cases d <;> first | exact e | cases e
theorem Cell.tyX {g : Gi} (G : GiOk g) {s : Sta} {H : Hp} {a : Addr} {t : Ty} : ∀ {c : Cell}, CellRep g s H a c → c.ty g = some t → TyX g.K H (.ref a) (t.val g)
  | .lst _, ⟨vs, h, _⟩, e => by cases e; exact .base (.lst h)
  | .ins c _, ⟨dx, vs, h, _⟩, e => by
    have e : (if g.isC c then some (Ty.own c) else none) = some _ := e
    by_cases hc : g.isC c = true
    · rw [if_pos hc] at e
      cases e
      exact ClsOk.ty G hc h
    · rw [if_neg hc] at e
      cases e
  | .dK _, ⟨vs, h, _⟩, e => by cases e; exact .base (.dK h)
  | .dT _, ⟨vs, h, _⟩, e => by cases e; exact .base (.dT h)
  | .frz c, h, e => Cell.tyX G (c := c) h e
theorem Vl.tyX {g : Gi} (G : GiOk g) {B : Bg} {env : Env} {s : Sta} {σ : L2.St} {H : Hp} (gd : Good g s H) : ∀ {x : Vl} {v : V} {t : Ty}, VlRep g B env σ s H x v → x.ty g s.h = some t → TyX g.K H v (t.val g)
  | .d .non, _, _, h, e => by cases e; cases h; exact .base .non
  | .d (.bl b), _, _, h, e => by cases e; cases h; exact .base (.bl b)
  | .d (.int b), _, _, h, e => by cases e; cases h; exact .base (.int b)
  | .d (.str b), _, _, h, e => by cases e; cases h; exact .base (.str b)
  | .d (.tup ds), _, _, h, e => by
    cases e
    obtain ⟨a, vs, rfl, h2, _⟩ := h
    rcases h2.sq with (h2 | ⟨o, h2⟩) | ⟨o, its, n, h2, h3, _⟩
    · exact .base (.tup (gd.fle _ _ h2))
    · exact .fTuple (gd.fle _ _ h2)
    · exact .kTuple h2 h3
  | .d (.lst ds), _, _, h, e => by
    cases e
    obtain ⟨a, vs, rfl, h2, _⟩ := h
    exact .base (.lst (gd.fle _ _ h2))
  | .d (.kl _), _, _, h, e => by cases e
  | .d (.ref n), _, _, h, e => by
    obtain ⟨a, rfl, hal⟩ := h
    obtain ⟨c, e1, e2⟩ := Option.bind_eq_some_iff.mp (show s.h[n]?.bind (Cell.ty g) = some _ from e)
    obtain ⟨b, g1, g2⟩ := gd.cell n c e1
    rw [hal] at g1
    cases g1
    exact Cell.tyX G g2 e2
  | .d (.cls _), _, _, h, e => by cases e
  | .d (.obj c fs), _, _, h, e => by
    obtain ⟨a, dx, vs, rfl, h2, _⟩ := h
    have e : (if g.isC c then some (Ty.own c) else none) = some _ := e
    by_cases hc : g.isC c = true
    · rw [if_pos hc] at e
      cases e
      exact ClsOk.ty G hc (gd.fle _ _ h2)
    · rw [if_neg hc] at e
      cases e
  | .d (.dK _), _, _, h, e => by
    cases e
    obtain ⟨a, vs, rfl, h2, _⟩ := h
    exact .base (.dK (gd.fle _ _ h2))
  | .d (.dT _), _, _, h, e => by
    cases e
    obtain ⟨a, vs, rfl, h2, _⟩ := h
    exact .base (.dT (gd.fle _ _ h2))
  | .tl _, _, _, h, e => by
    cases e
    obtain ⟨a, vs, rfl, h2, _⟩ := h
    exact .base (.lst h2)
  | .bl _, _, _, h, e => by
    cases e
    obtain ⟨a, vs, rfl, h2, _⟩ := h
    exact .base (.lst h2)
  | .bi c _, _, _, h, e => by
    obtain ⟨a, dx, vs, rfl, h2, _⟩ := h
    have e : (if g.isC c then some (Ty.own c) else none) = some _ := e
    by_cases hc : g.isC c = true
    · rw [if_pos hc] at e
      cases e
      exact ClsOk.ty G hc h2
    · rw [if_neg hc] at e
      cases e

/-! ### data as the library's data -/
mutual
def toP : D → PyData
  | .non => .none
  | .bl b => .bool b
  | .int i => .int i
  | .str x => .str x
  | .tup xs => .tuple (toPs xs)
  | .lst xs => .list (toPs xs)
  | .kl xs => .list (toPs xs)
  | _ => .none
def toPs : List D → List PyData
  | [] => []
  | x :: r => toP x :: toPs r
end
mutual
def dat : D → Bool
  | .non => true
  | .bl _ => true
  | .int _ => true
  | .str _ => true
  | .tup xs => dats xs
  | .lst xs => dats xs
  | .kl xs => dats xs
  | _ => false
def dats : List D → Bool
  | [] => true
  | x :: r => dat x && dats r
end
section
variable {g : Gi} {s : Sta} {H : Hp} {F : Hp} {al : Nat → Option Addr}
mutual
theorem dp_of (hF : ∀ a o, F a = some o → H a = some o) : ∀ {d : D} {v : V}, Rep g F al d v → dat d = true → Dp g.K H v (toP d)
  | .non, _, h, _ => by cases h; exact .non
  | .bl b, _, h, _ => by cases h; exact .bl b
  | .int b, _, h, _ => by cases h; exact .int b
  | .str b, _, h, _ => by cases h; exact .str b
  | .tup ds, _, ⟨a, vs, h1, h2, h3⟩, e => by rw [h1]; exact .tup (sqT_mono hF h2.sq) (dps_of hF h3 e)
  | .lst ds, _, ⟨a, vs, h1, h2, h3⟩, e => by rw [h1]; exact .lst (.of (hF _ _ h2)) (dps_of hF h3 e)
  | .kl ds, _, ⟨a, vs, h1, h2, h3⟩, e => by rw [h1]; exact .lst (sqL_mono hF h2) (dps_of hF h3 e)
  | .ref _, _, _, e => by cases e
  | .obj _ _, _, _, e => by cases e
  | .cls _, _, _, e => by cases e
  | .dK _, _, _, e => by cases e
  | .dT _, _, _, e => by cases e
theorem dps_of (hF : ∀ a o, F a = some o → H a = some o) : ∀ {d : List D} {v : List V}, Reps g F al d v → dats d = true → DpAll g.K H v (toPs d)
  | [], _, h, _ => by cases h; exact .nil
  | d :: ds, _, ⟨v, r, h1, h2, h3⟩, e => by
    obtain ⟨e1, e2⟩ := Bool.and_eq_true_iff.mp (show (dat d && dats ds) = true from e)
    rw [h1]
    exact .cons (dp_of hF h2 e1) (dps_of hF h3 e2)
end
end
/-- the data that a value is, if it is some -/
def Vl.dat? : Vl → Option D
  | .d x => if dat x then some x else none
  | .tl xs => if dats xs then some (.lst xs) else none
  | .bl xs => if dats xs then some (.lst xs) else none
  | .bi _ _ => none
theorem VlRep.dp' {g : Gi} {B : Bg} {env : Env} {s : Sta} {σ : L2.St} {H : Hp} (gd : Good g s H) : ∀ {x : Vl} {v : V} {d : D}, VlRep g B env σ s H x v → x.dat? = some d → Dp g.K H v (toP d)
  | .d x, _, _, h, e => by
    have e : (if dat x then some x else none) = some _ := e
    split at e
    · next hd => cases e; exact dp_of gd.fle h hd
    · cases e
  | .tl xs, _, _, h, e => by
    have e : (if dats xs then some (D.lst xs) else none) = some _ := e
    split at e
    · next hd =>
      cases e
      obtain ⟨a, vs, rfl, h2, _, _, h3⟩ := h
      exact .lst (.of h2) (dps_of gd.fle h3 hd)
    · cases e
  | .bl xs, _, _, h, e => by
    have e : (if dats xs then some (D.lst xs) else none) = some _ := e
    split at e
    · next hd =>
      cases e
      obtain ⟨a, vs, rfl, h2, _, h3⟩ := h
      exact .lst (.of h2) (dps_of gd.fle h3 hd)
    · cases e
  | .bi _ _, _, _, _, e => by cases e
def eqD (x y : D) : Bool := PyData.eqv (toP x) (toP y)
def shp (x : D) : Bool := SeqAt.shaped (toP x)
def fEq0 (neg : Bool) (x y : Vl) (h : Hc) : R Vl := match x.dat?, y.dat? with
  | some d, some e => if shp d && shp e then .ok (.d (.bl (if neg then !eqD d e else eqD d e))) h else .stuck
  | _, _ => .stuck
/-- texts need no further look -/
def fEq (neg : Bool) (x y : Vl) (h : Hc) : R Vl := match x, y with
  | .d (.str a), .d (.str b) => .ok (.d (.bl (if neg then !decide (a = b) else decide (a = b)))) h
  | x, y => fEq0 neg x y h
section
variable {X : Cx} {g : Gi} {B : Bg} {W : WXv} {pos : Pos} {a b c : Expr} {ma mb mc : ME}
theorem dec_s {a b : PySem.Str} : decide (L2.V.str a = L2.V.str b) = decide (a = b) := by
  rw [Bool.eq_iff_iff]
  simp
theorem o_eq (hK : g.K = X.K) (hu : X.A.units + 64 < cLine) : OpV X g (compareOp .Eq) (fEq false) := by
  refine ⟨_, OpR.or op_eq (op_eqD hu), fun B W env s σ H x y v w Q sr r1 r2 p => ?_⟩
  unfold fEq at p
  split at p
  · next a b =>
    obtain rfl : v = .str a := r1
    obtain rfl : w = .str b := r2
    exact .inl ⟨rfl, by rw [dec_s]; exact PostE.pure sr p rfl⟩
  · unfold fEq0 at p
    split at p
    · next d e e1 e2 =>
      split at p
      · next hs =>
        obtain ⟨h1, h2⟩ := Bool.and_eq_true_iff.mp hs
        exact .inr ⟨_, _, hK ▸ r1.dp' sr.good e1, hK ▸ r2.dp' sr.good e2, h1, h2, PostE.pure sr p rfl⟩
      · exact p.elim
    · exact p.elim
theorem o_ne (hK : g.K = X.K) (hu : X.A.units + 64 < cLine) : OpV X g (compareOp .NotEq) (fEq true) := by
  refine ⟨_, OpR.or op_ne (op_neD hu), fun B W env s σ H x y v w Q sr r1 r2 p => ?_⟩
  unfold fEq at p
  split at p
  · next a b =>
    obtain rfl : v = .str a := r1
    obtain rfl : w = .str b := r2
    exact .inl ⟨rfl, by rw [dec_s]; exact PostE.pure sr p rfl⟩
  · unfold fEq0 at p
    split at p
    · next d e e1 e2 =>
      split at p
      · next hs =>
        obtain ⟨h1, h2⟩ := Bool.and_eq_true_iff.mp hs
        exact .inr ⟨_, _, hK ▸ r1.dp' sr.good e1, hK ▸ r2.dp' sr.good e2, h1, h2, PostE.pure sr p rfl⟩
      · exact p.elim
    · exact p.elim
end
end Vi

set_option Elab.async false
set_option linter.all false
set_option maxRecDepth 100000
set_option maxHeartbeats 2000000
namespace Vi
open PySem L2

/-! ### and, or, not, if .. else, chains -/
@[simp] def mNot (m : ME) : ME := m1 (fun x h => match x with
  | .d (.bl b) => .ok (.d (.bl (!b))) h
  | _ => .stuck) m
@[simp] def mAnd (a b : ME) : ME := fun env h => (a env h).bind fun x h1 => match x with
  | .d (.bl true) => b env h1
  | .d (.bl false) => .ok (.d (.bl false)) h1
  | _ => .stuck
@[simp] def mOr (a b : ME) : ME := fun env h => (a env h).bind fun x h1 => match x with
  | .d (.bl false) => b env h1
  | .d (.bl true) => .ok (.d (.bl true)) h1
  | _ => .stuck
@[simp] def tNotM (a : MB) : MB := fun env h => (a env h).bind fun b h1 => .ok (!b) h1
def tAndM (a b : MB) : MB := fun env h => (a env h).bind fun x h1 => if x then b env h1 else .ok false h1
def tOrM (a b : MB) : MB := fun env h => (a env h).bind fun x h1 => if x then .ok true h1 else b env h1
def mIf (c : MB) (a b : ME) : ME := fun env h => (c env h).bind fun x h1 => if x then a env h1 else b env h1
@[simp] def mChain (f g : Vl → Vl → Hc → R Vl) (a b c : ME) : ME := fun env h => (a env h).bind fun x h1 => (b env h1).bind fun y h2 => (f x y h2).bind fun z h3 => match z with
  | .d (.bl true) => (c env h3).bind fun w h4 => g y w h4
  | .d (.bl false) => .ok (.d (.bl false)) h3
  | _ => .stuck
@[simp] def fNeg (x : Vl) (h : Hc) : R Vl := match x with
  | .d (.int i) => .ok (.d (.int (-i))) h
  | _ => .stuck
section
variable {X : Cx} {g : Gi} {B : Bg} {W : WXv} {pos : Pos} {a b c : Expr} {ma mb mc : ME} {rest : List Expr} {ta tb tc : MB} {env : Env} {s : Sta} {σ : L2.St} {H : Hp}
theorem ve_not (ha : PE X a (tE g B W ma)) : PE X (.UnaryOp .Not a pos) (tE g B W (mNot ma)) := by
  refine pe_imp (pe_not ha) fun σ H Q ⟨env, s, sr, p⟩ => ?_
  refine (bindE (Q := Q) sr p).mono fun v H1 ⟨s1, x, sr1, _, r1, p1⟩ => ?_
  split at p1
  · exact ⟨_, r1, PostE.pure sr1 p1 rfl⟩
  · exact p1.elim
theorem ve_one {op} (h : PE X a (tE g B W ma)) : PE X (.BoolOp op [a] pos) (tE g B W ma) := pe_one h
theorem ve_and (ha : PE X a (tE g B W ma)) (hb : PE X (.BoolOp .And (b :: rest) pos) (tE g B W mb)) : PE X (.BoolOp .And (a :: b :: rest) pos) (tE g B W (mAnd ma mb)) := by
  refine pe_imp (pe_and ha hb) fun σ H Q ⟨env, s, sr, p⟩ => ?_
  refine (bindE (Q := Q) sr p).mono fun v H1 ⟨s1, x, sr1, _, r1, p1⟩ => ?_
  split at p1
  · exact ⟨true, r1, iteT ⟨env, s1, sr1, p1⟩⟩
  · exact ⟨false, r1, iteF (PostE.pure sr1 p1 rfl)⟩
  · exact p1.elim
theorem ve_or (ha : PE X a (tE g B W ma)) (hb : PE X (.BoolOp .Or (b :: rest) pos) (tE g B W mb)) : PE X (.BoolOp .Or (a :: b :: rest) pos) (tE g B W (mOr ma mb)) := by
  refine pe_imp (pe_or ha hb) fun σ H Q ⟨env, s, sr, p⟩ => ?_
  refine (bindE (Q := Q) sr p).mono fun v H1 ⟨s1, x, sr1, _, r1, p1⟩ => ?_
  split at p1
  · exact ⟨false, r1, iteF ⟨env, s1, sr1, p1⟩⟩
  · exact ⟨true, r1, iteT (PostE.pure sr1 p1 rfl)⟩
  · exact p1.elim
theorem vt_not (ha : PT X a (tT g B W ta)) : PT X (.UnaryOp .Not a pos) (tT g B W (tNotM ta)) := by
  refine pt_imp (pt_not ha) fun σ H Q ⟨env, s, sr, p⟩ => ?_
  refine (bindTT (Q := Q) sr p).mono fun v H1 ⟨s1, sr1, _, p1⟩ => ?_
  exact PostB.pure sr1 p1
theorem vw_and1 (ha : PT X a (tT g B W ta)) : PW X (.BoolOp .And [a] pos) (tT g B W ta) := pw_and1 ha
theorem vw_or1 (ha : PT X a (tT g B W ta)) : PW X (.BoolOp .Or [a] pos) (tT g B W ta) := pw_or1 ha
theorem vw_and (ha : PT X a (tT g B W ta)) (hb : PW X (.BoolOp .And (b :: rest) pos) (tT g B W tb)) : PW X (.BoolOp .And (a :: b :: rest) pos) (tT g B W (tAndM ta tb)) := by
  refine pw_imp (pw_and ha hb) fun σ H Q ⟨env, s, sr, p⟩ => ?_
  refine (bindTT (Q := Q) sr p).mono fun v H1 ⟨s1, sr1, _, p1⟩ => ?_
  cases v with
  | true => exact iteT ⟨env, s1, sr1, p1⟩
  | false => exact iteF (PostB.pure sr1 p1)
theorem vw_or (ha : PT X a (tT g B W ta)) (hb : PW X (.BoolOp .Or (b :: rest) pos) (tT g B W tb)) : PW X (.BoolOp .Or (a :: b :: rest) pos) (tT g B W (tOrM ta tb)) := by
  refine pw_imp (pw_or ha hb) fun σ H Q ⟨env, s, sr, p⟩ => ?_
  refine (bindTT (Q := Q) sr p).mono fun v H1 ⟨s1, sr1, _, p1⟩ => ?_
  cases v with
  | true => exact iteT (PostB.pure sr1 p1)
  | false => exact iteF ⟨env, s1, sr1, p1⟩
theorem ve_if (hc : PT X c (tT g B W tc)) (ha : PE X a (tE g B W ma)) (hb : PE X b (tE g B W mb)) : PE X (.IfExp c a b pos) (tE g B W (mIf tc ma mb)) := by
  refine pe_imp (pe_ifExp hc ha hb) fun σ H Q ⟨env, s, sr, p⟩ => ?_
  refine (bindTE (Q := Q) sr p).mono fun v H1 ⟨s1, sr1, _, p1⟩ => ?_
  cases v with
  | true => exact iteT ⟨env, s1, sr1, p1⟩
  | false => exact iteF ⟨env, s1, sr1, p1⟩
theorem ve_neg (ha : PE X a (tE g B W ma)) : PE X (.UnaryOp .USub a pos) (tE g B W (m1 fNeg ma)) := by
  refine pe_imp (pe_un un_neg ha) fun σ H Q ⟨env, s, sr, p⟩ => ?_
  refine (bindE (Q := Q) sr p).mono fun v H1 ⟨s1, x, sr1, _, r1, p1⟩ => ?_
  unfold fNeg at p1
  split at p1
  · exact ⟨_, r1, PostE.pure sr1 p1 rfl⟩
  · exact p1.elim
/-- a result of an operation that does not change the state, as a bool -/
theorem PostE.then {r : R Vl} {k : Vl → Hc → R Vl} {Q : VK} (p : PostE g B W env s σ H (r.bind k) Q) :
    PostE g B W env s σ H r fun v H1 => ∃ s1 x, SR g B env s1 σ H1 ∧ Evo s H s1 H1 ∧ VlRep g B env σ s1 H1 x v ∧ PostE g B W env s1 σ H1 (k x s1.h) Q := by
  cases r with
  | ok x h1 =>
    intro v H1 s1 e1 ev sr1 vr
    refine ⟨s1, x, sr1, ev, vr, ?_⟩
    rw [e1]
    exact PostE.later ev p
  | exc x h1 => exact p
  | stuck => exact p
theorem ve_chain {op op' : CmpOp} {F F' : Vl → Vl → Hc → R Vl} (ho : OpV X g (compareOp op) F) (ho' : OpV X g (compareOp op') F') (ha : PE X a (tE g B W ma)) (hb : PE X b (tE g B W mb)) (hc : PE X c (tE g B W mc))
    (hm : lastMarks [op, op'] [b, c] = false := by with_unfolding_all rfl) : PE X (.Compare a [op, op'] [b, c] pos) (tE g B W (mChain F F' ma mb mc)) := by
  obtain ⟨r, h1, h2⟩ := ho
  obtain ⟨r', h1', h2'⟩ := ho'
  refine pe_imp (pe_chain h1 h1' ha hb hc hm) fun σ H Q ⟨env, s, sr, p⟩ => ?_
  refine (bindE sr p).mono fun v H1 ⟨s1, x, sr1, _, r1, p1⟩ => ?_
  refine (bindE sr1 p1).mono fun w H2 ⟨s2, y, sr2, e2, r2, p2⟩ => ?_
  refine h2 B W env s2 σ H2 x y v w _ sr2 (r1.evo e2) r2 (p2.then.mono fun z H3 ⟨s3, q, sr3, e3, r3, p3⟩ => ?_)
  split at p3
  · refine ⟨true, r3, iteT ?_⟩
    refine (bindE sr3 p3).mono fun u H4 ⟨s4, q4, sr4, e4, r4, p4⟩ => ?_
    exact h2' B W env s4 σ H4 y q4 w u Q sr4 ((r2.evo e3).evo e4) r4 p4
  · exact ⟨false, r3, iteF (PostE.pure sr3 p3 rfl)⟩
  · exact p3.elim

/-! ### subscripts -/
def fIx (x y : Vl) (h : Hc) : R Vl := match y with
  | .d (.int i) => (match lst? h x with
    | some xs => (match atI xs i with
      | some d => .ok (.d d) h
      | none => .stuck)
    | none => (match tup? x with
      | some xs => (match atI xs i with
        | some d => .ok (.d d) h
        | none => .stuck)
      | none => (match x with
        | .d (.str z) => (match atI z.cps.toList i with
          | some c => if z.length ≤ 100000 then .ok (.d (.str ⟨#[c]⟩)) h else .stuck
          | none => .stuck)
        | .d (.ref n) => (match h[n]? with
          | some (.lst xs) => (match atI xs i with
            | some d => .ok (.d d) h
            | none => .stuck)
          | _ => .stuck)
        | _ => .stuck)))
  | _ => .stuck
theorem Reps.atI {F : Hp} {al : Nat → Option Addr} {ds : List D} {vs : List V} {i : Int} {d : D} (h : Reps g F al ds vs) (e : atI ds i = some d) : ∃ v, L2.atI vs i = some v ∧ Rep g F al d v := by
  unfold L2.atI at e ⊢
  rw [h.length]
  cases q : ixN ds.length i with
  | none => rw [q] at e; cases e
  | some j =>
    rw [q] at e
    exact h.get (i := j) e
theorem ve_ix (hK : g.K = X.K) (ha : PE X a (tE g B W ma)) (hb : PE X b (tE g B W mb)) (hs : PlainIx b) : PE X (.Subscript a b pos) (tE g B W (m2 fIx ma mb)) := by
  refine pe_imp (pe_ix ix_seq ha hb hs) fun σ H Q ⟨env, s, sr, p⟩ => ?_
  refine (bind2E (Q := Q) sr p).mono fun v H1 q => q.mono fun w H2 ⟨s2, x, y, sr2, _, r1, r2, p2⟩ => ?_
  unfold fIx at p2
  split at p2
  · next i =>
    cases r2
    split at p2
    · next xs e1 =>
      split at p2
      · next d e2 =>
        obtain ⟨a1, vs, rfl, h1, q1⟩ := r1.lst sr2.good e1
        obtain ⟨u, e3, r3⟩ := q1.atI e2
        exact .inl ⟨a1, vs, i, u, rfl, rfl, hK ▸ h1, e3, PostE.pure sr2 p2 r3⟩
      · exact p2.elim
    · split at p2
      · next xs e1 =>
        split at p2
        · next d e2 =>
          obtain ⟨a1, vs, rfl, h1, q1⟩ := r1.tup sr2.good e1
          obtain ⟨u, e3, r3⟩ := q1.atI e2
          exact .inr (.inl ⟨a1, vs, i, u, rfl, rfl, hK ▸ h1, e3, PostE.pure sr2 p2 r3⟩)
        · exact p2.elim
      · split at p2
        · next z _ _ =>
          split at p2
          · next c e2 =>
            split at p2
            · next hl =>
              cases r1
              exact .inr (.inr ⟨z, i, c, rfl, rfl, size_of hl, e2, PostE.pure sr2 p2 rfl⟩)
            · exact p2.elim
          · exact p2.elim
        · next n _ _ =>
          split at p2
          · next xs hx =>
            split at p2
            · next d e2 =>
              obtain ⟨a1, rfl, hal⟩ := r1
              obtain ⟨a2, h1, vs, h3, q1⟩ := sr2.good.cell n _ hx
              rw [hal] at h1
              cases h1
              obtain ⟨u, e3, r3⟩ := q1.atI e2
              exact .inl ⟨a1, vs, i, u, rfl, rfl, .of h3, e3, PostE.pure sr2 p2 r3⟩
            · exact p2.elim
          · exact p2.elim
        · exact p2.elim
  · exact p2.elim
end
/-! ### calls of built-ins -/
def CallV (X : Cx) (g : Gi) (f : Value) (F : List Vl → Hc → R Vl) : Prop :=
  ∃ r : List V → Hp → VK → Prop, CallR X f r ∧ ∀ (B : Bg) (W : WXv) (env : Env) (s : Sta) (σ : L2.St) (H : Hp) (xs : List Vl) (vs : List V) (Q : VK), SR g B env s σ H → VlReps g B env σ s H xs vs → PostE g B W env s σ H (F xs s.h) Q → r vs H Q
section
variable {X : Cx} {g : Gi} {B : Bg} {W : WXv} {pos p : Pos} {e : Expr} {es : List Expr} {A : MA} {F : List Vl → Hc → R Vl} {id T : String} {x : Str}
theorem ve_callB (hc : CallV X g (.builtin id) F) (hg : Gl X x) (hm : X.mg x = none) (hv : bootBuiltins x = some (.builtin id)) (ha : PA X (e :: es) (tA g B W A)) (hn : x ≠ "__name__" := by decide) (hdb : (x == ("__debug__" : Str)) = false := by decide)
    (he : starEach (e :: es) X.env = (false, eval e X.env) :: starEach es X.env := by rfl) (hpl : (backTo pos (starEach es X.env)).any (·.1) = false := by rfl) : PE X (.Call (.Name x p) (e :: es) [] pos) (tE g B W (mA1 F A)) := by
  obtain ⟨r, h1, h2⟩ := hc
  refine pe_imp (pe_callB h1 hg hm hv ha hn hdb he hpl) fun σ H Q ⟨env, s, sr, p⟩ => ?_
  refine (bindA (Q := Q) sr p).mono fun vs H1 ⟨s1, xs, sr1, _, r1, p1⟩ => ?_
  exact h2 B W env s1 σ H1 xs vs Q sr1 r1 p1
theorem ve_callTy (hc : CallV X g (.type T) F) (hg : Gl X x) (hm : X.mg x = none) (hv : bootBuiltins x = some (.type T)) (ha : PA X (e :: es) (tA g B W A)) (hn : x ≠ "__name__" := by decide) (hdb : (x == ("__debug__" : Str)) = false := by decide)
    (he : starEach (e :: es) X.env = (false, eval e X.env) :: starEach es X.env := by rfl) (hpl : (backTo pos (starEach es X.env)).any (·.1) = false := by rfl) : PE X (.Call (.Name x p) (e :: es) [] pos) (tE g B W (mA1 F A)) := by
  obtain ⟨r, h1, h2⟩ := hc
  refine pe_imp (pe_callTy h1 hg hm hv ha hn hdb he hpl) fun σ H Q ⟨env, s, sr, p⟩ => ?_
  refine (bindA (Q := Q) sr p).mono fun vs H1 ⟨s1, xs, sr1, _, r1, p1⟩ => ?_
  exact h2 B W env s1 σ H1 xs vs Q sr1 r1 p1
theorem ve_callG (hc : CallV X g (.builtin id) F) (hg : Gl X x) (hm : X.mg x = some (.builtin id)) (ha : PA X (e :: es) (tA g B W A)) (hdb : (x == ("__debug__" : Str)) = false := by decide)
    (he : starEach (e :: es) X.env = (false, eval e X.env) :: starEach es X.env := by rfl) (hpl : (backTo pos (starEach es X.env)).any (·.1) = false := by rfl) : PE X (.Call (.Name x p) (e :: es) [] pos) (tE g B W (mA1 F A)) := by
  obtain ⟨r, h1, h2⟩ := hc
  refine pe_imp (pe_callBfun h1 hg hm ha hdb he hpl) fun σ H Q ⟨env, s, sr, p⟩ => ?_
  refine (bindA (Q := Q) sr p).mono fun vs H1 ⟨s1, xs, sr1, _, r1, p1⟩ => ?_
  exact h2 B W env s1 σ H1 xs vs Q sr1 r1 p1
end
section
variable {g : Gi} {B : Bg} {env : Env} {s : Sta} {σ : L2.St} {H : Hp}
theorem VlReps.one {x : Vl} {vs : List V} (h : VlReps g B env σ s H [x] vs) : ∃ v, vs = [v] ∧ VlRep g B env σ s H x v := by
  cases h with
  | cons a b => cases b; exact ⟨_, rfl, a⟩
theorem VlReps.two {x y : Vl} {vs : List V} (h : VlReps g B env σ s H [x, y] vs) : ∃ v w, vs = [v, w] ∧ VlRep g B env σ s H x v ∧ VlRep g B env σ s H y w := by
  cases h with
  | cons a b =>
    cases b with
    | cons b c => cases c; exact ⟨_, _, rfl, a, b⟩
end
@[simp] def fAbs (xs : List Vl) (h : Hc) : R Vl := match xs with
  | [.d (.int i)] => .ok (.d (.int (if i < 0 then -i else i))) h
  | _ => .stuck
@[simp] def fMax2 (xs : List Vl) (h : Hc) : R Vl := match xs with
  | [.d (.int i), .d (.int j)] => .ok (.d (.int (if j > i then j else i))) h
  | _ => .stuck
@[simp] def fMin2 (xs : List Vl) (h : Hc) : R Vl := match xs with
  | [.d (.int i), .d (.int j)] => .ok (.d (.int (if j < i then j else i))) h
  | _ => .stuck
@[simp] def fGcd (xs : List Vl) (h : Hc) : R Vl := match xs with
  | [.d (.int i), .d (.int j)] => .ok (.d (.int ((Nat.gcd i.natAbs j.natAbs : Nat) : Int))) h
  | _ => .stuck
@[simp] def fIntOf (xs : List Vl) (h : Hc) : R Vl := match xs with
  | [.d (.int i)] => .ok (.d (.int i)) h
  | [.d (.bl b)] => .ok (.d (.int (if b then 1 else 0))) h
  | _ => .stuck
def fStrOf (xs : List Vl) (h : Hc) : R Vl := match xs with
  | [.d (.int i)] => if i.natAbs.log2 < 1920 then .ok (.d (.str (toString i))) h else .stuck
  | _ => .stuck
def fLen (xs : List Vl) (h : Hc) : R Vl := match xs with
  | [x] => (match lst? h x with
    | some ys => .ok (.d (.int ys.length)) h
    | none => (match tup? x with
      | some ys => .ok (.d (.int ys.length)) h
      | none => (match x with
        | .d (.str z) => if z.length ≤ 100000 then .ok (.d (.int z.length)) h else .stuck
        | .d (.ref n) => (match h[n]? with
          | some (.lst ys) => .ok (.d (.int ys.length)) h
          | _ => .stuck)
        | _ => .stuck)))
  | _ => .stuck
def ints? : List D → Option (List Int)
  | [] => some []
  | .int i :: r => (ints? r).map (i :: ·)
  | _ :: _ => none
def fSum (xs : List Vl) (h : Hc) : R Vl := match xs with
  | [x] => (match lst? h x with
    | some ys => (match ints? ys with
      | some ns => .ok (.d (.int ns.sum)) h
      | none => .stuck)
    | none => .stuck)
  | _ => .stuck
/-- list(x) -/
def fList (o : Bool) (xs : List Vl) (h : Hc) : R Vl := match xs with
  | [x] => (match lst? h x with
    | some ys => .ok (Vl.ofL o ys) h
    | none => (match tup? x with
      | some ys => .ok (Vl.ofL o ys) h
      | none => .stuck))
  | _ => .stuck
/-- tuple(x) -/
def fTuple (xs : List Vl) (h : Hc) : R Vl := match xs with
  | [x] => (match lst? h x with
    | some ys => .ok (.d (.tup ys)) h
    | none => (match tup? x with
      | some ys => .ok (.d (.tup ys)) h
      | none => .stuck))
  | _ => .stuck
section
variable {X : Cx} {g : Gi}
theorem c_abs : CallV X g (.builtin "abs") fAbs := by
  refine ⟨_, call_abs, fun B W env s σ H xs vs Q sr r p => ?_⟩
  unfold fAbs at p
  split at p
  · obtain ⟨v, rfl, rr⟩ := r.one
    cases rr
    exact ⟨_, rfl, PostE.pure sr p rfl⟩
  · exact p.elim
theorem c_max2 (hc : X.calm = true) : CallV X g (.builtin "max") fMax2 := by
  refine ⟨_, call_max2 hc, fun B W env s σ H xs vs Q sr r p => ?_⟩
  unfold fMax2 at p
  split at p
  · obtain ⟨v, w, rfl, rr, r2⟩ := r.two
    cases rr
    cases r2
    exact ⟨_, _, rfl, PostE.pure sr p rfl⟩
  · exact p.elim
theorem c_min2 (hc : X.calm = true) : CallV X g (.builtin "min") fMin2 := by
  refine ⟨_, call_min2 hc, fun B W env s σ H xs vs Q sr r p => ?_⟩
  unfold fMin2 at p
  split at p
  · obtain ⟨v, w, rfl, rr, r2⟩ := r.two
    cases rr
    cases r2
    exact ⟨_, _, rfl, PostE.pure sr p rfl⟩
  · exact p.elim
theorem c_gcd : CallV X g (.builtin "math.gcd") fGcd := by
  refine ⟨_, cr_gcd, fun B W env s σ H xs vs Q sr r p => ?_⟩
  unfold fGcd at p
  split at p
  · obtain ⟨v, w, rfl, rr, r2⟩ := r.two
    cases rr
    cases r2
    exact ⟨_, _, rfl, PostE.pure sr p rfl⟩
  · exact p.elim
theorem c_int : CallV X g (.type "int") fIntOf := by
  refine ⟨_, call_int1, fun B W env s σ H xs vs Q sr r p => ?_⟩
  unfold fIntOf at p
  split at p
  · obtain ⟨v, rfl, rr⟩ := r.one
    cases rr
    exact .inl ⟨_, rfl, PostE.pure sr p rfl⟩
  · obtain ⟨v, rfl, rr⟩ := r.one
    cases rr
    exact .inr ⟨_, rfl, PostE.pure sr p rfl⟩
  · exact p.elim
theorem c_str : CallV X g (.type "str") fStrOf := by
  refine ⟨_, call_str_int, fun B W env s σ H xs vs Q sr r p => ?_⟩
  unfold fStrOf at p
  split at p
  · split at p
    · next hl =>
      obtain ⟨v, rfl, rr⟩ := r.one
      cases rr
      exact ⟨_, rfl, hl, PostE.pure sr p rfl⟩
    · exact p.elim
  · exact p.elim
theorem c_len (hK : g.K = X.K) : CallV X g (.builtin "len") fLen := by
  refine ⟨_, call_len, fun B W env s σ H xs vs Q sr r p => ?_⟩
  unfold fLen at p
  split at p
  · next x =>
    obtain ⟨v, rfl, rr⟩ := r.one
    split at p
    · next ys e1 =>
      obtain ⟨a1, ws, rfl, h1, q1⟩ := rr.lst sr.good e1
      exact ⟨_, ys.length, rfl, .inl ⟨ws, hK ▸ h1, q1.length.symm⟩, PostE.pure sr p rfl⟩
    · split at p
      · next ys e1 =>
        obtain ⟨a1, ws, rfl, h1, q1⟩ := rr.tup sr.good e1
        exact ⟨_, ys.length, rfl, .inr ⟨ws, hK ▸ h1, q1.length.symm⟩, PostE.pure sr p rfl⟩
      · split at p
        · split at p
          · next hl =>
            cases rr
            exact ⟨_, _, rfl, ⟨size_of hl, rfl⟩, PostE.pure sr p rfl⟩
          · exact p.elim
        · next n _ _ =>
          split at p
          · next ys hx =>
            obtain ⟨a1, rfl, hal⟩ := rr
            obtain ⟨a2, h1, ws, h3, q1⟩ := sr.good.cell n _ hx
            rw [hal] at h1
            cases h1
            exact ⟨_, ys.length, rfl, .inl ⟨ws, .of h3, q1.length.symm⟩, PostE.pure sr p rfl⟩
          · exact p.elim
        · exact p.elim
  · exact p.elim
theorem Reps.ints {F : Hp} {al : Nat → Option Addr} (ds : List D) : ∀ {vs : List V} {ns : List Int}, Reps g F al ds vs → ints? ds = some ns → vs = ns.map V.int := by
  induction ds with
  | nil =>
    intro vs ns h e
    have e : some [] = some ns := e
    cases e
    exact h
  | cons d ds ih =>
    intro vs ns h e
    obtain ⟨v, r, h1, h2, h3⟩ := h
    cases d with
    | int i =>
      have e1 : (ints? ds).map (i :: ·) = some ns := e
      cases q : ints? ds with
      | none => rw [q] at e1; cases e1
      | some l =>
        rw [q] at e1
        have e2 : i :: l = ns := Option.some.inj e1
        have h2 : v = .int i := h2
        rw [← e2, h1, ih h3 q, h2, List.map_cons]
    | _ => cases e
theorem c_sum (hK : g.K = X.K) (hc : X.calm = true) : CallV X g (.builtin "sum") fSum := by
  refine ⟨_, cr_sum hc, fun B W env s σ H xs vs Q sr r p => ?_⟩
  unfold fSum at p
  split at p
  · obtain ⟨v, rfl, rr⟩ := r.one
    split at p
    · next ys e1 =>
      split at p
      · next ns e2 =>
        obtain ⟨a1, ws, rfl, h1, q1⟩ := rr.lst sr.good e1
        have e3 := Reps.ints _ q1 e2
        subst e3
        exact ⟨a1, ns, rfl, hK ▸ h1, PostE.pure sr p rfl⟩
      · exact p.elim
    · exact p.elim
  · exact p.elim
theorem c_list (o : Bool) (hK : g.K = X.K) : CallV X g (.type "list") (fList o) := by
  refine ⟨_, call_list_of, fun B W env s σ H xs vs Q sr r p => ?_⟩
  unfold fList at p
  split at p
  · obtain ⟨v, rfl, rr⟩ := r.one
    split at p
    · next ys e1 =>
      obtain ⟨a1, ws, rfl, h1, q1⟩ := rr.lst sr.good e1
      exact ⟨_, ws, rfl, .inl (hK ▸ h1), fun l hl => PostE.newLO sr p q1 hl⟩
    · split at p
      · next ys e1 =>
        obtain ⟨a1, ws, rfl, h1, q1⟩ := rr.tup sr.good e1
        exact ⟨_, ws, rfl, .inr (hK ▸ h1), fun l hl => PostE.newLO sr p q1 hl⟩
      · exact p.elim
  · exact p.elim
theorem c_tuple (hK : g.K = X.K) : CallV X g (.type "tuple") fTuple := by
  refine ⟨_, call_tuple_of, fun B W env s σ H xs vs Q sr r p => ?_⟩
  unfold fTuple at p
  split at p
  · obtain ⟨v, rfl, rr⟩ := r.one
    split at p
    · next ys e1 =>
      obtain ⟨a1, ws, rfl, h1, q1⟩ := rr.lst sr.good e1
      exact ⟨_, ws, rfl, .inl ⟨hK ▸ h1, fun l hl => PostE.newT sr p q1 hl⟩⟩
    · split at p
      · next ys e1 =>
        obtain ⟨a1, ws, e2, h1, q1⟩ := rr.tup sr.good e1
        subst e2
        exact ⟨_, ws, rfl, .inr ⟨hK ▸ h1, PostE.pure sr p (tup?_eq e1 ▸ rr)⟩⟩
      · exact p.elim
  · exact p.elim
/-- isinstance(x, T), the class written -/
def fIsi (g : Gi) (t : Ty) (x : Vl) (h : Hc) : R Vl := match x.ty g h with
  | some u => (match g.isi u t with
    | some b => .ok (.d (.bl b)) h
    | none => .stuck)
  | none => .stuck
end
section
variable {X : Cx} {g : Gi} {B : Bg} {W : WXv} {pos p : Pos} {e c : Expr} {m : ME}
theorem ve_isi (G : GiOk g) (hK : g.K = X.K) (t : Ty) (hg : Gl X "isinstance") (hm : X.mg "isinstance" = none) (he : PE X e (tE g B W m)) (hc : PE X c (tC (t.v g)))
    (hs : starEach [e, c] X.env = (false, eval e X.env) :: starEach [c] X.env := by rfl) (hs2 : starEach [c] X.env = (false, eval c X.env) :: starEach [] X.env := by rfl) (hpl : (backTo pos (starEach [c] X.env)).any (·.1) = false := by rfl) :
    PE X (.Call (.Name "isinstance" p) [e, c] [] pos) (tE g B W (m1 (fIsi g t) m)) := by
  refine pe_imp (pe_callB call_isi hg hm (by decide +kernel) (pa_cons he (pa_cons hc pa_nil hs2) hs) (by decide) (by decide) hs hpl) fun σ H Q ⟨env, s, sr, p⟩ => ?_
  refine (bindE (Q := Q) sr p).mono fun v H1 ⟨s1, x, sr1, _, r1, p1⟩ => ?_
  unfold fIsi at p1
  split at p1
  · next u e1 =>
    split at p1
    · next b e2 =>
      refine ⟨v, t.v g, u.val g, t.val g, b, rfl, ?_, hK ▸ Vl.tyX G sr1.good r1 e1, hK ▸ G.isi u t b e2, PostE.pure sr1 p1 rfl⟩
      cases t with
      | bt n => exact .ty n
      | own c => exact .own _
    · exact p1.elim
  · exact p1.elim
end
end Vi

set_option Elab.async false
set_option linter.all false
set_option maxRecDepth 100000
set_option maxHeartbeats 2000000
namespace Vi
open PySem L2

inductive RS where
  | nx (env : Env) (h : Hc) | ret (d : D) (h : Hc) | brk (env : Env) (h : Hc) | cnt (env : Env) (h : Hc) | exc (env : Env) (x : D) (h : Hc) | stuck
abbrev MS := Env → Hc → RS
/-- nothing that is frozen is lost -/
structure Le (s s' : Sta) : Prop where
  f : ∀ a o, s.F a = some o → s'.F a = some o
  al : ∀ n a, s.al n = some a → s'.al n = some a
  z : ∀ n o, s.z n = some o → s'.z n = some o
theorem Le.refl (s : Sta) : Le s s := ⟨fun _ _ h => h, fun _ _ h => h, fun _ _ h => h⟩
theorem Le.trans {a b c : Sta} (x : Le a b) (y : Le b c) : Le a c := ⟨fun _ _ h => y.f _ _ (x.f _ _ h), fun _ _ h => y.al _ _ (x.al _ _ h), fun _ _ h => y.z _ _ (x.z _ _ h)⟩
theorem Evo.le {s s' : Sta} {H H' : Hp} (e : Evo s H s' H') : Le s s' := ⟨e.f, e.al, e.z⟩
section
variable (g : Gi) (B : Bg) (W : WXv)
def PostS (s0 : Sta) : RS → Ends → Prop
  | .nx env h, N => ∀ (σ : L2.St) (H : Hp) (s : Sta), s.h = h → Le s0 s → SR g B env s σ H → N.nx σ H
  | .ret d h, N => ∀ (v : V) (H : Hp) (s : Sta), s.h = h → Evo B.s B.H s H → Good g s H → Rep g s.F s.al d v → N.rt v H
  | .brk env h, N => ∀ (σ : L2.St) (H : Hp) (s : Sta), s.h = h → Le s0 s → SR g B env s σ H → N.bk σ H
  | .cnt env h, N => ∀ (σ : L2.St) (H : Hp) (s : Sta), s.h = h → Le s0 s → SR g B env s σ H → N.ct σ H
  | .exc env x h, _ => ∀ (cls : Value) (dd : Option Addr) (σ : L2.St) (H : Hp) (s : Sta), s.h = h → Le s0 s → SR g B env s σ H → XRep g s H x cls dd → W cls dd σ H
  | .stuck, _ => False
def tS (m : MS) : TS := fun N σ H => ∃ env s, SR g B env s σ H ∧ PostS g B W s (m env s.h) N
end
def R.thenS {α : Type} (r : R α) (env : Env) (k : α → Hc → RS) : RS := match r with
  | .ok a h => k a h
  | .exc x h => .exc env x h
  | .stuck => .stuck
theorem ps_imp {X : Cx} {e : Stmt} {t t' : TS} (h : PS X e t) (i : ∀ N σ H, t' N σ H → t N σ H) : PS X e t' := ⟨fun pins s σ H N I q => h.run pins s σ H N I (i N σ H q)⟩
theorem pss_imp {X : Cx} {e : List Stmt} {t t' : TS} (h : PSs X e t) (i : ∀ N σ H, t' N σ H → t N σ H) : PSs X e t' := ⟨fun pins s σ H N I q => h.run pins s σ H N I (i N σ H q)⟩
section
variable {g : Gi} {B : Bg} {W : WXv} {env : Env} {s : Sta} {σ : L2.St} {H : Hp}
theorem PostS.later {s0 s1 : Sta} {N : Ends} (l : Le s0 s1) : ∀ {r : RS}, PostS g B W s0 r N → PostS g B W s1 r N
  | .nx _ _, p => fun σ H s e h sr => p σ H s e (l.trans h) sr
  | .ret _ _, p => p
  | .brk _ _, p => fun σ H s e h sr => p σ H s e (l.trans h) sr
  | .cnt _ _, p => fun σ H s e h sr => p σ H s e (l.trans h) sr
  | .exc _ _ _, p => fun c d σ H s e h sr => p c d σ H s e (l.trans h) sr
  | .stuck, p => p
theorem bindS {a : ME} {k : Vl → Hc → RS} {N : Ends} (sr : SR g B env s σ H) (p : PostS g B W s ((a env s.h).thenS env k) N) :
    tE g B W a σ H fun v H1 => ∃ s1 x, SR g B env s1 σ H1 ∧ Le s s1 ∧ VlRep g B env σ s1 H1 x v ∧ PostS g B W s1 (k x s1.h) N := by
  refine ⟨env, s, sr, ?_⟩
  cases e : a env s.h with
  | ok x h1 =>
    rw [e] at p
    intro v H1 s1 e1 ev sr1 vr
    exact ⟨s1, x, sr1, ev.le, vr, by rw [e1]; exact PostS.later ev.le p⟩
  | exc x h1 =>
    rw [e] at p
    intro cls dd H1 s1 e1 ev sr1 xr
    exact p cls dd σ H1 s1 e1 ev.le sr1 xr
  | stuck =>
    rw [e] at p
    exact p
theorem bindSB {a : MB} {k : Bool → Hc → RS} {N : Ends} (sr : SR g B env s σ H) (p : PostS g B W s ((a env s.h).thenS env k) N) :
    tT g B W a σ H fun b H1 => ∃ s1, SR g B env s1 σ H1 ∧ Le s s1 ∧ PostS g B W s1 (k b s1.h) N := by
  refine ⟨env, s, sr, ?_⟩
  cases e : a env s.h with
  | ok x h1 =>
    rw [e] at p
    intro H1 s1 e1 ev sr1
    exact ⟨s1, sr1, ev.le, by rw [e1]; exact PostS.later ev.le p⟩
  | exc x h1 =>
    rw [e] at p
    intro cls dd H1 s1 e1 ev sr1 xr
    exact p cls dd σ H1 s1 e1 ev.le sr1 xr
  | stuck =>
    rw [e] at p
    exact p
theorem bindSA {a : MA} {k : List Vl → Hc → RS} {N : Ends} (sr : SR g B env s σ H) (p : PostS g B W s ((a env s.h).thenS env k) N) :
    tA g B W a σ H fun vs H1 => ∃ s1 xs, SR g B env s1 σ H1 ∧ Le s s1 ∧ VlReps g B env σ s1 H1 xs vs ∧ PostS g B W s1 (k xs s1.h) N := by
  refine ⟨env, s, sr, ?_⟩
  cases e : a env s.h with
  | ok x h1 =>
    rw [e] at p
    intro v H1 s1 e1 ev sr1 vr
    exact ⟨s1, x, sr1, ev.le, vr, by rw [e1]; exact PostS.later ev.le p⟩
  | exc x h1 =>
    rw [e] at p
    intro cls dd H1 s1 e1 ev sr1 xr
    exact p cls dd σ H1 s1 e1 ev.le sr1 xr
  | stuck =>
    rw [e] at p
    exact p
/-- a slot gets data -/
theorem SR.set {i : Nat} {x : D} {v : V} (sr : SR g B env s σ H) (r : Rep g s.F s.al x v) : SR g B (env.set i (some (.d x))) s (σ.set i (some v)) H := by
  refine ⟨sr.good, sr.evo, by rw [List.length_set, List.length_set]; exact sr.len, fun j sl h => ?_, fun j k sl sl' u hjk h1 h2 o1 o2 h3 h4 => ?_⟩
  · by_cases e : i = j
    · subst e
      have hi : i < env.length := by
        have := (List.getElem?_eq_some_iff.mp h).1
        rwa [List.length_set] at this
      rw [List.getElem?_set_self hi] at h
      cases h
      exact ⟨v, List.getElem?_set_self (sr.len ▸ hi), r⟩
    · rw [List.getElem?_set_ne e] at h
      rw [List.getElem?_set_ne e]
      exact sr.slot j sl h
  · have ne : ∀ {j : Nat} {sl : Sl}, (env.set i (some (.d x)))[j]? = some (some sl) → sl.own = true → i ≠ j := fun {j sl} h o e => by
      subst e
      have hi : i < env.length := by
        have := (List.getElem?_eq_some_iff.mp h).1
        rwa [List.length_set] at this
      rw [List.getElem?_set_self hi] at h
      cases h
      cases o
    have n1 := ne h1 o1
    have n2 := ne h2 o2
    rw [List.getElem?_set_ne n1] at h1 h3
    rw [List.getElem?_set_ne n2] at h2 h4
    exact sr.sep j k sl sl' u hjk h1 h2 o1 o2 h3 h4
/-- a slot gets something of its own -/
theorem SR.setO {i : Nat} {sl : Sl} {a : Addr} (sr : SR g B env s σ H) (r : SlRep g B s H sl (.ref a)) (hn : NotOwn env σ a) : SR g B (env.set i (some sl)) s (σ.set i (some (.ref a))) H := by
  refine ⟨sr.good, sr.evo, by rw [List.length_set, List.length_set]; exact sr.len, fun j sl' h => ?_, fun j k sl1 sl2 u hjk h1 h2 o1 o2 h3 h4 => ?_⟩
  · by_cases e : i = j
    · subst e
      have hi : i < env.length := by
        have := (List.getElem?_eq_some_iff.mp h).1
        rwa [List.length_set] at this
      rw [List.getElem?_set_self hi] at h
      cases h
      exact ⟨_, List.getElem?_set_self (sr.len ▸ hi), r⟩
    · rw [List.getElem?_set_ne e] at h
      rw [List.getElem?_set_ne e]
      exact sr.slot j sl' h
  · by_cases e1 : i = j
    · subst e1
      have hi : i < env.length := by
        have := (List.getElem?_eq_some_iff.mp h1).1
        rwa [List.length_set] at this
      rw [List.getElem?_set_self (sr.len ▸ hi)] at h3
      cases h3
      rw [List.getElem?_set_ne hjk] at h2 h4
      exact hn k sl2 h2 o2 h4
    · rw [List.getElem?_set_ne e1] at h1 h3
      by_cases e2 : i = k
      · subst e2
        have hi : i < env.length := by
          have := (List.getElem?_eq_some_iff.mp h2).1
          rwa [List.length_set] at this
        rw [List.getElem?_set_self (sr.len ▸ hi)] at h4
        cases h4
        exact hn j sl1 h1 o1 h3
      · rw [List.getElem?_set_ne e2] at h2 h4
        exact sr.sep j k sl1 sl2 u hjk h1 h2 o1 o2 h3 h4
end
/-! ### blocks, assignments, returns -/
@[simp] def mSkip : MS := fun env h => .nx env h
def mSeq (a b : MS) : MS := fun env h => match a env h with
  | .nx env' h' => b env' h'
  | r => r
@[simp] def mSet (i : Nat) (e : ME) : MS := fun env h => (e env h).thenS env fun x h1 => match x with
  | .d x => .nx (env.set i (some (.d x))) h1
  | .tl xs => .nx (env.set i (some (.ol xs))) h1
  | _ => .stuck
@[simp] def mDrop (e : ME) : MS := fun env h => (e env h).thenS env fun _ h1 => .nx env h1
@[simp] def mRet (e : ME) : MS := fun env h => (e env h).thenS env fun x h1 => match x with
  | .d x => .ret x h1
  | .tl xs => .ret (.lst xs) h1
  | .bl xs => .ret (.lst xs) h1
  | _ => .stuck
@[simp] def mRetN : MS := fun _ h => .ret .non h
def mIfS (c : MB) (a b : MS) : MS := fun env h => (c env h).thenS env fun x h1 => if x then a env h1 else b env h1
@[simp] def mBrk : MS := fun env h => .brk env h
@[simp] def mCnt : MS := fun env h => .cnt env h
section
variable {X : Cx} {g : Gi} {B : Bg} {W : WXv} {pos : Pos} {st : Stmt} {rest : List Stmt} {ma mb : MS} {e : Expr} {m : ME} {c : Expr} {mc : MB}
theorem vs_nil : PSs X [] (tS g B W mSkip) := pss_imp pss_nil fun N σ H ⟨env, s, sr, p⟩ => p σ H s rfl (Le.refl s) sr
theorem vs_cons (h1 : PS X st (tS g B W ma)) (h2 : PSs X rest (tS g B W mb)) : PSs X (st :: rest) (tS g B W (mSeq ma mb)) := by
  refine pss_imp (pss_cons h1 h2) fun N σ H ⟨env, s, sr, p⟩ => ⟨env, s, sr, ?_⟩
  unfold mSeq at p
  cases q : ma env s.h with
  | nx env' h' =>
    rw [q] at p
    intro σ' H' s' e l sr'
    exact ⟨env', s', sr', by rw [e]; exact PostS.later l p⟩
  | ret d h' => rw [q] at p; exact p
  | brk env' h' => rw [q] at p; exact p
  | cnt env' h' => rw [q] at p; exact p
  | exc env' x h' => rw [q] at p; exact p
  | stuck => rw [q] at p; exact p
theorem vs_one (h1 : PS X st (tS g B W ma)) : PSs X [st] (tS g B W ma) := pss_one h1
theorem vs_pass : PS X (.Pass pos) (tS g B W mSkip) := ps_imp ps_pass fun N σ H ⟨env, s, sr, p⟩ => p σ H s rfl (Le.refl s) sr
theorem vs_break : PS X (.Break pos) (tS g B W mBrk) := ps_imp ps_break fun N σ H ⟨env, s, sr, p⟩ => p σ H s rfl (Le.refl s) sr
theorem vs_continue : PS X (.Continue pos) (tS g B W mCnt) := ps_imp ps_continue fun N σ H ⟨env, s, sr, p⟩ => p σ H s rfl (Le.refl s) sr
/-- code that the mirror never comes to -/
@[simp] def mNever : MS := fun _ _ => .stuck
theorem vs_never : PS X st (tS g B W mNever) := ps_imp ps_never fun _ _ _ ⟨_, _, _, p⟩ => p
theorem vss_never {sts : List Stmt} : PSs X sts (tS g B W mNever) := pss_imp pss_never fun _ _ _ ⟨_, _, _, p⟩ => p
theorem setPost {i : Nat} {x : Vl} {v : V} {env : Env} {s : Sta} {σ : L2.St} {H : Hp} {N : Ends} (sr : SR g B env s σ H) (r : VlRep g B env σ s H x v)
    (p : PostS g B W s (match (motive := Vl → RS) x with
      | .d x => .nx (env.set i (some (.d x))) s.h
      | .tl xs => .nx (env.set i (some (.ol xs))) s.h
      | _ => .stuck) N) : N.nx (σ.set i (some v)) H := by
  cases x with
  | d x => exact p _ H s rfl (Le.refl s) (sr.set r)
  | tl xs =>
    obtain ⟨a, vs, rfl, h1, h2, h3, h4⟩ := r
    exact p _ H s rfl (Le.refl s) (sr.setO (sl := .ol xs) ⟨a, vs, rfl, h1, h2, h4⟩ h3)
  | bl xs => exact p.elim
  | bi c fs => exact p.elim
theorem vs_set {i : Nat} {x : Str} {pos' : Pos} (hN : X.N.Nodup) (hi : X.N[i]? = some x) (hx : Loc X.env.scope x) (he : PE X e (tE g B W m)) (hs : swapsWith e (some (.Name x pos')) pos.line X.env = pure false := by rfl) (hf : X.fn x = true ∨ X.env.scope.names.lookup x = some .local := by first | exact .inl rfl | exact .inr rfl | assumption) :
    PS X (.Assign [.Name x pos'] e pos) (tS g B W (mSet i m)) := by
  refine ps_imp (ps_set hN hi hx he hs hf) fun N σ H ⟨env, s, sr, p⟩ => ?_
  exact (bindS sr p).mono fun v H1 ⟨s1, x, sr1, l1, r1, p1⟩ => setPost sr1 r1 p1
theorem vs_expr (he : PE X e (tE g B W m)) (hs : swapsWith e none pos.line X.env = pure false := by rfl) : PS X (.Expr e pos) (tS g B W (mDrop m)) := by
  refine ps_imp (ps_expr he hs) fun N σ H ⟨env, s, sr, p⟩ => ?_
  exact (bindS sr p).mono fun v H1 ⟨s1, x, sr1, l1, r1, p1⟩ => p1 σ H1 s1 rfl (Le.refl s1) sr1
/-- a list of the body's own is frozen as the body ends -/
theorem Good.frz {s : Sta} {H : Hp} {a : Addr} {o : HO} (gd : Good g s H) (ha : H a = some o) (hf : s.F a = none) (hal : ∀ n, s.al n ≠ some a) : Good g (s.frz a o) H := by
  have f : ∀ b u, s.F b = some u → (s.frz a o).F b = some u := fun b u h => by
    have ne : b ≠ a := fun q => by rw [q, hf] at h; cases h
    show upd s.F a o b = some u
    rw [upd_ne ne]; exact h
  refine ⟨fun b u h => ?_, gd.inj, fun n b h => ?_, fun n c h => ?_, gd.zed.keep rfl rfl (fun _ _ h => h) fun _ _ _ _ h => h⟩
  · have h : upd s.F a o b = some u := h
    by_cases q : b = a
    · subst q
      rw [upd_same] at h
      cases h
      exact ha
    · rw [upd_ne q] at h
      exact gd.fle b u h
  · obtain ⟨h1, h2, h3⟩ := gd.dom n b h
    refine ⟨h1, ?_, h3⟩
    have ne : b ≠ a := fun q => by subst q; exact hal n h
    show upd s.F a o b = none
    rw [upd_ne ne]; exact h2
  · obtain ⟨b, h1, h2⟩ := gd.cell n c h
    refine ⟨b, h1, ?_⟩
    exact h2.mv (fun _ z => z) f fun _ _ z => z
theorem frz_le {s : Sta} {a : Addr} {o : HO} (hf : s.F a = none) : ∀ b u, s.F b = some u → (s.frz a o).F b = some u := fun b u h => by
  have ne : b ≠ a := fun q => by rw [q, hf] at h; cases h
  show upd s.F a o b = some u
  rw [upd_ne ne]; exact h
theorem retL {xs : List D} {a : Addr} {vs : List V} {env : Env} {s : Sta} {σ : L2.St} {H : Hp} {N : Ends} (sr : SR g B env s σ H) (h1 : H a = some (.lst vs)) (h2 : OwnA B s a) (h4 : Reps g s.F s.al xs vs) (p : PostS g B W s (.ret (.lst xs) s.h) N) : N.rt (.ref a) H := by
  have fl := frz_le (o := .lst vs) h2.f
  exact p (.ref a) H (s.frz a (.lst vs)) rfl (evo_frz h2.f h2.al h2.new sr.evo) (sr.good.frz h1 h2.f h2.al) ⟨a, vs, rfl, upd_same, h4.mono fl fun _ _ z => z⟩
theorem vs_ret (he : PE X e (tE g B W m)) : PS X (.Return (some e) pos) (tS g B W (mRet m)) := by
  refine ps_imp (ps_ret he) fun N σ H ⟨env, s, sr, p⟩ => ?_
  refine (bindS sr p).mono fun v H1 ⟨s1, x, sr1, l1, r1, p1⟩ => ?_
  cases x with
  | d x => exact p1 v H1 s1 rfl sr1.evo sr1.good r1
  | tl xs =>
    obtain ⟨a, vs, rfl, h1, h2, h3, h4⟩ := r1
    exact retL sr1 h1 h2 h4 p1
  | bl xs =>
    obtain ⟨a, vs, rfl, h1, h2, h4⟩ := r1
    exact retL sr1 h1 h2 h4 p1
  | bi c fs => exact p1.elim
theorem vs_retN : PS X (.Return none pos) (tS g B W mRetN) := ps_imp ps_retN fun N σ H ⟨env, s, sr, p⟩ => p .non H s rfl sr.evo sr.good rfl
theorem vs_if {a b : List Stmt} (hc : PT X c (tT g B W mc)) (ha : PSs X a (tS g B W ma)) (hb : PSs X b (tS g B W mb)) : PS X (.If c a b pos) (tS g B W (mIfS mc ma mb)) := by
  refine ps_imp (ps_if hc ha hb) fun N σ H ⟨env, s, sr, p⟩ => ?_
  refine (bindSB sr p).mono fun v H1 ⟨s1, sr1, l1, p1⟩ => ?_
  cases v with
  | true => exact iteT ⟨env, s1, sr1, p1⟩
  | false => exact iteF ⟨env, s1, sr1, p1⟩
end
end Vi

set_option Elab.async false
set_option linter.all false
set_option maxRecDepth 100000
set_option maxHeartbeats 2000000
namespace Vi
open PySem L2

/-! ### targets -/
abbrev TgF := D → Env → Option Env
def TgV (X : Cx) (g : Gi) (target : Expr) (T : TgF) : Prop :=
  ∃ t : TG, PG X target t ∧ ∀ (B : Bg) (env env' : Env) (s : Sta) (σ : L2.St) (H : Hp) (d : D) (v : V) (Q : L2.St → Hp → Prop), SR g B env s σ H → Rep g s.F s.al d v → T d env = some env' → (∀ σ' H', SR g B env' s σ' H' → Q σ' H') → t v σ H Q
def TgsV (X : Cx) (g : Gi) (targets : List Expr) (T : List D → Env → Option Env) : Prop :=
  ∃ t : TGs, PGs X targets t ∧ ∀ (B : Bg) (env env' : Env) (s : Sta) (σ : L2.St) (H : Hp) (ds : List D) (vs : List V) (Q : L2.St → Hp → Prop), SR g B env s σ H → Reps g s.F s.al ds vs → T ds env = some env' → (∀ σ' H', SR g B env' s σ' H' → Q σ' H') → t vs σ H Q
@[simp] def gtN (i : Nat) : TgF := fun d env => some (env.set i (some (.d d)))
@[simp] def gtNil : List D → Env → Option Env := fun ds env => match ds with
  | [] => some env
  | _ => none
@[simp] def gtCons (a : TgF) (b : List D → Env → Option Env) : List D → Env → Option Env := fun ds env => match ds with
  | d :: r => (a d env).bind fun env1 => b r env1
  | [] => none
@[simp] def gtT (n : Nat) (b : List D → Env → Option Env) : TgF := fun d env => match d with
  | .tup ds => if ds.length = n then b ds env else none
  | _ => none
section
variable {X : Cx} {g : Gi} {pos : Pos}
theorem vg_name {i : Nat} {x : Str} (hN : X.N.Nodup) (hi : X.N[i]? = some x) (hx : Loc X.env.scope x) (hf : X.fn x = true ∨ X.env.scope.names.lookup x = some .local := by first | exact .inl rfl | exact .inr rfl | assumption) : TgV X g (.Name x pos) (gtN i) :=
  ⟨_, pg_name hN hi hx hf, fun B env env' s σ H d v Q sr r e k => by
    have e : env.set i (some (.d d)) = env' := Option.some.inj e
    exact k _ _ (e ▸ sr.set r)⟩
theorem vg_nil : TgsV X g [] gtNil := ⟨_, pgs_nil, fun B env env' s σ H ds vs Q sr r e k => by
  cases ds with
  | nil =>
    have e : env = env' := Option.some.inj e
    exact ⟨r, k _ _ (e ▸ sr)⟩
  | cons _ _ => cases e⟩
theorem vg_cons {e : Expr} {es : List Expr} {T : TgF} {U : List D → Env → Option Env} (h1 : TgV X g e T) (h2 : TgsV X g es U) (hs : (assignEach (e :: es) X.env).map (·.2) = assign e X.env :: (assignEach es X.env).map (·.2) := by rfl) : TgsV X g (e :: es) (gtCons T U) := by
  obtain ⟨t, p1, q1⟩ := h1
  obtain ⟨u, p2, q2⟩ := h2
  refine ⟨_, pgs_cons p1 p2 hs, fun B env env' s σ H ds vs Q sr r e k => ?_⟩
  cases ds with
  | nil => cases e
  | cons d ds =>
    obtain ⟨v, vr, ev, r1, r2⟩ := r
    have e : (T d env).bind (fun env1 => U ds env1) = some env' := e
    cases e1 : T d env with
    | none => rw [e1] at e; cases e
    | some env1 =>
      rw [e1] at e
      exact ⟨v, vr, ev, q1 B env env1 s σ H d v _ sr r1 e1 fun σ1 H1 sr1 => q2 B env1 env' s σ1 H1 ds vr Q sr1 r2 e k⟩
theorem vg_tup (hK : g.K = X.K) (hc : X.calm = true) {es : List Expr} {k n : Nat} {U : List D → Env → Option Env} (h : TgsV X g es U) (hn : (assignEach es X.env).length = n := by rfl) (hst : (assignEach es X.env).findIdx? (·.1) = none := by rfl) : TgV X g (.Tuple es k pos) (gtT n U) := by
  obtain ⟨t, p1, q1⟩ := h
  refine ⟨_, pg_tup hc p1 hn hst, fun B env env' s σ H d v Q sr r e k => ?_⟩
  cases d with
  | tup ds =>
    obtain ⟨a, vs, rfl, h2, h3⟩ := r
    have e : (if ds.length = n then U ds env else none) = some env' := e
    by_cases hl : ds.length = n
    · rw [if_pos hl] at e
      exact ⟨a, vs, rfl, hK ▸ sr.good.sqT h2.sq, h3.length.trans hl, q1 B env env' s σ H ds vs Q sr h3 e k⟩
    · rw [if_neg hl] at e
      cases e
  | _ => cases e
end
@[simp] def mUnp (T : TgF) (e : ME) : MS := fun env h => (e env h).thenS env fun x h1 => match x with
  | .d d => (match T d env with
    | some env' => .nx env' h1
    | none => .stuck)
  | _ => .stuck
section
variable {X : Cx} {g : Gi} {B : Bg} {W : WXv} {pos : Pos} {e tg : Expr} {m : ME} {T : TgF}
theorem vs_unp (he : PE X e (tE g B W m)) (ht : TgV X g tg T) (hs : swapsWithSole [tg] e pos.line X.env = pure false := by rfl) (hw : swappedStores [tg] e X.env = pure none := by rfl)
    (h1 : (assignEach [tg] X.env).map (·.2) = [assign tg X.env] := by rfl) : PS X (.Assign [tg] e pos) (tS g B W (mUnp T m)) := by
  obtain ⟨t, p1, q1⟩ := ht
  refine ps_imp (ps_asg he p1 hs hw h1) fun N σ H ⟨env, s, sr, p⟩ => ?_
  refine (bindS sr p).mono fun v H1 ⟨s1, x, sr1, l1, r1, p1⟩ => ?_
  cases x with
  | d d =>
    cases e1 : T d env with
    | none => simp only [e1] at p1; exact p1.elim
    | some env' =>
      simp only [e1] at p1
      exact q1 B env env' s1 σ H1 d v _ sr1 r1 e1 fun σ' H' sr' => p1 σ' H' s1 rfl (Le.refl s1) sr'
  | _ => exact p1.elim
end

/-! ### while -/
def mWhile : Nat → MB → MS → MS
  | 0, _, _ => fun _ _ => .stuck
  | n + 1, c, b => fun env h => (c env h).thenS env fun x h1 => if x then (match b env h1 with
    | .nx e h2 => mWhile n c b e h2
    | .cnt e h2 => mWhile n c b e h2
    | .brk e h2 => .nx e h2
    | .ret d h2 => .ret d h2
    | .exc e x h2 => .exc e x h2
    | .stuck => .stuck) else .nx env h1
section
variable {X : Cx} {g : Gi} {B : Bg} {W : WXv} {pos : Pos} {c : Expr} {body : List Stmt} {mc : MB} {mb : MS}
theorem vs_while (n : Nat) (hp : PassesOwn (model X.prog X.w) X.A X.env X.xe) (hc : PT X c (tT g B W mc)) (hb : PSs X body (tS g B W mb)) : PS X (.While c body [] pos) (tS g B W (mWhile n mc mb)) := by
  refine ps_imp (ps_while hp hc hb) fun N σ H ⟨env, s, sr, p⟩ => ?_
  refine ⟨fun m σ H => ∃ env s, SR g B env s σ H ∧ PostS g B W s (mWhile m mc mb env s.h) N, ⟨n, env, s, sr, p⟩, ?_⟩
  rintro m σ H ⟨env, s, sr, p⟩
  cases m with
  | zero => exact p.elim
  | succ m =>
    refine (bindSB (k := fun x h1 => if x then (match mb env h1 with
      | .nx e h2 => mWhile m mc mb e h2
      | .cnt e h2 => mWhile m mc mb e h2
      | .brk e h2 => .nx e h2
      | .ret d h2 => .ret d h2
      | .exc e x h2 => .exc e x h2
      | .stuck => .stuck) else .nx env h1) sr p).mono fun b H1 ⟨s1, sr1, l1, p1⟩ => ?_
    cases b with
    | false => exact iteF (p1 σ H1 s1 rfl (Le.refl s1) sr1)
    | true =>
      refine iteT ⟨fun σ' H' => ∃ env s, SR g B env s σ' H' ∧ PostS g B W s (mWhile m mc mb env s.h) N, fun σ' H' q => ⟨m, Nat.lt_succ_self m, q⟩, env, s1, sr1, ?_⟩
      rw [if_pos rfl] at p1
      cases q : mb env s1.h with
      | nx e h2 =>
        rw [q] at p1
        intro σ' H' s' e1 l sr'
        exact ⟨e, s', sr', by rw [e1]; exact PostS.later l p1⟩
      | cnt e h2 =>
        rw [q] at p1
        intro σ' H' s' e1 l sr'
        exact ⟨e, s', sr', by rw [e1]; exact PostS.later l p1⟩
      | brk e h2 => rw [q] at p1; exact p1
      | ret d h2 => rw [q] at p1; exact p1
      | exc e x h2 => rw [q] at p1; exact p1
      | stuck => rw [q] at p1; exact p1
end

/-! ### for -/
def forL (T : TgF) (b : MS) : List D → MS
  | [] => fun env h => .nx env h
  | d :: r => fun env h => match T d env with
    | none => .stuck
    | some env1 => (match b env1 h with
      | .nx e h2 => forL T b r e h2
      | .cnt e h2 => forL T b r e h2
      | .brk e h2 => .nx e h2
      | .ret d h2 => .ret d h2
      | .exc e x h2 => .exc e x h2
      | .stuck => .stuck)
/-- a list or tuple that never changes -/
def seqD? (h : Hc) : Vl → Option (Bool × List D)
  | .d (.lst xs) => some (true, xs)
  | .d (.kl xs) => some (true, xs)
  | .d (.tup xs) => some (false, xs)
  | .d (.ref n) => (match h[n]? with
    | some (.frz c) => (match c.bare with
      | .lst xs => some (true, xs)
      | _ => none)
    | _ => none)
  | _ => none
/-- a list that stands still -/
def StL (K : PySem.W.Frag) (s : Sta) (a : Addr) (vs : List V) : Prop := SqL K s.F a vs ∨ ∃ n, s.z n = some (.lst vs) ∧ s.al n = some a
theorem StL.le {K : PySem.W.Frag} {s s' : Sta} {a : Addr} {vs : List V} (l : Le s s') (h : StL K s a vs) : StL K s' a vs := by
  rcases h with h | ⟨n, h1, h2⟩
  · exact .inl (sqL_mono l.f h)
  · exact .inr ⟨n, l.z _ _ h1, l.al _ _ h2⟩
theorem StL.sqL {g : Gi} {K : PySem.W.Frag} {s : Sta} {H : Hp} {a : Addr} {vs : List V} (gd : Good g s H) (h : StL K s a vs) : SqL K H a vs := by
  rcases h with h | ⟨n, h1, h2⟩
  · exact sqL_mono gd.fle h
  · obtain ⟨b, c, h3, h4, _⟩ := gd.zed.at_ n _ h1
    rw [h2] at h3
    cases h3
    exact .of h4
theorem frz_lst {g : Gi} {s : Sta} {H : Hp} {n : Nat} {v : V} {c : Cell} {xs : List D} (gd : Good g s H) (r : Rep g s.F s.al (.ref n) v) (e1 : s.h[n]? = some (.frz c)) (e2 : c.bare = .lst xs) :
    ∃ a vs, v = .ref a ∧ s.z n = some (.lst vs) ∧ s.al n = some a ∧ Reps g s.F s.al xs vs := by
  obtain ⟨a, rfl, hal⟩ := r
  obtain ⟨b, g1, g2⟩ := gd.cell n _ e1
  rw [hal] at g1
  cases g1
  have g3 : CellRep g s H a c.bare := CellRep.bare (c := c) g2
  rw [e2] at g3
  obtain ⟨vs, h1, h2⟩ := g3
  obtain ⟨o, h3⟩ := gd.zed.of n c e1
  obtain ⟨b, _, h4, h5, _⟩ := gd.zed.at_ n o h3
  rw [hal] at h4
  cases h4
  rw [h1] at h5
  cases h5
  exact ⟨a, vs, rfl, h3, hal, h2⟩
def mFor (T : TgF) (e : ME) (b : MS) : MS := fun env h => (e env h).thenS env fun x h1 => match seqD? h1 x with
  | some (_, xs) => forL T b xs env h1
  | none => .stuck
theorem pi_imp {X : Cx} {tg e : Expr} {t t' : TI} (h : PI X tg e t) (i : ∀ σ H Q, t' σ H Q → t σ H Q) : PI X tg e t' := ⟨fun pins s σ H R I q => h.run pins s σ H R I (i σ H R q)⟩
theorem pi_or {X : Cx} {tg e : Expr} {t t' : TI} (h : PI X tg e t) (h' : PI X tg e t') : PI X tg e (fun σ H R => t σ H R ∨ t' σ H R) := ⟨fun pins s σ H R I q => by
  rcases q with q | q
  · exact h.run pins s σ H R I q
  · exact h'.run pins s σ H R I q⟩
section
variable {X : Cx} {g : Gi} {B : Bg} {W : WXv} {pos : Pos} {e tg : Expr} {body : List Stmt} {m : ME} {mb : MS} {T : TgF}
/-- one turn: the body behind the store -/
theorem forTurn {t : TG} {d : D} {r : List D} {v : V} {env : Env} {s : Sta} {σ : L2.St} {H : Hp} {N : Ends} (q1 : ∀ (B : Bg) (env env' : Env) (s : Sta) (σ : L2.St) (H : Hp) (d : D) (v : V) (Q : L2.St → Hp → Prop), SR g B env s σ H → Rep g s.F s.al d v → T d env = some env' → (∀ σ' H', SR g B env' s σ' H' → Q σ' H') → t v σ H Q)
    (sr : SR g B env s σ H) (rep : Rep g s.F s.al d v) (p : PostS g B W s (forL T mb (d :: r) env s.h) N) {Nx : L2.St → Hp → Prop} (hN : ∀ (env : Env) (s' : Sta) (σ : L2.St) (H : Hp), Le s s' → SR g B env s' σ H → PostS g B W s' (forL T mb r env s'.h) N → Nx σ H) :
    t v σ H fun σ2 H2 => tS g B W mb { N with nx := Nx, ct := Nx, bk := N.nx } σ2 H2 := by
  have p : PostS g B W s (match T d env with
    | none => .stuck
    | some env1 => (match mb env1 s.h with
      | .nx e h2 => forL T mb r e h2
      | .cnt e h2 => forL T mb r e h2
      | .brk e h2 => .nx e h2
      | .ret d h2 => .ret d h2
      | .exc e x h2 => .exc e x h2
      | .stuck => .stuck)) N := p
  cases e1 : T d env with
  | none => rw [e1] at p; exact p.elim
  | some env1 =>
    rw [e1] at p
    refine q1 B env env1 s σ H d v _ sr rep e1 fun σ' H' sr' => ⟨env1, s, sr', ?_⟩
    have p : PostS g B W s (match mb env1 s.h with
      | .nx e h2 => forL T mb r e h2
      | .cnt e h2 => forL T mb r e h2
      | .brk e h2 => .nx e h2
      | .ret d h2 => .ret d h2
      | .exc e x h2 => .exc e x h2
      | .stuck => .stuck) N := p
    cases q : mb env1 s.h with
    | nx e h2 =>
      rw [q] at p
      intro σ2 H2 s2 e2 l sr2
      exact hN e s2 σ2 H2 l sr2 (by rw [e2]; exact PostS.later l p)
    | cnt e h2 =>
      rw [q] at p
      intro σ2 H2 s2 e2 l sr2
      exact hN e s2 σ2 H2 l sr2 (by rw [e2]; exact PostS.later l p)
    | brk e h2 => rw [q] at p; exact p
    | ret d h2 => rw [q] at p; exact p
    | exc e x h2 => rw [q] at p; exact p
    | stuck => rw [q] at p; exact p
theorem Reps.mono2 {F F' : Hp} {al al' : Nat → Option Addr} {ds : List D} {vs : List V} (h : Reps g F al ds vs) (e : ∀ a o, F a = some o → F' a = some o) (ea : ∀ n a, al n = some a → al' n = some a) : Reps g F' al' ds vs := h.mono e ea
theorem vs_for (hK : g.K = X.K) (hp : PassesOwn (model X.prog X.w) X.A X.env X.xe) (hc : X.calm = true) (he : PE X e (tE g B W m)) (ht : TgV X g tg T) (hb : PSs X body (tS g B W mb))
    (hs : ∀ x, foldedSetIterable e X.env x = pure x := by intro _; rfl) : PS X (.For tg e body [] pos) (tS g B W (mFor T m mb)) := by
  obtain ⟨t, p1, q1⟩ := ht
  refine ps_imp (ps_for hp hc (pi_or (pi_list (tg := tg) he) (pi_tup he)) p1 hb hs) fun N σ H ⟨env, s, sr, p⟩ => ?_
  -- which of both it is is known ahead
  have go : ∀ (bb : Bool) (xs : List D) (h1 : Hc) (x : Vl), m env s.h = .ok x h1 → seqD? h1 x = some (bb, xs) → PostS g B W s (forL T mb xs env h1) N → tFor (fun σ H R => iList X.K (tE g B W m) σ H R ∨ iTup X.K (tE g B W m) σ H R) t (tS g B W mb) N σ H := by
    intro bb xs h1 x em es pp
    cases bb with
    | true =>
      refine .inl ⟨env, s, sr, ?_⟩
      rw [em]
      intro v H1 s1 e1 ev sr1 vr
      have q : ∃ a vs, v = .ref a ∧ StL g.K s1 a vs ∧ Reps g s1.F s1.al xs vs := by
        cases x with
        | d x =>
          cases x with
          | lst ys => cases es; obtain ⟨a, vs, h1, h2, h3⟩ := vr; exact ⟨a, vs, h1, .inl (.of h2), h3⟩
          | kl ys => cases es; obtain ⟨a, vs, h1, h2, h3⟩ := vr; exact ⟨a, vs, h1, .inl h2, h3⟩
          | ref n =>
            rw [← e1] at es
            unfold seqD? at es
            dsimp only at es
            split at es
            · next c ec =>
              split at es
              · next ys eb =>
                cases es
                obtain ⟨a, vs, h1, h2, h3, h4⟩ := frz_lst sr1.good vr ec eb
                exact ⟨a, vs, h1, .inr ⟨n, h2, h3⟩, h4⟩
              · cases es
            · cases es
          | _ => cases es
        | _ => cases es
      obtain ⟨a, vs, rfl, hq, hr⟩ := q
      refine ⟨a, rfl, ⟨vs, hK ▸ hq.sqL sr1.good⟩, for_list (K := X.K) (a := a) (xs := vs) (fun i σ H => ∃ env s', SR g B env s' σ H ∧ Le s1 s' ∧ PostS g B W s' (forL T mb (xs.drop i) env s'.h) N)
        ⟨env, s1, sr1, Le.refl s1, by rw [List.drop_zero, e1]; exact PostS.later ev.le pp⟩ (fun i σ H _ ⟨env, s', sr', l, _⟩ => hK ▸ (hq.le l).sqL sr'.good) ?_ ?_⟩
      · rintro i y σ H hi ⟨env, s', sr', l, pp⟩
        have hr' := hr.mono2 l.f l.al
        have hl : i < xs.length := by
          rw [← hr.length]
          exact (List.getElem?_eq_some_iff.mp hi).1
        obtain ⟨y', ey, ry⟩ := hr'.get (List.getElem?_eq_getElem hl)
        rw [hi] at ey
        cases ey
        rw [List.drop_eq_getElem_cons hl] at pp
        exact forTurn q1 sr' ry pp fun env2 s2 σ2 H2 l2 sr2 p2 => ⟨env2, s2, sr2, l.trans l2, p2⟩
      · rintro σ H ⟨env, s', sr', l, pp⟩
        rw [hr.length, List.drop_length] at pp
        exact pp σ H s' rfl (Le.refl s') sr'
    | false =>
      refine .inr ⟨env, s, sr, ?_⟩
      rw [em]
      intro v H1 s1 e1 ev sr1 vr
      have q : ∃ a vs, v = .ref a ∧ SqT g.K s1.F a vs ∧ Reps g s1.F s1.al xs vs := by
        cases x with
        | d x =>
          cases x with
          | tup ys => cases es; obtain ⟨a, vs, h1, h2, h3⟩ := vr; exact ⟨a, vs, h1, h2.sq, h3⟩
          | ref n =>
            unfold seqD? at es
            dsimp only at es
            split at es
            · split at es <;> cases es
            · cases es
          | _ => cases es
        | _ => cases es
      obtain ⟨a, vs, rfl, hq, hr⟩ := q
      refine ⟨a, rfl, ⟨vs, hK ▸ sr1.good.sqT hq⟩, for_tup (K := X.K) (a := a) (xs := vs) (fun i σ H => ∃ env s', SR g B env s' σ H ∧ Le s1 s' ∧ PostS g B W s' (forL T mb (xs.drop i) env s'.h) N)
        ⟨env, s1, sr1, Le.refl s1, by rw [List.drop_zero, e1]; exact PostS.later ev.le pp⟩ (fun i σ H _ ⟨env, s', sr', l, _⟩ => hK ▸ sr'.good.sqT (sqT_mono l.f hq)) ?_ ?_⟩
      · rintro i y σ H hi ⟨env, s', sr', l, pp⟩
        have hr' := hr.mono2 l.f l.al
        have hl : i < xs.length := by
          rw [← hr.length]
          exact (List.getElem?_eq_some_iff.mp hi).1
        obtain ⟨y', ey, ry⟩ := hr'.get (List.getElem?_eq_getElem hl)
        rw [hi] at ey
        cases ey
        rw [List.drop_eq_getElem_cons hl] at pp
        exact forTurn q1 sr' ry pp fun env2 s2 σ2 H2 l2 sr2 p2 => ⟨env2, s2, sr2, l.trans l2, p2⟩
      · rintro σ H ⟨env, s', sr', l, pp⟩
        rw [hr.length, List.drop_length] at pp
        exact pp σ H s' rfl (Le.refl s') sr'
  unfold mFor at p
  cases em : m env s.h with
  | ok x h1 =>
    rw [em] at p
    have p : PostS g B W s (match seqD? h1 x with
      | some (_, xs) => forL T mb xs env h1
      | none => .stuck) N := p
    cases es : seqD? h1 x with
    | none => rw [es] at p; exact p.elim
    | some q =>
      rw [es] at p
      exact go q.1 q.2 h1 x em es p
  | exc x h1 =>
    rw [em] at p
    refine .inl ⟨env, s, sr, ?_⟩
    rw [em]
    intro cls dd H1 s1 e1 ev sr1 xr
    exact p cls dd σ H1 s1 e1 ev.le sr1 xr
  | stuck =>
    rw [em] at p
    exact p.elim
/-- for i in range(n) -/
def rangeD (lo : Int) (n : Nat) : List D := (List.range n).map fun i : Nat => D.int (lo + (i : Nat))
def mForR (T : TgF) (a : MA) (b : MS) : MS := fun env h => (a env h).thenS env fun xs h1 => match xs with
  | [.d (.int j)] => if -(2 ^ 62) ≤ j ∧ j < 2 ^ 62 then forL T b (rangeD 0 j.toNat) env h1 else .stuck
  | _ => .stuck
def mForR2 (T : TgF) (a : MA) (b : MS) : MS := fun env h => (a env h).thenS env fun xs h1 => match xs with
  | [.d (.int i), .d (.int j)] => if -(2 ^ 62) ≤ i ∧ i < 2 ^ 62 ∧ -(2 ^ 62) ≤ j ∧ j < 2 ^ 62 then forL T b (rangeD i (j - i).toNat) env h1 else .stuck
  | _ => .stuck
theorem rangeD_len (lo : Int) (n : Nat) : (rangeD lo n).length = n := by unfold rangeD; rw [List.length_map, List.length_range]
theorem rangeD_get (lo : Int) (n i : Nat) (h : i < (rangeD lo n).length) : (rangeD lo n)[i] = .int (lo + (i : Nat)) := by
  have e : (rangeD lo n)[i]? = some (.int (lo + (i : Nat))) := by
    have hn : i < n := by rw [rangeD_len] at h; exact h
    show ((List.range n).map fun i : Nat => D.int (lo + (i : Nat)))[i]? = _
    rw [List.getElem?_map, List.getElem?_range hn]
    rfl
  exact (List.getElem?_eq_some_iff.mp e).2
theorem forRange {t : TG} {lo : Int} {n : Nat} {env : Env} {s1 : Sta} {σ : L2.St} {H : Hp} {N : Ends} (q1 : ∀ (B : Bg) (env env' : Env) (s : Sta) (σ : L2.St) (H : Hp) (d : D) (v : V) (Q : L2.St → Hp → Prop), SR g B env s σ H → Rep g s.F s.al d v → T d env = some env' → (∀ σ' H', SR g B env' s σ' H' → Q σ' H') → t v σ H Q)
    (sr1 : SR g B env s1 σ H) (pp : PostS g B W s1 (forL T mb (rangeD lo n) env s1.h) N) : ∃ W' : Nat → Nat → L2.St → Hp → Prop, (∃ m, W' 0 m σ H) ∧ ∀ i m σ H, W' i m σ H →
      ((Itr lo n).stop i H ∧ N.nx σ H) ∨ ((Itr lo n).go i H ∧ ∃ Nx : L2.St → Hp → Prop, (∀ σ' H', Nx σ' H' → ∃ m', m' < m ∧ W' (i + 1) m' σ' H') ∧ ∀ x H', (Itr lo n).yld i H x H' → t x σ H' fun σ2 H2 => tS g B W mb { N with nx := Nx, ct := Nx, bk := N.nx } σ2 H2) := by
  refine for_range (lo := lo) (n := n) (fun i σ H => ∃ env s', SR g B env s' σ H ∧ PostS g B W s' (forL T mb ((rangeD lo n).drop i) env s'.h) N) ⟨env, s1, sr1, by rw [List.drop_zero]; exact pp⟩ ?_ ?_
  · rintro i σ H hi ⟨env, s', sr', pp⟩
    have hl : i < (rangeD lo n).length := by rw [rangeD_len]; exact hi
    rw [List.drop_eq_getElem_cons hl, rangeD_get] at pp
    exact forTurn q1 sr' (show Rep g s'.F s'.al (.int (lo + (i : Nat))) (.int (lo + (i : Nat))) from rfl) pp fun env2 s2 σ2 H2 l2 sr2 p2 => ⟨env2, s2, sr2, p2⟩
  · rintro σ H ⟨env, s', sr', pp⟩
    rw [show (rangeD lo n).drop n = [] from List.drop_eq_nil_of_le (by rw [rangeD_len]; exact Nat.le_refl _)] at pp
    exact pp σ H s' rfl (Le.refl s') sr'
theorem vs_forR1 {a : Expr} {ma : MA} {p' rp : Pos} (hp : PassesOwn (model X.prog X.w) X.A X.env X.xe) (hc : X.calm = true) (hg : Gl X "range") (hm : X.mg "range" = none) (ha : PA X [a] (tA g B W ma)) (ht : TgV X g tg T) (hb : PSs X body (tS g B W mb))
    (hst : starEach [a] X.env = [(false, eval a X.env)] := by rfl) (hs : ∀ x, foldedSetIterable (.Call (.Name "range" p') [a] [] rp) X.env x = pure x := by intro _; rfl) :
    PS X (.For tg (.Call (.Name "range" p') [a] [] rp) body [] pos) (tS g B W (mForR T ma mb)) := by
  obtain ⟨t, p1, q1⟩ := ht
  refine ps_imp (ps_for hp hc (pi_range1 (tg := tg) hg hm ha hst) p1 hb hs) fun N σ H ⟨env, s, sr, p⟩ => ?_
  refine (bindSA sr p).mono fun vs H1 ⟨s1, xs, sr1, l1, r1, p1⟩ => ?_
  split at p1
  · next j =>
    obtain ⟨v, rfl, r⟩ := r1.one
    split at p1
    · next hj =>
      have r : v = .int j := r
      exact ⟨j, by rw [r], hj.1, hj.2, forRange q1 sr1 p1⟩
    · exact p1.elim
  · exact p1.elim
theorem vs_forR2 {a b : Expr} {ma : MA} {p' rp : Pos} (hp : PassesOwn (model X.prog X.w) X.A X.env X.xe) (hc : X.calm = true) (hg : Gl X "range") (hm : X.mg "range" = none) (ha : PA X [a, b] (tA g B W ma)) (ht : TgV X g tg T) (hb : PSs X body (tS g B W mb))
    (hst : starEach [a, b] X.env = [(false, eval a X.env), (false, eval b X.env)] := by rfl) (hst2 : starEach [b] X.env = [(false, eval b X.env)] := by rfl) (hs : ∀ x, foldedSetIterable (.Call (.Name "range" p') [a, b] [] rp) X.env x = pure x := by intro _; rfl) :
    PS X (.For tg (.Call (.Name "range" p') [a, b] [] rp) body [] pos) (tS g B W (mForR2 T ma mb)) := by
  obtain ⟨t, p1, q1⟩ := ht
  refine ps_imp (ps_for hp hc (pi_range2 (tg := tg) hg hm ha hst hst2) p1 hb hs) fun N σ H ⟨env, s, sr, p⟩ => ?_
  refine (bindSA sr p).mono fun vs H1 ⟨s1, xs, sr1, l1, r1, p1⟩ => ?_
  split at p1
  · next i j =>
    obtain ⟨v, w, rfl, r, r2⟩ := r1.two
    split at p1
    · next hj =>
      have r : v = .int i := r
      have r2 : w = .int j := r2
      exact ⟨i, j, by rw [r, r2], hj, forRange q1 sr1 p1⟩
    · exact p1.elim
  · exact p1.elim
end
end Vi

set_option Elab.async false
set_option linter.all false
set_option maxRecDepth 100000
set_option maxHeartbeats 2000000
namespace Vi
open PySem L2

section
variable {g : Gi} {B : Bg} {W : WXv} {env : Env} {s : Sta} {σ : L2.St} {H : Hp}
/-- a slot's own object changes -/
theorem SR.mut {i : Nat} {sl sl' : Sl} {a : Addr} {o : HO} (sr : SR g B env s σ H) (hi : env[i]? = some (some sl)) (ho : sl.own = true) (hσ : σ[i]? = some (some (.ref a))) (hf : s.F a = none) (hal : ∀ n, s.al n ≠ some a) (hb : B.H a = none)
    (r : SlRep g B s (upd H a o) sl' (.ref a)) : SR g B (env.set i (some sl')) s σ (upd H a o) := by
  have hlt : i < env.length := (List.getElem?_eq_some_iff.mp hi).1
  have hnx : ∀ zs, H a ≠ some (.xd zs) := fun zs hz => by
    obtain ⟨v, h1, h2⟩ := sr.slot i sl hi
    rw [hσ] at h1
    cases h1
    cases sl with
    | d x => cases ho
    | xc c fs => cases ho
    | ol xs =>
      obtain ⟨b, vs, e, h2, _⟩ := h2
      cases e
      rw [hz] at h2
      cases h2
    | oi c fs =>
      obtain ⟨b, dx, vs, e, h2, _⟩ := h2
      cases e
      rw [hz] at h2
      cases h2
  have stay : ∀ {sl1 : Sl} {v : V}, SlRep g B s H sl1 v → (sl1.own = true → v ≠ .ref a) → SlRep g B s (upd H a o) sl1 v := fun {sl1 v} h hne => by
    cases sl1 with
    | d x => exact h
    | ol xs =>
      obtain ⟨b, vs, rfl, h2, h3, h4⟩ := h
      have ne : b ≠ a := fun e => hne rfl (by rw [e])
      exact ⟨b, vs, rfl, by rw [upd_ne ne]; exact h2, h3, h4⟩
    | oi c fs =>
      obtain ⟨b, dx, vs, rfl, h2, h3, h4, h5⟩ := h
      have ne : b ≠ a := fun e => hne rfl (by rw [e])
      exact ⟨b, dx, vs, rfl, by rw [upd_ne ne]; exact h2, h3, h4, h5⟩
    | xc c fs =>
      obtain ⟨h1, h2, vs, h3, h4, h5⟩ := h
      have ne : B.xd ≠ a := fun e => hnx vs (by rw [← e]; exact h3)
      exact ⟨h1, h2, vs, by rw [upd_ne ne]; exact h3, h4, h5⟩
  refine ⟨⟨fun b u h => ?_, sr.good.inj, fun n b h => ?_, fun n c h => ?_, sr.good.zed.keep rfl rfl (fun _ _ h => h) fun n b o h1 h2 => by rw [upd_ne (fun e => hal n (by rw [← e]; exact h1))]; exact h2⟩, ⟨sr.evo.f, sr.evo.al, fun b u h n => ?_, sr.evo.len, sr.evo.z⟩, by rw [List.length_set]; exact sr.len, fun j sl1 h => ?_, fun j k sl1 sl2 u hjk h1 h2 o1 o2 h3 h4 => ?_⟩
  · have ne : b ≠ a := fun e => by rw [e, hf] at h; cases h
    rw [upd_ne ne]
    exact sr.good.fle b u h
  · obtain ⟨h1, h2, u, h3⟩ := sr.good.dom n b h
    have ne : b ≠ a := fun e => hal n (by rw [← e]; exact h)
    exact ⟨h1, h2, u, by rw [upd_ne ne]; exact h3⟩
  · obtain ⟨b, h1, h2⟩ := sr.good.cell n c h
    have ne : b ≠ a := fun e => hal n (by rw [← e]; exact h1)
    refine ⟨b, h1, ?_⟩
    exact h2.mv (fun o h3 => by rw [upd_ne ne]; exact h3) (fun _ _ h => h) fun _ _ h => h
  · obtain ⟨h1, h2, h3⟩ := sr.evo.oth b u h n
    have ne : b ≠ a := fun e => by rw [e, hb] at h; cases h
    exact ⟨by rw [upd_ne ne]; exact h1, h2, h3⟩
  · by_cases e : i = j
    · subst e
      rw [List.getElem?_set_self hlt] at h
      cases h
      exact ⟨_, hσ, r⟩
    · rw [List.getElem?_set_ne e] at h
      obtain ⟨v, h1, h2⟩ := sr.slot j sl1 h
      exact ⟨v, h1, stay h2 fun o1 q => by subst q; exact sr.sep i j sl sl1 (.ref a) e hi h ho o1 hσ h1⟩
  · have f : ∀ {j : Nat} {sl1 : Sl}, (env.set i (some sl'))[j]? = some (some sl1) → sl1.own = true → ∃ sl3, env[j]? = some (some sl3) ∧ sl3.own = true := fun {j sl1} h q => by
      by_cases e : i = j
      · subst e
        exact ⟨sl, hi, ho⟩
      · rw [List.getElem?_set_ne e] at h
        exact ⟨sl1, h, q⟩
    obtain ⟨x1, e1, e2⟩ := f h1 o1
    obtain ⟨x2, e3, e4⟩ := f h2 o2
    exact sr.sep j k x1 x2 u hjk e1 e3 e2 e4 h3 h4
/-- a cell changes -/
theorem SR.cell {n : Nat} {c c' : Cell} {a : Addr} {o : HO} (sr : SR g B env s σ H) (hc : s.h[n]? = some c) (ha : s.al n = some a) (nf : ∀ c0, c ≠ .frz c0) (nf' : ∀ c0, c' ≠ .frz c0) (r : CellRep g { s with h := s.h.set n c' } (upd H a o) a c') :
    SR g B env { s with h := s.h.set n c' } σ (upd H a o) := by
  obtain ⟨hn, hf, u0, hu0⟩ := sr.good.dom n a ha
  have stay : ∀ {sl1 : Sl} {v : V}, SlRep g B s H sl1 v → SlRep g B { s with h := s.h.set n c' } (upd H a o) sl1 v := fun {sl1 v} h => by
    cases sl1 with
    | d x => exact h
    | ol xs =>
      obtain ⟨b, vs, rfl, h2, h3, h4⟩ := h
      have ne : b ≠ a := fun e => h3.al n (by rw [e]; exact ha)
      exact ⟨b, vs, rfl, by rw [upd_ne ne]; exact h2, ⟨h3.f, h3.al, h3.new⟩, h4⟩
    | oi c fs =>
      obtain ⟨b, dx, vs, rfl, h2, h3, h4, h5⟩ := h
      have ne : b ≠ a := fun e => h3.al n (by rw [e]; exact ha)
      exact ⟨b, dx, vs, rfl, by rw [upd_ne ne]; exact h2, ⟨h3.f, h3.al, h3.new⟩, h4, h5⟩
    | xc c fs =>
      obtain ⟨h1, h2, vs, h3, h4, h5⟩ := h
      have ne : B.xd ≠ a := fun e => h4 n (by rw [e]; exact ha)
      exact ⟨h1, h2, vs, by rw [upd_ne ne]; exact h3, h4, h5⟩
  have zed : ZOk { s with h := s.h.set n c' } (upd H a o) := ⟨fun m u h => by
      obtain ⟨b, c0, h1, h2, h3⟩ := sr.good.zed.at_ m u h
      have e : n ≠ m := fun e => by
        subst e
        rw [hc] at h3
        exact nf _ (Option.some.inj h3)
      have ne : b ≠ a := fun q => e (sr.good.inj n m a ha (by rw [← q]; exact h1))
      refine ⟨b, c0, h1, by rw [upd_ne ne]; exact h2, ?_⟩
      show (s.h.set n c')[m]? = _
      rw [List.getElem?_set_ne e]
      exact h3, fun m c0 h => by
      have h : (s.h.set n c')[m]? = some (.frz c0) := h
      by_cases e : n = m
      · subst e
        rw [List.getElem?_set_self hn] at h
        exact absurd (Option.some.inj h) (nf' _)
      · rw [List.getElem?_set_ne e] at h
        exact sr.good.zed.of m c0 h⟩
  refine ⟨⟨fun b u h => ?_, sr.good.inj, fun m b h => ?_, fun m d h => ?_, zed⟩, ⟨sr.evo.f, sr.evo.al, fun b u h nn => ?_, by show _ ≤ (s.h.set n c').length; rw [List.length_set]; exact sr.evo.len, sr.evo.z⟩, sr.len, fun j sl1 h => ?_, sr.sep⟩
  · have ne : b ≠ a := fun e => by rw [e] at h; rw [hf] at h; cases h
    rw [upd_ne ne]
    exact sr.good.fle b u h
  · obtain ⟨h1, h2, u, h3⟩ := sr.good.dom m b h
    refine ⟨by show m < (s.h.set n c').length; rw [List.length_set]; exact h1, h2, ?_⟩
    by_cases e : b = a
    · subst e
      exact ⟨o, upd_same⟩
    · exact ⟨u, by rw [upd_ne e]; exact h3⟩
  · have h : (s.h.set n c')[m]? = some d := h
    by_cases e : n = m
    · subst e
      rw [List.getElem?_set_self hn] at h
      cases h
      exact ⟨a, ha, r⟩
    · rw [List.getElem?_set_ne e] at h
      obtain ⟨b, h1, h2⟩ := sr.good.cell m d h
      have ne : b ≠ a := fun q => e (sr.good.inj n m a ha (by rw [← q]; exact h1))
      refine ⟨b, h1, ?_⟩
      exact CellRep.mv (s := s) (s' := { s with h := s.h.set n c' }) (H := H) (fun o h3 => by rw [upd_ne ne]; exact h3) (fun _ _ h => h) (fun _ _ h => h) h2
  · obtain ⟨h1, h2, h3⟩ := sr.evo.oth b u h nn
    have ne : b ≠ a := fun e => h3 n (by rw [e]; exact ha)
    exact ⟨by rw [upd_ne ne]; exact h1, h2, h3⟩
  · obtain ⟨v, h1, h2⟩ := sr.slot j sl1 h
    exact ⟨v, h1, stay h2⟩
end
section
variable {g : Gi} {B : Bg} {W : WXv} {env : Env} {s : Sta} {σ : L2.St} {H : Hp}
theorem bind2S {a b : ME} {f : Vl → Vl → Hc → RS} {N : Ends} (sr : SR g B env s σ H) (p : PostS g B W s ((a env s.h).thenS env fun y h2 => (b env h2).thenS env fun z h3 => f y z h3) N) :
    tE g B W a σ H fun v H1 => tE g B W b σ H1 fun w H2 => ∃ s2 x y, SR g B env s2 σ H2 ∧ Evo s H s2 H2 ∧ VlRep g B env σ s2 H2 x v ∧ VlRep g B env σ s2 H2 y w ∧ PostS g B W s2 (f x y s2.h) N := by
  refine ⟨env, s, sr, ?_⟩
  cases e1 : a env s.h with
  | ok x h1 =>
    rw [e1] at p
    intro v H1 s1 q1 ev1 sr1 vr1
    refine ⟨env, s1, sr1, ?_⟩
    have p : PostS g B W s ((b env h1).thenS env fun z h3 => f x z h3) N := p
    rw [q1]
    cases e2 : b env h1 with
    | ok y h2 =>
      rw [e2] at p
      intro w H2 s2 q2 ev2 sr2 vr2
      refine ⟨s2, x, y, sr2, ev1.trans ev2, vr1.evo ev2, vr2, ?_⟩
      rw [q2]
      exact PostS.later (ev1.trans ev2).le p
    | exc x h =>
      rw [e2] at p
      intro cls dd H2 s2 q2 ev2 sr2 xr
      exact p cls dd σ H2 s2 q2 (ev1.trans ev2).le sr2 xr
    | stuck => rw [e2] at p; exact p
  | exc x h =>
    rw [e1] at p
    intro cls dd H2 s2 q2 ev2 sr2 xr
    exact p cls dd σ H2 s2 q2 ev2.le sr2 xr
  | stuck => rw [e1] at p; exact p
end
/-! ### xs.append(e), xs of the body's own; o[i] = e of a cell -/
def mAppend (i : Nat) (e : ME) : MS := fun env h => match env[i]? with
  | some (some (.ol xs)) => (e env h).thenS env fun x h1 => match x with
    | .d d => if xs.length < 100000 then .nx (env.set i (some (.ol (xs ++ [d])))) h1 else .stuck
    | _ => .stuck
  | _ => .stuck
@[simp] def fSetIx (env : Env) (x y z : Vl) (h3 : Hc) : RS := match x, y, z with
  | .d d, .d (.ref n), .d (.int i) => (match h3[n]? with
    | some (.lst xs) => (match ixN xs.length i with
      | some j => .nx env (h3.set n (.lst (xs.set j d)))
      | none => .stuck)
    | _ => .stuck)
  | _, _, _ => .stuck
@[simp] def mSetIx (e o k : ME) : MS := fun env h => (e env h).thenS env fun x h1 => (o env h1).thenS env fun y h2 => (k env h2).thenS env fun z h3 => fSetIx env x y z h3
theorem size_lt {n : Nat} (h : n < 100000) : n < sizeLine := Nat.lt_of_lt_of_le h (by decide)
section
variable {X : Cx} {g : Gi} {B : Bg} {W : WXv} {pos apos cpos : Pos} {e o k : Expr} {m mo mk : ME} {tpos : Pos}
theorem vs_append {i : Nat} (hK : g.K = X.K) (ho : PE X o (tVar i)) (he : PE X e (tE g B W m)) (hbase : attributeBase o "append" X.env (eval o X.env) = eval o X.env := by rfl) (hline : (apos.endLine == cpos.line) = true := by rfl)
    (hfew : ((backTo cpos (starEach [e] X.env)).all (fun x => !x.1) && (backToKw cpos (keywordEach [] X.env)).all (fun x => x.1.isSome) && decide ([e].length + ([] : List Keyword).length + (if ([] : List Keyword).isEmpty then 0 else 1) < 30)) = true := by rfl)
    (hst : starEach [e] X.env = (false, eval e X.env) :: starEach [] X.env := by rfl) (hpl : (backTo cpos (starEach [] X.env)).any (·.1) = false := by rfl)
    (hs : swapsWith (.Call (.Attribute o "append" apos) [e] [] cpos) none pos.line X.env = pure false := by rfl) :
    PS X (.Expr (.Call (.Attribute o "append" apos) [e] [] cpos) pos) (tS g B W (mAppend i m)) := by
  refine ps_imp (ps_expr (pe_bm PySem.F.plainAttrs_list PySem.F.slot_list_append PySem.F.type_list_append mt_append ho (pa_cons he pa_nil hst) hbase hfew hline hst hpl) hs) fun N σ H ⟨env, s, sr, p⟩ => ?_
  unfold mAppend at p
  split at p
  · next xs hx =>
    obtain ⟨v, h1, h2⟩ := sr.slot i _ hx
    obtain ⟨a, vs, rfl, h3, h4, h5⟩ := h2
    refine ⟨.ref a, h1, .inl ⟨rfl, vs, .of h3⟩, ?_⟩
    refine (bindS sr p).mono fun w H1 ⟨s1, x, sr1, l1, r1, p1⟩ => ?_
    obtain ⟨v', h1', h2'⟩ := sr1.slot i _ hx
    rw [h1] at h1'
    cases h1'
    obtain ⟨a', ws, ea, h3', h4', h5'⟩ := h2'
    cases ea
    cases x with
    | d d =>
      have p1 : PostS g B W s1 (if xs.length < 100000 then .nx (env.set i (some (.ol (xs ++ [d])))) s1.h else .stuck) N := p1
      by_cases hl : xs.length < 100000
      · rw [if_pos hl] at p1
        refine ⟨a, ws, w, rfl, rfl, h3', by rw [h5'.length]; exact size_lt hl, ?_⟩
        exact p1 σ _ s1 rfl (Le.refl s1) (sr1.mut hx rfl h1 h4'.f h4'.al h4'.new ⟨a, ws ++ [w], rfl, upd_same, h4', h5'.append (Reps.cons r1 Reps.nil)⟩)
      · rw [if_neg hl] at p1
        exact p1.elim
    | _ => exact p1.elim
  · exact p.elim
theorem vs_setix (he : PE X e (tE g B W m)) (ho : PE X o (tE g B W mo)) (hk : PE X k (tE g B W mk)) (hs : swapsWithSole [.Subscript o k tpos] e pos.line X.env = pure false := by rfl) (hw : swappedStores [.Subscript o k tpos] e X.env = pure none := by rfl)
    (h1 : (assignEach [.Subscript o k tpos] X.env).map (·.2) = [assign (.Subscript o k tpos) X.env] := by rfl)
    (ha : ∀ v, assign (.Subscript o k tpos) X.env v = (do
      let ov ← holding [v] (eval o X.env)
      let iv ← holding [v, ov] (eval k X.env)
      standAt tpos
      holding [v, ov, iv] (setItem ov iv v)
      release [v, ov, iv] []) := by intro _; rfl) : PS X (.Assign [.Subscript o k tpos] e pos) (tS g B W (mSetIx m mo mk)) := by
  refine ps_imp (ps_asg he (pg_sub ho hk set_list ha) hs hw h1) fun N σ H ⟨env, s, sr, p⟩ => ?_
  refine (bindS sr p).mono fun v H1 ⟨s1, x, sr1, l1, r1, p1⟩ => ?_
  -- the value x stays known while o and k are asked
  have two := bind2S (W := W) (N := N) (f := fSetIx env x) sr1 p1
  refine two.mono fun ov H2 q => q.mono fun kv H3 ⟨s3, y, z, sr3, e3, r2, r3, p3⟩ => ?_
  have r1' := r1.evo e3
  unfold fSetIx at p3
  split at p3
  · split at p3
    · next xs hx =>
      split at p3
      · next j hj =>
        obtain ⟨a, rfl, hal⟩ := r2
        obtain ⟨a2, g1, ws, g3, q1⟩ := sr3.good.cell _ _ hx
        rw [hal] at g1
        cases g1
        refine ⟨a, ws, _, j, rfl, r3, g3, by rw [q1.length]; exact hj, ?_⟩
        exact p3 σ _ { s3 with h := s3.h.set _ (.lst (xs.set j _)) } rfl ⟨fun _ _ z => z, fun _ _ z => z, fun _ _ z => z⟩ (sr3.cell hx hal (fun _ z => by cases z) (fun _ z => by cases z) ⟨ws.set j v, upd_same, q1.set r1' j⟩)
      · exact p3.elim
    · exact p3.elim
  · exact p3.elim

/-! ### attributes -/
def putD (f : Str) (d : D) : List (Str × D) → List (Str × D)
  | [] => [(f, d)]
  | (g, x) :: r => if g = f then (g, d) :: r else (g, x) :: putD f d r
def fFld (g : Gi) (f : Str) (x : Vl) (h : Hc) : R Vl := match x with
  | .d (.obj c fs) => if g.fld c f then (match fs.lookup f with
    | some d => .ok (.d d) h
    | none => .stuck) else .stuck
  | .bi c fs => if g.fld c f then (match fs.lookup f with
    | some d => .ok (.d d) h
    | none => .stuck) else .stuck
  | .d (.ref n) => (match h[n]? with
    | some (.ins c fs) => if g.fld c f then (match fs.lookup f with
      | some d => .ok (.d d) h
      | none => .stuck) else .stuck
    | _ => .stuck)
  | _ => .stuck
theorem RepF.lookup {F : Hp} {al : Nat → Option Addr} {f : Str} : ∀ {fs : List (Str × D)} {vs : List (Str × V)} {d : D}, RepF g F al fs vs → fs.lookup f = some d → ∃ v, vs.lookup f = some v ∧ Rep g F al d v
  | [], _, _, _, e => by cases e
  | (k, x) :: r, _, d, ⟨v, rr, h1, h2, h3⟩, e => by
    rw [h1]
    by_cases q : f = k
    · subst q
      rw [List.lookup_cons_self] at e
      cases e
      exact ⟨v, List.lookup_cons_self, h2⟩
    · have nb : (f == k) = false := beq_eq_false_iff_ne.mpr q
      rw [List.lookup_cons, nb] at e
      obtain ⟨w, e1, e2⟩ := h3.lookup e
      exact ⟨w, by rw [List.lookup_cons, nb]; exact e1, e2⟩
theorem RepF.put {F : Hp} {al : Nat → Option Addr} {f : Str} {d : D} {v : V} (hd : Rep g F al d v) : ∀ {fs : List (Str × D)} {vs : List (Str × V)}, RepF g F al fs vs → RepF g F al (putD f d fs) (putF f v vs)
  | [], _, h => by rw [show _ = [] from h]; exact ⟨v, [], rfl, hd, rfl⟩
  | (k, x) :: r, _, ⟨w, rr, h1, h2, h3⟩ => by
    rw [h1]
    unfold putD putF
    by_cases q : k = f
    · rw [if_pos q, if_pos q]
      exact ⟨v, rr, rfl, hd, h3⟩
    · rw [if_neg q, if_neg q]
      exact ⟨w, _, rfl, h2, h3.put hd⟩
theorem RepF.length {F : Hp} {al : Nat → Option Addr} : ∀ {fs : List (Str × D)} {vs : List (Str × V)}, RepF g F al fs vs → vs.length = fs.length
  | [], _, h => by rw [show _ = [] from h]; rfl
  | (k, x) :: r, _, ⟨w, rr, h1, h2, h3⟩ => by rw [h1, List.length_cons, List.length_cons, h3.length]
theorem ve_fld (G : GiOk g) (hK : g.K = X.K) {f : Str} (ho : PE X o (tE g B W mo)) (hb : attributeBase o f X.env (eval o X.env) = eval o X.env := by rfl) : PE X (.Attribute o f pos) (tE g B W (m1 (fFld g f) mo)) := by
  refine pe_imp (pe_fld ho hb) fun σ H Q ⟨env, s, sr, p⟩ => ?_
  refine (bindE (Q := Q) sr p).mono fun v H1 ⟨s1, x, sr1, _, r1, p1⟩ => ?_
  have fin : ∀ {c : Nat} {fs : List (Str × D)} {a dx : Addr} {vs : List (Str × V)}, H1 a = some (.ins (g.ca c) dx vs) → RepF g s1.F s1.al fs vs → PostE g B W env s1 σ H1 (if g.fld c f then (match fs.lookup f with
      | some d => .ok (.d d) s1.h
      | none => .stuck) else .stuck) Q → v = .ref a → ∃ (a C dx : Addr) (fs : List (Str × V)) (w : V), v = .ref a ∧ H1 a = some (.ins C dx fs) ∧ Cls X.K C ∧ NoAttr X.K C f ∧ fs.lookup f = some w ∧ Q w H1 := by
    intro c fs a dx vs ha hr pp ev
    by_cases hc : g.fld c f = true
    · rw [if_pos hc] at pp
      cases e : fs.lookup f with
      | none => rw [e] at pp; exact pp.elim
      | some d =>
        rw [e] at pp
        obtain ⟨w, e1, e2⟩ := hr.lookup e
        obtain ⟨k1, k2⟩ := G.fld c f hc
        exact ⟨a, g.ca c, dx, vs, w, ev, ha, hK ▸ (G.cls c k1).cl, hK ▸ k2, e1, PostE.pure sr1 pp e2⟩
    · rw [if_neg hc] at pp
      exact pp.elim
  unfold fFld at p1
  split at p1
  · obtain ⟨a, dx, vs, rfl, h2, h3⟩ := r1
    exact fin (sr1.good.fle _ _ h2) h3 p1 rfl
  · obtain ⟨a, dx, vs, rfl, h2, _, h3⟩ := r1
    exact fin h2 h3 p1 rfl
  · next n =>
    split at p1
    · next c fs hx =>
      obtain ⟨a, rfl, hal⟩ := r1
      obtain ⟨a2, g1, dx, vs, h2, h3⟩ := sr1.good.cell n _ hx
      rw [hal] at g1
      cases g1
      exact fin h2 h3 p1 rfl
    · exact p1.elim
  · exact p1.elim
/-- self.f = e, in self's own __init__ (self in slot i) -/
def mSetFld (g : Gi) (i : Nat) (f : Str) (e : ME) : MS := fun env h => (e env h).thenS env fun x h1 => match x, env[i]? with
  | .d d, some (some (.oi c fs)) => if g.fld c f && decide (fs.length < 1000) then .nx (env.set i (some (.oi c (putD f d fs)))) h1 else .stuck
  | _, _ => .stuck
theorem vs_setfld {i : Nat} (G : GiOk g) (hK : g.K = X.K) {f : Str} (ho : PE X o (tVar i)) (he : PE X e (tE g B W m)) (hs : swapsWith e (some (.Attribute o f tpos)) pos.line X.env = pure false := by rfl) :
    PS X (.Assign [.Attribute o f tpos] e pos) (tS g B W (mSetFld g i f m)) := by
  refine ps_imp (ps_fld ho he hs) fun N σ H ⟨env, s, sr, p⟩ => ?_
  refine (bindS sr p).mono fun v H1 ⟨s1, x, sr1, l1, r1, p1⟩ => ?_
  split at p1
  · next d c fs hx =>
    split at p1
    · next hcl =>
      obtain ⟨hc, hl⟩ := Bool.and_eq_true_iff.mp hcl
      obtain ⟨w, h1, h2⟩ := sr1.slot i _ hx
      obtain ⟨a, dx, vs, rfl, h3, h4, h5, h6⟩ := h2
      obtain ⟨k1, k2⟩ := G.fld c f hc
      refine ⟨_, h1, a, g.ca c, dx, vs, rfl, h3, hK ▸ (G.cls c k1).cl, hK ▸ k2, by rw [h5.length]; exact of_decide_eq_true hl, ?_⟩
      exact p1 σ _ s1 rfl (Le.refl s1) (sr1.mut hx rfl h1 h4.f h4.al h4.new ⟨a, dx, _, rfl, upd_same, h4, h5.put r1, h6⟩)
    · exact p1.elim
  · exact p1.elim
end
end Vi

set_option Elab.async false
set_option linter.all false
set_option maxRecDepth 100000
set_option maxHeartbeats 2000000
namespace Vi
open PySem L2 PyProof.Rows

/-! ### defs: a promise that also knows that nothing is being shown (guards) -/
structure FnG (P : Program) (w : World) (K : PySem.W.Frag) (mg : Str → Option Value) (base : Heap) (k : Nat) (f : Addr) (fd : FuncData) (ps : List Str) (sp : Sp) : Prop where
  len : ∀ vs H Q E, sp vs H Q E → vs.length = ps.length
  run : ∀ (A : Around) (outer : List PySem.Env) (s : Shared) (H : Hp) (args : Args) (us : List Value) (vs : List V) (Q : VK) (E : XK), Room k A → A.guards = some [] → Env0 P w K mg base A outer s H → BindsTo s fd args (ps.zip us) → Vals vs us → sp vs H Q E →
    codeAny (model P w) A (.call (.ref f) args) (CR (L2.CX P w) outer P w H s Q E) s
theorem FnG.mono {P : Program} {w : World} {K : PySem.W.Frag} {mg : Str → Option Value} {base : Heap} {j k : Nat} {f : Addr} {fd : FuncData} {ps : List Str} {sp : Sp} (F : FnG P w K mg base j f fd ps sp) (h : j ≤ k) : FnG P w K mg base k f fd ps sp :=
  ⟨F.len, fun A outer s H args us vs Q E hr => F.run A outer s H args us vs Q E (hr.mono h)⟩
theorem fn_G {P : Program} {w : World} {K : PySem.W.Frag} {mg : Str → Option Value} {base : Heap} {x qual : Str} {params : Arguments} {body : List Stmt} {scope : Scope} {dvs : List V} {kws : List (Str × V)} {f : Addr} {fd : FuncData} {N ps : List Str} {k : Nat} {sp : Sp}
    (F : FunD K x qual params body scope dvs kws f fd) (S : FnScope N ps scope) (len : ∀ vs H Q E, sp vs H Q E → vs.length = ps.length)
    (hbody : ∀ (cdv : Value) (A : Around) (outer : List PySem.Env) (s : Shared) (H : Hp) (vs : List V) (Q : VK) (E : XK), Room k (A.deeper (envOfC qual scope s.heap.objs.size f cdv)) → A.guards = some [] → sp vs H Q E →
      ∃ t, PSs (cxOf (L2.CX P w) P w K mg base N qual scope f cdv A outer s H E) body t ∧ t { nx := fun _ H' => Q .non H', rt := Q } (start N vs) H) : FnG P w K mg base (k + 1) f fd ps sp := by
  obtain ⟨oc, od, dV, kV, doc, pm, an, cdv, ct, osl, rfl, lk, hcd, _, _⟩ := F.ex
  refine ⟨len, ?_⟩
  intro A outer s H args us vs Q E room gds e0 bnd rv want
  have many := len _ _ _ _ want
  have inK : K.In s.heap := e0.mod.kin.keeps fun b o e => (e0.bs b o e).1
  have free : s.heap.NoLimit := e0.mod.nolimit.keeps fun b o e => (e0.bs b o e).1
  have kinds : ∀ y ∈ ps.zip us, scope.names.lookup y.1 = some .local ∨ (scope.names.lookup y.1 = some .cell ∧ ((cellsFrom (s.heap.objs.size + 1) scope.names []).lookup y.1).isSome = true) := by
    rintro ⟨n, v⟩ hy
    rcases S.par n (List.of_mem_zip hy).1 with q | q
    · exact .inl q
    · exact .inr ⟨q, PySem.W.cellsFrom_some _ _ _ (.inl q)⟩
  refine codeAny_call_function room.depth (inK _ _ lk) rfl S.co S.gen rfl (PySem.W.codeRec_of inK hcd) (bnd _ _ _ _ ?_)
  refine wpAny_newFunctionEnv_cells S.kind kinds ?_
  intro env he s1 x
  subst he
  refine ⟨free.keeps x.toInCall.keep, codeAny_func ?_⟩
  obtain ⟨t, ht, hq⟩ := hbody cdv A outer s H vs Q E (room.deeper _) gds want
  have I : Inv (cxOf (L2.CX P w) P w K mg base N qual scope f cdv A outer s H E) [] (start N vs) H s1 := inv_start S room.hd e0 many rv x
  have fin : ∀ {s' : Shared} {σ' : L2.St} {H' : Hp} {v : V} {u : Value}, Inv (cxOf (L2.CX P w) P w K mg base N qual scope f cdv A outer s H E) [] σ' H' s' → RelV v u → Q v H' → CE outer P w H s Q u s' := by
    intro s' σ' H' v u J r q
    exact ⟨v, H', J.os, J.bare, J.base, J.hok, r, q⟩
  refine wpAny_mono (ht.run [] s1 (start N vs) H _ I hq) ?_ fun e s' hs => hs
  intro fl s' hs
  cases fl with
  | ret u =>
    obtain ⟨v, σ', H', J, r, q⟩ := hs
    exact fin J r q
  | next =>
    obtain ⟨σ', H', J, q⟩ := hs
    exact fin (v := V.non) (u := Value.none) J rfl q
  | brk => exact (hs.choose_spec.choose_spec.2).elim
  | cont => exact (hs.choose_spec.choose_spec.2).elim

/-! ### promises over data -/
abbrev Fn := List D → Hc → R D
def PostF (g : Gi) (s : Sta) (H : Hp) : R D → VK → XK → Prop
  | .ok d h, Q, _ => ∀ (v : V) (H' : Hp) (s' : Sta), s'.h = h → Evo s H s' H' → Good g s' H' → Rep g s'.F s'.al d v → Q v H'
  | .exc x h, _, E => ∀ (cls : Value) (dd : Option Addr) (H' : Hp) (s' : Sta), s'.h = h → Evo s H s' H' → Good g s' H' → XRep g s' H' x cls dd → E cls dd H'
  | .stuck, _, _ => False
def spD (g : Gi) (n : Nat) (F : Fn) : Sp := fun vs H Q E => ∃ (s : Sta) (ds : List D), vs.length = n ∧ Good g s H ∧ Reps g s.F s.al ds vs ∧ PostF g s H (F ds s.h) Q E
@[simp] def fCall (F : Fn) (dd : List D) (xs : List Vl) (h : Hc) : R Vl := match datas xs with
  | some ds => (F (ds ++ dd) h).bind fun d h' => .ok (.d d) h'
  | none => .stuck
/-- a def as it may be called in a body -/
structure VFn (X : Cx) (g : Gi) (x : Str) (n : Nat) (dd : List D) (F : Fn) : Prop where
  ex : ∃ (k : Nat) (f : Addr) (fd : FuncData) (ps : List Str) (dvs : List V) (ds : List Value), FnG X.prog X.w X.K X.mg X.base k f fd ps (spD g ps.length F) ∧ Room k X.A ∧ X.mg x = some (.ref f) ∧ PySem.W.keepIn X.K (.ref f) = true ∧
    Binds X.K fd ps ds ∧ Vals dvs ds ∧ (∀ F al, Reps g F al dd dvs) ∧ n + dvs.length = ps.length
section
variable {X : Cx} {g : Gi} {B : Bg} {W : WXv} {env : Env} {s s' : Sta} {σ : L2.St} {H H' : Hp}
theorem SR.call (sr : SR g B env s σ H) (e : Evo s H s' H') (gd : Good g s' H') : SR g B env s' σ H' :=
  ⟨gd, sr.evo.trans e, sr.len, fun i sl h => by
    obtain ⟨v, h1, h2⟩ := sr.slot i sl h
    exact ⟨v, h1, h2.evo e⟩, sr.sep⟩
theorem run_G {CXE : L2.St → XK} {k : Nat} {f : Addr} {fd : FuncData} {ps : List Str} {sp : Sp} {dvs : List V} {ds : List Value} {pins : List (Addr × Obj)} {σ : L2.St} {H : Hp} {s : Shared} {Q : VK} {us : List Value} {vs : List V}
    (F : FnG X.prog X.w X.K X.mg X.base k f fd ps sp) (hr : Room k X.A) (hg : X.A.guards = some []) (hb : Binds X.K fd ps ds) (hd : Vals dvs ds) (hx : PassesAt (L2.CX X.prog X.w) X σ (CXE σ))
    (I : Inv X pins σ H s) (r : Vals vs us) (h : sp (vs ++ dvs) H Q (CXE σ)) : wpAny (model X.prog X.w) X.A (call (.ref f) us) (EP X pins σ Q) X.xe s := by
  have r2 : Vals (vs ++ dvs) (us ++ ds) := r.append hd
  have hl : (us ++ ds).length = ps.length := by rw [← r2.length]; exact F.len _ _ _ _ h
  refine wpAny_call (codeAny_mono (F.run X.A X.stack s H ⟨us, []⟩ (us ++ ds) (vs ++ dvs) Q (CXE σ) hr hg I.env0 (hb s us I.kIn hl) r2 h) ?_)
  intro r s' hq
  cases r with
  | error e => exact hx pins H s e s' I hq
  | ok fl =>
    cases fl with
    | ret u => exact I.after hq
    | next => exact False.elim hq
    | brk => exact False.elim hq
    | cont => exact False.elim hq
/-- the promise of a callee, from what is wanted of the call's result -/
theorem spD_of {n : Nat} {F : Fn} {ds : List D} {vs : List V} {s : Sta} {H : Hp} {σ : L2.St} {Q : VK} (sr : SR g B env s σ H) (hl : vs.length = n) (r : Reps g s.F s.al ds vs) (p : PostE g B W env s σ H ((F ds s.h).bind fun d h' => .ok (.d d) h') Q) : spD g n F vs H Q (fun cls d H' => W cls d σ H') := by
  refine ⟨s, ds, hl, sr.good, r, ?_⟩
  cases e : F ds s.h with
  | ok d h =>
    rw [e] at p
    intro v H' s' e1 ev gd rr
    exact p v H' s' e1 ev (sr.call ev gd) rr
  | exc x h =>
    rw [e] at p
    intro cls dd H' s' e1 ev gd xr
    exact p cls dd H' s' e1 ev (sr.call ev gd) xr
  | stuck =>
    rw [e] at p
    exact p
end
section
variable {X : Cx} {g : Gi} {B : Bg} {W : WXv} {pos p : Pos} {e : Expr} {es : List Expr} {A : MA} {F : Fn} {dd : List D} {n : Nat} {x : Str}
theorem datas_length : ∀ {xs : List Vl} {ds : List D}, datas xs = some ds → ds.length = xs.length
  | [], _, e => by
    have e : some [] = some _ := e
    cases e
    rfl
  | .d x :: r, ds, e => by
    have e : (datas r).map (x :: ·) = some ds := e
    cases q : datas r with
    | none => rw [q] at e; cases e
    | some l =>
      rw [q] at e
      have e : x :: l = ds := Option.some.inj e
      rw [← e, List.length_cons, List.length_cons, datas_length q]
  | .tl _ :: _, _, e => by cases e
  | .bl _ :: _, _, e => by cases e
  | .bi _ _ :: _, _, e => by cases e
theorem VlReps.length {env : Env} {σ : L2.St} {s : Sta} {H : Hp} : ∀ {xs : List Vl} {vs : List V}, VlReps g B env σ s H xs vs → vs.length = xs.length
  | _, _, .nil => rfl
  | _, _, .cons _ b => by rw [List.length_cons, List.length_cons, b.length]
/-- n arguments are written -/
@[simp] def fCallN (n : Nat) (F : Fn) (dd : List D) (xs : List Vl) (h : Hc) : R Vl := if xs.length = n then fCall F dd xs h else .stuck
theorem ve_call (V : VFn X g x n dd F) (hgd : X.A.guards = some []) (tk : Takes X W) (hg : Gl X x) (ha : PA X (e :: es) (tA g B W A)) (hdb : (x == ("__debug__" : Str)) = false := by decide)
    (he : starEach (e :: es) X.env = (false, eval e X.env) :: starEach es X.env := by rfl) (hpl : (backTo pos (starEach es X.env)).any (·.1) = false := by rfl) :
    PE X (.Call (.Name x p) (e :: es) [] pos) (tE g B W (mA1 (fCallN n F dd) A)) := by
  obtain ⟨k, f, fd, ps, dvs, ds, FG, hr, hm, hk, hb, hd, hdd, hn⟩ := V.ex
  refine ⟨fun pins s σ H Q I h => ?_⟩
  refine wpAny_Call_Name_kw (ld_glob I hg hm ?_ hdb)
  obtain ⟨env, st, sr, pp⟩ := h
  have hA := (bindA (Q := Q) sr pp)
  refine PySem.W.callWith_K (h₀ := X.base) I.ok.mod.kin hk (thn (ha.run pos pins s σ H _ I hA) fun us s1 ⟨vs, H1, I1, r, st1, xs, sr1, ev1, r1, p1⟩ => ⟨I1.kIn, ?_⟩) he hpl
  unfold fCallN at p1
  by_cases hl : xs.length = n
  · rw [if_pos hl] at p1
    unfold fCall at p1
    cases e1 : datas xs with
    | none => rw [e1] at p1; exact p1.elim
    | some dl =>
      rw [e1] at p1
      have rr := (r1.datas e1).append (hdd st1.F st1.al)
      exact run_G (CXE := fun σ => WE W σ) FG hr hgd hb hd (passAt tk σ) I1 r (spD_of sr1 (by rw [List.length_append, r1.length, hl]; exact hn) rr p1)
  · rw [if_neg hl] at p1
    exact p1.elim
theorem ve_call0 (V : VFn X g x 0 dd F) (hgd : X.A.guards = some []) (tk : Takes X W) (hg : Gl X x) (hdb : (x == ("__debug__" : Str)) = false := by decide) :
    PE X (.Call (.Name x p) [] [] pos) (tE g B W (mA1 (fCallN 0 F dd) maNil)) := by
  obtain ⟨k, f, fd, ps, dvs, ds, FG, hr, hm, hk, hb, hd, hdd, hn⟩ := V.ex
  refine ⟨fun pins s σ H Q I h => ?_⟩
  refine wpAny_Call_Name_kw (ld_glob I hg hm ?_ hdb)
  obtain ⟨env, st, sr, pp⟩ := h
  have pp : PostE g B W env st σ H ((F dd st.h).bind fun d h' => .ok (.d d) h') Q := pp
  refine PySem.W.callWith_K0 I.kIn hk ?_
  exact run_G (us := []) (CXE := fun σ => WE W σ) FG hr hgd hb hd (passAt tk σ) I .nil (spD_of sr (by rw [List.nil_append]; omega) (hdd st.F st.al) pp)
end
end Vi

set_option Elab.async false
set_option linter.all false
set_option maxRecDepth 100000
set_option maxHeartbeats 2000000
namespace Vi
open PySem L2 PyProof.Rows

/-- what a body may use -/
structure Bd (X : Cx) (g : Gi) (W : WXv) : Prop where
  G : GiOk g
  K : g.K = X.K
  calm : X.calm = true
  gd : X.A.guards = some []
  tk : Takes X W
  ps : PassesOwn (model X.prog X.w) X.A X.env X.xe
  un : X.A.units + 64 < cLine
/-! ### a def's mirror -/
@[simp] def mkEnv (n : Nat) (ds : List D) : Env := ds.map (fun d => some (.d d)) ++ List.replicate (n - ds.length) none
def fnOf (N n : Nat) (m : MS) : Fn := fun ds h => if ds.length = n then (match m (mkEnv N ds) h with
  | .nx _ h => .ok .non h
  | .ret d h => .ok d h
  | .exc _ x h => .exc x h
  | _ => .stuck) else .stuck
theorem mkEnv_get {N : Nat} {ds : List D} {i : Nat} {sl : Sl} (h : (mkEnv N ds)[i]? = some (some sl)) : ∃ d, ds[i]? = some d ∧ sl = .d d := by
  unfold mkEnv at h
  by_cases hi : i < ds.length
  · rw [List.getElem?_append_left (by rw [List.length_map]; exact hi), List.getElem?_map, List.getElem?_eq_getElem hi] at h
    cases h
    exact ⟨_, List.getElem?_eq_getElem hi, rfl⟩
  · rw [List.getElem?_append_right (by rw [List.length_map]; omega), List.getElem?_replicate] at h
    split at h <;> cases h
theorem start_sr {g : Gi} {s : Sta} {H : Hp} {N : List Str} {ds : List D} {vs : List V} (gd : Good g s H) (r : Reps g s.F s.al ds vs) : SR g ⟨s, H, 0, 0, 0, 0⟩ (mkEnv N.length ds) s (L2.start N vs) H := by
  refine ⟨gd, Evo.refl s H, ?_, fun i sl h => ?_, fun i j sl sl' v hij h1 h2 o1 => ?_⟩
  · unfold mkEnv L2.start
    rw [List.length_append, List.length_append, List.length_map, List.length_map, List.length_replicate, List.length_replicate, r.length]
  · obtain ⟨d, e1, rfl⟩ := mkEnv_get h
    obtain ⟨v, e2, r2⟩ := r.get e1
    refine ⟨v, ?_, r2⟩
    unfold L2.start
    have hi : i < vs.length := (List.getElem?_eq_some_iff.mp e2).1
    rw [List.getElem?_append_left (by rw [List.length_map]; exact hi), List.getElem?_map, e2]
    rfl
  · obtain ⟨d, _, rfl⟩ := mkEnv_get h1
    cases o1
/-- THE RULE for a def: its body's mirror is its function -/
theorem fn_D {P : Program} {w : World} {g : Gi} {mg : Str → Option Value} {base : Heap} {x qual : Str} {params : Arguments} {body : List Stmt} {scope : Scope} {dvs : List V} {kws : List (Str × V)} {f : Addr} {fd : FuncData} {N ps : List Str} {k : Nat} {m : MS}
    (G : GiOk g) (F : FunD g.K x qual params body scope dvs kws f fd) (S : FnScope N ps scope)
    (hbody : ∀ (cdv : Value) (A : Around) (outer : List PySem.Env) (s : Shared) (H : Hp) (E : XK) (B : Bg), Room k (cxOf (L2.CX P w) P w g.K mg base N qual scope f cdv A outer s H E).A → Bd (cxOf (L2.CX P w) P w g.K mg base N qual scope f cdv A outer s H E) g (fun cls d _ H => E cls d H) →
      PSs (cxOf (L2.CX P w) P w g.K mg base N qual scope f cdv A outer s H E) body (tS g B (fun cls d _ H => E cls d H) m)) :
    FnG P w g.K mg base (k + 1) f fd ps (spD g ps.length (fnOf N.length ps.length m)) := by
  refine fn_G F S (fun vs H Q E h => ?_) ?_
  · obtain ⟨_, _, hl, _⟩ := h
    exact hl
  · intro cdv A outer s H vs Q E hr gds h
    obtain ⟨st, ds, hl, gd, r, p⟩ := h
    have hb := hbody cdv A outer s H E ⟨st, H, 0, 0, 0, 0⟩ hr ⟨G, rfl, rfl, gds, takes_of rfl rfl rfl rfl, passes_of rfl, hr.units⟩
    refine ⟨_, hb, mkEnv N.length ds, st, start_sr gd r, ?_⟩
    have hl2 : ds.length = ps.length := by rw [← r.length]; exact hl
    unfold fnOf at p
    rw [if_pos hl2] at p
    cases e : m (mkEnv N.length ds) st.h with
    | nx env h =>
      rw [e] at p
      intro σ' H' s' e1 _ sr
      exact p .non H' s' e1 sr.evo sr.good rfl
    | ret d h =>
      rw [e] at p
      intro v H' s' e1 ev gd' rr
      exact p v H' s' e1 ev gd' rr
    | exc env x h =>
      rw [e] at p
      intro cls dd σ' H' s' e1 _ sr xr
      exact p cls dd H' s' e1 sr.evo sr.good xr
    | brk env h => rw [e] at p; exact p.elim
    | cnt env h => rw [e] at p; exact p.elim
    | stuck => rw [e] at p; exact p.elim

/-! ### methods -/
/-- a method of the class c (an instance that never changes, or one in a cell) -/
structure VMeth (X : Cx) (g : Gi) (c : Nat) (m : Str) (n : Nat) (dd : List D) (F : Fn) : Prop where
  ex : ∃ (k : Nat) (f : Addr) (fd : FuncData) (ps : List Str) (dvs : List V) (ds : List Value), FnG X.prog X.w X.K X.mg X.base k f fd ps (spD g ps.length F) ∧ Room k X.A ∧ Meth X.K (g.ca c) m f ∧
    Binds X.K fd ps ds ∧ Vals dvs ds ∧ (∀ F al, Reps g F al dd dvs) ∧ (n + 1) + dvs.length = ps.length
  cl : g.isC c = true
def ins? (c : Nat) (x : Vl) (h : Hc) : Option (List (Str × D)) := match x with
  | .d (.obj c' fs) => if c' = c then some fs else none
  | .d (.ref n) => (match h[n]? with
    | some (.ins c' fs) => if c' = c then some fs else none
    | _ => none)
  | _ => none
def fMeth (c : Nat) (m : Str) (n : Nat) (F : Fn) (dd : List D) (o : Vl) (xs : List Vl) (h : Hc) : R Vl := match o with
  | .d od => if xs.length = n then (match datas xs with
    | some ds => (F (od :: (ds ++ dd)) h).bind fun d h' => .ok (.d d) h'
    | none => .stuck) else .stuck
  | _ => .stuck
/-- o.m(..): o is looked at first -/
def mMeth (c : Nat) (m : Str) (n : Nat) (F : Fn) (dd : List D) (o : ME) (a : MA) : ME := fun env h => (o env h).bind fun x h1 => match ins? c x h1 with
  | some fs => if (fs.lookup m).isNone then (a env h1).bind fun xs h2 => fMeth c m n F dd x xs h2 else .stuck
  | none => .stuck
theorem RepF.none {g : Gi} {F : Hp} {al : Nat → Option Addr} {f : Str} : ∀ {fs : List (Str × D)} {vs : List (Str × V)}, RepF g F al fs vs → fs.lookup f = none → vs.lookup f = none
  | [], _, h, _ => by rw [show _ = [] from h]; rfl
  | (k, x) :: r, _, ⟨v, rr, h1, h2, h3⟩, e => by
    rw [h1]
    by_cases q : f = k
    · subst q
      rw [List.lookup_cons_self] at e
      cases e
    · have nb : (f == k) = false := beq_eq_false_iff_ne.mpr q
      rw [List.lookup_cons, nb] at e
      rw [List.lookup_cons, nb]
      exact h3.none e
section
variable {X : Cx} {g : Gi} {B : Bg} {W : WXv} {env : Env} {s s' : Sta} {σ : L2.St} {H H' : Hp}
theorem ins_rep {c : Nat} {x : Vl} {v : V} {fs : List (Str × D)} (gd : Good g s H) (r : VlRep g B env σ s H x v) (e : ins? c x s.h = some fs) : ∃ a dx vs od, v = .ref a ∧ x = .d od ∧ H a = some (.ins (g.ca c) dx vs) ∧ RepF g s.F s.al fs vs := by
  unfold ins? at e
  split at e
  · split at e
    · next hc =>
      cases e
      subst hc
      obtain ⟨a, dx, vs, rfl, h2, h3⟩ := r
      exact ⟨a, dx, vs, _, rfl, rfl, gd.fle _ _ h2, h3⟩
    · cases e
  · split at e
    · next c' fs' hx =>
      split at e
      · next hc =>
        cases e
        subst hc
        obtain ⟨a, rfl, hal⟩ := r
        obtain ⟨a2, g1, dx, vs, h2, h3⟩ := gd.cell _ _ hx
        rw [hal] at g1
        cases g1
        exact ⟨a, dx, vs, _, rfl, rfl, h2, h3⟩
      · cases e
    · cases e
  · cases e
end
section
variable {X : Cx} {g : Gi} {B : Bg} {W : WXv} {pos p apos : Pos} {e o : Expr} {es : List Expr} {A : MA} {F : Fn} {dd : List D} {n c : Nat} {x m : Str} {mo : ME}
theorem ve_meth {pl : Sem Bool} (b : Bd X g W) (V : VMeth X g c m n dd F) (ho : PE X o (tE g B W mo)) (ha : PA X (e :: es) (tA g B W A))
    (hst : starEach (e :: es) X.env = (false, eval e X.env) :: starEach es X.env := by rfl) (hpl : (backTo pos (starEach es X.env)).any (·.1) = false := by rfl)
    (ht : eval (.Call (.Attribute o m apos) (e :: es) [] pos) X.env = (do
      let ov ← eval o X.env
      standAt apos.atName
      let (f, first) ← holding [ov] (getMethod ov m pl)
      callWith pos f first (backTo pos (starEach (e :: es) X.env)) (backToKw pos (keywordEach [] X.env))) := by rfl) :
    PE X (.Call (.Attribute o m apos) (e :: es) [] pos) (tE g B W (mMeth c m n F dd mo A)) := by
  obtain ⟨k, f, fd, ps, dvs, ds, FG, hr, hm, hb, hd, hdd, hn⟩ := V.ex
  refine ⟨fun pins s σ H Q I h => ?_⟩
  obtain ⟨env, st, sr, pp⟩ := h
  refine PySem.W.methodCall_KW (pl := pl) (thn (ho.run pins s σ H _ I (bindE (Q := Q) sr pp)) fun u s1 ⟨v, H1, I1, rx, st1, ox, sr1, ev1, r1, p1⟩ => ?_) ht
  cases ei : ins? c ox st1.h with
  | none => simp only [ei] at p1; exact p1.elim
  | some fs =>
    simp only [ei] at p1
    obtain ⟨a, dx, vs, od, rfl, ex, hH, hf⟩ := ins_rep sr1.good r1 ei
    subst ex
    obtain rfl : u = Value.ref a := rx
    by_cases hl : (fs.lookup m).isNone = true
    · rw [if_pos hl] at p1
      refine getmeth_ok I1 hH (b.K ▸ (b.G.cls c V.cl).cl) hm (hf.none (Option.isNone_iff_eq_none.mp hl)) ?_
      refine PySem.W.callWith_K (first := [.ref a]) (h₀ := X.base) I1.ok.mod.kin hm.kp (thn (ha.run pos pins s1 σ H1 _ I1 (bindA (Q := Q) sr1 p1)) fun us s2 ⟨ws, H2, I2, r, st2, xs, sr2, ev2, r2, p2⟩ => ⟨I2.kIn, ?_⟩) hst hpl
      have p2 : PostE g B W env st2 σ H2 (if xs.length = n then (match datas xs with
        | some ds => (F (od :: (ds ++ dd)) st2.h).bind fun d h' => .ok (.d d) h'
        | none => .stuck) else .stuck) Q := p2
      by_cases hx : xs.length = n
      · rw [if_pos hx] at p2
        cases ed : datas xs with
        | none => rw [ed] at p2; exact p2.elim
        | some dl =>
          rw [ed] at p2
          have ro : Rep g st2.F st2.al od (.ref a) := ev2.rep (show Rep g st1.F st1.al od (.ref a) from r1)
          have rr : Reps g st2.F st2.al (od :: (dl ++ dd)) ((.ref a :: ws) ++ dvs) := Reps.cons ro ((r2.datas ed).append (hdd st2.F st2.al))
          exact run_G (us := .ref a :: us) (vs := .ref a :: ws) (CXE := fun σ => WE W σ) FG hr b.gd hb hd (passAt b.tk σ) I2 (.cons rfl r) (spD_of sr2 (by rw [List.length_append, List.length_cons, r2.length, hx]; exact hn) rr p2)
      · rw [if_neg hx] at p2
        exact p2.elim
    · rw [if_neg hl] at p1
      exact p1.elim
theorem ve_meth0 {pl : Sem Bool} (b : Bd X g W) (V : VMeth X g c m 0 dd F) (ho : PE X o (tE g B W mo))
    (ht : eval (.Call (.Attribute o m apos) [] [] pos) X.env = (do
      let ov ← eval o X.env
      standAt apos.atName
      let (f, first) ← holding [ov] (getMethod ov m pl)
      callWith pos f first (backTo pos (starEach [] X.env)) (backToKw pos (keywordEach [] X.env))) := by rfl) :
    PE X (.Call (.Attribute o m apos) [] [] pos) (tE g B W (mMeth c m 0 F dd mo maNil)) := by
  obtain ⟨k, f, fd, ps, dvs, ds, FG, hr, hm, hb, hd, hdd, hn⟩ := V.ex
  refine ⟨fun pins s σ H Q I h => ?_⟩
  obtain ⟨env, st, sr, pp⟩ := h
  refine PySem.W.methodCall_KW (pl := pl) (thn (ho.run pins s σ H _ I (bindE (Q := Q) sr pp)) fun u s1 ⟨v, H1, I1, rx, st1, ox, sr1, ev1, r1, p1⟩ => ?_) ht
  cases ei : ins? c ox st1.h with
  | none => simp only [ei] at p1; exact p1.elim
  | some fs =>
    simp only [ei] at p1
    obtain ⟨a, dx, vs, od, rfl, ex, hH, hf⟩ := ins_rep sr1.good r1 ei
    subst ex
    obtain rfl : u = Value.ref a := rx
    by_cases hl : (fs.lookup m).isNone = true
    · rw [if_pos hl] at p1
      refine getmeth_ok I1 hH (b.K ▸ (b.G.cls c V.cl).cl) hm (hf.none (Option.isNone_iff_eq_none.mp hl)) ?_
      have p1 : PostE g B W env st1 σ H1 ((F (od :: dd) st1.h).bind fun d h' => .ok (.d d) h') Q := p1
      refine PySem.W.callWith_K0 (first := [.ref a]) I1.kIn hm.kp ?_
      have rr : Reps g st1.F st1.al (od :: dd) ([.ref a] ++ dvs) := Reps.cons (show Rep g st1.F st1.al od (.ref a) from r1) (hdd st1.F st1.al)
      exact run_G (us := [.ref a]) (vs := [.ref a]) (CXE := fun σ => WE W σ) FG hr b.gd hb hd (passAt b.tk σ) I1 (.cons rfl .nil) (spD_of sr1 (by rw [List.length_append]; exact hn) rr p1)
    · rw [if_neg hl] at p1
      exact p1.elim
end

/-! ### making an instance -/
abbrev FnI := List D → Hc → R (List (Str × D))
def initOf (N n : Nat) (c : Nat) (m : MS) : FnI := fun ds h => if ds.length = n then (match m (some (.oi c []) :: mkEnv N ds) h with
  | .nx (some (.oi c' fs) :: _) h => if c' = c then .ok fs h else .stuck
  | .exc _ x h => .exc x h
  | _ => .stuck) else .stuck
/-- __init__'s promise: what was ahead of the instance is (s, H0) -/
def spI (g : Gi) (c n : Nat) (F : FnI) : Sp := fun vs H Q E => ∃ (s : Sta) (ds : List D) (H0 : Hp) (x dx : Addr) (ws : List V), vs = .ref x :: ws ∧ ws.length = n ∧ H0 x = none ∧ H0 dx = none ∧ dx ≠ x ∧ H = upd (upd H0 dx (.own x)) x (.ins (g.ca c) dx []) ∧ Good g s H0 ∧ Reps g s.F s.al ds ws ∧
  (match F ds s.h with
    | .ok fs h => ∀ (H' : Hp) (s' : Sta), s'.h = h → Evo s H0 s' H' → Good g s' H' → (∃ dx vs, H' x = some (.ins (g.ca c) dx vs) ∧ s'.F x = none ∧ (∀ n, s'.al n ≠ some x) ∧ RepF g s'.F s'.al fs vs) → Q .non H'
    | .exc y h => ∀ (cls : Value) (dd : Option Addr) (H' : Hp) (s' : Sta), s'.h = h → Evo s H0 s' H' → Good g s' H' → XRep g s' H' y cls dd → E cls dd H'
    | .stuck => False)
theorem Good.add {g : Gi} {s : Sta} {H : Hp} {p : Addr} {o : HO} (gd : Good g s H) (hp : H p = none) : Good g s (upd H p o) ∧ Evo s H s (upd H p o) := by
  have sr : SR g ⟨s, H, 0, 0, 0, 0⟩ [] s [] H := ⟨gd, Evo.refl s H, rfl, fun i sl h => (by cases h), fun i j sl sl' v _ h => (by cases h)⟩
  obtain ⟨a, b⟩ := sr.new (o := o) hp
  exact ⟨a.good, b⟩
theorem own_free {g : Gi} {s : Sta} {H : Hp} {p : Addr} (gd : Good g s H) (hp : H p = none) : s.F p = none ∧ ∀ n, s.al n ≠ some p := by
  have sr : SR g ⟨s, H, 0, 0, 0, 0⟩ [] s [] H := ⟨gd, Evo.refl s H, rfl, fun i sl h => (by cases h), fun i j sl sl' v _ h => (by cases h)⟩
  exact ⟨(sr.own_new hp).f, (sr.own_new hp).al⟩
theorem fn_I {P : Program} {w : World} {g : Gi} {mg : Str → Option Value} {base : Heap} {x qual : Str} {params : Arguments} {body : List Stmt} {scope : Scope} {dvs : List V} {kws : List (Str × V)} {f : Addr} {fd : FuncData} {nm nm' : Str} {N ps : List Str} {k c : Nat} {m : MS}
    (G : GiOk g) (F : FunD g.K x qual params body scope dvs kws f fd) (S : FnScope (nm :: N) (nm' :: ps) scope)
    (hbody : ∀ (cdv : Value) (A : Around) (outer : List PySem.Env) (s : Shared) (H : Hp) (E : XK) (B : Bg), Room k (cxOf (L2.CX P w) P w g.K mg base (nm :: N) qual scope f cdv A outer s H E).A → Bd (cxOf (L2.CX P w) P w g.K mg base (nm :: N) qual scope f cdv A outer s H E) g (fun cls d _ H => E cls d H) →
      PSs (cxOf (L2.CX P w) P w g.K mg base (nm :: N) qual scope f cdv A outer s H E) body (tS g B (fun cls d _ H => E cls d H) m)) :
    FnG P w g.K mg base (k + 1) f fd (nm' :: ps) (spI g c ps.length (initOf N.length ps.length c m)) := by
  refine fn_G F S (fun vs H Q E h => ?_) ?_
  · obtain ⟨_, _, _, _, _, ws, rfl, hl, _⟩ := h
    rw [List.length_cons, List.length_cons, hl]
  · intro cdv A outer s H vs Q E hr gds h
    obtain ⟨st, ds, H0, x, dx, ws, rfl, hl, hx, hdx, hne, rfl, gd, r, p⟩ := h
    have hb := hbody cdv A outer s (upd (upd H0 dx (.own x)) x (.ins (g.ca c) dx [])) E ⟨st, H0, x, 0, 0, 0⟩ hr ⟨G, rfl, rfl, gds, takes_of rfl rfl rfl rfl, passes_of rfl, hr.units⟩
    obtain ⟨gd1, ev1⟩ := gd.add (o := .own x) hdx
    have hx1 : upd H0 dx (.own x) x = none := by rw [upd_ne hne.symm]; exact hx
    obtain ⟨gd2, ev2⟩ := gd1.add (o := .ins (g.ca c) dx []) hx1
    obtain ⟨fx, ax⟩ := own_free gd hx
    have s0 := start_sr (N := N) gd r
    have sr : SR g ⟨st, H0, x, 0, 0, 0⟩ (some (.oi c []) :: mkEnv N.length ds) st (L2.start (nm :: N) (.ref x :: ws)) (upd (upd H0 dx (.own x)) x (.ins (g.ca c) dx [])) := by
      have es : L2.start (nm :: N) (.ref x :: ws) = some (.ref x) :: L2.start N ws := by
        unfold L2.start
        rw [List.length_cons, List.length_cons, Nat.add_sub_add_right]
        rfl
      rw [es]
      refine ⟨gd2, ev1.trans ev2, by rw [List.length_cons, List.length_cons, s0.len], fun i sl h => ?_, fun i j sl sl' v hij h1 h2 o1 o2 => ?_⟩
      · cases i with
        | zero =>
          cases h
          exact ⟨_, rfl, x, dx, [], rfl, upd_same, ⟨fx, ax, hx⟩, rfl, rfl⟩
        | succ i =>
          have h : (mkEnv N.length ds)[i]? = some (some sl) := h
          obtain ⟨v, h1, h2⟩ := s0.slot i sl h
          obtain ⟨d, _, rfl⟩ := mkEnv_get h
          exact ⟨v, h1, h2⟩
      · cases i with
        | succ i =>
          obtain ⟨d, _, rfl⟩ := mkEnv_get (show (mkEnv N.length ds)[i]? = some (some sl) from h1)
          cases o1
        | zero =>
          cases j with
          | zero => exact absurd rfl hij
          | succ j =>
            obtain ⟨d, _, rfl⟩ := mkEnv_get (show (mkEnv N.length ds)[j]? = some (some sl') from h2)
            cases o2
    refine ⟨_, hb, _, st, sr, ?_⟩
    have hl2 : ds.length = ps.length := by rw [← r.length]; exact hl
    unfold initOf at p
    rw [if_pos hl2] at p
    cases e : m (some (.oi c []) :: mkEnv N.length ds) st.h with
    | nx env h =>
      rw [e] at p
      intro σ' H' s' e1 _ sr'
      cases env with
      | nil => exact p.elim
      | cons a rest =>
        cases a with
        | none => exact p.elim
        | some sl =>
          cases sl with
          | d y => exact p.elim
          | ol y => exact p.elim
          | xc c' fs => exact p.elim
          | oi c' fs =>
            by_cases hc : c' = c
            · subst hc
              simp only [if_pos] at p
              obtain ⟨v, _, a', dx', vs', _, g2, g3, g4, g5⟩ := sr'.slot 0 (.oi c' fs) rfl
              have g5 : a' = x := g5
              subst g5
              exact p H' s' e1 sr'.evo sr'.good ⟨dx', vs', g2, g3.f, g3.al, g4⟩
            · simp only [if_neg hc] at p
    | ret d h => rw [e] at p; exact p.elim
    | exc env y h =>
      rw [e] at p
      intro cls dd σ' H' s' e1 _ sr' xr
      exact p cls dd H' s' e1 sr'.evo sr'.good xr
    | brk env h => rw [e] at p; exact p.elim
    | cnt env h => rw [e] at p; exact p.elim
    | stuck => rw [e] at p; exact p.elim
end Vi

set_option Elab.async false
set_option linter.all false
set_option maxRecDepth 100000
set_option maxHeartbeats 2000000
namespace Vi
open PySem L2 PyProof.Rows

structure VMake (X : Cx) (g : Gi) (c n : Nat) (dd : List D) (F : FnI) : Prop where
  ex : ∃ (k : Nat) (f : Addr) (fd : FuncData) (ps : List Str) (q : Str) (dvs : List V) (ds : List Value), FnG X.prog X.w X.K X.mg X.base k f fd (q :: ps) (spI g c ps.length F) ∧ Room (k + 1) X.A ∧ Mk X.K (g.ca c) f ∧
    Binds X.K fd (q :: ps) ds ∧ Vals dvs ds ∧ (∀ F al, Reps g F al dd dvs) ∧ n + dvs.length = ps.length
/-- C(..): the instance never changes behind its __init__ -/
def fMake (c n : Nat) (F : FnI) (dd : List D) (xs : List Vl) (h : Hc) : R Vl := if xs.length = n then (match datas xs with
  | some ds => (F (ds ++ dd) h).bind fun fs h' => .ok (.d (.obj c fs)) h'
  | none => .stuck) else .stuck
theorem under_guards {A : Around} {C : Addr} {us : List Value} {kw : List (Str × Value)} : (A.under (.builtin "type.__call__" ⟨.ref C :: us, kw⟩)).guards = A.guards := by
  first | rfl | simp [Around.under, Code.guards, pushGuards]
theorem Evo.frz {s s' : Sta} {H H' : Hp} {a : Addr} {o : HO} (e : Evo s H s' H') (hf : s'.F a = none) (hn : ∀ n, s'.al n ≠ some a) (hb : H a = none) : Evo s H (s'.frz a o) H' := evo_frz (B := ⟨s, H, 0, 0, 0, 0⟩) hf hn hb e
section
variable {X : Cx} {g : Gi} {B : Bg} {W : WXv} {pos p : Pos} {e : Expr} {es : List Expr} {A : MA} {F : FnI} {dd : List D} {n c : Nat} {x : Str}
theorem run_makeG {pins : List (Addr × Obj)} {σ : L2.St} {H : Hp} {s : Shared} {Q : VK} {us : List Value} {ws : List V} {env : Env} {st : Sta} {dl : List D} (b : Bd X g W) (V : VMake X g c n dd F) (I : Inv X pins σ H s) (r : Vals ws us)
    (sr : SR g B env st σ H) (rr : Reps g st.F st.al dl ws) (hl : ws.length = n) (p1 : PostE g B W env st σ H ((F (dl ++ dd) st.h).bind fun fs h' => .ok (.d (.obj c fs)) h') Q) :
    wpAny (model X.prog X.w) X.A (call (.ref (g.ca c)) us) (EP X pins σ Q) X.xe s := by
  obtain ⟨k, f, fd, ps, q, dvs, ds, FG, hr, M, hb, hd, hdd, hn⟩ := V.ex
  have nx : H (s.heap.objs.size + 1) = none := I.hok.fresh (Nat.le_succ _)
  have nd : H s.heap.objs.size = none := I.hok.fresh (Nat.le_refl _)
  have nn : s.heap.objs.size ≠ s.heap.objs.size + 1 := Nat.ne_of_lt (Nat.lt_succ_self _)
  have I2 := Inv.made (C := g.ca c) I
  have r2 : Vals (L2.V.ref (s.heap.objs.size + 1) :: (ws ++ dvs)) (Value.ref (s.heap.objs.size + 1) :: (us ++ ds)) := .cons rfl (r.append hd)
  have hsp : spI g c ps.length F (L2.V.ref (s.heap.objs.size + 1) :: (ws ++ dvs)) (upd (upd H s.heap.objs.size (.own (s.heap.objs.size + 1))) (s.heap.objs.size + 1) (.ins (g.ca c) s.heap.objs.size []))
      (fun v H2 => v = .non ∧ Q (.ref (s.heap.objs.size + 1)) H2) (fun cls d H' => W cls d σ H') := by
    refine ⟨st, dl ++ dd, H, _, _, ws ++ dvs, rfl, by rw [List.length_append, hl]; exact hn, nx, nd, nn, rfl, sr.good, rr.append (hdd _ _), ?_⟩
    cases eF : F (dl ++ dd) st.h with
    | ok fs h =>
      rw [eF] at p1
      rintro H' s' e1 ev gd ⟨dx, vs, g1, g2, g3, g4⟩
      refine ⟨rfl, ?_⟩
      have ev2 := ev.frz (o := .ins (g.ca c) dx vs) g2 g3 nx
      exact p1 (.ref (s.heap.objs.size + 1)) H' (s'.frz (s.heap.objs.size + 1) (.ins (g.ca c) dx vs)) e1 ev2 (sr.call ev2 (gd.frz g1 g2 g3)) ⟨_, dx, vs, rfl, upd_same, g4.mono (frz_le g2) fun _ _ z => z⟩
    | exc y h =>
      rw [eF] at p1
      intro cls dd' H' s' e1 ev gd xr
      exact p1 cls dd' H' s' e1 ev (sr.call ev gd) xr
    | stuck =>
      rw [eF] at p1
      exact p1
  have hl2 : (Value.ref (s.heap.objs.size + 1) :: us ++ ds).length = (q :: ps).length := by
    have e := r2.length
    rw [FG.len _ _ _ _ hsp] at e
    exact e.symm
  refine wpAny_call (make_map (f := f) I.kIn M.makes M.init (beq_iff_eq.mp M.fn) (codeAny_mono (FG.run _ X.stack _ _ ⟨Value.ref (s.heap.objs.size + 1) :: us, []⟩ (Value.ref (s.heap.objs.size + 1) :: (us ++ ds)) _ _ _ (hr.make (g.ca c) us [])
    (under_guards.trans b.gd) (I2.env0.make (g.ca c) us []) (hb _ (Value.ref (s.heap.objs.size + 1) :: us) I2.kIn hl2) r2 hsp) ?_))
  intro res s' hq
  cases res with
  | error e => exact passAt b.tk σ pins _ _ e s' I2 hq
  | ok fl =>
    cases fl with
    | ret u =>
      obtain ⟨v, H', I3, rv, ev, q3⟩ := I2.after hq
      subst ev
      exact ⟨rv, ⟨L2.V.ref (s.heap.objs.size + 1), H', I3, rfl, q3⟩⟩
    | next => exact False.elim hq
    | brk => exact False.elim hq
    | cont => exact False.elim hq
theorem ve_make (b : Bd X g W) (V : VMake X g c n dd F) (hg : Gl X x) (hm : X.mg x = some (.ref (g.ca c))) (ha : PA X (e :: es) (tA g B W A)) (hdb : (x == ("__debug__" : Str)) = false := by decide)
    (he : starEach (e :: es) X.env = (false, eval e X.env) :: starEach es X.env := by rfl) (hpl : (backTo pos (starEach es X.env)).any (·.1) = false := by rfl) :
    PE X (.Call (.Name x p) (e :: es) [] pos) (tE g B W (mA1 (fMake c n F dd) A)) := by
  have kp : PySem.W.keepIn X.K (.ref (g.ca c)) = true := by
    obtain ⟨k, f, fd, ps, q, dvs, ds, FG, hr, M, _⟩ := V.ex
    exact M.kp
  refine ⟨fun pins s σ H Q I h => ?_⟩
  refine wpAny_Call_Name_kw (ld_glob I hg hm ?_ hdb)
  obtain ⟨env, st, sr, pp⟩ := h
  refine PySem.W.callWith_K (h₀ := X.base) I.ok.mod.kin kp (thn (ha.run pos pins s σ H _ I (bindA (Q := Q) sr pp)) fun us s1 ⟨vs, H1, I1, r, st1, xs, sr1, ev1, r1, p1⟩ => ⟨I1.kIn, ?_⟩) he hpl
  unfold fMake at p1
  by_cases hl : xs.length = n
  · rw [if_pos hl] at p1
    cases e1 : datas xs with
    | none => rw [e1] at p1; exact p1.elim
    | some dl =>
      rw [e1] at p1
      exact run_makeG b V I1 r sr1 (r1.datas e1) (by rw [r1.length, hl]) p1
  · rw [if_neg hl] at p1
    exact p1.elim
theorem ve_make0 (b : Bd X g W) (V : VMake X g c 0 dd F) (hg : Gl X x) (hm : X.mg x = some (.ref (g.ca c))) (hdb : (x == ("__debug__" : Str)) = false := by decide) :
    PE X (.Call (.Name x p) [] [] pos) (tE g B W (mA1 (fMake c 0 F dd) maNil)) := by
  have kp : PySem.W.keepIn X.K (.ref (g.ca c)) = true := by
    obtain ⟨k, f, fd, ps, q, dvs, ds, FG, hr, M, _⟩ := V.ex
    exact M.kp
  refine ⟨fun pins s σ H Q I h => ?_⟩
  refine wpAny_Call_Name_kw (ld_glob I hg hm ?_ hdb)
  obtain ⟨env, st, sr, pp⟩ := h
  exact PySem.W.callWith_K0 I.kIn kp (run_makeG (us := []) (ws := []) (dl := []) b V I .nil sr rfl rfl pp)
end
/-! ### properties -/
structure VProp (X : Cx) (g : Gi) (c : Nat) (f : Str) (F : Fn) : Prop where
  ex : ∃ (k : Nat) (p q : Addr) (fd : FuncData) (ps : List Str), FnG X.prog X.w X.K X.mg X.base k q fd ps (spD g ps.length F) ∧ Room (k + 1) X.A ∧ PropOf X.K (g.ca c) f p q ∧ Binds X.K fd ps [] ∧ ps.length = 1
  cl : g.isC c = true
/-- e.f by the getter of the class c -/
def fProp (c : Nat) (F : Fn) (x : Vl) (h : Hc) : R Vl := match ins? c x h, x with
  | some _, .d od => (match F [od] h with
    | .ok d h' => .ok (.d d) h'
    | _ => .stuck)
  | _, _ => .stuck
section
variable {X : Cx} {g : Gi} {B : Bg} {W : WXv} {pos : Pos} {e : Expr} {F : Fn} {c : Nat} {f : Str} {m : ME}
theorem ve_prop (b : Bd X g W) (V : VProp X g c f F) (he : PE X e (tE g B W m)) (hab : attributeBase e f X.env (eval e X.env) = eval e X.env := by rfl) : PE X (.Attribute e f pos) (tE g B W (m1 (fProp c F) m)) := by
  obtain ⟨k, p, q, fd, ps, FG, hr, hp, hb, hps⟩ := V.ex
  have cl : Cls X.K (g.ca c) := b.K ▸ (b.G.cls c V.cl).cl
  refine ⟨fun pins s σ H Q I h => ?_⟩
  obtain ⟨env, st, sr, pp⟩ := h
  refine attr_of hab (thn (he.run pins s σ H _ I (bindE (Q := Q) sr pp)) fun u s1 ⟨v, H1, I1, rx, st1, ox, sr1, ev1, r1, p1⟩ => ?_)
  unfold fProp at p1
  split at p1
  · next fs od ei =>
    obtain ⟨a, dx, vs, od', rfl, ex, hH, hf⟩ := ins_rep sr1.good r1 ei
    cases ex
    obtain rfl : u = Value.ref a := rx
    obtain ⟨mA, O, _, _, _, _⟩ := ins_get I1.hok hH
    obtain ⟨od2, J, _⟩ := O.look
    obtain ⟨rest, hrec⟩ := hp.rec_
    have I2 := I1.tok (s1.toks + 1)
    have hc : (PySem.W.clsIn X.K (g.ca c)).isSome = true := by
      obtain ⟨cd, hc, _⟩ := PySem.W.any_some cl.hd
      rw [hc]
      rfl
    have hsp : spD g ps.length F [.ref a] H1 Q (fun _ _ _ => False) := by
      refine ⟨st1, [od], hps.symm, sr1.good, Reps.cons (show Rep g st1.F st1.al od (.ref a) from r1) Reps.nil, ?_⟩
      cases eF : F [od] st1.h with
      | ok d h =>
        rw [eF] at p1
        intro v H' s' e1 ev gd rr
        exact p1 v H' s' e1 ev (sr1.call ev gd) rr
      | exc y h => rw [eF] at p1; exact p1.elim
      | stuck => rw [eF] at p1; exact p1.elim
    refine PySem.W.get_bind I1.kIn J (PySem.W.plainGet_of (cl.get f)).1 (PySem.W.findObj_data hc hp.at_ hp.get hp.tak) (PySem.W.plainGet_of (cl.get f)).2 (wpAny_call (PySem.W.prop_get (s := { s1 with toks := s1.toks + 1 }) I1.kIn hrec ?_))
    refine codeAny_mono (FG.run X.A.in1 X.stack { s1 with toks := s1.toks + 1 } H1 ⟨[.ref a], []⟩ [.ref a] [.ref a] Q (fun _ _ _ => False) hr.in1 b.gd I2.env0.in1 (by
      have z := hb { s1 with toks := s1.toks + 1 } [.ref a] I2.kIn (by rw [hps]; rfl)
      simpa using z) (.cons rfl .nil) hsp) ?_
    intro r s' hq
    cases r with
    | error er =>
      obtain ⟨_, _, _, _, _, _, _, _, _, _, _, _, ff⟩ := hq
      exact ff.elim
    | ok fl =>
      cases fl with
      | ret u =>
        obtain ⟨v, H', I3, rv, q3⟩ := I2.after hq
        show wpAny _ _ (handedOut u) _ _ _
        rw [PySem.W.handedOut_of (handed_of rv)]
        exact wpAny_pure ⟨v, H', I3, rv, q3⟩
      | next => exact False.elim hq
      | brk => exact False.elim hq
      | cont => exact False.elim hq
  · exact p1.elim
end
end Vi

set_option Elab.async false
set_option linter.all false
set_option maxRecDepth 100000
set_option maxHeartbeats 2000000
namespace Vi
open PySem L2 PyProof.Rows

/-! ### own exceptions with an own __init__ -/
/-- __init__'s promise: its fields, as the arguments give them -/
def spE (C : Addr) (n : Nat) (fs : List L2.V → List (Str × L2.V)) : Sp := fun vs H Q _ => ∃ (a : Addr) (ws : List L2.V) (H0 : Hp), vs = .ref a :: ws ∧ ws.length = n ∧ H0 a = none ∧ H = upd H0 a (exo a C none) ∧
  ∀ (dx : Addr) (H2 : Hp), H0 dx = none → dx ≠ a → H2 a = some (exo a C (some dx)) → H2 dx = some (exd dx (fs ws)) → (∀ b, b ≠ a → b ≠ dx → H2 b = H0 b) → Q .non H2
structure VExc (X : Cx) (g : Gi) (x : Str) (c n : Nat) (mk : List D → List (Str × D)) : Prop where
  ex : ∃ (k : Nat) (fI : Addr) (fd : FuncData) (ps : List Str) (fs : List L2.V → List (Str × L2.V)), OexC X.K (g.ca c) ∧ PySem.W.findIn X.K (.ref (g.ca c)) "__init__" = some (some (.ref fI)) ∧ PySem.W.typeIn X.K (.ref fI) = some (.type "function") ∧
    FnOk X.prog X.w X.K X.mg X.base (L2.CX X.prog X.w) k fI fd ps (spE (g.ca c) n fs) ∧ Room (k + 1) X.A ∧ Binds X.K fd ps [] ∧ X.mg x = some (.ref (g.ca c)) ∧ n ≤ 1000 ∧
    (∀ F al ds ws, Reps g F al ds ws → ds.length = n → RepF g F al (mk ds) (fs ws))
def mRaise (c n : Nat) (mk : List D → List (Str × D)) (A : MA) : MS := fun env h => (A env h).thenS env fun xs h' => if xs.length = n then (match datas xs with
  | some ds => .exc env (.obj c (mk ds)) h'
  | none => .stuck) else .stuck
section
variable {X : Cx} {g : Gi} {B : Bg} {W : WXv} {pos p pos' : Pos} {e : Expr} {es : List Expr} {A : MA} {n c : Nat} {x : Str} {mk : List D → List (Str × D)}
theorem vs_raise (b : Bd X g W) (w : VExc X g x c n mk) (hg : Gl X x) (ha : PA X (e :: es) (tA g B W A)) (hdb : (x == ("__debug__" : Str)) = false := by decide)
    (he : starEach (e :: es) X.env = (false, eval e X.env) :: starEach es X.env := by rfl) (hpl : (backTo pos' (starEach es X.env)).any (·.1) = false := by rfl) :
    PS X (.Raise (some (.Call (.Name x p) (e :: es) [] pos')) none pos) (tS g B W (mRaise c n mk A)) := by
  obtain ⟨k, fI, fd, ps, fs, T, iC, tI, F1, hr, hb, hm, hn, hmk⟩ := w.ex
  refine ps_imp (ps_raise b.calm b.tk (pmk_oex (dvs := []) (ds := []) (sp := spE (g.ca c) n fs) T iC tI F1 hr hb .nil (passes_call (E := fun _ _ _ => False) b.tk fun _ _ _ _ z => z.elim) hg hm ha hdb he hpl)) fun N σ H ⟨env, st, sr, pp⟩ => ?_
  refine tA.mono (bindSA (N := N) sr pp) ?_
  rintro vs H1 ⟨s1, xs, sr1, le1, r1, p1⟩
  by_cases hl : xs.length = n
  · rw [if_pos hl] at p1
    cases e1 : datas xs with
    | none => rw [e1] at p1; exact p1.elim
    | some ds =>
      rw [e1] at p1
      refine ⟨by rw [r1.length, hl]; exact hn, fun a ea => ⟨a, vs ++ [], H1, rfl, by rw [List.append_nil, r1.length, hl], ea, rfl, fun dx H2 nd ne h1 h2 hk => ⟨rfl, dx, _, h1, h2, nd, ?_⟩⟩⟩
      have eH : upd (del H2 a) dx (.xd (fs (vs ++ []))) = upd H1 dx (.xd (fs (vs ++ []))) := by
        funext z
        by_cases q1 : z = dx
        · rw [q1, upd_same, upd_same]
        · rw [upd_ne q1, upd_ne q1]
          by_cases q2 : z = a
          · rw [q2, del_same, ea]
          · rw [del_ne q2, hk z q2 q1]
      rw [eH]
      obtain ⟨sr2, ev2⟩ := sr1.new (o := .xd (fs (vs ++ []))) nd
      refine p1 (.ref (g.ca c)) (some dx) σ _ s1 rfl (Le.refl _) sr2 ⟨dx, _, rfl, rfl, upd_same, (sr1.own_new nd).al, ?_⟩
      rw [List.append_nil]
      exact hmk _ _ _ _ (r1.datas e1) (by rw [datas_length e1, hl])
  · rw [if_neg hl] at p1
    exact p1.elim
end
/-- an __init__ of two stores: self.f1 = p, self.f2 = 'l' -/
theorem fn_E {P : Program} {w : World} {K : PySem.W.Frag} {mg : Str → Option Value} {base : Heap} {x qual : Str} {params : Arguments} {scope : Scope} {f : Addr} {fd : FuncData} {k : Nat} {C : Addr} {self p1 f1 f2 lit : Str} {q1 q2 q3 q4 q5 q6 q7 q4' : Pos} {j : Nat}
    (F : FunD K x qual params [.Assign [.Attribute (.Name self q1) f1 q2] (.Name p1 q3) q4, .Assign [.Attribute (.Name self q5) f2 q6] (.Constant (.str lit) j q7) q4'] scope [] [] f fd) (S : FnScope [self, p1] [self, p1] scope)
    (T : OexC K C) (n1 : PySem.W.findIn K (.ref C) f1 = some none) (n2 : PySem.W.findIn K (.ref C) f2 = some none)
    (v0 : Vis scope self) (v1 : Vis scope p1)
    (d0 : (self == ("__debug__" : Str)) = false) (d0c : (self == ("__classdict__" : Str)) = false) (d1 : (p1 == ("__debug__" : Str)) = false) (d1c : (p1 == ("__classdict__" : Str)) = false) :
    FnOk P w K mg base (L2.CX P w) (k + 1) f fd [self, p1] (spE C 1 fun ws => match ws with
      | [v] => [(f2, .str lit), (f1, v)]
      | _ => []) := by
  refine F.ok S (fun vs H Q E h => ?_) ?_
  · obtain ⟨a, ws, H0, rfl, hl, _⟩ := h
    rw [List.length_cons, hl]
    rfl
  · intro cdv A outer s H vs Q E hr h
    obtain ⟨a, ws, H0, rfl, hl, ha, rfl, q⟩ := h
    obtain ⟨v, rfl⟩ : ∃ v, ws = [v] := by
      cases ws with
      | nil => cases hl
      | cons v r => cases r with
        | nil => exact ⟨v, rfl⟩
        | cons _ _ => cases hl
    refine ⟨_, pss_cons (ps_ost (pe_var (i := 0) rfl v0 d0 d0c) (pe_var (i := 1) rfl v1 d1 d1c)) (pss_cons (ps_ost (pe_var (i := 0) rfl v0 d0 d0c) pe_str) pss_nil), ?_⟩
    refine ⟨v, rfl, .ref a, rfl, a, C, rfl, T, n1, .inl ⟨upd_same, fun dx hd ne => ?_⟩⟩
    have hd0 : H0 dx = none := by rw [upd_ne ne] at hd; exact hd
    refine ⟨.ref a, rfl, a, C, rfl, T, n2, .inr ⟨dx, [(f1, v)], upd_same, ?_, Nat.le_of_ble_eq_true rfl, ?_⟩⟩
    · rw [upd_ne ne, upd_same]
    · refine q dx _ hd0 ne ?_ upd_same fun z z1 z2 => ?_
      · rw [upd_ne ne.symm, upd_same]
      · rw [upd_ne z2, upd_ne z1, upd_ne z2, upd_ne z1]
end Vi

set_option Elab.async false
set_option linter.all false
set_option maxRecDepth 100000
set_option maxHeartbeats 2000000
namespace Vi
open PySem PySem.W PySem.Calls L2 PyProof.Rows

/-! ### isinstance of a caught error that has its dict -/
section
variable {prog : Program} {w : World} {A : Around} {E : Value → Shared → Prop} {s : Shared} {K : Frag} {x Dc : Addr} {ox od : Obj}
theorem cls_of_exc {Q : Option Value → Shared → Prop} (C : L2.ExcC K Dc) (X : K.In s.heap) (I : InstAt s.heap x ox Dc (some od)) (q : Q (some (.ref Dc)) { s with toks := s.toks + 1 }) :
    wpAny (model prog w) A (getAttr? (.ref x) "__class__") Q E s := by
  obtain ⟨hga, hgt, hsub, hdct, ha, hn, htk, hm⟩ := C
  have hcs : (clsIn K Dc).isSome = true := by
    obtain ⟨cd, hc, _⟩ := any_some hdct
    rw [hc]
    rfl
  have hf := findObj_data (od := od) hcs ha hn htk
  obtain ⟨h0, gs, dr, tk, oss⟩ := s
  have ty := I.type (M := model prog w)
  have l1 := looks_findIn (M := model prog w) X hga
  have l2 := looks_findIn (M := model prog w) X hgt
  have l3 := looks_find (M := model prog w) X I hf
  have ne : (Value.builtin "BaseException.__getattribute__" == Value.builtin "object.__getattribute__") = false := by decide +kernel
  have g0 : (onTheHeap (Value.ref Dc) && Value.builtin "BaseException.__getattribute__" == Value.builtin "object.__getattribute__") = false := by
    rw [ne]
    rfl
  have g1 : (false && onTheHeap (Value.builtin "BaseException.__getattribute__")) = false := rfl
  unfold getAttr? getAttrBy? getAttrBy
  refine wpAny_bind (wpAny_mkText (wpAny_bind ?_))
  refine wpAny_attempt (wpAny_holding (wpAny_bind (ty.at ?_)))
  refine wpAny_bind (l1.at ?_)
  show wpAny _ _ (if (onTheHeap (Value.ref Dc) &&
    Value.builtin "BaseException.__getattribute__" == Value.builtin "object.__getattribute__") = true then _ else _) _ _ _
  rw [g0, if_neg (by decide)]
  unfold getAttrByItsOwn hookBefore
  refine wpAny_bind ?_
  rw [if_pos (show onTheHeap (Value.ref Dc) = true by rfl)]
  refine l2.at (wpAny_bind (wpAny_attempt (wpAny_holding ?_)))
  unfold callGetattribute
  rw [g1, if_neg (by decide)]
  unfold boundAndCalled
  rw [F.excAttr_ValueError.ga.bind (.ref x)]
  refine wpAny_bind (wpAny_pure ?_)
  show wpAny _ _ (call (.builtin "BaseException.__getattribute__") [.ref x, .str "__class__" tk]) _ _ _
  refine wpAny_call ?_
  refine codeAny_call_builtin F.excAttr_ValueError.ga.plain F.entry_bexc_ga ?_
  have sb : Looks (model prog w) h0 (isInstance (.ref x) (.type "BaseException")) true := ty.andThen (looks_subIn X hsub)
  refine @check_slot (model prog w) _ _ ⟨h0, gs, dr, tk + 1, oss⟩ "BaseException.__getattribute__" "BaseException"
    "__getattribute__" (.ref x) [.str "__class__" tk] [] _ (by decide +kernel) (by decide +kernel) sb (F.args_bexc_ga (.ref x) (.str "__class__" tk)) ?_
  unfold Builtin.«object.__getattribute__»
  refine wpAny_bind (wpAny_of_eq (a := ((Value.ref x : Value), [Value.str "__class__" tk])) (by first | rfl | (simp only [slotArgs]; rfl)) ?_)
  refine wpAny_bind (wpAny_pure (wpAny_bind (ty.at (wpAny_bind (l3.at ?_)))))
  show wpAny _ _ (holding [Value.builtin "object.__class__"] (call (.builtin "getset_descriptor.__get__") _) >>= ret) _ _ _
  refine wpAny_bind (wpAny_holding (wpAny_call ?_))
  refine class_get (s := ⟨h0, gs, dr, tk + 1, oss⟩) (ox := ox) (od := some od) X I hm ?_
  refine wpAny_pure ?_
  show wpAny _ _ (handedOut (.ref Dc)) _ _ _
  rw [handedOut_of (v := .ref Dc) rfl]
  first
    | exact wpAny_pure (wpAny_pure q)
    | exact wpAny_pure q
    | exact wpAny_pure (wpAny_bind (wpAny_pure (wpAny_pure q)))
theorem kit_exc (C : L2.ExcC K Dc) : KitX K (.ref x) (.ref Dc) (fun h => InstAt h x ox Dc (some od)) := by
  obtain ⟨cd, hc, _⟩ := any_some C.hd
  unfold clsIn at hc
  split at hc
  · rename_i c' d' cd' sl' ho
    refine ⟨fun _ _ _ I => I.type, fun _ _ X _ => ?_, fun h tp dd its n sl X htp => Bool.eq_false_iff.mpr fun q => ?_, fun X I k => cls_of_exc C X I k⟩
    · intro A' Q' E' s' k q
      unfold isType loadHead
      exact wpAny_bind (wpAny_loadPart (k _ _ (X _ _ ho)) (wpAny_pure q))
    · obtain rfl : Dc = tp := Value.ref.inj (beq_iff_eq.mp q)
      cases (X _ _ ho).symm.trans htp
  · cases hc
end
theorem ty_val {g : Gi} (t : Ty) : ∀ u, RelV (t.v g) u → u = t.val g := fun u r => by
  cases t with
  | bt n => exact r
  | own c => exact r
/-! ### the except suite -/
/-- the context of a suite that holds an exception of the class c -/
structure Su (X : Cx) (g : Gi) (B : Bg) : Prop where
  ex : ∃ (X0 : Cx) (oe : Obj) (pn : List (Addr × Obj)), X = X0.suite B.xa ((B.xa, oe) :: pn) ∧ Zc (.ref (g.ca B.xcl)) (some B.xd) oe ∧ (∃ vs, oe.data = .fields vs)
  G : GiOk g
  K : g.K = X.K
/-- the classes of errors: their fields may be read, isinstance may ask -/
structure XcOk (g : Gi) (xs : Nat → Bool) (no : Nat → Str → Bool) : Prop where
  xf : ∀ c, xs c = true → XfC g.K (g.ca c) ∧ L2.ExcC g.K (g.ca c)
  no : ∀ c f, no c f = true → PySem.W.findIn g.K (.ref (g.ca c)) f = some none
def mIsX (g : Gi) (xs : Nat → Bool) (t : Ty) (i : Nat) : ME := fun env h => match env[i]? with
  | some (some (.xc c _)) => if xs c then (match g.isi (.own c) t with
    | some b => .ok (.d (.bl b)) h
    | none => .stuck) else .stuck
  | _ => .stuck
def mXf (xs : Nat → Bool) (no : Nat → Str → Bool) (f : Str) (i : Nat) : ME := fun env h => match env[i]? with
  | some (some (.xc c fs)) => if xs c && no c f then (match fs.lookup f with
    | some d => .ok (.d d) h
    | none => .stuck) else .stuck
  | _ => .stuck
section
variable {X : Cx} {g : Gi} {B : Bg} {W : WXv} {pos p : Pos} {x : Str} {xs : Nat → Bool} {no : Nat → Str → Bool} {c : Expr}
theorem isx_call (S : Su X g B) (T : L2.ExcC X.K (g.ca B.xcl)) {σ : L2.St} {H : Hp} {s : Shared} {pins : List (Addr × Obj)} {Q : VK} {v : L2.V} {cv : Value} {us : List Value} {b : Bool} (I : Inv X pins σ H s) (r : Vals [.ref B.xa, v] us) (hcv : ∀ u, RelV v u → u = cv)
    {vs : List (Str × L2.V)} (hd : H B.xd = some (.xd vs)) (e : PySem.W.kitOne X.K (.ref (g.ca B.xcl)) cv = some b) (q : Q (.bl b) H) : wpAny (model X.prog X.w) X.A (PySem.call (.builtin "isinstance") us) (EP X pins σ Q) X.xe s := by
  obtain ⟨X0, oe, pn, rfl, hz, hv⟩ := S.ex
  cases r with
  | cons rx rr =>
    cases rr with
    | cons rt rr =>
      cases rr
      cases rx
      have ec := hcv _ rt
      subst ec
      obtain ⟨hget, _⟩ := I.pin (B.xa, oe) (List.mem_append.mpr (.inl List.mem_cons_self))
      obtain ⟨ws, hw⟩ := hv
      have hx : ObjOk X0.prog X0.w H s.heap B.xd (.xd vs) := I.hok _ _ hd
      obtain ⟨mA, hns, hr⟩ := hx
      obtain ⟨oD, ho, _⟩ := lookIn_ns hns
      have J : PySem.W.InstAt s.heap B.xa oe (g.ca B.xcl) (some oD) := ⟨hget, hz.1, by unfold PySem.W.notCls; rw [hw] <;> rfl, by rw [hz.2]; exact ho⟩
      exact PySem.W.kia_one (kit_exc T) I.kIn J e (fun z => nomatch z) fun tk => ⟨.bl b, H, I.kept (t' := tk) fun _ _ z => z, rfl, q⟩
theorem ve_isx (S : Su X g B) (o : XcOk g xs no) (t : Ty) (i : Nat) (hN : X.N[i]? = some x) (hv : Vis X.env.scope x) (hg : Gl X "isinstance") (hm : X.mg "isinstance" = none) (hc : PE X c (tC (t.v g)))
    (hd : (x == ("__debug__" : Str)) = false := by decide) (hcd : (x == ("__classdict__" : Str)) = false := by decide)
    (hs : starEach [.Name x p, c] X.env = (false, eval (.Name x p) X.env) :: starEach [c] X.env := by rfl) (hpl : (backTo pos (starEach [c] X.env)).any (·.1) = false := by rfl) (hs2 : starEach [c] X.env = (false, eval c X.env) :: starEach [] X.env := by rfl) :
    PE X (.Call (.Name "isinstance" p1) [.Name x p, c] [] pos) (tE g B W (mIsX g xs t i)) := by
  have call : CallR X (.builtin "isinstance") (fun ws H Q => ∃ (v : L2.V) (cv : Value) (b : Bool) (vs : List (Str × L2.V)), ws = [.ref B.xa, v] ∧ (∀ u, RelV v u → u = cv) ∧ L2.ExcC X.K (g.ca B.xcl) ∧ H B.xd = some (.xd vs) ∧ PySem.W.kitOne X.K (.ref (g.ca B.xcl)) cv = some b ∧ Q (.bl b) H) := by
    intro pins s σ H ws us Q I r ⟨v, cv, b, vs, e1, e2, T, e3, e4, q⟩
    subst e1
    exact isx_call S T I r e2 e3 e4 q
  refine pe_imp (pe_callB call hg hm (by decide +kernel) (pa_cons (pe_var hN hv hd hcd) (pa_cons hc pa_nil hs2) hs) (by decide) (by decide) hs hpl) fun σ H Q ⟨env, s, sr, pp⟩ => ?_
  unfold mIsX at pp
  split at pp
  · next c' fs he =>
    split at pp
    · next hx =>
      split at pp
      · next b hb =>
        obtain ⟨v, h1, h2⟩ := sr.slot i _ he
        obtain ⟨rfl, rfl, vs, h3, h4, h5⟩ := h2
        exact ⟨_, h1, t.v g, t.val g, b, vs, rfl, ty_val t, S.K ▸ (o.xf _ hx).2, h3, S.K ▸ S.G.isi _ _ _ hb, PostE.pure sr pp rfl⟩
      · exact pp.elim
    · exact pp.elim
  · exact pp.elim
theorem ve_xf (S : Su X g B) (o : XcOk g xs no) (f : Str) (i : Nat) (hN : X.N[i]? = some x) (hv : Vis X.env.scope x) (hd : (x == ("__debug__" : Str)) = false := by decide) (hcd : (x == ("__classdict__" : Str)) = false := by decide)
    (hb : attributeBase (.Name x p) f X.env (eval (.Name x p) X.env) = eval (.Name x p) X.env := by rfl) : PE X (.Attribute (.Name x p) f pos) (tE g B W (mXf xs no f i)) := by
  obtain ⟨X0, oe, pn, rfl, hz, hw⟩ := S.ex
  refine ⟨fun pins s σ H Q I h => ?_⟩
  obtain ⟨env, st, sr, pp⟩ := h
  unfold mXf at pp
  split at pp
  · next c' fs he =>
    split at pp
    · next hx =>
      obtain ⟨hx1, hx2⟩ := Bool.and_eq_true_iff.mp hx
      split at pp
      · next d hl =>
        obtain ⟨v, h1, h2⟩ := sr.slot i _ he
        obtain ⟨rfl, rfl, vs, h3, h4, h5⟩ := h2
        obtain ⟨w, w1, w2⟩ := h5.lookup hl
        exact (pe_xf (cls := .ref (g.ca B.xcl)) (d := some B.xd) (S.K ▸ (o.xf _ hx1).1) (S.K ▸ o.no _ _ hx2) hz hw (pe_var hN hv hd hcd) hb).run pins s σ H Q I ⟨.ref B.xa, h1, rfl, rfl, B.xd, vs, w, rfl, h3, w1, PostE.pure sr pp w2⟩
      · exact pp.elim
    · exact pp.elim
  · exact pp.elim
end
end Vi

set_option Elab.async false
set_option linter.all false
set_option maxRecDepth 100000
set_option maxHeartbeats 2000000
namespace Vi
open PySem L2 PyProof.Rows

def noX (env : Env) : Bool := env.all fun o => match o with
  | some (.xc _ _) => false
  | _ => true
/-- behind the suite: the name is gone -/
def unX (i : Nat) : RS → RS
  | .nx env h => if noX (env.set i none) then .nx (env.set i none) h else .stuck
  | .brk env h => if noX (env.set i none) then .brk (env.set i none) h else .stuck
  | .cnt env h => if noX (env.set i none) then .cnt (env.set i none) h else .stuck
  | .ret d h => .ret d h
  | .exc _ _ _ => .stuck
  | .stuck => .stuck
def mTry (i : Nat) (cat : Nat → Option Bool) (mb ms : MS) : MS := fun env h => match mb env h with
  | .exc env' (.obj c fs) h' => (match cat c with
    | some true => if noX (env'.set i none) && decide (i < env'.length) then unX i (ms (env'.set i (some (.xc c fs))) h') else .stuck
    | some false => .exc env' (.obj c fs) h'
    | none => .stuck)
  | .exc _ _ _ => .stuck
  | r => r
theorem noX_get {env : Env} (h : noX env = true) {i : Nat} {sl : Sl} (e : env[i]? = some (some sl)) : ∀ c fs, sl ≠ .xc c fs := fun c fs q => by
  subst q
  have m := List.mem_of_getElem? e
  have z := List.all_eq_true.mp h _ m
  cases z
section
variable {g : Gi} {B : Bg} {W : WXv} {env : Env} {s s' : Sta} {σ : L2.St} {H H' : Hp} {i : Nat}
abbrev Bg.catch (B : Bg) (a d : Addr) (c : Nat) : Bg := { B with xa := a, xd := d, xcl := c }
theorem SlRep.bg {a d : Addr} {c : Nat} {sl : Sl} {v : L2.V} (n : ∀ c fs, sl ≠ .xc c fs) : SlRep g B s H sl v ↔ SlRep g (B.catch a d c) s H sl v := by
  cases sl with
  | d x => exact Iff.rfl
  | ol xs => exact ⟨fun ⟨a, vs, h1, h2, h3, h4⟩ => ⟨a, vs, h1, h2, ⟨h3.f, h3.al, h3.new⟩, h4⟩, fun ⟨a, vs, h1, h2, h3, h4⟩ => ⟨a, vs, h1, h2, ⟨h3.f, h3.al, h3.new⟩, h4⟩⟩
  | oi c fs => exact ⟨fun ⟨a, dx, vs, h1, h2, h3, h4⟩ => ⟨a, dx, vs, h1, h2, ⟨h3.f, h3.al, h3.new⟩, h4⟩, fun ⟨a, dx, vs, h1, h2, h3, h4⟩ => ⟨a, dx, vs, h1, h2, ⟨h3.f, h3.al, h3.new⟩, h4⟩⟩
  | xc c fs => exact absurd rfl (n c fs)
theorem SR.unset (sr : SR g B env s σ H) : SR g B (env.set i none) s (σ.set i none) H := by
  have f : ∀ {j : Nat} {sl : Sl}, (env.set i none)[j]? = some (some sl) → i ≠ j ∧ env[j]? = some (some sl) := fun {j sl} h => by
    by_cases e : i = j
    · subst e
      by_cases hi : i < env.length
      · rw [List.getElem?_set_self hi] at h
        cases h
      · rw [List.getElem?_eq_none (by rw [List.length_set]; omega)] at h
        cases h
    · rw [List.getElem?_set_ne e] at h
      exact ⟨e, h⟩
  refine ⟨sr.good, sr.evo, by rw [List.length_set, List.length_set]; exact sr.len, fun j sl h => ?_, fun j k sl1 sl2 u hjk h1 h2 o1 o2 h3 h4 => ?_⟩
  · obtain ⟨e, h⟩ := f h
    rw [List.getElem?_set_ne e]
    exact sr.slot j sl h
  · obtain ⟨e1, h1⟩ := f h1
    obtain ⟨e2, h2⟩ := f h2
    rw [List.getElem?_set_ne e1] at h3
    rw [List.getElem?_set_ne e2] at h4
    exact sr.sep j k sl1 sl2 u hjk h1 h2 o1 o2 h3 h4
theorem SR.bg {a d : Addr} {c : Nat} (n : noX env = true) (sr : SR g B env s σ H) : SR g (B.catch a d c) env s σ H :=
  ⟨sr.good, sr.evo, sr.len, fun j sl h => by
    obtain ⟨v, h1, h2⟩ := sr.slot j sl h
    exact ⟨v, h1, (SlRep.bg (noX_get n h)).mp h2⟩, sr.sep⟩
theorem SR.unbg {a d : Addr} {c : Nat} (n : noX env = true) (sr : SR g (B.catch a d c) env s σ H) : SR g B env s σ H :=
  ⟨sr.good, sr.evo, sr.len, fun j sl h => by
    obtain ⟨v, h1, h2⟩ := sr.slot j sl h
    exact ⟨v, h1, (SlRep.bg (noX_get n h)).mpr h2⟩, sr.sep⟩
theorem SR.setX {c : Nat} {fs : List (Str × D)} {v : L2.V} (hi : i < env.length) (sr : SR g B (env.set i none) s (σ.set i none) H) (r : SlRep g B s H (.xc c fs) v) : SR g B (env.set i (some (.xc c fs))) s (σ.set i (some v)) H := by
  have f : ∀ {j : Nat} {sl : Sl}, i ≠ j → (env.set i (some (.xc c fs)))[j]? = some (some sl) → (env.set i none)[j]? = some (some sl) := fun {j sl} e h => by
    rw [List.getElem?_set_ne e] at h
    rw [List.getElem?_set_ne e]
    exact h
  have hl : (env.set i none).length = (σ.set i none).length := sr.len
  rw [List.length_set, List.length_set] at hl
  refine ⟨sr.good, sr.evo, by rw [List.length_set, List.length_set]; exact hl, fun j sl h => ?_, fun j k sl1 sl2 u hjk h1 h2 o1 o2 h3 h4 => ?_⟩
  · by_cases e : i = j
    · subst e
      rw [List.getElem?_set_self hi] at h
      cases h
      exact ⟨v, List.getElem?_set_self (hl ▸ hi), r⟩
    · have z := sr.slot j sl (f e h)
      rw [List.getElem?_set_ne e] at z
      rw [List.getElem?_set_ne e]
      exact z
  · have ne : ∀ {j : Nat} {sl : Sl}, (env.set i (some (.xc c fs)))[j]? = some (some sl) → sl.own = true → i ≠ j := fun {j sl} h o e => by
      subst e
      rw [List.getElem?_set_self hi] at h
      cases h
      cases o
    have n1 := ne h1 o1
    have n2 := ne h2 o2
    refine sr.sep j k sl1 sl2 u hjk (f n1 h1) (f n2 h2) o1 o2 ?_ ?_
    · rw [List.getElem?_set_ne n1] at h3
      rw [List.getElem?_set_ne n1]
      exact h3
    · rw [List.getElem?_set_ne n2] at h4
      rw [List.getElem?_set_ne n2]
      exact h4
end
/-- which classes the clause takes -/
structure Catch (X : Cx) (g : Gi) (x : Str) (cat : Nat → Option Bool) : Prop where
  ex : ∃ cv : Value, Names X x cv ∧ ∀ c b, cat c = some b → PySem.W.exmOne X.K (.ref (g.ca c)) cv = some b
section
variable {X : Cx} {g : Gi} {B : Bg} {W : WXv} {x n : Str} {i : Nat} {body suite : List Stmt} {b₀ : Stmt} {np pos pos' : Pos} {mb ms : MS} {cat : Nat → Option Bool}
theorem vs_try (b : Bd X g W) (hs : X.stack = X.env :: X.outer) (hf : X.env.frame = some X.env.locals) (hN : X.N.Nodup) (hi : X.N[i]? = some n) (hln : X.env.kindOf n = some .local) (C : Catch X g x cat)
    (hb : ∀ (W' : WXv) (pn : List (Addr × Obj)) (xe : Value → Shared → Prop), Bd (X.tr pn xe) g W' → PSs (X.tr pn xe) body (tS g B W' mb))
    (hsu : ∀ (a d : Addr) (c : Nat) (oe : Obj) (pn : List (Addr × Obj)), Su (X.suite a ((a, oe) :: pn)) g (B.catch a d c) → PSs (X.suite a ((a, oe) :: pn)) (b₀ :: suite) (tS g (B.catch a d c) (fun _ _ _ _ => False) ms)) :
    PS X (.Try body [.ExceptHandler (some (.Name x np)) (some n) (b₀ :: suite) pos'] [] [] pos) (tS g B W (mTry i cat mb ms)) := by
  obtain ⟨cv, hc, hcat⟩ := C.ex
  refine ps_imp (ps_try_as (tb := fun W' => tS g B W' mb) (ts := fun a cls d N σ H => ∃ (c : Nat) (dd : Addr), cls = .ref (g.ca c) ∧ d = some dd ∧ tS g (B.catch a dd c) (fun _ _ _ _ => False) ms N σ H) (Wout := W) hs hf hN hi hln hc b.tk
    (fun W' pn xe tk ps => hb W' pn xe ⟨b.G, b.K, b.calm, b.gd, tk, ps, b.un⟩) fun a oe cls d pn hz hv => ⟨fun pins s σ H N I h => ?_⟩) fun N σ H ⟨env, st, sr, pp⟩ => ⟨env, st, sr, ?_⟩
  · obtain ⟨c, dd, rfl, rfl, h⟩ := h
    exact (hsu a dd c oe pn ⟨⟨X, oe, pn, rfl, hz, hv⟩, b.G, b.K⟩).run pins s σ H N I h
  · unfold mTry at pp
    cases e : mb env st.h with
    | nx env' h => rw [e] at pp; exact pp
    | ret d h => rw [e] at pp; exact pp
    | brk env' h => rw [e] at pp; exact pp
    | cnt env' h => rw [e] at pp; exact pp
    | stuck => rw [e] at pp; exact pp.elim
    | exc env' y h =>
      rw [e] at pp
      cases y with
      | obj c fs =>
        intro cls dd σ' H' s' e1 le sr' xr
        obtain ⟨d, vs, rfl, rfl, hd, hal, hr⟩ := xr
        cases ec : cat c with
        | none => simp only [ec] at pp; exact pp.elim
        | some q =>
          cases q with
          | false =>
            simp only [ec] at pp
            exact ⟨false, hcat c false ec, fun z => (by cases z), fun _ => pp (.ref (g.ca c)) (some d) σ' H' s' e1 le sr' ⟨d, vs, rfl, rfl, hd, hal, hr⟩⟩
          | true =>
            simp only [ec] at pp
            by_cases hq : (noX (env'.set i none) && decide (i < env'.length)) = true
            · rw [if_pos hq] at pp
              obtain ⟨q1, q2⟩ := Bool.and_eq_true_iff.mp hq
              refine ⟨true, hcat c true ec, fun _ a ha => ⟨c, d, rfl, rfl, ?_⟩, fun z => (by cases z)⟩
              refine ⟨_, s', (sr'.unset.bg (a := a) (d := d) (c := c) q1).setX (of_decide_eq_true q2) ⟨rfl, rfl, vs, hd, hal, hr⟩, ?_⟩
              rw [e1]
              have back : ∀ {env2 : Env} {σ2 : L2.St} {H2 : Hp} {s2 : Sta}, noX (env2.set i none) = true → SR g (B.catch a d c) env2 s2 σ2 H2 → SR g B (env2.set i none) s2 (σ2.set i none) H2 := fun n2 sr2 => SR.unbg (a := a) (d := d) (c := c) n2 sr2.unset
              cases em : ms (env'.set i (some (.xc c fs))) h with
              | nx env2 h2 =>
                rw [em] at pp
                unfold unX at pp
                by_cases n2 : noX (env2.set i none) = true
                · simp only [if_pos n2] at pp
                  exact fun σ2 H2 s2 e2 le2 sr2 => pp (σ2.set i none) H2 s2 e2 (le.trans le2) (back n2 sr2)
                · simp only [if_neg n2] at pp
                  exact pp.elim
              | brk env2 h2 =>
                rw [em] at pp
                unfold unX at pp
                by_cases n2 : noX (env2.set i none) = true
                · simp only [if_pos n2] at pp
                  exact fun σ2 H2 s2 e2 le2 sr2 => pp (σ2.set i none) H2 s2 e2 (le.trans le2) (back n2 sr2)
                · simp only [if_neg n2] at pp
                  exact pp.elim
              | cnt env2 h2 =>
                rw [em] at pp
                unfold unX at pp
                by_cases n2 : noX (env2.set i none) = true
                · simp only [if_pos n2] at pp
                  exact fun σ2 H2 s2 e2 le2 sr2 => pp (σ2.set i none) H2 s2 e2 (le.trans le2) (back n2 sr2)
                · simp only [if_neg n2] at pp
                  exact pp.elim
              | ret dr h2 =>
                rw [em] at pp
                exact pp
              | exc env2 y2 h2 => rw [em] at pp; exact pp.elim
              | stuck => rw [em] at pp; exact pp.elim
            · rw [if_neg hq] at pp
              exact pp.elim
      | _ => exact pp.elim
end
end Vi

set_option Elab.async false
set_option linter.all false
set_option maxRecDepth 100000
set_option maxHeartbeats 2000000
namespace Vi
open PySem L2 PyProof.Rows

/-! ### self.f among targets -/
def gtF (g : Gi) (i : Nat) (f : Str) : TgF := fun d env => match env[i]? with
  | some (some (.oi c fs)) => if g.fld c f && decide (fs.length < 1000) then some (env.set i (some (.oi c (putD f d fs)))) else none
  | _ => none
def gAttr (K : PySem.W.Frag) (f : Str) (to : TE) : TG := fun y σ H Q => to σ H fun x H1 => ∃ (a C dx : Addr) (fs : List (Str × L2.V)), x = .ref a ∧ H1 a = some (.ins C dx fs) ∧ Cls K C ∧ NoAttr K C f ∧ fs.length < 1000 ∧ Q σ (upd H1 a (.ins C dx (putF f y fs)))
section
variable {X : Cx} {g : Gi} {pos : Pos} {o : Expr} {to : TE} {f : Str}
theorem pg_attr (ho : PE X o to) : PG X (.Attribute o f pos) (gAttr X.K f to) := by
  refine ⟨fun pins s σ H y u Q I r h => ?_⟩
  rw [assign_Attribute]
  refine wpAny_bind (wpAny_holding (thn (ho.run pins s σ H _ I h) fun ov s2 ⟨x, H2, I2, rx, a, C, dx, fs, ex, ea, c, n, l, q2⟩ => ?_))
  subst ex
  obtain rfl : ov = Value.ref a := rx
  refine wpAny_bind (wpAny_standAt (wpAny_bind (wpAny_holding ?_)))
  exact setattr_ok I2 ea c n l r fun s3 I3 => wpAny_release ⟨σ, _, I3, q2⟩
theorem vg_attr {i : Nat} (G : GiOk g) (hK : g.K = X.K) (ho : PE X o (tVar i)) : TgV X g (.Attribute o f pos) (gtF g i f) := by
  refine ⟨_, pg_attr ho, fun B env env' s σ H d v Q sr r e k => ?_⟩
  unfold gtF at e
  split at e
  · next c fs hx =>
    split at e
    · next hcl =>
      obtain ⟨hc, hl⟩ := Bool.and_eq_true_iff.mp hcl
      cases e
      obtain ⟨w, h1, h2⟩ := sr.slot i _ hx
      obtain ⟨a, dx, vs, rfl, h3, h4, h5, h6⟩ := h2
      obtain ⟨k1, k2⟩ := G.fld c f hc
      exact ⟨_, h1, a, g.ca c, dx, vs, rfl, h3, hK ▸ (G.cls c k1).cl, hK ▸ k2, by rw [h5.length]; exact of_decide_eq_true hl, k σ _ (sr.mut hx rfl h1 h4.f h4.al h4.new ⟨a, dx, _, rfl, upd_same, h4, h5.put r, h6⟩)⟩
    · cases e
  · cases e
end
end Vi

set_option Elab.async false
set_option linter.all false
set_option maxRecDepth 100000
set_option maxHeartbeats 2000000
namespace Vi
open PySem L2 PyProof.Rows

/-! ### own operations -/
/-- a special method of the class c, with n parameters -/
structure VOp (X : Cx) (g : Gi) (c : Nat) (name : Str) (n : Nat) (F : Fn) : Prop where
  ex : ∃ (k : Nat) (f : Addr) (fd : FuncData) (ps : List Str), FnG X.prog X.w X.K X.mg X.base k f fd ps (spD g ps.length F) ∧ Room (k + 1) X.A ∧ PySem.W.findIn X.K (.ref (g.ca c)) name = some (some (.ref f)) ∧ PySem.W.isFn X.K (.ref f) = true ∧ Binds X.K fd ps [] ∧ ps.length = n ∧ PySem.W.fnIn X.K f = true
  sf : PySem.W.selfFirst X.K (g.ca c) = true
/-- of which classes the operation is known -/
abbrev Tbl := Nat → Option Fn
def VOps (X : Cx) (g : Gi) (name : Str) (n : Nat) (T : Tbl) : Prop := ∀ c F, T c = some F → VOp X g c name n F
def NNI (v : L2.V) : Prop := ∀ u, RelV v u → u ≠ .notImplemented
theorem rep_nni {g : Gi} {F : Hp} {al : Nat → Option Addr} {d : D} {v : L2.V} (h : Rep g F al d v) : NNI v := fun u r e => by
  subst e
  have key : ∀ a : Addr, ¬ RelV (.ref a) .notImplemented := fun a z => by cases z
  cases d with
  | non => rw [show v = _ from h] at r; cases r
  | bl b => rw [show v = _ from h] at r; cases r
  | int i => rw [show v = _ from h] at r; obtain ⟨_, z⟩ := r; cases z
  | str x => rw [show v = _ from h] at r; obtain ⟨_, z⟩ := r; cases z
  | tup xs => obtain ⟨a, vs, rfl, _⟩ := h; exact key a r
  | lst xs => obtain ⟨a, vs, rfl, _⟩ := h; exact key a r
  | kl xs => obtain ⟨a, vs, rfl, _⟩ := h; exact key a r
  | ref n => obtain ⟨a, rfl, _⟩ := h; exact key a r
  | obj c fs => obtain ⟨a, dx, vs, rfl, _⟩ := h; exact key a r
  | cls c => rw [show v = _ from h] at r; exact key _ r
  | dK kvs => obtain ⟨a, vs, rfl, _⟩ := h; exact key a r
  | dT kvs => obtain ⟨a, vs, rfl, _⟩ := h; exact key a r
theorem nni_back {v : L2.V} {u : Value} {Q : Value → Shared → Prop} {s : Shared} (n : NNI v) (r : RelV v u) (q : Q u s) : PySem.W.CmpBack Q u s := by
  have z := n u r
  cases u <;> first | exact absurd rfl z | exact q
section
variable {X : Cx} {g : Gi} {B : Bg} {W : WXv} {env : Env} {st : Sta} {σ : L2.St} {H : Hp} {s : Shared} {pins : List (Addr × Obj)} {c n : Nat} {name : Str} {F : Fn} {Q : VK}
theorem PostE.nni {r : R D} (p : PostE g B W env st σ H (r.bind fun d h' => .ok (.d d) h') Q) : PostE g B W env st σ H (r.bind fun d h' => .ok (.d d) h') (fun v H' => Q v H' ∧ NNI v) := by
  cases r with
  | ok d h => exact fun v H' s' e1 ev sr vr => ⟨p v H' s' e1 ev sr vr, rep_nni (show Rep g s'.F s'.al d v from vr)⟩
  | exc x h => exact p
  | stuck => exact p
/-- the call of the def, at A -/
theorem run_op {f : Addr} {k : Nat} {fd : FuncData} {ps : List Str} {A : Around} {ds : List D} {vs : List L2.V} {us : List Value} (b : Bd X g W) (FG : FnG X.prog X.w X.K X.mg X.base k f fd ps (spD g ps.length F)) (hA : A = X.A ∨ A = X.A.in1) (hr : Room (k + 1) X.A) (hb : Binds X.K fd ps [])
    (I : Inv X pins σ H s) (r : Vals vs us) (hl : vs.length = ps.length) (sr : SR g B env st σ H) (rr : Reps g st.F st.al ds vs) (p : PostE g B W env st σ H ((F ds st.h).bind fun d h' => .ok (.d d) h') Q) :
    wpAny (model X.prog X.w) A (call (.ref f) us) (EP X pins σ Q) X.xe s := by
  have sp := spD_of sr hl rr p
  have bt : BindsTo s fd ⟨us, []⟩ (ps.zip us) := by
    have z := hb s us I.kIn (by rw [List.append_nil, ← r.length]; exact hl)
    rwa [List.append_nil] at z
  have go : codeAny (model X.prog X.w) A (.call (.ref f) ⟨us, []⟩) (CR (L2.CX X.prog X.w) X.stack X.prog X.w H s Q (fun cls d H' => W cls d σ H')) s := by
    rcases hA with rfl | rfl
    · exact FG.run _ X.stack s H ⟨us, []⟩ us vs Q _ (hr.mono (Nat.le_succ k)) b.gd I.env0 bt r sp
    · exact FG.run _ X.stack s H ⟨us, []⟩ us vs Q _ hr.in1 b.gd I.env0.in1 bt r sp
  refine wpAny_call (codeAny_mono go fun r s' hq => ?_)
  cases r with
  | error e => exact passAt b.tk σ pins H s e s' I hq
  | ok fl =>
    cases fl with
    | ret u => exact I.after hq
    | next => exact False.elim hq
    | brk => exact False.elim hq
    | cont => exact False.elim hq
theorem obj_at (G : GiOk g) (sr : SR g B env st σ H) (I : Inv X pins σ H s) {fs : List (Str × D)} {v : L2.V} {u : Value} (h : VlRep g B env σ st H (.d (.obj c fs)) v) (r : RelV v u) : ∃ a ox od, v = .ref a ∧ u = .ref a ∧ PySem.W.InstAt s.heap a ox (g.ca c) (some od) := by
  obtain ⟨a, dx, vs, rfl, h2, _⟩ := h
  obtain rfl : u = Value.ref a := r
  obtain ⟨mA, O, _⟩ := ins_get I.hok (sr.good.fle _ _ h2)
  obtain ⟨od, J, _⟩ := O.look
  exact ⟨a, _, od, rfl, rfl, J⟩
end
/-! a two-place operation that may look at everything -/
def OpW (X : Cx) (g : Gi) (W : WXv) (f : Value → Value → Sem Value) (F : Vl → Vl → Hc → R Vl) : Prop :=
  ∀ (B : Bg) (env : Env) (st : Sta) (σ : L2.St) (H : Hp) (s : Shared) (pins : List (Addr × Obj)) (x y : Vl) (v w : L2.V) (u1 u2 : Value) (Q : VK), Inv X pins σ H s → RelV v u1 → RelV w u2 → SR g B env st σ H → VlRep g B env σ st H x v → VlRep g B env σ st H y w →
    PostE g B W env st σ H (F x y st.h) Q → wpAny (model X.prog X.w) X.A (f u1 u2) (EP X pins σ Q) X.xe s
theorem OpV.w {X : Cx} {g : Gi} {W : WXv} {f : Value → Value → Sem Value} {F : Vl → Vl → Hc → R Vl} (h : OpV X g f F) : OpW X g W f F := by
  obtain ⟨r, h1, h2⟩ := h
  intro B env st σ H s pins x y v w u1 u2 Q I r1 r2 sr rx ry p
  exact h1 pins s σ H v w u1 u2 Q I r1 r2 (h2 B W env st σ H x y v w Q sr rx ry p)
def fOps (T : Tbl) (F0 : Vl → Vl → Hc → R Vl) (x y : Vl) (h : Hc) : R Vl := match x with
  | .d (.obj c fs) => (match T c, y with
    | some F, .d (.obj c2 gs) => if c2 = c then (F [.obj c fs, .obj c2 gs] h).bind fun d h' => .ok (.d d) h' else .stuck
    | _, _ => .stuck)
  | _ => F0 x y h
/-- e1 == e2, where own classes know of it: nf says which types may stand at the right -/
def fEqs (g : Gi) (T : Tbl) (nf : Nat → Ty → Bool) (F0 : Vl → Vl → Hc → R Vl) (x y : Vl) (h : Hc) : R Vl := match x with
  | .d (.obj c fs) => (match T c, y with
    | some F, .d yd => (match yd.ty g with
      | some t => if nf c t then (F [.obj c fs, yd] h).bind fun d h' => .ok (.d d) h' else .stuck
      | none => .stuck)
    | _, _ => .stuck)
  | _ => F0 x y h
section
variable {X : Cx} {g : Gi} {W : WXv} {T : Tbl}
theorem o_ops {op : Operator} {F0 : Vl → Vl → Hc → R Vl} (b : Bd X g W) (V : VOps X g (PySem.dunder op.info.2) 2 T) (h0 : OpV X g (binaryOp op) F0) : OpW X g W (binaryOp op) (fOps T F0) := by
  intro B env st σ H s pins x y v w u1 u2 Q I r1 r2 sr rx ry p
  unfold fOps at p
  split at p
  · next c fs =>
    split at p
    · next F c2 gs hT =>
      split at p
      · next hc =>
        subst hc
        obtain ⟨k, f, fd, ps, FG, hr, hs, hf, hb, hn, _⟩ := (V c2 F hT).ex
        obtain ⟨a, ox, od, rfl, rfl, J⟩ := obj_at b.G sr I rx r1
        obtain ⟨a2, ox2, od2, rfl, rfl, J2⟩ := obj_at b.G sr I ry r2
        obtain ⟨m, hF⟩ := I.fr
        refine PySem.W.binop_K hF I.ok.mod.kin J J2.type (V c2 F hT).sf hs hf ?_
        refine wpAny_mono (run_op (vs := [.ref a, .ref a2]) b FG (.inl rfl) hr hb I (.cons rfl (.cons rfl .nil)) hn.symm sr (Reps.cons rx (Reps.cons ry Reps.nil)) (PostE.nni p)) (fun u s' ⟨v, H', I', rv, q, n⟩ => nni_back n rv ⟨v, H', I', rv, q⟩) fun _ _ z => z
      · exact p.elim
    · exact p.elim
  · obtain ⟨r, q1, q2⟩ := h0
    exact q1 pins s σ H v w u1 u2 Q I r1 r2 (q2 B W env st σ H x y v w Q sr rx ry p)
theorem o_eqs {nf : Nat → Ty → Bool} {F0 : Vl → Vl → Hc → R Vl} (b : Bd X g W) (V : VOps X g "__eq__" 2 T) (hnf : ∀ c t, nf c t = true → PySem.W.notFirst X.K (g.ca c) (t.val g) = true) (h0 : OpV X g (compareOp .Eq) F0) : OpW X g W (compareOp .Eq) (fEqs g T nf F0) := by
  intro B env st σ H s pins x y v w u1 u2 Q I r1 r2 sr rx ry p
  unfold fEqs at p
  split at p
  · next c fs =>
    split at p
    · next F yd hT =>
      split at p
      · next t ht =>
        split at p
        · next hc =>
          obtain ⟨k, f, fd, ps, FG, hr, hs, hf, hb, hn, _⟩ := (V c F hT).ex
          obtain ⟨a, ox, od, rfl, rfl, J⟩ := obj_at b.G sr I rx r1
          obtain ⟨m, hF⟩ := I.fr
          have ty : TyX X.K H w (t.val g) := b.K ▸ Vl.tyX (x := .d yd) b.G sr.good ry (ty_up ht)
          obtain ⟨P, Z, pz, _⟩ := kit_of I r2 ty
          refine PySem.W.cmp_K (op := .Eq) (tb := t.val g) (by have := b.un; omega) hF I.ok.mod.kin J (Z.ty _ _ I.kIn pz) (hnf c t hc) hs hf ?_
          refine wpAny_mono (run_op (vs := [.ref a, w]) b FG (.inl rfl) hr hb I (.cons rfl (.cons r2 .nil)) hn.symm sr (Reps.cons rx (Reps.cons ry Reps.nil)) (PostE.nni p)) (fun u s' ⟨v, H', I', rv, q, n⟩ => nni_back n rv ⟨v, H', I', rv, q⟩) fun _ _ z => z
        · exact p.elim
      · exact p.elim
    · exact p.elim
  · obtain ⟨r, q1, q2⟩ := h0
    exact q1 pins s σ H v w u1 u2 Q I r1 r2 (q2 B W env st σ H x y v w Q sr rx ry p)
end
section
variable {X : Cx} {g : Gi} {B : Bg} {W : WXv} {pos : Pos} {a b : Expr} {ma mb : ME}
theorem ve_binW {op : Operator} {F : Vl → Vl → Hc → R Vl} (ho : OpW X g W (binaryOp op) F) (ha : PE X a (tE g B W ma)) (hb : PE X b (tE g B W mb)) : PE X (.BinOp a op b pos) (tE g B W (m2 F ma mb)) := by
  refine ⟨fun pins s σ H Q I ⟨env, st, sr, p⟩ => ?_⟩
  exact wpAny_BinOp (binT (R := fun v w H2 => ∃ s2 x y, SR g B env s2 σ H2 ∧ Evo st H s2 H2 ∧ VlRep g B env σ s2 H2 x v ∧ VlRep g B env σ s2 H2 y w ∧ PostE g B W env s2 σ H2 (F x y s2.h) Q) ha hb I (bind2E (Q := Q) sr p)
    fun v u s2 x y H2 I2 rx ry ⟨st2, x', y', sr2, _, r1, r2, p2⟩ => ho B env st2 σ H2 s2 pins x' y' x y v u Q I2 rx ry sr2 r1 r2 p2)
theorem ve_cmpW {op : CmpOp} {F : Vl → Vl → Hc → R Vl} (ho : OpW X g W (compareOp op) F) (ha : PE X a (tE g B W ma)) (hb : PE X b (tE g B W mb)) (hm : behindInMarks op b = false) : PE X (.Compare a [op] [b] pos) (tE g B W (m2 F ma mb)) := by
  refine ⟨fun pins s σ H Q I ⟨env, st, sr, p⟩ => ?_⟩
  exact wpAny_Compare1 (binT (R := fun v w H2 => ∃ s2 x y, SR g B env s2 σ H2 ∧ Evo st H s2 H2 ∧ VlRep g B env σ s2 H2 x v ∧ VlRep g B env σ s2 H2 y w ∧ PostE g B W env s2 σ H2 (F x y s2.h) Q) ha hb I (bind2E (Q := Q) sr p)
    fun v u s2 x y H2 I2 rx ry ⟨st2, x', y', sr2, _, r1, r2, p2⟩ => ho B env st2 σ H2 s2 pins x' y' x y v u Q I2 rx ry sr2 r1 r2 p2) hm
theorem vt_cmpW {op : CmpOp} {F : Vl → Vl → Hc → R Vl} (ho : OpW X g W (compareOp op) F) (ha : PE X a (tE g B W ma)) (hb : PE X b (tE g B W mb)) (hm : behindInMarks op b = false) : PT X (.Compare a [op] [b] pos) (tT g B W (asB (m2 F ma mb))) := by
  refine ⟨fun pins s σ H Q I h => ?_⟩
  obtain ⟨env, st, sr, p⟩ := tE_asB h
  refine wpAny_isTrue_Compare1 (thn (ha.run pins s σ H _ I (bind2E sr p)) fun v s1 ⟨x, H1, I1, r1, q1⟩ => thn (hb.run pins s1 σ H1 _ I1 q1) fun u s2 ⟨y, H2, I2, r2, st2, x', y', sr2, _, rx, ry, p2⟩ =>
    thn (ho B env st2 σ H2 s2 pins x' y' x y v u _ I2 r1 r2 sr2 rx ry p2) fun c s3 ⟨z, H3, I3, r3, k, e, q3⟩ => ?_) hm
  subst e
  cases r3
  exact wpAny_truthy_bool ⟨H3, I3, q3⟩
def fNegs (T : Tbl) (x : Vl) (h : Hc) : R Vl := match x with
  | .d (.obj c fs) => (match T c with
    | some F => (F [.obj c fs] h).bind fun d h' => .ok (.d d) h'
    | none => .stuck)
  | _ => fNeg x h
theorem ve_negs {T : Tbl} (d : Bd X g W) (V : VOps X g "__neg__" 1 T) (ha : PE X a (tE g B W ma)) : PE X (.UnaryOp .USub a pos) (tE g B W (m1 (fNegs T) ma)) := by
  refine ⟨fun pins s σ H Q I ⟨env, st, sr, p⟩ => ?_⟩
  refine UnaryOp_ (thn (ha.run pins s σ H _ I (bindE (Q := Q) sr p)) fun u s1 ⟨v, H1, I1, r1, st1, x, sr1, _, rx, p1⟩ => ?_)
  unfold fNegs at p1
  split at p1
  · next c fs =>
    split at p1
    · next F hT =>
      obtain ⟨k, f, fd, ps, FG, hr, hs, hf, hb, hn, _⟩ := (V c F hT).ex
      obtain ⟨a, ox, od, rfl, rfl, J⟩ := obj_at d.G sr1 I1 rx r1
      obtain ⟨m, hF⟩ := I1.fr
      exact PySem.W.ksp_neg hF I1.ok.mod.kin J hs hf (run_op (vs := [.ref a]) d FG (.inl rfl) hr hb I1 (.cons rfl .nil) hn.symm sr1 (Reps.cons rx Reps.nil) p1)
    · exact p1.elim
  · refine un_neg pins s1 σ H1 v u Q I1 r1 ?_
    unfold fNeg at p1
    split at p1
    · exact ⟨_, rx, PostE.pure sr1 p1 rfl⟩
    · exact p1.elim
/-- abs -/
def fAbss (T : Tbl) (xs : List Vl) (h : Hc) : R Vl := match xs with
  | [.d (.obj c fs)] => (match T c with
    | some F => (F [.obj c fs] h).bind fun d h' => .ok (.d d) h'
    | none => .stuck)
  | _ => fAbs xs h
theorem ve_abss {T : Tbl} {p : Pos} (d : Bd X g W) (V : VOps X g "__abs__" 1 T) (hg : Gl X "abs") (hm : X.mg "abs" = none) (ha : PA X [a] (tA g B W A))
    (he : starEach [a] X.env = (false, eval a X.env) :: starEach [] X.env := by rfl) (hpl : (backTo pos (starEach [] X.env)).any (·.1) = false := by rfl) : PE X (.Call (.Name "abs" p) [a] [] pos) (tE g B W (mA1 (fAbss T) A)) := by
  refine ⟨fun pins s σ H Q I ⟨env, st, sr, pp⟩ => ?_⟩
  refine wpAny_Call_Name_kw (ld_blt (u := .builtin "abs") I hg hm (by decide +kernel) ?_ (by decide) (by decide))
  refine PyProof.Rows.callWith_builtin1 (thn (ha.run pos pins s σ H _ I (bindA (Q := Q) sr pp)) fun us s1 ⟨vs, H1, I1, r1, st1, xs, sr1, _, rx, p1⟩ => ?_) he hpl
  unfold fAbss at p1
  split at p1
  · next c fs =>
    split at p1
    · next F hT =>
      obtain ⟨k, f, fd, ps, FG, hr, hs, hf, hb, hn, _⟩ := (V c F hT).ex
      obtain ⟨v, rfl, rv⟩ := rx.one
      cases r1 with
      | cons r1 rr =>
        cases rr
        obtain ⟨a, ox, od, rfl, rfl, J⟩ := obj_at d.G sr1 I1 rv r1
        refine PySem.Calls.call_function_entry kind_abs plain_abs entry_abs (args_abs _) ?_
        unfold Builtin.«abs»
        refine wpAny_bind (m := oneArg "abs" _) (wpAny_pure ?_)
        refine wpAny_bind (m := callSpecial? (.ref a) (Str.ofString "__abs__")) ?_
        refine PySem.W.special_fn I1.kIn J hs (beq_iff_eq.mp hf) ?_
        refine wpAny_mono (run_op (A := X.A.in1) (vs := [.ref a]) d FG (.inr rfl) hr hb I1 (.cons rfl .nil) hn.symm sr1 (Reps.cons rv Reps.nil) p1) (fun u s' q => ?_) fun _ _ z => z
        exact wpAny_pure ⟨_, rfl, q⟩
    · exact p1.elim
  · obtain ⟨r, q1, q2⟩ := (c_abs : CallV X g (.builtin "abs") fAbs)
    exact q1 pins s1 σ H1 vs us Q I1 r1 (q2 B W env st1 σ H1 xs vs Q sr1 rx p1)
end
end Vi

set_option Elab.async false
set_option linter.all false
set_option maxRecDepth 100000
set_option maxHeartbeats 2000000
namespace Vi
open PySem L2 PyProof.Rows

/-! ### classmethods, and a class in a slot that is called -/
structure VCMet (X : Cx) (g : Gi) (c : Nat) (m : Str) (n : Nat) (dd : List D) (F : Fn) : Prop where
  ex : ∃ (k : Nat) (p f : Addr) (mc : Value) (fd : FuncData) (ps : List Str) (dvs : List L2.V) (ds : List Value), FnG X.prog X.w X.K X.mg X.base k f fd ps (spD g ps.length F) ∧ Room k X.A ∧ ClX.CRead X.K (g.ca c) mc ∧ ClX.CMet X.K (g.ca c) mc m p f ∧
    Binds X.K fd ps ds ∧ Vals dvs ds ∧ (∀ F al, Reps g F al dd dvs) ∧ (n + 1) + dvs.length = ps.length
def mCMet (c : Nat) (n : Nat) (F : Fn) (dd : List D) (o : ME) (a : MA) : ME := fun env h => (o env h).bind fun x h1 => match x with
  | .d (.cls c') => if c' = c then (a env h1).bind fun xs h2 => (if xs.length = n then (match datas xs with
    | some ds => (F (.cls c :: (ds ++ dd)) h2).bind fun d h' => .ok (.d d) h'
    | none => .stuck) else .stuck) else .stuck
  | _ => .stuck
section
variable {X : Cx} {g : Gi} {B : Bg} {W : WXv} {pos p apos : Pos} {e o : Expr} {es : List Expr} {A : MA} {F : Fn} {dd : List D} {n c : Nat} {x m : Str} {mo : ME}
theorem ve_cmeth {pl : Sem Bool} (b : Bd X g W) (V : VCMet X g c m n dd F) (ho : PE X o (tE g B W mo)) (ha : PA X (e :: es) (tA g B W A))
    (hst : starEach (e :: es) X.env = (false, eval e X.env) :: starEach es X.env := by rfl) (hpl : (backTo pos (starEach es X.env)).any (·.1) = false := by rfl)
    (ht : eval (.Call (.Attribute o m apos) (e :: es) [] pos) X.env = (do
      let ov ← eval o X.env
      standAt apos.atName
      let (f, first) ← holding [ov] (getMethod ov m pl)
      callWith pos f first (backTo pos (starEach (e :: es) X.env)) (backToKw pos (keywordEach [] X.env))) := by rfl) :
    PE X (.Call (.Attribute o m apos) (e :: es) [] pos) (tE g B W (mCMet c n F dd mo A)) := by
  obtain ⟨k, q, f, mc, fd, ps, dvs, ds, FG, hr, cr, cm, hb, hd, hdd, hn⟩ := V.ex
  refine ⟨fun pins s σ H Q I ⟨env, st, sr, pp⟩ => ?_⟩
  refine PySem.W.methodCall_KW (pl := pl) (thn (ho.run pins s σ H _ I (bindE (Q := Q) sr pp)) fun u s1 ⟨v, H1, I1, rx, st1, ox, sr1, ev1, r1, p1⟩ => ?_) ht
  split at p1
  · next c' =>
    split at p1
    · next hc =>
      subst hc
      obtain rfl : v = .ref (g.ca c') := r1
      obtain rfl : u = Value.ref (g.ca c') := rx
      refine ClX.getmethcm_ok I1 cr cm fun s2 I2 => ?_
      refine ClX.callwith_cm I2 (ClX.base_none I1 (Nat.le_refl _)) cm.fi (thn (ha.run pos _ s2 σ H1 _ I2 (bindA (Q := Q) sr1 p1)) fun us s3 ⟨vs, H2, I3, rv, st2, xs, sr2, ev2, r2, p2⟩ => ⟨⟨ClX.pin_at I3, I3.kIn⟩, ?_⟩) hst hpl
      by_cases hx : xs.length = n
      · rw [if_pos hx] at p2
        cases ed : datas xs with
        | none => rw [ed] at p2; exact p2.elim
        | some dl =>
          rw [ed] at p2
          have rr : Reps g st2.F st2.al (.cls c' :: (dl ++ dd)) ((.ref (g.ca c') :: vs) ++ dvs) := Reps.cons (show Rep g st2.F st2.al (.cls c') (.ref (g.ca c')) from rfl) ((r2.datas ed).append (hdd st2.F st2.al))
          have sp := spD_of sr2 (n := ps.length) (by rw [List.length_append, List.length_cons, r2.length, hx]; exact hn) rr p2
          have rA : Vals ((.ref (g.ca c') :: vs) ++ dvs) ((.ref (g.ca c') :: us) ++ ds) := (show Vals (L2.V.ref (g.ca c') :: vs) (.ref (g.ca c') :: us) from .cons rfl rv).append hd
          have hl : ((Value.ref (g.ca c') :: us) ++ ds).length = ps.length := by
            rw [← rA.length]
            exact FG.len _ _ _ _ sp
          refine thn (Q := EP X ((s1.heap.objs.size, PySem.W.methodObj (.ref f) (.ref (g.ca c'))) :: pins) σ Q) (wpAny_call (PySem.W.method_call (ClX.pin_at I3) ?_)) fun _ _ y => ClX.unpinE y
          refine codeAny_mono (FG.run X.A X.stack s3 H2 ⟨.ref (g.ca c') :: us, []⟩ _ _ Q (fun cls d H' => W cls d σ H') hr b.gd I3.env0 (hb s3 (.ref (g.ca c') :: us) I3.kIn hl) rA sp) fun r s' hq => ?_
          cases r with
          | error e => exact passAt b.tk σ _ H2 s3 e s' I3 hq
          | ok fl =>
            cases fl with
            | ret u => exact I3.after hq
            | next => exact False.elim hq
            | brk => exact False.elim hq
            | cont => exact False.elim hq
      · rw [if_neg hx] at p2
        exact p2.elim
    · exact p1.elim
  · exact p1.elim
/-- x(..), x a slot that holds the class c -/
def mMakeL (i c n : Nat) (F : FnI) (dd : List D) (a : MA) : ME := fun env h => match env[i]? with
  | some (some (.d (.cls c'))) => if c' = c then (a env h).bind (fMake c n F dd) else .stuck
  | _ => .stuck
theorem ve_makeL {i : Nat} {F : FnI} (b : Bd X g W) (V : VMake X g c n dd F) (hN : X.N[i]? = some x) (hv : Vis X.env.scope x) (ha : PA X (e :: es) (tA g B W A)) (hdb : (x == ("__debug__" : Str)) = false := by decide) (hcd : (x == ("__classdict__" : Str)) = false := by decide)
    (he : starEach (e :: es) X.env = (false, eval e X.env) :: starEach es X.env := by rfl) (hpl : (backTo pos (starEach es X.env)).any (·.1) = false := by rfl) :
    PE X (.Call (.Name x p) (e :: es) [] pos) (tE g B W (mMakeL i c n F dd A)) := by
  have kp : PySem.W.keepIn X.K (.ref (g.ca c)) = true := by
    obtain ⟨k, f, fd, ps, q, dvs, ds, FG, hr, M, _⟩ := V.ex
    exact M.kp
  refine ⟨fun pins s σ H Q I ⟨env, st, sr, pp⟩ => ?_⟩
  unfold mMakeL at pp
  split at pp
  · next c' hx =>
    split at pp
    · next hc =>
      subst hc
      obtain ⟨v, h1, h2⟩ := sr.slot i _ hx
      obtain rfl : v = .ref (g.ca c') := h2
      refine wpAny_Call_Name_kw (thn ((pe_var (pos := p) hN hv hdb hcd).run pins s σ H (fun v H1 => v = .ref (g.ca c') ∧ H1 = H) I ⟨.ref (g.ca c'), h1, rfl, rfl⟩) fun u s1 ⟨v, H1, I1, r1, q1⟩ => ?_)
      obtain ⟨rfl, rfl⟩ := q1
      cases r1
      refine PySem.W.callWith_K (h₀ := X.base) I1.ok.mod.kin kp (thn (ha.run pos pins s1 σ _ _ I1 (bindA (Q := Q) sr pp)) fun us s2 ⟨vs, H2, I2, r, st1, xs, sr1, ev1, r1, p1⟩ => ⟨I2.kIn, ?_⟩) he hpl
      unfold fMake at p1
      by_cases hl : xs.length = n
      · rw [if_pos hl] at p1
        cases e1 : datas xs with
        | none => rw [e1] at p1; exact p1.elim
        | some dl =>
          rw [e1] at p1
          exact run_makeG b V I2 r sr1 (r1.datas e1) (by rw [r1.length, hl]) p1
      · rw [if_neg hl] at p1
        exact p1.elim
    · exact pp.elim
  · exact pp.elim
end
end Vi

set_option Elab.async false
set_option linter.all false
set_option maxRecDepth 100000
set_option maxHeartbeats 2000000
namespace Vi
open PySem L2 PyProof.Rows

/-! ### repr of data -/
/-- what may be shown -/
def shwB (d : PyData) : Bool := d.showable && (decide (d.depth ≤ 60) && decide (d.shown.length ≤ sizeLine))
mutual
theorem hasDict_toP : ∀ d : D, (toP d).hasDict = false
  | .non => by simp only [toP, PyData.hasDict]
  | .bl _ => by simp only [toP, PyData.hasDict]
  | .int _ => by simp only [toP, PyData.hasDict]
  | .str _ => by simp only [toP, PyData.hasDict]
  | .tup xs => by simp only [toP, PyData.hasDict]; exact hasDict_toPs xs
  | .lst xs => by simp only [toP, PyData.hasDict]; exact hasDict_toPs xs
  | .kl xs => by simp only [toP, PyData.hasDict]; exact hasDict_toPs xs
  | .ref _ => by simp only [toP, PyData.hasDict]
  | .obj _ _ => by simp only [toP, PyData.hasDict]
  | .cls _ => by simp only [toP, PyData.hasDict]
  | .dK _ => by simp only [toP, PyData.hasDict]
  | .dT _ => by simp only [toP, PyData.hasDict]
theorem hasDict_toPs : ∀ d : List D, PyData.hasDictAll (toPs d) = false
  | [] => by simp only [toPs, PyData.hasDictAll]
  | x :: r => by simp only [toPs, PyData.hasDictAll, hasDict_toP x, hasDict_toPs r, Bool.or_false]
end
def fRepr (xs : List Vl) (h : Hc) : R Vl := match xs with
  | [x] => (match x.dat? with
    | some d => if shwB (toP d) then .ok (.d (.str (toP d).shown)) h else .stuck
    | none => .stuck)
  | _ => .stuck
def rRepr (K : PySem.W.Frag) : List L2.V → Hp → VK → Prop := fun xs H Q => ∃ (v : L2.V) (d : PyData), xs = [v] ∧ Dp K H v d ∧ d.hasDict = false ∧ shwB d = true ∧ Q (.str d.shown) H
theorem call_repr {X : Cx} (hg : X.A.guards = some []) (hu : X.A.units + 64 < cLine) : CallR X (.builtin "repr") (rRepr X.K) := by
  intro pins s σ H xs us Q I r h
  obtain ⟨v, d, rfl, dp, hd, hs, q⟩ := h
  obtain ⟨s1, hs⟩ := Bool.and_eq_true_iff.mp hs
  obtain ⟨s2, s3⟩ := Bool.and_eq_true_iff.mp hs
  have s2 := of_decide_eq_true s2
  have s3 := of_decide_eq_true s3
  cases r with
  | cons r rr =>
    cases rr
    have all : ∀ (u : Tok) (tk : Tok), EP X pins σ Q (.str d.shown u) { s with toks := tk } := fun u tk => ⟨.str d.shown, H, I.tok _, ⟨_, rfl⟩, q⟩
    cases dp with
    | non => cases r; exact PySem.P.repr_of_none (all _ _)
    | bl b => cases r; exact PySem.P.repr_of_bool (all _ _)
    | int i =>
      obtain ⟨t, rfl⟩ := r
      have z : i.natAbs.log2 < 1920 := of_decide_eq_true (by simpa only [PyData.showable] using s1)
      exact PySem.P.repr_of_int z (all _ _)
    | str x =>
      obtain ⟨t, rfl⟩ := r
      exact PySem.P.repr_of_str (all _ _) s3
    | @lst a ys ds h1 h2 =>
      cases r
      obtain ⟨as, rd⟩ := Dp.reads I (.list ds) (.ref a) (.ref a) (.lst h1 h2) rfl
      exact repr_of_reads' rd s1 (PyData.noDict_hsm hd) hg (by omega) (fun _ _ e => e) (fun h' u tk k => ⟨.str (PyData.list ds).shown, H, I.kept (t' := tk) k, ⟨_, rfl⟩, q⟩) s3
    | @tup a ys ds h1 h2 =>
      cases r
      obtain ⟨as, rd⟩ := Dp.reads I (.tuple ds) (.ref a) (.ref a) (.tup h1 h2) rfl
      exact repr_of_reads' rd s1 (PyData.noDict_hsm hd) hg (by omega) (fun _ _ e => e) (fun h' u tk k => ⟨.str (PyData.tuple ds).shown, H, I.kept (t' := tk) k, ⟨_, rfl⟩, q⟩) s3
theorem c_repr {X : Cx} {g : Gi} {W : WXv} (b : Bd X g W) : CallV X g (.builtin "repr") fRepr := by
  refine ⟨_, call_repr b.gd b.un, fun B W env s σ H xs vs Q sr r p => ?_⟩
  unfold fRepr at p
  split at p
  · next x =>
    obtain ⟨v, rfl, rv⟩ := r.one
    cases e : x.dat? with
    | none => rw [e] at p; exact p.elim
    | some d =>
      rw [e] at p
      by_cases hs : shwB (toP d) = true
      · simp only [if_pos hs] at p
        exact ⟨v, toP d, rfl, b.K ▸ VlRep.dp' sr.good rv e, hasDict_toP d, hs, PostE.pure sr p rfl⟩
      · simp only [if_neg hs] at p
        exact p.elim
  · exact p.elim
end Vi

set_option Elab.async false
set_option linter.all false
set_option maxRecDepth 100000
set_option maxHeartbeats 2000000
namespace Vi
open PySem L2 PyProof.Rows

/-! ### list comprehensions -/
def wipeE (env : Env) : List Nat → Env
  | [] => env
  | v :: vs => (wipeE env vs).set v none
theorem wipe_set {σ : L2.St} {i : Nat} {o : Option L2.V} : ∀ {vs : List Nat}, i ∈ vs → wipe (σ.set i o) vs = wipe σ vs := fun {vs} => by
  have key : ∀ vs : List Nat, wipe (σ.set i o) vs = if i ∈ vs then wipe σ vs else (wipe σ vs).set i o := fun vs => by
    induction vs with
    | nil => rw [if_neg (by simp)]; rfl
    | cons v vs ih =>
      show (wipe (σ.set i o) vs).set v none = _
      rw [ih]
      by_cases e : i = v
      · subst e
        rw [if_pos (List.mem_cons_self ..)]
        by_cases h : i ∈ vs
        · rw [if_pos h]; rfl
        · rw [if_neg h, List.set_set]; rfl
      · by_cases h : i ∈ vs
        · rw [if_pos h, if_pos (List.mem_cons_of_mem _ h)]; rfl
        · have h2 : i ∉ v :: vs := fun z => by
            rcases List.mem_cons.mp z with z | z
            · exact e z
            · exact h z
          rw [if_neg h, if_neg h2]
          show ((wipe σ vs).set i o).set v none = ((wipe σ vs).set v none).set i o
          rw [List.set_comm _ _ e]
  intro h
  rw [key vs, if_pos h]
/-- targets of a comprehension: they only store into the block's own slots -/
def CgQ (g : Gi) (own : List Nat) (t : TG) (T : TgF) : Prop :=
  ∀ (B : Bg) (env env' : Env) (s : Sta) (σ : L2.St) (H : Hp) (d : D) (v : L2.V) (Q : L2.St → Hp → Prop), SR g B env s σ H → Rep g s.F s.al d v → T d env = some env' → (∀ σ', wipe σ' own = wipe σ own → SR g B env' s σ' H → Q σ' H) → t v σ H Q
def CgsQ (g : Gi) (own : List Nat) (t : TGs) (T : List D → Env → Option Env) : Prop :=
  ∀ (B : Bg) (env env' : Env) (s : Sta) (σ : L2.St) (H : Hp) (ds : List D) (vs : List L2.V) (Q : L2.St → Hp → Prop), SR g B env s σ H → Reps g s.F s.al ds vs → T ds env = some env' → (∀ σ', wipe σ' own = wipe σ own → SR g B env' s σ' H → Q σ' H) → t vs σ H Q
section
variable {g : Gi} {own : List Nat}
theorem cg_name {i : Nat} (ho : i ∈ own) : CgQ g own (gName i) (gtN i) :=
  fun B env env' s σ H d v Q sr r e k => by
    have e : env.set i (some (.d d)) = env' := Option.some.inj e
    exact k _ (wipe_set ho) (e ▸ sr.set r)
theorem cg_nil : CgsQ g own gNil gtNil := fun B env env' s σ H ds vs Q sr r e k => by
  cases ds with
  | nil =>
    have e : env = env' := Option.some.inj e
    exact ⟨r, k _ rfl (e ▸ sr)⟩
  | cons _ _ => cases e
theorem cg_cons {t : TG} {u : TGs} {T : TgF} {U : List D → Env → Option Env} (q1 : CgQ g own t T) (q2 : CgsQ g own u U) : CgsQ g own (gCons t u) (gtCons T U) := by
  intro B env env' s σ H ds vs Q sr r e k
  cases ds with
  | nil => cases e
  | cons d ds =>
    obtain ⟨v, vr, ev, r1, r2⟩ := r
    have e : (T d env).bind (fun env1 => U ds env1) = some env' := e
    cases e1 : T d env with
    | none => rw [e1] at e; cases e
    | some env1 =>
      rw [e1] at e
      exact ⟨v, vr, ev, q1 B env env1 s σ H d v _ sr r1 e1 fun σ1 w1 sr1 => q2 B env1 env' s σ1 H ds vr Q sr1 r2 e fun σ2 w2 => k σ2 (w2.trans w1)⟩
theorem cg_tup {K : PySem.W.Frag} (hK : g.K = K) {n : Nat} {t : TGs} {U : List D → Env → Option Env} (q1 : CgsQ g own t U) : CgQ g own (gTup K n t) (gtT n U) := by
  intro B env env' s σ H d v Q sr r e k
  cases d with
  | tup ds =>
    obtain ⟨a, vs, rfl, h2, h3⟩ := r
    have e : (if ds.length = n then U ds env else none) = some env' := e
    by_cases hl : ds.length = n
    · rw [if_pos hl] at e
      exact ⟨a, vs, rfl, hK ▸ sr.good.sqT h2.sq, h3.length.trans hl, q1 B env env' s σ H ds vs Q sr h3 e k⟩
    · rw [if_neg hl] at e
      cases e
  | _ => cases e
end
section
variable {g : Gi} {B : Bg} {env : Env} {s s' s1 : Sta} {σ : L2.St} {H H' H1 : Hp}
theorem SR.wipe (sr : SR g B env s σ H) : ∀ vs : List Nat, SR g B (wipeE env vs) s (L2.wipe σ vs) H
  | [] => sr
  | v :: vs => (SR.wipe sr vs).unset
theorem Good.updO {p : Addr} {o : HO} (gd : Good g s H) (hf : s.F p = none) (hn : ∀ n, s.al n ≠ some p) : Good g s (upd H p o) := by
  refine ⟨fun a u h => ?_, gd.inj, fun n a h => ?_, fun n c h => ?_, gd.zed.keep rfl rfl (fun _ _ h => h) fun n a o h1 h2 => by rw [upd_ne (fun e => hn n (by rw [← e]; exact h1))]; exact h2⟩
  · have ne : a ≠ p := fun e => by rw [e, hf] at h; cases h
    rw [upd_ne ne]
    exact gd.fle a u h
  · obtain ⟨h1, h2, u, h3⟩ := gd.dom n a h
    have ne : a ≠ p := fun e => hn n (by rw [← e]; exact h)
    exact ⟨h1, h2, u, by rw [upd_ne ne]; exact h3⟩
  · obtain ⟨a, h1, h2⟩ := gd.cell n c h
    have ne : a ≠ p := fun e => hn n (by rw [← e]; exact h1)
    refine ⟨a, h1, ?_⟩
    exact h2.mv (fun o h3 => by rw [upd_ne ne]; exact h3) (fun _ _ h => h) fun _ _ h => h
theorem Evo.updO {p : Addr} {o : HO} (e : Evo s1 H1 s H) (hp : H1 p = none) : Evo s1 H1 s (upd H p o) := ⟨e.f, e.al, fun a u h n => by
  obtain ⟨h1, h2, h3⟩ := e.oth a u h n
  exact ⟨by rw [upd_ne (ne_of_none h hp)]; exact h1, h2, h3⟩, e.len, e.z⟩
/-- where the items come from: a list that is frozen or someone's own, a tuple -/
def Src (K : PySem.W.Frag) (b : Bool) (a : Addr) (vs : List L2.V) (s : Sta) (H : Hp) : Prop := match b with
  | true => StL K s a vs ∨ (H a = some (.lst vs) ∧ ∀ n, s.al n ≠ some a)
  | false => SqT K s.F a vs
theorem Src.evo {K : PySem.W.Frag} {b : Bool} {a : Addr} {vs : List L2.V} (e : Evo s H s' H') (h : Src K b a vs s H) : Src K b a vs s' H' := by
  cases b with
  | true =>
    rcases h with h | ⟨h1, h2⟩
    · exact .inl (h.le e.le)
    · obtain ⟨g1, _, g3⟩ := e.oth _ _ h1 h2
      exact .inr ⟨g1, g3⟩
  | false => exact sqT_mono e.f h
theorem Good.sqL' {K : PySem.W.Frag} {a : Addr} {vs : List L2.V} (gd : Good g s H) (h : SqL K s.F a vs) : SqL K H a vs := sqL_mono gd.fle h
end
def compL (o : Bool) (T : TgF) (mt : MB) (me : ME) : List D → List D → Env → Hc → R Vl
  | [], acc, _, h => .ok (Vl.ofL o acc) h
  | x :: r, acc, env, h => match T x env with
    | none => .stuck
    | some env1 => (match mt env1 h with
      | .ok b h1 => if b then (match me env1 h1 with
        | .ok (.d y) h2 => if acc.length < 16000000 then compL o T mt me r (acc ++ [y]) env h2 else .stuck
        | _ => .stuck) else compL o T mt me r acc env h1
      | _ => .stuck)
/-- tests: none, one -/
def mYes : MB := fun _ h => .ok true h
section
variable {X : Cx} {g : Gi} {B : Bg}
theorem vts_nil : PTs X [] (tT g B (fun _ _ _ _ => False) mYes) := ⟨fun pins s σ H Q I ⟨env, st, sr, p⟩ => (pts_nil (X := X)).run pins s σ H Q I (PostB.pure sr p)⟩
theorem vts_one {c : Expr} {m : MB} (h : PT X c (tT g B (fun _ _ _ _ => False) m)) : PTs X [c] (tT g B (fun _ _ _ _ => False) m) := pts_one h
end
/-- the loop's state: D is the new list -/
def CInv (g : Gi) (B : Bg) (W : WXv) (env : Env) (s1 : Sta) (σ : L2.St) (H1 : Hp) (own : List Nat) (o : Bool) (T : TgF) (mt : MB) (me : ME) (Q : VK) (Dn : Addr) (rest : List D) (H : Hp) : Prop :=
  ∃ (s' : Sta) (acc : List D) (vs : List L2.V), Good g s' H ∧ Evo s1 H1 s' H ∧ H Dn = some (.lst vs) ∧ s'.F Dn = none ∧ (∀ n, s'.al n ≠ some Dn) ∧ Reps g s'.F s'.al acc vs ∧ PostE g B W env s1 σ H1 (compL o T mt me rest acc (wipeE env own) s'.h) Q
section
variable {g : Gi} {B : Bg} {W : WXv} {env : Env} {s1 : Sta} {σ : L2.St} {H1 H : Hp} {own : List Nat} {o : Bool} {T : TgF} {mt : MB} {me : ME} {Q : VK} {Dn : Addr}
theorem comp_start {xs : List D} (sr : SR g B env s1 σ H1) (hD : H1 Dn = none) (p : PostE g B W env s1 σ H1 (compL o T mt me xs [] (wipeE env own) s1.h) Q) : CInv g B W env s1 σ H1 own o T mt me Q Dn xs (upd H1 Dn (.lst [])) := by
  obtain ⟨gd, ev⟩ := sr.good.add (o := .lst []) hD
  obtain ⟨f, a⟩ := own_free sr.good hD
  exact ⟨s1, [], [], gd, ev, upd_same, f, a, Reps.nil, p⟩
theorem comp_end (sr : SR g B env s1 σ H1) (hD : H1 Dn = none) (c : CInv g B W env s1 σ H1 own o T mt me Q Dn [] H) : Q (.ref Dn) H := by
  obtain ⟨s', acc, vs, gd, ev, hH, hf, ha, rr, p⟩ := c
  have hb : B.H Dn = none := by
    cases e : B.H Dn with
    | none => rfl
    | some u =>
      by_cases hn : ∀ n, B.s.al n ≠ some Dn
      · have z := (sr.evo.oth Dn u e hn).1
        rw [hD] at z
        cases z
      · have hn2 : ∃ n, B.s.al n = some Dn := Classical.byContradiction fun h => hn fun n z => h ⟨n, z⟩
        obtain ⟨n, h⟩ := hn2
        obtain ⟨_, _, u2, h3⟩ := sr.good.dom n Dn (sr.evo.al n Dn h)
        rw [hD] at h3
        cases h3
  have p : PostE g B W env s1 σ H1 (.ok (Vl.ofL o acc) s'.h) Q := p
  have sr2 := sr.call ev gd
  cases o with
  | true =>
    refine p (.ref Dn) H s' rfl ev sr2 ⟨Dn, vs, rfl, hH, ⟨hf, ha, hb⟩, fun i sl h1 h2 h3 => ?_, rr⟩
    obtain ⟨v, e1, e2⟩ := sr.slot i sl h1
    obtain ⟨a, u, rfl, h4⟩ := e2.there h2
    rw [h3] at e1
    cases e1
    rw [hD] at h4
    cases h4
  | false =>
    have ev2 := ev.frz (o := .lst vs) hf ha hD
    refine p (.ref Dn) H (s'.frz Dn (.lst vs)) rfl ev2 (sr.call ev2 (gd.frz hH hf ha)) ⟨Dn, vs, rfl, upd_same, rr.mono (frz_le hf) fun _ _ z => z⟩
/-- one turn -/
theorem comp_turn {t : TG} {d : D} {rest : List D} {v : L2.V} (q1 : CgQ g own t T)
    (sr : SR g B env s1 σ H1) (hD : H1 Dn = none) (c : CInv g B W env s1 σ H1 own o T mt me Q Dn (d :: rest) H) (rv : ∀ s', Evo s1 H1 s' H → Rep g s'.F s'.al d v) :
    t v (wipe σ own) H fun σ2 H2 => wipe σ2 own = wipe σ own ∧ tT g B (fun _ _ _ _ => False) mt σ2 H2 fun b H3 =>
      if b = true then tE g B (fun _ _ _ _ => False) me σ2 H3 fun y H4 => ∃ acc, H4 Dn = some (.lst acc) ∧ acc.length < sizeLine ∧ CInv g B W env s1 σ H1 own o T mt me Q Dn rest (upd H4 Dn (.lst (acc ++ [y])))
      else CInv g B W env s1 σ H1 own o T mt me Q Dn rest H3 := by
  obtain ⟨s', acc, vs, gd, ev, hH, hf, ha, rr, p⟩ := c
  have p : PostE g B W env s1 σ H1 (match T d (wipeE env own) with
    | none => .stuck
    | some env1 => (match mt env1 s'.h with
      | .ok b h1 => if b then (match me env1 h1 with
        | .ok (.d y) h2 => if acc.length < 16000000 then compL o T mt me rest (acc ++ [y]) (wipeE env own) h2 else .stuck
        | _ => .stuck) else compL o T mt me rest acc (wipeE env own) h1
      | _ => .stuck)) Q := p
  have ww : wipe (wipe σ own) own = wipe σ own := by
    have key : ∀ (l : List Nat), (∀ i ∈ l, i ∈ own) → wipe (wipe σ l) own = wipe σ own := fun l => by
      induction l with
      | nil => intro _; rfl
      | cons i l ih =>
        intro h
        show wipe ((wipe σ l).set i none) own = _
        rw [wipe_set (h i (List.mem_cons_self ..)), ih fun j hj => h j (List.mem_cons_of_mem _ hj)]
    exact key own fun _ h => h
  cases e1 : T d (wipeE env own) with
  | none => rw [e1] at p; exact p.elim
  | some env1 =>
    simp only [e1] at p
    refine q1 B (wipeE env own) env1 s' (wipe σ own) H d v _ ((sr.wipe own).call ev gd) (rv s' ev) e1 fun σ2 hw sr2 => ⟨hw.trans ww, env1, s', sr2, ?_⟩
    cases e2 : mt env1 s'.h with
    | ok b h1 =>
      simp only [e2] at p
      intro H3 s3 q3 ev3 sr3
      obtain ⟨k1, k2, k3⟩ := ev3.oth Dn _ hH ha
      cases b with
      | true =>
        rw [if_pos rfl] at p ⊢
        refine ⟨env1, s3, sr3, ?_⟩
        rw [q3]
        cases e3 : me env1 h1 with
        | ok y h2 =>
          rw [e3] at p
          cases y with
          | d y =>
            have p : PostE g B W env s1 σ H1 (if acc.length < 16000000 then compL o T mt me rest (acc ++ [y]) (wipeE env own) h2 else .stuck) Q := p
            by_cases hl : acc.length < 16000000
            · rw [if_pos hl] at p
              intro w H4 s4 q4 ev4 sr4 rw4
              obtain ⟨l1, l2, l3⟩ := ev4.oth Dn _ k1 k3
              have evA := (ev.trans ev3).trans ev4
              refine ⟨vs, l1, by rw [rr.length, sizeLine_eq]; omega, s4, acc ++ [y], vs ++ [w], sr4.good.updO (l2 (k2 hf)) l3, evA.updO hD, upd_same, l2 (k2 hf), l3, ?_, by rw [q4]; exact p⟩
              exact ((ev3.trans ev4).reps rr).append (Reps.cons (show Rep g s4.F s4.al y w from rw4) Reps.nil)
            · rw [if_neg hl] at p
              exact p.elim
          | _ => exact p.elim
        | exc x h => rw [e3] at p; exact p.elim
        | stuck => rw [e3] at p; exact p.elim
      | false =>
        simp only [Bool.false_eq_true, if_false] at p ⊢
        exact ⟨s3, acc, vs, sr3.good, ev.trans ev3, k1, k2 hf, k3, ev3.reps rr, by rw [q3]; exact p⟩
    | exc x h => simp only [e2] at p; exact p.elim
    | stuck => simp only [e2] at p; exact p.elim
end

theorem Bd.blk {X : Cx} {g : Gi} {W : WXv} {s : Shared} {H : Hp} {scope : Scope} {cenv : PySem.Env} {fp : List Addr} (b : Bd X g W) : Bd (X.blk s H scope cenv fp) g (fun _ _ _ _ => False) :=
  ⟨b.G, b.K, b.calm, b.gd, fun u s' ⟨_, _, _, _, _, _, _, _, _, _, _, _, _, _, _, _, w⟩ => w.elim, PassesOwn.never, b.un⟩
def seqC? (h : Hc) : Vl → Option (Bool × List D)
  | .d (.lst xs) => some (true, xs)
  | .d (.kl xs) => some (true, xs)
  | .d (.tup xs) => some (false, xs)
  | .tl xs => some (true, xs)
  | .bl xs => some (true, xs)
  | .d (.ref n) => (match h[n]? with
    | some (.frz c) => (match c.bare with
      | .lst xs => some (true, xs)
      | _ => none)
    | _ => none)
  | _ => none
def mComp (o : Bool) (own : List Nat) (T : TgF) (mt : MB) (me src : ME) : ME := fun env h => (src env h).bind fun x h1 => match seqC? h1 x with
  | some (_, xs) => compL o T mt me xs [] (wipeE env own) h1
  | none => .stuck
def mCompR (o : Bool) (own : List Nat) (T : TgF) (mt : MB) (me : ME) (a : MA) : ME := fun env h => (a env h).bind fun xs h1 => match xs with
  | [.d (.int j)] => if -(2 ^ 62) ≤ j ∧ j < 2 ^ 62 then compL o T mt me (rangeD 0 j.toNat) [] (wipeE env own) h1 else .stuck
  | _ => .stuck
def mCompR2 (o : Bool) (own : List Nat) (T : TgF) (mt : MB) (me : ME) (a : MA) : ME := fun env h => (a env h).bind fun xs h1 => match xs with
  | [.d (.int i), .d (.int j)] => if -(2 ^ 62) ≤ i ∧ i < 2 ^ 62 ∧ -(2 ^ 62) ≤ j ∧ j < 2 ^ 62 then compL o T mt me (rangeD i (j - i).toNat) [] (wipeE env own) h1 else .stuck
  | _ => .stuck
theorem src_of {g : Gi} {B : Bg} {env : Env} {s1 : Sta} {σ : L2.St} {H1 : Hp} {x : Vl} {v : L2.V} {b : Bool} {xs : List D} (gd : Good g s1 H1) (r : VlRep g B env σ s1 H1 x v) (e : seqC? s1.h x = some (b, xs)) : ∃ a vs, v = .ref a ∧ Src g.K b a vs s1 H1 ∧ Reps g s1.F s1.al xs vs := by
  unfold seqC? at e
  split at e
  · cases e
    obtain ⟨a, vs, h1, h2, h3⟩ := r
    exact ⟨a, vs, h1, .inl (.inl (.of h2)), h3⟩
  · cases e
    obtain ⟨a, vs, h1, h2, h3⟩ := r
    exact ⟨a, vs, h1, .inl (.inl h2), h3⟩
  · cases e
    obtain ⟨a, vs, h1, h2, h3⟩ := r
    exact ⟨a, vs, h1, h2.sq, h3⟩
  · cases e
    obtain ⟨a, vs, h1, h2, h3, _, h4⟩ := r
    exact ⟨a, vs, h1, .inr ⟨h2, h3.al⟩, h4⟩
  · cases e
    obtain ⟨a, vs, h1, h2, h3, h4⟩ := r
    exact ⟨a, vs, h1, .inr ⟨h2, h3.al⟩, h4⟩
  · next n =>
    split at e
    · next c ec =>
      split at e
      · next ys eb =>
        cases e
        obtain ⟨a, vs, h1, h2, h3, h4⟩ := frz_lst gd r ec eb
        exact ⟨a, vs, h1, .inl (.inr ⟨n, h2, h3⟩), h4⟩
      · cases e
    · cases e
  · cases e
section
variable {X : Cx} {g : Gi} {B : Bg} {W : WXv} {own : List Nat} {o : Bool} {T : TgF} {mt : MB} {me m : ME} {t : TG} {σ : L2.St} {H : Hp} {Q : VK}
theorem lc_of (hK : g.K = X.K) (q1 : CgQ g own t T) (h : tE g B W (mComp o own T mt me m) σ H Q) :
    tLc (fun σ H R => iList X.K (tE g B W m) σ H R ∨ iTup X.K (tE g B W m) σ H R) t (tT g B (fun _ _ _ _ => False) mt) (tE g B (fun _ _ _ _ => False) me) own σ H Q := by
  obtain ⟨env, s, sr, p⟩ := h
  have p : PostE g B W env s σ H ((m env s.h).bind fun x h1 => match seqC? h1 x with
    | some (_, xs) => compL o T mt me xs [] (wipeE env own) h1
    | none => .stuck) Q := p
  cases em : m env s.h with
  | ok x h1 =>
    rw [em] at p
    have p : PostE g B W env s σ H (match seqC? h1 x with
      | some (_, xs) => compL o T mt me xs [] (wipeE env own) h1
      | none => .stuck) Q := p
    cases es : seqC? h1 x with
    | none => rw [es] at p; exact p.elim
    | some q =>
      obtain ⟨bb, xs⟩ := q
      rw [es] at p
      have p : PostE g B W env s σ H (compL o T mt me xs [] (wipeE env own) h1) Q := p
      cases bb with
      | true =>
        refine .inl ⟨env, s, sr, ?_⟩
        rw [em]
        intro v H1 s1 e1 ev sr1 vr
        obtain ⟨a, vs, rfl, hsrc, hr⟩ := src_of sr1.good vr (by rw [e1]; exact es)
        have sq : ∀ {s' : Sta} {H' : Hp}, Good g s' H' → Evo s1 H1 s' H' → SqL X.K H' a vs := fun gd e2 => by
          rcases hsrc.evo e2 with z | ⟨z, _⟩
          · exact hK ▸ z.sqL gd
          · exact .of z
        refine ⟨a, rfl, ⟨vs, sq sr1.good (Evo.refl _ _)⟩, fun Dn hD => lc_list (xs := vs) (fun i H => CInv g B W env s1 σ H1 own o T mt me Q Dn (xs.drop i) H) ?_ (fun i H _ c => ?_) (fun i y H hi c => ?_) (fun H c => ?_)⟩
        · exact comp_start sr1 hD (by rw [e1]; exact PostE.later ev p)
        · obtain ⟨s', _, _, gd, e2, _⟩ := c
          exact sq gd e2
        · have hl : i < xs.length := by
            rw [← hr.length]
            exact (List.getElem?_eq_some_iff.mp hi).1
          obtain ⟨y', ey, ry⟩ := hr.get (List.getElem?_eq_getElem hl)
          rw [hi] at ey
          cases ey
          rw [List.drop_eq_getElem_cons hl] at c
          exact comp_turn q1 sr1 hD c fun s' e2 => e2.rep ry
        · rw [hr.length, List.drop_length] at c
          exact comp_end sr1 hD c
      | false =>
        refine .inr ⟨env, s, sr, ?_⟩
        rw [em]
        intro v H1 s1 e1 ev sr1 vr
        obtain ⟨a, vs, rfl, hsrc, hr⟩ := src_of sr1.good vr (by rw [e1]; exact es)
        have sq : ∀ {s' : Sta} {H' : Hp}, Good g s' H' → Evo s1 H1 s' H' → SqT X.K H' a vs := fun gd e2 => hK ▸ gd.sqT (show SqT g.K _ a vs from hsrc.evo e2)
        refine ⟨a, rfl, ⟨vs, sq sr1.good (Evo.refl _ _)⟩, fun Dn hD => lc_tup (xs := vs) (fun i H => CInv g B W env s1 σ H1 own o T mt me Q Dn (xs.drop i) H) ?_ (fun i H _ c => ?_) (fun i y H hi c => ?_) (fun H c => ?_)⟩
        · exact comp_start sr1 hD (by rw [e1]; exact PostE.later ev p)
        · obtain ⟨s', _, _, gd, e2, _⟩ := c
          exact sq gd e2
        · have hl : i < xs.length := by
            rw [← hr.length]
            exact (List.getElem?_eq_some_iff.mp hi).1
          obtain ⟨y', ey, ry⟩ := hr.get (List.getElem?_eq_getElem hl)
          rw [hi] at ey
          cases ey
          rw [List.drop_eq_getElem_cons hl] at c
          exact comp_turn q1 sr1 hD c fun s' e2 => e2.rep ry
        · rw [hr.length, List.drop_length] at c
          exact comp_end sr1 hD c
  | exc x h1 =>
    rw [em] at p
    refine .inl ⟨env, s, sr, ?_⟩
    rw [em]
    exact p
  | stuck =>
    rw [em] at p
    exact p.elim
theorem lc_rangeOf {env : Env} {s1 : Sta} {lo : Int} {n : Nat} (q1 : CgQ g own t T) (sr1 : SR g B env s1 σ H) (p : PostE g B W env s1 σ H (compL o T mt me (rangeD lo n) [] (wipeE env own) s1.h) Q) (Dn : Addr) (hD : H Dn = none) :
    ∃ W' : Nat → Nat → Hp → Prop, (∃ m, W' 0 m (upd H Dn (.lst []))) ∧ ∀ i m H, W' i m H →
      ((Itr lo n).stop i H ∧ Q (.ref Dn) H) ∨ ((Itr lo n).go i H ∧ ∃ Nx : Hp → Prop, (∀ H', Nx H' → ∃ m', m' < m ∧ W' (i + 1) m' H') ∧ ∀ x H', (Itr lo n).yld i H x H' → t x (wipe σ own) H' fun σ2 H2 => wipe σ2 own = wipe σ own ∧ tT g B (fun _ _ _ _ => False) mt σ2 H2 fun b H3 =>
        if b = true then tE g B (fun _ _ _ _ => False) me σ2 H3 fun y H4 => ∃ acc, H4 Dn = some (.lst acc) ∧ acc.length < sizeLine ∧ Nx (upd H4 Dn (.lst (acc ++ [y]))) else Nx H3) := by
  refine lc_range (fun i H' => CInv g B W env s1 σ H own o T mt me Q Dn ((rangeD lo n).drop i) H') ?_ (fun i H' hi c => ?_) (fun H' c => ?_)
  · exact comp_start sr1 hD p
  · have hl : i < (rangeD lo n).length := by rw [rangeD_len]; exact hi
    rw [List.drop_eq_getElem_cons hl, rangeD_get] at c
    exact comp_turn q1 sr1 hD c fun s' e2 => (show Rep g s'.F s'.al (.int (lo + (i : Nat))) (.int (lo + (i : Nat))) from rfl)
  · rw [show (rangeD lo n).drop n = [] from List.drop_eq_nil_of_le (by rw [rangeD_len]; exact Nat.le_refl _)] at c
    exact comp_end sr1 hD c
end
section
variable {X : Cx} {g : Gi} {B : Bg} {W : WXv} {own : List (Str × Nat)} {o : Bool} {T : TgF} {mt : MB} {me m : ME} {t : TG} {elt tg iter : Expr} {ifs : List Expr} {scope : Scope} {pos p' rp : Pos} {ma : MA}
theorem ve_lc (o : Bool) (b : Bd X g W) (hN : X.N.Nodup) (he : PE X iter (tE g B W m)) (ok : BlkOk X.N X.env.scope scope own) (q1 : CgQ g (own.map (·.2)) t T)
    (hg : ∀ (s : Shared) (H : Hp) (C : Addr) (cl : List (Str × Addr)) (fp : List Addr), PG (X.blk s H scope (compEnvC scope cl C X.env) fp) tg t)
    (ht : ∀ (s : Shared) (H : Hp) (C : Addr) (cl : List (Str × Addr)) (fp : List Addr), PTs (X.blk s H scope (compEnvC scope cl C X.env) fp) ifs (tT g B (fun _ _ _ _ => False) mt))
    (hel : ∀ (s : Shared) (H : Hp) (C : Addr) (cl : List (Str × Addr)) (fp : List Addr), PE (X.blk s H scope (compEnvC scope cl C X.env) fp) elt (tE g B (fun _ _ _ _ => False) me)) (hs : ∀ x, foldedSetIterable iter X.env x = pure x := by intro _; rfl) :
    PE X (.ListComp elt [⟨tg, iter, ifs, 0⟩] scope pos) (tE g B W (mComp o (own.map (·.2)) T mt me m)) :=
  pe_imp (pe_lc b.calm hN (pi_or (pi_list (tg := tg) he) (pi_tup he)) ok hg ht hel hs) fun σ H Q h => lc_of b.K q1 h
theorem vs_setLc (o : Bool) {i : Nat} {y : Str} {py spos : Pos} (b : Bd X g W) (hN : X.N.Nodup) (hy : X.N[i]? = some y) (hyl : X.env.scope.names.lookup y = some .local) (hsw : swapsWith (.ListComp elt [⟨tg, iter, ifs, 0⟩] scope pos) (some (.Name y py)) spos.line X.env = pure true)
    (he : PE X iter (tE g B W m)) (ok : BlkOk X.N X.env.scope scope own) (q1 : CgQ g (own.map (·.2)) t T)
    (hg : ∀ (s : Shared) (H : Hp) (C : Addr) (cl : List (Str × Addr)) (fp : List Addr), PG (X.blk s H scope (compEnvC scope cl C X.env) fp) tg t)
    (ht : ∀ (s : Shared) (H : Hp) (C : Addr) (cl : List (Str × Addr)) (fp : List Addr), PTs (X.blk s H scope (compEnvC scope cl C X.env) fp) ifs (tT g B (fun _ _ _ _ => False) mt))
    (hel : ∀ (s : Shared) (H : Hp) (C : Addr) (cl : List (Str × Addr)) (fp : List Addr), PE (X.blk s H scope (compEnvC scope cl C X.env) fp) elt (tE g B (fun _ _ _ _ => False) me)) (hs : ∀ x, foldedSetIterable iter X.env x = pure x := by intro _; rfl) :
    PS X (.Assign [.Name y py] (.ListComp elt [⟨tg, iter, ifs, 0⟩] scope pos) spos) (tS g B W (mSet i (mComp o (own.map (·.2)) T mt me m))) := by
  refine ps_imp (ps_setLc b.calm hN hy hyl hsw (pi_or (pi_list (tg := tg) he) (pi_tup he)) ok hg ht hel hs) fun N σ H ⟨env, s, sr, p⟩ => ?_
  refine lc_of (W := W) (o := o) b.K q1 ?_
  exact (bindS sr p).mono fun v H1 ⟨s1, x, sr1, l1, r1, p1⟩ => setPost sr1 r1 p1
theorem range1_of {σ : L2.St} {H : Hp} {Q : VK} (q1 : CgQ g (own.map (·.2)) t T) (h : tE g B W (mCompR o (own.map (·.2)) T mt me ma) σ H Q) :
    tLc (iRng1 (tA g B W ma)) t (tT g B (fun _ _ _ _ => False) mt) (tE g B (fun _ _ _ _ => False) me) (own.map (·.2)) σ H Q := by
  obtain ⟨env, s, sr, p⟩ := h
  refine (bindA (Q := Q) sr p).mono fun vs H1 ⟨s1, xs, sr1, _, r1, p1⟩ => ?_
  split at p1
  · next j =>
    obtain ⟨v, rfl, r⟩ := r1.one
    split at p1
    · next hj =>
      have r : v = .int j := r
      exact ⟨j, by rw [r], hj.1, hj.2, fun Dn hD => lc_rangeOf q1 sr1 p1 Dn hD⟩
    · exact p1.elim
  · exact p1.elim
theorem range2_of {σ : L2.St} {H : Hp} {Q : VK} (q1 : CgQ g (own.map (·.2)) t T) (h : tE g B W (mCompR2 o (own.map (·.2)) T mt me ma) σ H Q) :
    tLc (iRng2 (tA g B W ma)) t (tT g B (fun _ _ _ _ => False) mt) (tE g B (fun _ _ _ _ => False) me) (own.map (·.2)) σ H Q := by
  obtain ⟨env, s, sr, p⟩ := h
  refine (bindA (Q := Q) sr p).mono fun vs H1 ⟨s1, xs, sr1, _, r1, p1⟩ => ?_
  split at p1
  · next i j =>
    obtain ⟨v, w, rfl, r, r'⟩ := r1.two
    split at p1
    · next hj =>
      have r : v = .int i := r
      have r' : w = .int j := r'
      exact ⟨i, j, by rw [r, r'], hj, fun Dn hD => lc_rangeOf q1 sr1 p1 Dn hD⟩
    · exact p1.elim
  · exact p1.elim
theorem ve_lcR (o : Bool) {a : Expr} (b : Bd X g W) (hN : X.N.Nodup) (hgr : Gl X "range") (hm : X.mg "range" = none) (ha : PA X [a] (tA g B W ma)) (ok : BlkOk X.N X.env.scope scope own) (q1 : CgQ g (own.map (·.2)) t T)
    (hg : ∀ (s : Shared) (H : Hp) (C : Addr) (cl : List (Str × Addr)) (fp : List Addr), PG (X.blk s H scope (compEnvC scope cl C X.env) fp) tg t)
    (ht : ∀ (s : Shared) (H : Hp) (C : Addr) (cl : List (Str × Addr)) (fp : List Addr), PTs (X.blk s H scope (compEnvC scope cl C X.env) fp) ifs (tT g B (fun _ _ _ _ => False) mt))
    (hel : ∀ (s : Shared) (H : Hp) (C : Addr) (cl : List (Str × Addr)) (fp : List Addr), PE (X.blk s H scope (compEnvC scope cl C X.env) fp) elt (tE g B (fun _ _ _ _ => False) me))
    (hst : starEach [a] X.env = [(false, eval a X.env)] := by rfl) (hs : ∀ x, foldedSetIterable (.Call (.Name "range" p') [a] [] rp) X.env x = pure x := by intro _; rfl) :
    PE X (.ListComp elt [⟨tg, .Call (.Name "range" p') [a] [] rp, ifs, 0⟩] scope pos) (tE g B W (mCompR o (own.map (·.2)) T mt me ma)) :=
  pe_imp (pe_lc b.calm hN (pi_range1 (tg := tg) hgr hm ha hst) ok hg ht hel hs) fun σ H Q h => range1_of q1 h
theorem vs_setLcR (o : Bool) {i : Nat} {y : Str} {py spos : Pos} {a : Expr} (b : Bd X g W) (hN : X.N.Nodup) (hy : X.N[i]? = some y) (hyl : X.env.scope.names.lookup y = some .local) (hsw : swapsWith (.ListComp elt [⟨tg, .Call (.Name "range" p') [a] [] rp, ifs, 0⟩] scope pos) (some (.Name y py)) spos.line X.env = pure true)
    (hgr : Gl X "range") (hm : X.mg "range" = none) (ha : PA X [a] (tA g B W ma)) (ok : BlkOk X.N X.env.scope scope own) (q1 : CgQ g (own.map (·.2)) t T)
    (hg : ∀ (s : Shared) (H : Hp) (C : Addr) (cl : List (Str × Addr)) (fp : List Addr), PG (X.blk s H scope (compEnvC scope cl C X.env) fp) tg t)
    (ht : ∀ (s : Shared) (H : Hp) (C : Addr) (cl : List (Str × Addr)) (fp : List Addr), PTs (X.blk s H scope (compEnvC scope cl C X.env) fp) ifs (tT g B (fun _ _ _ _ => False) mt))
    (hel : ∀ (s : Shared) (H : Hp) (C : Addr) (cl : List (Str × Addr)) (fp : List Addr), PE (X.blk s H scope (compEnvC scope cl C X.env) fp) elt (tE g B (fun _ _ _ _ => False) me))
    (hst : starEach [a] X.env = [(false, eval a X.env)] := by rfl) (hs : ∀ x, foldedSetIterable (.Call (.Name "range" p') [a] [] rp) X.env x = pure x := by intro _; rfl) :
    PS X (.Assign [.Name y py] (.ListComp elt [⟨tg, .Call (.Name "range" p') [a] [] rp, ifs, 0⟩] scope pos) spos) (tS g B W (mSet i (mCompR o (own.map (·.2)) T mt me ma))) := by
  refine ps_imp (ps_setLc b.calm hN hy hyl hsw (pi_range1 (tg := tg) hgr hm ha hst) ok hg ht hel hs) fun N σ H ⟨env, s, sr, p⟩ => ?_
  refine range1_of (W := W) (o := o) q1 ?_
  exact (bindS sr p).mono fun v H1 ⟨s1, x, sr1, l1, r1, p1⟩ => setPost sr1 r1 p1
end
end Vi

set_option Elab.async false
set_option linter.all false
set_option maxRecDepth 100000
set_option maxHeartbeats 2000000
namespace Vi
open PySem L2 PyProof.Rows

/-! ### a new cell that a def hands out -/
def mRetC (m : ME) : MS := fun env h => (m env h).thenS env fun x h1 => match x with
  | .tl xs => .ret (.ref h1.length) (h1 ++ [.lst xs])
  | _ => .stuck
def Sta.addC (s : Sta) (a : Addr) (c : Cell) : Sta := { F := s.F, al := fun n => if n = s.h.length then some a else s.al n, h := s.h ++ [c], z := s.z }
section
variable {g : Gi} {B : Bg} {W : WXv} {env : Env} {s : Sta} {σ : L2.St} {H : Hp}
theorem addC_le {a : Addr} {c : Cell} (gd : Good g s H) : Le s (s.addC a c) := ⟨fun _ _ h => h, fun n b h => by
  show (if n = s.h.length then some a else s.al n) = some b
  have := (gd.dom n b h).1
  rw [if_neg (by omega)]
  exact h, fun _ _ h => h⟩
theorem addC_at {a : Addr} {c d : Cell} {n : Nat} (h : (s.addC a c).h[n]? = some d) : (n < s.h.length ∧ s.h[n]? = some d) ∨ (n = s.h.length ∧ d = c) := by
  have h : (s.h ++ [c])[n]? = some d := h
  by_cases e : n < s.h.length
  · rw [List.getElem?_append_left e] at h
    exact .inl ⟨e, h⟩
  · rw [List.getElem?_append_right (by omega)] at h
    have e2 : n = s.h.length := by
      have := (List.getElem?_eq_some_iff.mp h).1
      simp at this
      omega
    subst e2
    rw [Nat.sub_self] at h
    cases h
    exact .inr ⟨rfl, rfl⟩
theorem addC_goodC {a : Addr} {c : Cell} (gd : Good g s H) (hc : CellRep g s H a c) (hx : ∃ o, H a = some o) (hf : s.F a = none) (hn : ∀ n, s.al n ≠ some a) (nf : ∀ c0, c ≠ .frz c0) : Good g (s.addC a c) H := by
  have le := addC_le (a := a) (c := c) gd
  have cases_ : ∀ {n : Nat} {b : Addr}, (s.addC a c).al n = some b → (n = s.h.length ∧ b = a) ∨ (n ≠ s.h.length ∧ s.al n = some b) := fun {n b} h => by
    have h : (if n = s.h.length then some a else s.al n) = some b := h
    by_cases e : n = s.h.length
    · rw [if_pos e] at h
      cases h
      exact .inl ⟨e, rfl⟩
    · rw [if_neg e] at h
      exact .inr ⟨e, h⟩
  have zed : ZOk (s.addC a c) H := ⟨fun m o h => by
      obtain ⟨b, c0, h1, h2, h3⟩ := gd.zed.at_ m o h
      refine ⟨b, c0, le.al _ _ h1, h2, ?_⟩
      show (s.h ++ [c])[m]? = _
      rw [List.getElem?_append_left (List.getElem?_eq_some_iff.mp h3).1]
      exact h3, fun m c0 h => by
      rcases addC_at h with ⟨_, h⟩ | ⟨_, h⟩
      · exact gd.zed.of m c0 h
      · exact absurd h.symm (nf _)⟩
  refine ⟨gd.fle, fun n m b h1 h2 => ?_, fun n b h => ?_, fun n d h => ?_, zed⟩
  · rcases cases_ h1 with ⟨e1, rfl⟩ | ⟨e1, k1⟩
    · rcases cases_ h2 with ⟨e2, _⟩ | ⟨_, k2⟩
      · rw [e1, e2]
      · exact absurd k2 (hn m)
    · rcases cases_ h2 with ⟨e2, rfl⟩ | ⟨_, k2⟩
      · exact absurd k1 (hn n)
      · exact gd.inj n m b k1 k2
  · have hl : (s.addC a c).h.length = s.h.length + 1 := by
      show (s.h ++ [c]).length = _
      rw [List.length_append]
      rfl
    rcases cases_ h with ⟨e1, rfl⟩ | ⟨_, k1⟩
    · exact ⟨by omega, hf, hx⟩
    · obtain ⟨h1, h2, h3⟩ := gd.dom n b k1
      exact ⟨by omega, h2, h3⟩
  · rcases addC_at h with ⟨_, h⟩ | ⟨rfl, rfl⟩
    · obtain ⟨b, h1, h2⟩ := gd.cell n d h
      exact ⟨b, le.al _ _ h1, h2.mv (fun _ z => z) le.f le.al⟩
    · exact ⟨a, if_pos rfl, hc.mv (fun _ z => z) le.f le.al⟩
theorem addC_good {a : Addr} {xs : List D} {vs : List L2.V} (gd : Good g s H) (ha : H a = some (.lst vs)) (hf : s.F a = none) (hn : ∀ n, s.al n ≠ some a) (r : Reps g s.F s.al xs vs) : Good g (s.addC a (.lst xs)) H :=
  addC_goodC gd ⟨vs, ha, r⟩ ⟨_, ha⟩ hf hn fun _ z => by cases z
theorem addC_evo {s0 : Sta} {H0 : Hp} {a : Addr} {c : Cell} (gd : Good g s H) (ev : Evo s0 H0 s H) (hb : H0 a = none) : Evo s0 H0 (s.addC a c) H := by
  have le := addC_le (a := a) (c := c) gd
  refine ⟨ev.f, fun n b h => le.al _ _ (ev.al n b h), fun b o h n => ?_, ?_, ?_⟩
  · obtain ⟨h1, h2, h3⟩ := ev.oth b o h n
    refine ⟨h1, h2, fun m z => ?_⟩
    have z : (if m = s.h.length then some a else s.al m) = some b := z
    by_cases e : m = s.h.length
    · rw [if_pos e] at z
      cases z
      rw [hb] at h
      cases h
    · rw [if_neg e] at z
      exact h3 m z
  · show _ ≤ (s.h ++ [c]).length
    rw [List.length_append]
    exact Nat.le_trans ev.len (Nat.le_add_right _ _)
  · exact ev.z
end
section
variable {X : Cx} {g : Gi} {B : Bg} {W : WXv} {pos : Pos} {e : Expr} {m : ME}
theorem vs_retC (he : PE X e (tE g B W m)) : PS X (.Return (some e) pos) (tS g B W (mRetC m)) := by
  refine ps_imp (ps_ret he) fun N σ H ⟨env, s, sr, p⟩ => ?_
  refine (bindS sr p).mono fun v H1 ⟨s1, x, sr1, l1, r1, p1⟩ => ?_
  cases x with
  | tl xs =>
    obtain ⟨a, vs, rfl, h1, h2, h3, h4⟩ := r1
    exact p1 (.ref a) H1 (s1.addC a (.lst xs)) rfl (addC_evo sr1.good sr1.evo h2.new) (addC_good sr1.good h1 h2.f h2.al h4) ⟨a, rfl, if_pos rfl⟩
  | d _ => exact p1.elim
  | bl _ => exact p1.elim
  | bi _ _ => exact p1.elim
end

/-! ### a slot's list is given free: nobody changes it any more -/
def frzE (i : Nat) (env : Env) : Env := match env[i]? with
  | some (some (.ol xs)) => env.set i (some (.d (.lst xs)))
  | _ => env
section
variable {g : Gi} {B : Bg} {W : WXv} {env : Env} {s : Sta} {σ : L2.St} {H : Hp}
theorem SR.frzS (i : Nat) (sr : SR g B env s σ H) : ∃ s', s'.h = s.h ∧ Le s s' ∧ SR g B (frzE i env) s' σ H := by
  unfold frzE
  split
  · next xs hx =>
    obtain ⟨v, h1, h2⟩ := sr.slot i _ hx
    obtain ⟨a, vs, rfl, h3, h4, h5⟩ := h2
    have hi : i < env.length := (List.getElem?_eq_some_iff.mp hx).1
    have fl := frz_le (o := HO.lst vs) h4.f
    refine ⟨s.frz a (.lst vs), rfl, ⟨fl, fun _ _ z => z, fun _ _ z => z⟩, sr.good.frz h3 h4.f h4.al, evo_frz h4.f h4.al h4.new sr.evo, by rw [List.length_set]; exact sr.len, fun j sl h => ?_, fun j k sl1 sl2 u hjk q1 q2 o1 o2 q3 q4 => ?_⟩
    · by_cases e : i = j
      · subst e
        rw [List.getElem?_set_self hi] at h
        cases h
        exact ⟨_, h1, a, vs, rfl, upd_same, h5.mono fl fun _ _ z => z⟩
      · rw [List.getElem?_set_ne e] at h
        obtain ⟨v, g1, g2⟩ := sr.slot j sl h
        refine ⟨v, g1, ?_⟩
        have ownF : ∀ {b : Addr}, OwnA B s b → b ≠ a → OwnA B (s.frz a (.lst vs)) b := fun {b} ow ne => ⟨by
          show upd s.F a (.lst vs) b = none
          rw [upd_ne ne]
          exact ow.f, ow.al, ow.new⟩
        cases sl with
        | d x => exact Rep.mono fl (fun _ _ z => z) g2
        | ol ys =>
          obtain ⟨b, ws, rfl, k1, k2, k3⟩ := g2
          have ne : b ≠ a := fun q => by subst q; exact sr.sep i j _ _ (.ref b) e hx h rfl rfl h1 g1
          exact ⟨b, ws, rfl, k1, ownF k2 ne, k3.mono fl fun _ _ z => z⟩
        | oi c fs =>
          obtain ⟨b, dx, ws, rfl, k1, k2, k3, k4⟩ := g2
          have ne : b ≠ a := fun q => by subst q; exact sr.sep i j _ _ (.ref b) e hx h rfl rfl h1 g1
          exact ⟨b, dx, ws, rfl, k1, ownF k2 ne, k3.mono fl (fun _ _ z => z), k4⟩
        | xc c fs =>
          obtain ⟨k1, k2, ws, k3, k4, k5⟩ := g2
          exact ⟨k1, k2, ws, k3, k4, k5.mono fl fun _ _ z => z⟩
    · have f : ∀ {j : Nat} {sl : Sl}, (env.set i (some (.d (.lst xs))))[j]? = some (some sl) → sl.own = true → env[j]? = some (some sl) := fun {j sl} h o => by
        by_cases e : i = j
        · subst e
          rw [List.getElem?_set_self hi] at h
          cases h
          cases o
        · rw [List.getElem?_set_ne e] at h
          exact h
      exact sr.sep j k sl1 sl2 u hjk (f q1 o1) (f q2 o2) o1 o2 q3 q4
  · exact ⟨s, rfl, Le.refl s, sr⟩
end
def mFrz (i : Nat) (m : MS) : MS := fun env h => m (frzE i env) h
theorem vss_frz {X : Cx} {g : Gi} {B : Bg} {W : WXv} {sts : List Stmt} {m : MS} (i : Nat) (h : PSs X sts (tS g B W m)) : PSs X sts (tS g B W (mFrz i m)) :=
  pss_imp h fun N σ H ⟨env, s, sr, p⟩ => by
    obtain ⟨s', e1, le, sr'⟩ := sr.frzS i
    exact ⟨frzE i env, s', sr', by rw [e1]; exact PostS.later le p⟩

/-! ### x[k] = e, x a slot's own list -/
def fSetIxO (i : Nat) (env : Env) (xs : List D) (x z : Vl) (h3 : Hc) : RS := match x, z with
  | .d d, .d (.int k) => (match ixN xs.length k with
    | some j => .nx (env.set i (some (.ol (xs.set j d)))) h3
    | none => .stuck)
  | _, _ => .stuck
def mSetIxO (i : Nat) (e k : ME) : MS := fun env h => match env[i]? with
  | some (some (.ol xs)) => (e env h).thenS env fun x h1 => (k env h1).thenS env fun z h3 => fSetIxO i env xs x z h3
  | _ => .stuck
section
variable {X : Cx} {g : Gi} {B : Bg} {W : WXv} {pos tpos : Pos} {e o k : Expr} {m mk : ME}
theorem vs_setixO {i : Nat} (he : PE X e (tE g B W m)) (ho : PE X o (tVar i)) (hk : PE X k (tE g B W mk)) (hs : swapsWithSole [.Subscript o k tpos] e pos.line X.env = pure false := by rfl) (hw : swappedStores [.Subscript o k tpos] e X.env = pure none := by rfl)
    (h1 : (assignEach [.Subscript o k tpos] X.env).map (·.2) = [assign (.Subscript o k tpos) X.env] := by rfl)
    (ha : ∀ v, assign (.Subscript o k tpos) X.env v = (do
      let ov ← holding [v] (eval o X.env)
      let iv ← holding [v, ov] (eval k X.env)
      standAt tpos
      holding [v, ov, iv] (setItem ov iv v)
      release [v, ov, iv] []) := by intro _; rfl) : PS X (.Assign [.Subscript o k tpos] e pos) (tS g B W (mSetIxO i m mk)) := by
  refine ps_imp (ps_asg he (pg_sub ho hk set_list ha) hs hw h1) fun N σ H ⟨env, s, sr, p⟩ => ?_
  unfold mSetIxO at p
  split at p
  · next xs hx =>
    obtain ⟨v0, g1, g2⟩ := sr.slot i _ hx
    obtain ⟨a, vs, rfl, g3, g4, g5⟩ := g2
    refine (bindS sr p).mono fun v H1 ⟨s1, x, sr1, l1, r1, p1⟩ => ⟨.ref a, g1, ?_⟩
    -- the value stays known while the place is asked
    refine ⟨env, s1, sr1, ?_⟩
    cases q : mk env s1.h with
    | ok z h2 =>
      rw [q] at p1
      intro kv H3 s3 e3 ev3 sr3 r3
      have p1 : PostS g B W s1 (fSetIxO i env xs x z h2) N := p1
      unfold fSetIxO at p1
      split at p1
      · next d =>
        split at p1
        · next j hj =>
          obtain ⟨v1, f1, f2⟩ := sr3.slot i _ hx
          rw [g1] at f1
          cases f1
          obtain ⟨a', ws, ea, f3, f4, f5⟩ := f2
          cases ea
          refine ⟨a, ws, _, j, rfl, r3, f3, by rw [f5.length]; exact hj, ?_⟩
          have rd := ev3.rep (show Rep g s1.F s1.al _ v from r1)
          exact p1 σ _ s3 e3 ev3.le (sr3.mut hx rfl g1 f4.f f4.al f4.new ⟨a, _, rfl, upd_same, f4, f5.set rd j⟩)
        · exact p1.elim
      · exact p1.elim
    | exc y h2 =>
      rw [q] at p1
      intro cls dd H3 s3 e3 ev3 sr3 xr
      exact p1 cls dd σ H3 s3 e3 ev3.le sr3 xr
    | stuck =>
      rw [q] at p1
      exact p1.elim
  · exact p.elim
end
end Vi

set_option Elab.async false
set_option linter.all false
set_option maxRecDepth 100000
set_option maxHeartbeats 2000000
namespace Vi
open PySem L2 PyProof.Rows

/-! ### the head's hook: any checks of the written part, and the defs, each at an address that is told by a path -/
structure DefV where
  pth : PySem.W.Frag → Addr
  name : Str
  qual : Str
  params : Arguments
  body : List Stmt
  scope : Scope
  dfl : List He.Dv := []
def fnAt (K : PySem.W.Frag) (a : Addr) : He.FnW :=
  match K.lookup a with
  | some ⟨_, _, .func z, _⟩ =>
    some (z.name, z.qualname, z.params, z.body, z.scope, z.globals, z.closure, z.builtins)
  | _ => none
def DefV.want (d : DefV) : He.FnW :=
  some (d.name, d.qual, d.params, .stmts d.body, d.scope, mainGlobals, [], builtinsNs)
def DefV.dv (K : PySem.W.Frag) (d : DefV) : List L2.V :=
  d.dfl.map (He.Dv.v K)
def DefV.good (K : PySem.W.Frag) (d : DefV) : Bool :=
  PySem.W.keepIn K (.ref (d.pth K)) &&
  (match K.lookup (d.pth K) with
  | some ⟨_, _, .func z, _⟩ =>
    PySem.W.codeIn K z.code d.qual && He.dflB K z.defaults (d.dv K)
  | _ => false)
theorem DefV.fun_ {K : PySem.W.Frag} {d : DefV} (e : fnAt K (d.pth K) = d.want) (c : d.good K = true) : ∃ fd, FunD K d.name d.qual d.params d.body d.scope (d.dv K) [] (d.pth K) fd := by
  obtain ⟨kp, c2⟩ := Bool.and_eq_true_iff.mp c
  unfold fnAt at e
  cases q : K.lookup (d.pth K) with
  | none => rw [q] at c2; cases c2
  | some o =>
    obtain ⟨oc, od, dt, osl⟩ := o
    rw [q] at c2 e
    cases dt with
    | func z =>
      obtain ⟨z1, z2, z3, z4, z5, z6, z7, z8, z9, z10, z11, z12, z13, z14, z15⟩ := z
      have e2 : (some (z1, z2, z3, z4, z5, z6, z7, z15) : He.FnW) = d.want := e
      unfold DefV.want at e2
      simp only [Option.some.injEq, Prod.mk.injEq] at e2
      obtain ⟨p1, p2, p3, p4, p5, p6, p7, p8⟩ := e2
      subst p1 p2 p3 p4 p5 p6 p7 p8
      have c3 : (PySem.W.codeIn K z13 d.qual && He.dflB K z8 (d.dv K)) = true := c2
      obtain ⟨k1, k2⟩ := Bool.and_eq_true_iff.mp c3
      exact ⟨_, ⟨oc, od, z8, z9, z10, z11, z12, z13, z14, osl, rfl, q, k1, He.dflB_ok k2, .inl rfl⟩, kp⟩
    | _ => cases c2
/-- what the names reach, from some roots -/
def reach (g : Addr → Option Obj) (roots : List Addr) : Nat → List Addr
  | 0 => roots
  | n + 1 => He.growD g (reach g roots n)
abbrev AlV : Type := Bool × List He.FnW
def obsV (ck : List (PySem.W.Frag → Bool)) (fn : List DefV) (K : PySem.W.Frag) : AlV :=
  ((ck.all fun f => f K) && (fn.all fun d => d.good K), fn.map fun d => fnAt K (d.pth K))
def wantV (fn : List DefV) : AlV := (true, fn.map DefV.want)
def SaysV (ck : List (PySem.W.Frag → Bool)) (fn : List DefV) (K : PySem.W.Frag) : Prop := obsV ck fn K = wantV fn
def obsVG (n : Nat) (ck : List (PySem.W.Frag → Bool)) (fn : List DefV) (g : Addr → Option Obj) : AlV :=
  obsV ck fn (He.frG g (reach g [mainGlobals, cStatics] n))
def hookV (n : Nat) (ck : List (PySem.W.Frag → Bool)) (fn : List DefV) : PySem.W.Hook where
  α := AlV
  obs := fun s => obsVG n ck fn s.heap.get?
  val := fun _ => wantV fn
  says := fun _ h => ∃ K : PySem.W.Frag, K.In h ∧ SaysV ck fn K
  of := fun _ _ e => ⟨_, He.frG_in, e⟩
  keeps := fun _ _ _ ⟨K, i, c⟩ k => ⟨K, PySem.W.Frag.In.keeps i k, c⟩
theorem obsVG_eq {n : Nat} {ck : List (PySem.W.Frag → Bool)} {fn : List DefV} {g : Addr → Option Obj} {s : Shared} (h : ∀ a, g a = s.heap.get? a) : obsVG n ck fn g = (hookV n ck fn).obs s := by
  rw [show g = s.heap.get? from funext h] <;> rfl
section
variable {ck : List (PySem.W.Frag → Bool)} {fn : List DefV} {K : PySem.W.Frag}
theorem SaysV.fact (c : SaysV ck fn K) (i : Nat) {f : PySem.W.Frag → Bool} (h : ck[i]? = some f := by rfl) : f K = true := by
  have c1 := (Bool.and_eq_true_iff.mp (congrArg Prod.fst c)).1
  exact List.all_eq_true.mp c1 f (List.mem_of_getElem? h)
theorem SaysV.fun_ (c : SaysV ck fn K) (i : Nat) {d : DefV} (h : fn[i]? = some d := by rfl) : ∃ fd, FunD K d.name d.qual d.params d.body d.scope (d.dv K) [] (d.pth K) fd := by
  have c2 := (Bool.and_eq_true_iff.mp (congrArg Prod.fst c)).2
  have e : fn.map (fun d => fnAt K (d.pth K)) = fn.map DefV.want := congrArg Prod.snd c
  have e2 := congrArg (fun l => l[i]?) e
  simp only [List.getElem?_map, h, Option.map_some] at e2
  exact DefV.fun_ (Option.some.inj e2) (List.all_eq_true.mp c2 d (List.mem_of_getElem? h))
end
/-! ### checks -/
def recFn (K : PySem.W.Frag) (a : Addr) (n : String) : Addr := match PySem.W.recIn K a n with
  | some (.ref f :: _) => f
  | _ => 0
def eqv (a b : Option (Option Value)) : Bool := decide (a = b)
theorem eqv_ok {a b : Option (Option Value)} (h : eqv a b = true) : a = b := of_decide_eq_true h
/-- paths -/
abbrev pG (x : Str) : PySem.W.Frag → Addr := fun K => He.ga K x
abbrev pM (c m : Str) : PySem.W.Frag → Addr := fun K => He.ma K (He.ga K c) m
abbrev pP (c m : Str) : PySem.W.Frag → Addr := fun K => recFn K (He.ma K (He.ga K c) m) "property"
abbrev pC (c m : Str) : PySem.W.Frag → Addr := fun K => recFn K (He.ma K (He.ga K c) m) "classmethod"
def kIcls (c : Str) (K : PySem.W.Frag) : Bool :=
  (He.Fa.cls c).ok K && (eqv (PySem.W.findIn K (.ref (He.ga K c)) "__class__") (some (some (.builtin "object.__class__"))) &&
  (decide (PySem.W.mroIn K (He.ga K c) (.type "object") = some true) && PySem.W.selfFirst K (He.ga K c)))
theorem kIcls_ok {c : Str} {K : PySem.W.Frag} (h : kIcls c K = true) : ClsOk K (He.ga K c) ∧ PySem.W.selfFirst K (He.ga K c) = true := by
  obtain ⟨h1, h⟩ := Bool.and_eq_true_iff.mp h
  obtain ⟨h2, h⟩ := Bool.and_eq_true_iff.mp h
  obtain ⟨h3, h4⟩ := Bool.and_eq_true_iff.mp h
  exact ⟨⟨He.cls_ok h1, eqv_ok h2, of_decide_eq_true h3⟩, h4⟩
def kProp (c f : Str) (K : PySem.W.Frag) : Bool :=
  eqv (PySem.W.findIn K (.ref (He.ga K c)) f) (some (some (.ref (He.ma K (He.ga K c) f)))) &&
  (eqv (PySem.W.specialIn K (.ref (He.ma K (He.ga K c) f)) "__get__") (some (some (.builtin "property.__get__"))) &&
  (decide (PySem.W.takesIn K (.ref (He.ma K (He.ga K c) f)) = some true) &&
  (match PySem.W.recIn K (He.ma K (He.ga K c) f) "property" with
  | some (.ref _ :: _) => true
  | _ => false)))
theorem kProp_ok {c f : Str} {K : PySem.W.Frag} (h : kProp c f K = true) : PropOf K (He.ga K c) f (He.ma K (He.ga K c) f) (pP c f K) := by
  obtain ⟨h1, h⟩ := Bool.and_eq_true_iff.mp h
  obtain ⟨h2, h⟩ := Bool.and_eq_true_iff.mp h
  obtain ⟨h3, h4⟩ := Bool.and_eq_true_iff.mp h
  refine ⟨eqv_ok h1, eqv_ok h2, of_decide_eq_true h3, ?_⟩
  show ∃ rest, _ = some (Value.ref (recFn K _ "property") :: rest)
  unfold recFn
  split at h4
  · next f rest e => exact ⟨rest, e⟩
  · cases h4
def isGet (r : Option PySem.W.CFound) (g a o t : Value) : Bool := match r with
  | some (.get g' a' o' t') => decide (g' = g) && (decide (a' = a) && (decide (o' = o) && decide (t' = t)))
  | _ => false
theorem isGet_ok {r : Option PySem.W.CFound} {g a o t : Value} (h : isGet r g a o t = true) : r = some (.get g a o t) := by
  unfold isGet at h
  split at h
  · obtain ⟨h1, h⟩ := Bool.and_eq_true_iff.mp h
    obtain ⟨h2, h⟩ := Bool.and_eq_true_iff.mp h
    obtain ⟨h3, h4⟩ := Bool.and_eq_true_iff.mp h
    rw [of_decide_eq_true h1, of_decide_eq_true h2, of_decide_eq_true h3, of_decide_eq_true h4]
  · cases h
def kCmet (c m : Str) (K : PySem.W.Frag) : Bool :=
  PySem.W.readsIn K (He.ga K c) (.type "type") && (eqv (PySem.W.specialIn K (.ref (He.ga K c)) "__getattribute__") (some (some (.builtin "type.__getattribute__"))) &&
  (isGet (PySem.W.findCls K (.ref (He.ga K c)) (.type "type") m) (.builtin "classmethod.__get__") (.ref (He.ma K (He.ga K c) m)) .none (.ref (He.ga K c)) &&
  (PySem.W.fnIn K (pC c m K) &&
  (match PySem.W.recIn K (He.ma K (He.ga K c) m) "classmethod" with
  | some (.ref _ :: _) => true
  | _ => false))))
theorem kCmet_ok {c m : Str} {K : PySem.W.Frag} (h : kCmet c m K = true) : ClX.CRead K (He.ga K c) (.type "type") ∧ ClX.CMet K (He.ga K c) (.type "type") m (He.ma K (He.ga K c) m) (pC c m K) := by
  obtain ⟨h1, h⟩ := Bool.and_eq_true_iff.mp h
  obtain ⟨h2, h⟩ := Bool.and_eq_true_iff.mp h
  obtain ⟨h3, h⟩ := Bool.and_eq_true_iff.mp h
  obtain ⟨h4, h5⟩ := Bool.and_eq_true_iff.mp h
  refine ⟨⟨h1, eqv_ok h2⟩, isGet_ok h3, ?_, h4⟩
  show ∃ rest, _ = some (Value.ref (recFn K _ "classmethod") :: rest)
  unfold recFn
  split at h5
  · next f rest e => exact ⟨rest, e⟩
  · cases h5
/-- a special method: where it stands, a function -/
def kOp (c m : Str) (K : PySem.W.Frag) : Bool := (He.Fa.meth c m).ok K
/-- isinstance: t asks of u -/
def kKit (t u : PySem.W.Frag → Value) (b : Bool) (K : PySem.W.Frag) : Bool := decide (PySem.W.kitOne K (t K) (u K) = some b)
def kNotFirst (c : Str) (t : PySem.W.Frag → Value) (K : PySem.W.Frag) : Bool := PySem.W.notFirst K (He.ga K c) (t K)
def kCatch (c x : Str) (b : Bool) (K : PySem.W.Frag) : Bool := decide (PySem.W.exmOne K (.ref (He.ga K c)) (.ref (He.ga K x)) = some b)
def kObjGet (K : PySem.W.Frag) : Bool :=
  eqv (PySem.W.specialIn K (.builtin "object.__class__") "__get__") (some (some (.builtin "getset_descriptor.__get__"))) &&
  decide (PySem.W.takesIn K (.builtin "object.__class__") = some true)
/-- an own error class, with an own __init__ -/
def kExo (c : Str) (K : PySem.W.Frag) : Bool :=
  (match K.lookup (He.ga K c) with
  | some ⟨.type "type", _, .cls cd, sl⟩ => (match cd.mro, sl.toList with
    | .ref C' :: bm, [_, _, _, _, some (.builtin n), _] =>
      C' == He.ga K c && (n == "ValueError.__new__" && (!cd.hasDel && (cd.hasDict && PySem.HandSPX.refsVE bm)))
    | _, _ => false)
  | _ => false) &&
  (eqv (PySem.W.findIn K (.ref (He.ga K c)) "__setattr__") (some (some (.builtin "object.__setattr__"))) &&
  (decide (PySem.W.subIn K (.ref (He.ga K c)) (.type "BaseException") = some true) &&
  (decide (PySem.W.typeIn K (.ref (He.ga K c)) = some (.type "type")) && PySem.W.keepIn K (.ref (He.ga K c)))))
theorem kExo_ok {c : Str} {K : PySem.W.Frag} (h : kExo c K = true) : OexC K (He.ga K c) := by
  obtain ⟨h1, h⟩ := Bool.and_eq_true_iff.mp h
  obtain ⟨h2, h⟩ := Bool.and_eq_true_iff.mp h
  obtain ⟨h3, h⟩ := Bool.and_eq_true_iff.mp h
  obtain ⟨h4, h5⟩ := Bool.and_eq_true_iff.mp h
  refine ⟨?_, eqv_ok h2, of_decide_eq_true h3, of_decide_eq_true h4, h5⟩
  split at h1
  · next dd cd sl ho =>
    split at h1
    · next C' bm k0 k1 k2 k3 n k5 hm hs =>
      simp only [Bool.and_eq_true, beq_iff_eq, Bool.not_eq_true'] at h1
      obtain ⟨rfl, rfl, hdel, hdic, hve⟩ := h1
      obtain ⟨nm, bs, mro, ns, qn, hd, sn, sub, ab, col, del⟩ := cd
      dsimp only at hm hdel hdic
      subst hdel hdic
      have hsl : sl = #[k0, k1, k2, k3, some (.builtin "ValueError.__new__"), k5] := by
        obtain ⟨l⟩ := sl
        simp only at hs
        rw [hs]
      subst hsl
      rw [hm] at ho
      exact ⟨nm, qn, ns, bs, bm, sn, sub, ab, col, dd, k0, k1, k2, k3, k5, ho, hve⟩
    · cases h1
  · cases h1
/-- .. its fields may be read, isinstance may ask -/
def kXc (c : Str) (K : PySem.W.Frag) : Bool :=
  xfB K (He.ga K c) && (eqv (PySem.W.findIn K (.ref (He.ga K c)) "__class__") (some (some (.builtin "object.__class__"))) &&
  (decide (PySem.W.mroIn K (He.ga K c) (.type "object") = some true) && kObjGet K))
theorem kXc_ok {c : Str} {K : PySem.W.Frag} (h : kXc c K = true) : XfC K (He.ga K c) ∧ L2.ExcC K (He.ga K c) := by
  obtain ⟨h1, h⟩ := Bool.and_eq_true_iff.mp h
  obtain ⟨h2, h⟩ := Bool.and_eq_true_iff.mp h
  obtain ⟨h3, h⟩ := Bool.and_eq_true_iff.mp h
  obtain ⟨h4, h5⟩ := Bool.and_eq_true_iff.mp h
  have x := xfB_ok h1
  exact ⟨x, x.ga, x.gg, x.exC, x.hdC, eqv_ok h2, eqv_ok h4, of_decide_eq_true h5, of_decide_eq_true h3⟩
end Vi

set_option Elab.async false
set_option linter.all false
set_option maxRecDepth 100000
set_option maxHeartbeats 2000000
namespace Vi
open PySem L2 PyProof.Rows

/-! ### a program's own types: what is asked of them, in tables -/
structure PD where
  nm : List Str
  cls : List Nat
  fld : List (Nat × Str)
  isi : List ((Ty × Ty) × Bool)
  xcs : List Nat
  xno : List (Nat × Str)
  nf : List (Nat × Ty)
  kcs : List (List D)
mutual
/-- the same data, as written in the module's own constants -/
def sameD : D → D → Bool
  | .non, .non => true
  | .bl a, .bl b => a == b
  | .int a, .int b => decide (a = b)
  | .str a, .str b => decide (a = b)
  | .tup xs, .tup ys => sameDs xs ys
  | _, _ => false
def sameDs : List D → List D → Bool
  | [], [] => true
  | x :: xs, y :: ys => sameD x y && sameDs xs ys
  | _, _ => false
end
def PD.ca (P : PD) (K : PySem.W.Frag) (c : Nat) : Addr := He.ga K (P.nm.getD c Str.empty)
def PD.val (P : PD) (K : PySem.W.Frag) : Ty → Value
  | .bt n => .type n
  | .own c => .ref (P.ca K c)
def PD.gi (P : PD) (K : PySem.W.Frag) : Gi where
  K := K
  ca := P.ca K
  isC := fun c => decide (c ∈ P.cls)
  fld := fun c f => decide ((c, f) ∈ P.fld)
  isi := fun t u => P.isi.lookup (t, u)
  kc := fun ds => P.kcs.any fun es => sameDs es ds
def PD.ok (P : PD) (K : PySem.W.Frag) : Bool :=
  (P.cls.all fun c => kIcls (P.nm.getD c Str.empty) K) && ((P.fld.all fun p => decide (p.1 ∈ P.cls) && eqv (PySem.W.findIn K (.ref (P.ca K p.1)) p.2) (some none)) &&
  (kObjGet K && ((P.isi.all fun e => decide (PySem.W.kitOne K (P.val K e.1.1) (P.val K e.1.2) = some e.2)) &&
  ((P.xcs.all fun c => kXc (P.nm.getD c Str.empty) K) && ((P.xno.all fun p => eqv (PySem.W.findIn K (.ref (P.ca K p.1)) p.2) (some none)) &&
  P.nf.all fun p => PySem.W.notFirst K (P.ca K p.1) (P.val K p.2))))))
theorem PD.val_eq {P : PD} {K : PySem.W.Frag} (t : Ty) : t.val (P.gi K) = P.val K t := by cases t <;> rfl
theorem mem_of_lookup {α β : Type} [BEq α] [LawfulBEq α] {a : α} {b : β} : ∀ {l : List (α × β)}, l.lookup a = some b → (a, b) ∈ l
  | [], h => by cases h
  | (c, d) :: r, h => by
    rw [List.lookup_cons] at h
    cases e : (a == c) with
    | true =>
      rw [e] at h
      cases h
      rw [eq_of_beq e]
      exact List.mem_cons_self ..
    | false =>
      rw [e] at h
      exact List.mem_cons_of_mem _ (mem_of_lookup h)
section
variable {P : PD} {K : PySem.W.Frag}
theorem PD.giOk (h : P.ok K = true) : GiOk (P.gi K) := by
  obtain ⟨h1, h⟩ := Bool.and_eq_true_iff.mp h
  obtain ⟨h2, h⟩ := Bool.and_eq_true_iff.mp h
  obtain ⟨h3, h⟩ := Bool.and_eq_true_iff.mp h
  obtain ⟨h4, h⟩ := Bool.and_eq_true_iff.mp h
  obtain ⟨k1, k2⟩ := Bool.and_eq_true_iff.mp h3
  refine ⟨fun c hc => (kIcls_ok (List.all_eq_true.mp h1 c (of_decide_eq_true hc))).1, fun c f hf => ?_, eqv_ok k1, of_decide_eq_true k2, fun t u b e => ?_⟩
  · obtain ⟨g1, g2⟩ := Bool.and_eq_true_iff.mp (List.all_eq_true.mp h2 (c, f) (of_decide_eq_true hf))
    exact ⟨g1, eqv_ok g2⟩
  · have z := of_decide_eq_true (List.all_eq_true.mp h4 _ (mem_of_lookup e))
    rw [PD.val_eq, PD.val_eq]
    exact z
theorem PD.sf (h : P.ok K = true) {c : Nat} (hc : c ∈ P.cls) : PySem.W.selfFirst K (P.ca K c) = true :=
  (kIcls_ok (List.all_eq_true.mp (Bool.and_eq_true_iff.mp h).1 c hc)).2
theorem PD.xcOk (h : P.ok K = true) : XcOk (P.gi K) (fun c => decide (c ∈ P.xcs)) (fun c f => decide ((c, f) ∈ P.xno)) := by
  obtain ⟨_, h⟩ := Bool.and_eq_true_iff.mp h
  obtain ⟨_, h⟩ := Bool.and_eq_true_iff.mp h
  obtain ⟨_, h⟩ := Bool.and_eq_true_iff.mp h
  obtain ⟨_, h⟩ := Bool.and_eq_true_iff.mp h
  obtain ⟨h5, h⟩ := Bool.and_eq_true_iff.mp h
  obtain ⟨h6, h⟩ := Bool.and_eq_true_iff.mp h
  exact ⟨fun c hc => kXc_ok (List.all_eq_true.mp h5 c (of_decide_eq_true hc)), fun c f hf => eqv_ok (List.all_eq_true.mp h6 (c, f) (of_decide_eq_true hf))⟩
theorem PD.nfOk (h : P.ok K = true) : ∀ c t, decide ((c, t) ∈ P.nf) = true → PySem.W.notFirst K ((P.gi K).ca c) (t.val (P.gi K)) = true := fun c t e => by
  obtain ⟨_, h⟩ := Bool.and_eq_true_iff.mp h
  obtain ⟨_, h⟩ := Bool.and_eq_true_iff.mp h
  obtain ⟨_, h⟩ := Bool.and_eq_true_iff.mp h
  obtain ⟨_, h⟩ := Bool.and_eq_true_iff.mp h
  obtain ⟨_, h⟩ := Bool.and_eq_true_iff.mp h
  obtain ⟨_, h7⟩ := Bool.and_eq_true_iff.mp h
  rw [PD.val_eq]
  exact List.all_eq_true.mp h7 (c, t) (of_decide_eq_true e)
end
/-! ### defs that are ready -/
structure Rdy (P : Program) (w : World) (K : PySem.W.Frag) (mg : Str → Option Value) (base : Heap) (g : Gi) (x : Str) (k n : Nat) (dd : List D) (F : Fn) : Prop where
  ex : ∃ (f : Addr) (fd : FuncData) (ps : List Str) (dvs : List L2.V) (ds : List Value), FnG P w K mg base k f fd ps (spD g ps.length F) ∧ mg x = some (.ref f) ∧ PySem.W.keepIn K (.ref f) = true ∧
    Binds K fd ps ds ∧ Vals dvs ds ∧ (∀ F al, Reps g F al dd dvs) ∧ n + dvs.length = ps.length
theorem Rdy.v {X : Cx} {g : Gi} {x : Str} {k j n : Nat} {dd : List D} {F : Fn} (h : Rdy X.prog X.w X.K X.mg X.base g x k n dd F) (hr : Room j X.A) (hj : k ≤ j) : VFn X g x n dd F := by
  obtain ⟨f, fd, ps, dvs, ds, h1, h2, h3, h4, h5, h6, h7⟩ := h.ex
  exact ⟨k, f, fd, ps, dvs, ds, h1, hr.mono hj, h2, h3, h4, h5, h6, h7⟩
/-- a method, a special method -/
structure RdyM (P : Program) (w : World) (K : PySem.W.Frag) (mg : Str → Option Value) (base : Heap) (g : Gi) (c : Nat) (m : Str) (k n : Nat) (dd : List D) (F : Fn) : Prop where
  ex : ∃ (f : Addr) (fd : FuncData) (ps : List Str) (dvs : List L2.V) (ds : List Value), FnG P w K mg base k f fd ps (spD g ps.length F) ∧ Meth K (g.ca c) m f ∧
    Binds K fd ps ds ∧ Vals dvs ds ∧ (∀ F al, Reps g F al dd dvs) ∧ (n + 1) + dvs.length = ps.length ∧ PySem.W.fnIn K f = true
  cl : g.isC c = true
theorem RdyM.v {X : Cx} {g : Gi} {c : Nat} {m : Str} {k j n : Nat} {dd : List D} {F : Fn} (h : RdyM X.prog X.w X.K X.mg X.base g c m k n dd F) (hr : Room j X.A) (hj : k ≤ j) : VMeth X g c m n dd F := by
  obtain ⟨f, fd, ps, dvs, ds, h1, h2, h3, h4, h5, h6, _⟩ := h.ex
  exact ⟨⟨k, f, fd, ps, dvs, ds, h1, hr.mono hj, h2, h3, h4, h5, h6⟩, h.cl⟩
theorem RdyM.op {X : Cx} {g : Gi} {c : Nat} {m : Str} {k j n : Nat} {F : Fn} (h : RdyM X.prog X.w X.K X.mg X.base g c m k n [] F) (sf : PySem.W.selfFirst X.K (g.ca c) = true) (hr : Room j X.A) (hj : k + 1 ≤ j) : VOp X g c m (n + 1) F := by
  obtain ⟨f, fd, ps, dvs, ds, h1, h2, h3, h4, h5, h6, h7⟩ := h.ex
  have z := h5 (fun _ => none) (fun _ => none)
  obtain rfl : dvs = [] := z
  cases h4
  exact ⟨⟨k, f, fd, ps, h1, hr.mono hj, h2.at_, h2.fn, h3, h6.symm, h7⟩, sf⟩
structure RdyP (P : Program) (w : World) (K : PySem.W.Frag) (mg : Str → Option Value) (base : Heap) (g : Gi) (c : Nat) (m : Str) (k : Nat) (F : Fn) : Prop where
  ex : ∃ (p q : Addr) (fd : FuncData) (ps : List Str), FnG P w K mg base k q fd ps (spD g ps.length F) ∧ PropOf K (g.ca c) m p q ∧ Binds K fd ps [] ∧ ps.length = 1
  cl : g.isC c = true
theorem RdyP.v {X : Cx} {g : Gi} {c : Nat} {m : Str} {k j : Nat} {F : Fn} (h : RdyP X.prog X.w X.K X.mg X.base g c m k F) (hr : Room j X.A) (hj : k + 1 ≤ j) : VProp X g c m F := by
  obtain ⟨p, q, fd, ps, h1, h2, h3, h4⟩ := h.ex
  exact ⟨⟨k, p, q, fd, ps, h1, hr.mono hj, h2, h3, h4⟩, h.cl⟩
structure RdyI (P : Program) (w : World) (K : PySem.W.Frag) (mg : Str → Option Value) (base : Heap) (g : Gi) (c : Nat) (k n : Nat) (dd : List D) (F : FnI) : Prop where
  ex : ∃ (f : Addr) (fd : FuncData) (ps : List Str) (q : Str) (dvs : List L2.V) (ds : List Value), FnG P w K mg base k f fd (q :: ps) (spI g c ps.length F) ∧ Mk K (g.ca c) f ∧
    Binds K fd (q :: ps) ds ∧ Vals dvs ds ∧ (∀ F al, Reps g F al dd dvs) ∧ n + dvs.length = ps.length
theorem RdyI.v {X : Cx} {g : Gi} {c : Nat} {k j n : Nat} {dd : List D} {F : FnI} (h : RdyI X.prog X.w X.K X.mg X.base g c k n dd F) (hr : Room j X.A) (hj : k + 1 ≤ j) : VMake X g c n dd F := by
  obtain ⟨f, fd, ps, q, dvs, ds, h1, h2, h3, h4, h5, h6⟩ := h.ex
  exact ⟨k, f, fd, ps, q, dvs, ds, h1, hr.mono hj, h2, h3, h4, h5, h6⟩
structure RdyC (P : Program) (w : World) (K : PySem.W.Frag) (mg : Str → Option Value) (base : Heap) (g : Gi) (c : Nat) (m : Str) (k n : Nat) (dd : List D) (F : Fn) : Prop where
  ex : ∃ (p f : Addr) (mc : Value) (fd : FuncData) (ps : List Str) (dvs : List L2.V) (ds : List Value), FnG P w K mg base k f fd ps (spD g ps.length F) ∧ ClX.CRead K (g.ca c) mc ∧ ClX.CMet K (g.ca c) mc m p f ∧
    Binds K fd ps ds ∧ Vals dvs ds ∧ (∀ F al, Reps g F al dd dvs) ∧ (n + 1) + dvs.length = ps.length
theorem RdyC.v {X : Cx} {g : Gi} {c : Nat} {m : Str} {k j n : Nat} {dd : List D} {F : Fn} (h : RdyC X.prog X.w X.K X.mg X.base g c m k n dd F) (hr : Room j X.A) (hj : k ≤ j) : VCMet X g c m n dd F := by
  obtain ⟨p, f, mc, fd, ps, dvs, ds, h1, h2, h3, h4, h5, h6, h7⟩ := h.ex
  exact ⟨k, p, f, mc, fd, ps, dvs, ds, h1, hr.mono hj, h2, h3, h4, h5, h6, h7⟩
structure RdyE (P : Program) (w : World) (K : PySem.W.Frag) (mg : Str → Option Value) (base : Heap) (g : Gi) (x : Str) (c k n : Nat) (mk : List D → List (Str × D)) : Prop where
  ex : ∃ (fI : Addr) (fd : FuncData) (ps : List Str) (fs : List L2.V → List (Str × L2.V)), OexC K (g.ca c) ∧ PySem.W.findIn K (.ref (g.ca c)) "__init__" = some (some (.ref fI)) ∧ PySem.W.typeIn K (.ref fI) = some (.type "function") ∧
    FnOk P w K mg base (L2.CX P w) k fI fd ps (spE (g.ca c) n fs) ∧ Binds K fd ps [] ∧ mg x = some (.ref (g.ca c)) ∧ n ≤ 1000 ∧
    (∀ F al ds ws, Reps g F al ds ws → ds.length = n → RepF g F al (mk ds) (fs ws))
theorem RdyE.v {X : Cx} {g : Gi} {x : Str} {c k j n : Nat} {mk : List D → List (Str × D)} (h : RdyE X.prog X.w X.K X.mg X.base g x c k n mk) (hr : Room j X.A) (hj : k + 1 ≤ j) : VExc X g x c n mk := by
  obtain ⟨fI, fd, ps, fs, h1, h2, h3, h4, h5, h6, h7, h8⟩ := h.ex
  exact ⟨k, fI, fd, ps, fs, h1, h2, h3, h4, hr.mono hj, h5, h6, h7, h8⟩
end Vi

set_option Elab.async false
set_option linter.all false
set_option maxRecDepth 100000
set_option maxHeartbeats 2000000
namespace Vi
open PySem L2 PyProof.Rows

/-! ### the law's end -/
/-- the law's function keeps its promise at a heap that holds nothing but the script -/
def Says1 (F : Fn) (n : Nat) : Prop := ∀ ns : List Int, ns.length ≤ n → ∃ h, F [.kl (ns.map D.int)] [] = .ok (.bl true) h
theorem reps_ints {g : Gi} {F : Hp} {al : Nat → Option Addr} : ∀ ns : List Int, Reps g F al (ns.map D.int) (ns.map L2.V.int)
  | [] => rfl
  | n :: r => ⟨_, _, rfl, rfl, reps_ints r⟩
theorem entry_sp {g : Gi} {K : PySem.W.Frag} (hK : g.K = K) {F : Fn} {n : Nat} {ns : List Int} {H : Hp} {a : Addr} (h : Says1 F n) (hl : ns.length ≤ n) (hS : SqL K H a (ns.map L2.V.int)) :
    spD g 1 F [.ref a] H (fun v _ => v = .bl true) (fun _ _ _ => False) := by
  obtain ⟨h', e⟩ := h ns hl
  refine ⟨⟨H, fun _ => none, [], fun _ => none⟩, [.kl (ns.map D.int)], rfl, ⟨fun _ _ z => z, fun _ _ _ z => (by cases z), fun _ _ z => (by cases z), fun n c z => (by cases z), ⟨fun _ _ z => (by cases z), fun _ _ z => (by cases z)⟩⟩, ⟨_, _, rfl, ⟨a, _, rfl, hK ▸ hS, reps_ints ns⟩, rfl⟩, ?_⟩
  rw [e]
  intro v H' s' _ _ _ r
  exact r
section
variable {P : Program} {w : World} {K : PySem.W.Frag} {mg mb : Str → Option Value} {k : Nat} {fa a : Addr} {fd : FuncData} {x : Str} {sp : Sp} {s1 : Shared} {vs : List Value} {ns : List Int}
theorem guards0 : callerA.guards = some [] := rfl
theorem run_law (KX : K.In s1.heap) (hns : s1.heap.Ns mainGlobals mg) (hb : s1.heap.Ns builtinsNs mb) (hbb : ∀ x : Str, x ≠ "__name__" → mb x = bootBuiltins x) (hlim : s1.heap.NoLimit) (hg : s1.gens = #[])
    (ha : s1.heap.get? a = some { cls := .type "list", data := .seq vs.toArray }) (hi : IntsAre vs ns) (hl : ns.length ≤ sizeLine) (hr : Room k callerA)
    (F : ∀ base : Heap, K.In base → base.Ns mainGlobals mg → FnG P w K mg base k fa fd [x] sp) (bd : ∀ (s : Shared) (u : Value), BindsTo s fd ⟨[u], []⟩ [(x, u)])
    (hsp : ∀ H : Hp, SqL K H a (ns.map L2.V.int) → sp [.ref a] H (fun v _ => v = .bl true) fun _ _ _ => False) :
    codeAny (model P w) callerA (.call (.ref fa) ⟨[.ref a], []⟩) (fun r s' => r = .ok (.ret (.bool true)) ∧ OldK s1.heap s'.heap ∧ s'.os = s1.os ∧ AllBare s'.gens) s1 := by
  have rv := vals_ints hi
  have lenV := hi.length
  -- H: nothing, or the script alone
  have core : ∀ (H : Hp) (hO : Only H) (hS : SqL K H a (ns.map L2.V.int)) (ok : HOk P w H s1.heap) (only : ∀ b u, H b = some u → b = a) (nk : ∀ u, H a = some u → K.lookup a = none),
      codeAny (model P w) callerA (.call (.ref fa) ⟨[.ref a], []⟩) (fun r s' => r = .ok (.ret (.bool true)) ∧ OldK s1.heap s'.heap ∧ s'.os = s1.os ∧ AllBare s'.gens) s1 := by
    intro H hO hS ok only nk
    have below : ∀ {b : Addr} {o : Obj}, s1.heap.get? b = some o → H b = none → (hidT s1.heap H).get? b = some o := fun e n => hidT_get e n
    have free : ∀ {b : Addr} {o : Obj}, K.lookup b = some o → H b = none := fun {b o} e => by
      cases q : H b with
      | none => rfl
      | some u =>
        obtain rfl := only b u q
        rw [nk u q] at e
        cases e
    have noDict : ∀ {b : Addr} {o : Obj} {es : Array DictEntry} {ep : Nat}, s1.heap.get? b = some o → o.data = .dict es ep → H b = none := fun {b o es ep} e d => by
      cases q : H b with
      | none => rfl
      | some u =>
        obtain rfl := only b u q
        rw [ha] at e
        cases e
        cases (show Data.seq vs.toArray _ = Data.dict es ep from d)
    have ns' : ∀ {b : Addr} {m : Str → Option Value}, s1.heap.Ns b m → (hidT s1.heap H).Ns b m := fun ⟨o, es, ep, e, d, r⟩ => ⟨o, es, ep, below e (noDict e d), d, r⟩
    have kin : K.In (hidT s1.heap H) := fun b o e => below (KX b o e) (free e)
    have md : Mod K mg (hidT s1.heap H) := by
      refine ⟨kin, ns' hns, ⟨mb, ns' hb, hbb⟩, ?_⟩
      obtain ⟨mc, l1, l2⟩ := hlim
      exact ⟨mc, ns' l1, l2⟩
    have e0 : Env0 P w K mg (hidT s1.heap H) callerA [] s1 H :=
      ⟨rfl, md, fun b o e => of_hidT e, Nat.le_of_eq (hidT_size _ _), trivial, fun b z => (by cases z), ok, .of_eq hg⟩
    have go := (F _ kin (ns' hns)).run callerA [] s1 H ⟨[.ref a], []⟩ [.ref a] [.ref a] _ (fun _ _ _ => False) hr guards0 e0 (bd s1 (.ref a)) (.cons rfl .nil) (hsp H hS)
    refine codeAny_mono go fun r s' h => ?_
    cases r with
    | error e =>
      obtain ⟨_, _, _, _, _, _, _, _, _, _, _, _, z⟩ := h
      exact z.elim
    | ok fl =>
      cases fl with
      | next => exact h.elim
      | brk => exact h.elim
      | cont => exact h.elim
      | ret u =>
        obtain ⟨v, H', os, bare, un, ok', rr, q⟩ := h
        obtain rfl : v = .bl true := q
        obtain rfl : u = Value.bool true := rr
        refine ⟨rfl, OldK.of_keep fun b o e => ?_, os, bare⟩
        rcases hO b with z | ⟨ob, xs, z⟩
        · exact un.keep b o e z (fun y => (by cases y)) (fun y => (by cases y))
        · obtain ⟨e1, _⟩ := ok b _ z
          obtain ⟨e2, _⟩ := ok' b _ (un.frzs b ob _ z)
          rw [e] at e1
          cases e1
          exact e2
  cases hk : K.lookup a with
  | some o =>
    obtain rfl : o = { cls := .type "list", data := .seq vs.toArray } := Option.some.inj ((KX a o hk).symm.trans ha)
    refine core (fun _ => none) (fun _ => .inl rfl) (.inr ⟨_, vs.toArray, _, hk, rfl, rfl, rfl, ?_, by simpa using rv⟩) (fun b u z => (by cases z)) (fun b u z => (by cases z)) fun u z => (by cases z)
    rw [List.size_toArray, lenV]
    exact hl
  | none =>
    let o : HO := .frz { cls := .type "list", data := .seq vs.toArray } (.lst (ns.map L2.V.int))
    have at_ : ∀ {b : Addr} {u : HO}, (if b = a then some o else none) = some u → b = a ∧ u = o := fun {b u} z => by
      by_cases hb : b = a
      · rw [if_pos hb] at z
        exact ⟨hb, (Option.some.inj z).symm⟩
      · rw [if_neg hb] at z
        cases z
    refine core (fun b => if b = a then some o else none) (fun b => ?_) (.inl (.inr ⟨_, if_pos rfl⟩)) (fun b u z => ?_) (fun b u z => (at_ z).1) fun _ _ => hk
    · by_cases hb : b = a
      · exact .inr ⟨_, _, if_pos hb⟩
      · exact .inl (if_neg hb)
    · obtain ⟨rfl, rfl⟩ := at_ z
      exact ⟨ha, by rw [List.length_map]; exact hl, vs, _, rv, ha⟩
end
theorem walk_G {l : PySem.W.OpenLaw} {n k : Nat} {q : Program} {loose : List Str} {XP : (Str → Option Value) → Heap → Prop} {YP : World → Heap → Prop} {d : DefRec} {x : Str} {F : Fn}
    (hn : l.most = some n) (hn2 : n ≤ sizeLine) (hdf : d.params.defaults = []) (hr : Room k callerA) (says : Says1 F n)
    (T : ∀ (w : World) (mg : Str → Option Value) (fa : Addr) (h : Heap), YP w h → h.Ns mainGlobals mg → mg d.name = some (.ref fa) →
      ∃ (K : PySem.W.Frag) (fd : FuncData) (g : Gi), g.K = K ∧ K.In h ∧ (∀ (s : Shared) (u : Value), BindsTo s fd ⟨[u], []⟩ [(x, u)]) ∧
        ∀ base : Heap, K.In base → base.Ns mainGlobals mg → FnG l.prog w K mg base k fa fd [x] (spD g 1 F)) :
    PySem.W.WalkO q loose XP YP l.row.toRowW d [] (fun f vs => PySem.call f vs) := by
  refine Att.attach_call hn hdf fun w s0 s1 mg mb fa o pm cd doc a vs ns G Y ho hd hcd hmg hobj hints hlen hg => ?_
  obtain ⟨K, fd, g, hK, KX, bd, tf⟩ := T w mg fa _ Y G.T.g hmg
  exact run_law KX G.T.g G.T.b G.T.builtins G.T.nolimit hg hobj hints (Nat.le_trans hlen hn2) hr tf bd fun H hS => entry_sp hK says hlen hS
end Vi

set_option Elab.async false
set_option linter.all false
set_option maxRecDepth 100000
set_option maxHeartbeats 2000000
namespace Vi
open PySem L2 PyProof.Rows
/-! ### small words for the printed proofs -/
theorem bt_isinstance : bootBuiltins "isinstance" = some (.builtin "isinstance") := by decide +kernel
theorem bt_len : bootBuiltins "len" = some (.builtin "len") := by decide +kernel
theorem bt_abs : bootBuiltins "abs" = some (.builtin "abs") := by decide +kernel
theorem bt_sum : bootBuiltins "sum" = some (.builtin "sum") := by decide +kernel
theorem bt_max : bootBuiltins "max" = some (.builtin "max") := by decide +kernel
theorem bt_min : bootBuiltins "min" = some (.builtin "min") := by decide +kernel
theorem bt_repr : bootBuiltins "repr" = some (.builtin "repr") := by decide +kernel
theorem bt_int : bootBuiltins "int" = some (.type "int") := by decide +kernel
theorem bt_bool : bootBuiltins "bool" = some (.type "bool") := by decide +kernel
theorem bt_str : bootBuiltins "str" = some (.type "str") := by decide +kernel
theorem bt_list : bootBuiltins "list" = some (.type "list") := by decide +kernel
theorem bt_tuple : bootBuiltins "tuple" = some (.type "tuple") := by decide +kernel
theorem bt_dict : bootBuiltins "dict" = some (.type "dict") := by decide +kernel
theorem bt_ValueError : bootBuiltins "ValueError" = some (.type "ValueError") := by decide +kernel
/-- a builtin's value is what K says -/
def kGlobB (x id : Str) (n : String) (K : PySem.W.Frag) : Bool := eqv (PySem.W.nsIn K mainGlobals x) (some (some (.builtin n)))
/-- exceptions of two fields -/
def mkE (f1 f2 lit : Str) : List D → List (Str × D) := fun ds => match ds with
  | [v] => [(f2, .str lit), (f1, v)]
  | _ => []
theorem mkE_ok {g : Gi} {f1 f2 lit : Str} : ∀ (F : Hp) (al : Nat → Option Addr) (ds : List D) (ws : List L2.V), Reps g F al ds ws → ds.length = 1 → RepF g F al (mkE f1 f2 lit ds) ((fun ws => match ws with
      | [v] => [(f2, .str lit), (f1, v)]
      | _ => ([] : List (Str × L2.V))) ws) := by
  intro F al ds ws r hl
  match ds, hl with
  | [d], _ =>
    obtain ⟨v, r', e1, e2, e3⟩ := r
    have e3 : r' = [] := e3
    subst e3
    subst e1
    exact ⟨.str lit, [(f1, v)], rfl, rfl, v, [], rfl, e2, rfl⟩
section
variable {P : Program} {w : World} {K : PySem.W.Frag} {mg : Str → Option Value} {base : Heap} {g : Gi}
/-- what a printed proof stands on -/
structure Gnd (PDx : PD) (ck : List (PySem.W.Frag → Bool)) (fn : List DefV) (K : PySem.W.Frag) (mg : Str → Option Value) (base : Heap) : Prop where
  S : SaysV ck fn K
  X : K.In base
  G : base.Ns mainGlobals mg
  ok : PDx.ok K = true
theorem rdy_of {f : Addr} {x : Str} {fd : FuncData} {ps : List Str} {qual : Str} {params : Arguments} {body : List Stmt} {scope : Scope} {nm : Str} {k : Nat} {F : Fn} (FD : FunD K nm qual params body scope [] [] f fd) (FG : FnG P w K mg base k f fd ps (spD g ps.length F)) (hm : mg x = some (.ref f))
    (hb : ∀ (kV doc pm : Value) (an : Option Addr) (cdv ct : Value) (us : List Value), us.length = ps.length → bindArgs (PySem.W.fnOf nm qual params body scope .none kV doc pm an cdv ct) ⟨us, []⟩ = pure (ps.zip us)) {n : Nat} (hn : n = ps.length) : Rdy P w K mg base g x k n [] F :=
  ⟨f, fd, ps, [], [], FG, hm, FD.kp, FD.bindsN hb, .nil, fun _ _ => rfl, by rw [hn]; rfl⟩
theorem FunD.fnIn {f : Addr} {fd : FuncData} {qual : Str} {params : Arguments} {body : List Stmt} {scope : Scope} {nm : Str} (FD : FunD K nm qual params body scope [] [] f fd) : PySem.W.fnIn K f = true := by
  obtain ⟨oc, od, dV, kV, doc, pm, an, cdv, ct, osl, _, lk, _⟩ := FD.ex
  unfold PySem.W.fnIn
  rw [lk]
theorem rdyM_of {f : Addr} {c : Nat} {m : Str} {fd : FuncData} {ps : List Str} {qual : Str} {params : Arguments} {body : List Stmt} {scope : Scope} {nm : Str} {k : Nat} {F : Fn} (FD : FunD K nm qual params body scope [] [] f fd) (FG : FnG P w K mg base k f fd ps (spD g ps.length F)) (hm : Meth K (g.ca c) m f) (hc : g.isC c = true)
    (hb : ∀ (kV doc pm : Value) (an : Option Addr) (cdv ct : Value) (us : List Value), us.length = ps.length → bindArgs (PySem.W.fnOf nm qual params body scope .none kV doc pm an cdv ct) ⟨us, []⟩ = pure (ps.zip us)) {n : Nat} (hn : n + 1 = ps.length) : RdyM P w K mg base g c m k n [] F :=
  ⟨⟨f, fd, ps, [], [], FG, hm, FD.bindsN hb, .nil, fun _ _ => rfl, by rw [← hn]; rfl, Vi.FunD.fnIn FD⟩, hc⟩
theorem rdyP_of {p f : Addr} {c : Nat} {m : Str} {fd : FuncData} {ps : List Str} {qual : Str} {params : Arguments} {body : List Stmt} {scope : Scope} {nm : Str} {k : Nat} {F : Fn} (FD : FunD K nm qual params body scope [] [] f fd) (FG : FnG P w K mg base k f fd ps (spD g ps.length F)) (hm : PropOf K (g.ca c) m p f) (hc : g.isC c = true)
    (hb : ∀ (kV doc pm : Value) (an : Option Addr) (cdv ct : Value) (us : List Value), us.length = ps.length → bindArgs (PySem.W.fnOf nm qual params body scope .none kV doc pm an cdv ct) ⟨us, []⟩ = pure (ps.zip us)) (hn : ps.length = 1) : RdyP P w K mg base g c m k F :=
  ⟨⟨p, f, fd, ps, FG, hm, FD.bindsN hb, hn⟩, hc⟩
theorem rdyC_of {p f : Addr} {c : Nat} {m : Str} {mc : Value} {fd : FuncData} {ps : List Str} {qual : Str} {params : Arguments} {body : List Stmt} {scope : Scope} {nm : Str} {k : Nat} {F : Fn} (FD : FunD K nm qual params body scope [] [] f fd) (FG : FnG P w K mg base k f fd ps (spD g ps.length F)) (hm : ClX.CRead K (g.ca c) mc ∧ ClX.CMet K (g.ca c) mc m p f)
    (hb : ∀ (kV doc pm : Value) (an : Option Addr) (cdv ct : Value) (us : List Value), us.length = ps.length → bindArgs (PySem.W.fnOf nm qual params body scope .none kV doc pm an cdv ct) ⟨us, []⟩ = pure (ps.zip us)) {n : Nat} (hn : n + 1 = ps.length) : RdyC P w K mg base g c m k n [] F :=
  ⟨p, f, mc, fd, ps, [], [], FG, hm.1, hm.2, FD.bindsN hb, .nil, fun _ _ => rfl, by rw [← hn]; rfl⟩
end
end Vi

set_option Elab.async false
set_option linter.all false
set_option maxRecDepth 100000
set_option maxHeartbeats 2000000
namespace Vi
open PySem L2

/-! ### reckoning with mirrors: simp goes from left to right, a continuation is not looked at before its value is there -/
def RS.seq (r : RS) (b : MS) : RS := match r with
  | .nx e h => b e h
  | r => r
@[simp] theorem mSeq_eq (a b : MS) (env : Env) (h : Hc) : mSeq a b env h = (a env h).seq b := by
  unfold mSeq RS.seq
  cases a env h <;> rfl
@[simp] theorem RS.seq_nx (e : Env) (h : Hc) (b : MS) : (RS.nx e h).seq b = b e h := rfl
@[simp] theorem RS.seq_ret (d : D) (h : Hc) (b : MS) : (RS.ret d h).seq b = .ret d h := rfl
@[simp] theorem RS.seq_brk (e : Env) (h : Hc) (b : MS) : (RS.brk e h).seq b = .brk e h := rfl
@[simp] theorem RS.seq_cnt (e : Env) (h : Hc) (b : MS) : (RS.cnt e h).seq b = .cnt e h := rfl
@[simp] theorem RS.seq_exc (e : Env) (x : D) (h : Hc) (b : MS) : (RS.exc e x h).seq b = .exc e x h := rfl
@[simp] theorem RS.seq_stuck (b : MS) : RS.stuck.seq b = .stuck := rfl
/-- what waits: it is not looked at before that for which it waits is there -/
class Kn (κ : Type) where k : κ
def ap {γ κ β : Type} (F : γ → κ → β) (r : γ) [i : Kn κ] : β := F r i.k
def RS.seqU (r : RS) (b : MS) (_ : Unit) : RS := r.seq b
@[simp ↓] theorem RS.seq_ap (r : RS) (b : MS) : r.seq b = @ap RS MS (Unit → RS) RS.seqU r ⟨b⟩ () := (rfl)
@[simp] theorem RS.seq_nx_ap (e : Env) (h : Hc) (b : MS) : @ap RS MS (Unit → RS) RS.seqU (.nx e h) ⟨b⟩ () = b e h := (rfl)
@[simp] theorem RS.seq_ret_ap (d : D) (h : Hc) (b : MS) : @ap RS MS (Unit → RS) RS.seqU (.ret d h) ⟨b⟩ () = .ret d h := (rfl)
@[simp] theorem RS.seq_brk_ap (e : Env) (h : Hc) (b : MS) : @ap RS MS (Unit → RS) RS.seqU (.brk e h) ⟨b⟩ () = .brk e h := (rfl)
@[simp] theorem RS.seq_cnt_ap (e : Env) (h : Hc) (b : MS) : @ap RS MS (Unit → RS) RS.seqU (.cnt e h) ⟨b⟩ () = .cnt e h := (rfl)
@[simp] theorem RS.seq_exc_ap (e : Env) (x : D) (h : Hc) (b : MS) : @ap RS MS (Unit → RS) RS.seqU (.exc e x h) ⟨b⟩ () = .exc e x h := (rfl)
@[simp] theorem RS.seq_stuck_ap (b : MS) : @ap RS MS (Unit → RS) RS.seqU .stuck ⟨b⟩ () = .stuck := (rfl)
@[simp] theorem R.thenS_ok {α : Type} (a : α) (h : Hc) (env : Env) (k : α → Hc → RS) : (R.ok a h).thenS env k = k a h := rfl
@[simp] theorem R.thenS_exc {α : Type} (x : D) (h : Hc) (env : Env) (k : α → Hc → RS) : (R.exc x h : R α).thenS env k = .exc env x h := rfl
@[simp] theorem R.thenS_stuck {α : Type} (env : Env) (k : α → Hc → RS) : (R.stuck : R α).thenS env k = .stuck := rfl
def R.thenU {α : Type} (r : R α) (p : Env × (α → Hc → RS)) (_ : Unit) : RS := r.thenS p.1 p.2
@[simp ↓] theorem R.thenS_ap {α : Type} (r : R α) (env : Env) (k : α → Hc → RS) : r.thenS env k = @ap (R α) (Env × (α → Hc → RS)) (Unit → RS) R.thenU r ⟨(env, k)⟩ () := (rfl)
@[simp] theorem R.thenS_ok_ap {α : Type} (a : α) (h : Hc) (env : Env) (k : α → Hc → RS) : @ap (R α) (Env × (α → Hc → RS)) (Unit → RS) R.thenU (.ok a h) ⟨(env, k)⟩ () = k a h := (rfl)
@[simp] theorem R.thenS_exc_ap {α : Type} (x : D) (h : Hc) (env : Env) (k : α → Hc → RS) : @ap (R α) (Env × (α → Hc → RS)) (Unit → RS) R.thenU (.exc x h) ⟨(env, k)⟩ () = .exc env x h := (rfl)
@[simp] theorem R.thenS_stuck_ap {α : Type} (env : Env) (k : α → Hc → RS) : @ap (R α) (Env × (α → Hc → RS)) (Unit → RS) R.thenU .stuck ⟨(env, k)⟩ () = .stuck := (rfl)
def R.bindU {α β : Type} (r : R α) (k : α → Hc → R β) (_ : Unit) : R β := r.bind k
@[simp ↓] theorem R.bind_ap {α β : Type} (r : R α) (k : α → Hc → R β) : r.bind k = @ap (R α) (α → Hc → R β) (Unit → R β) R.bindU r ⟨k⟩ () := (rfl)
@[simp] theorem R.bind_ok_ap {α β : Type} (a : α) (h : Hc) (k : α → Hc → R β) : @ap (R α) (α → Hc → R β) (Unit → R β) R.bindU (.ok a h) ⟨k⟩ () = k a h := (rfl)
@[simp] theorem R.bind_exc_ap {α β : Type} (x : D) (h : Hc) (k : α → Hc → R β) : @ap (R α) (α → Hc → R β) (Unit → R β) R.bindU (.exc x h) ⟨k⟩ () = .exc x h := (rfl)
@[simp] theorem R.bind_stuck_ap {α β : Type} (k : α → Hc → R β) : @ap (R α) (α → Hc → R β) (Unit → R β) R.bindU .stuck ⟨k⟩ () = .stuck := (rfl)
/-- a def's end -/
def RS.fin : RS → R D
  | .nx _ h => .ok .non h
  | .ret d h => .ok d h
  | .exc _ x h => .exc x h
  | _ => .stuck
theorem fnOf_eq (N n : Nat) (m : MS) (ds : List D) (h : Hc) (e : ds.length = n) : fnOf N n m ds h = (m (mkEnv N ds) h).fin := by
  unfold fnOf RS.fin
  refine (if_pos e).trans ?_
  cases m (mkEnv N ds) h <;> rfl
@[simp] theorem RS.fin_nx (e : Env) (h : Hc) : (RS.nx e h).fin = .ok .non h := rfl
@[simp] theorem RS.fin_ret (d : D) (h : Hc) : (RS.ret d h).fin = .ok d h := rfl
@[simp] theorem RS.fin_exc (e : Env) (x : D) (h : Hc) : (RS.exc e x h).fin = .exc x h := rfl
/-- a choice: the branches wait for the question -/
def pick {α : Type} (c : Bool) (a b : α) : α := if c then a else b
@[simp] theorem pick_t {α : Type} (a b : α) : pick true a b = a := rfl
@[simp] theorem pick_f {α : Type} (a b : α) : pick false a b = b := rfl
def pickU {α : Type} (c : Bool) (p : α × α) (_ : Unit) : α := pick c p.1 p.2
@[simp ↓] theorem pick_ap {α : Type} (c : Bool) (a b : α) : pick c a b = @ap Bool (α × α) (Unit → α) pickU c ⟨(a, b)⟩ () := (rfl)
@[simp] theorem pick_t_ap {α : Type} (a b : α) : @ap Bool (α × α) (Unit → α) pickU true ⟨(a, b)⟩ () = a := (rfl)
@[simp] theorem pick_f_ap {α : Type} (a b : α) : @ap Bool (α × α) (Unit → α) pickU false ⟨(a, b)⟩ () = b := (rfl)
section
variable (env : Env) (h : Hc)
@[simp] theorem mIfS_eq (c : MB) (a b : MS) : mIfS c a b env h = (c env h).thenS env fun x h1 => pick x (a env h1) (b env h1) := rfl
@[simp] theorem tAndM_eq (a b : MB) : tAndM a b env h = (a env h).bind fun x h1 => pick x (b env h1) (.ok false h1) := rfl
@[simp] theorem tOrM_eq (a b : MB) : tOrM a b env h = (a env h).bind fun x h1 => pick x (.ok true h1) (b env h1) := rfl
@[simp] theorem mIf_eq (c : MB) (a b : ME) : mIf c a b env h = (c env h).bind fun x h1 => pick x (a env h1) (b env h1) := rfl
end
@[simp] theorem mVar_d (i : Nat) (env : Env) (h : Hc) (x : D) (e : env[i]? = some (some (.d x))) : mVar i env h = .ok (.d x) h := by unfold mVar; rw [e]
@[simp] theorem mVar_o (i : Nat) (env : Env) (h : Hc) (x : List D) (e : env[i]? = some (some (.ol x))) : mVar i env h = .ok (.bl x) h := by unfold mVar; rw [e]
@[simp] theorem fEq_int (neg : Bool) (a b : Int) (h : Hc) : fEq neg (.d (.int a)) (.d (.int b)) h = .ok (.d (.bl (if neg then !decide (a = b) else decide (a = b)))) h := rfl
@[simp] theorem fLen_tup (xs : List D) (h : Hc) : fLen [.d (.tup xs)] h = .ok (.d (.int xs.length)) h := rfl
@[simp] theorem fLen_lst (xs : List D) (h : Hc) : fLen [.d (.lst xs)] h = .ok (.d (.int xs.length)) h := rfl
@[simp] theorem fIx_tup (xs : List D) (i : Int) (h : Hc) : fIx (.d (.tup xs)) (.d (.int i)) h = (match atI xs i with
  | some d => .ok (.d d) h
  | none => .stuck) := rfl
@[simp] theorem fIx_lst (xs : List D) (i : Int) (h : Hc) : fIx (.d (.lst xs)) (.d (.int i)) h = (match atI xs i with
  | some d => .ok (.d d) h
  | none => .stuck) := rfl
def RS.again (r : RS) (k : MS) : RS := match r with
  | .nx e h => k e h
  | .cnt e h => k e h
  | .brk e h => .nx e h
  | r => r
@[simp] theorem RS.again_nx (e : Env) (h : Hc) (k : MS) : (RS.nx e h).again k = k e h := rfl
@[simp] theorem RS.again_cnt (e : Env) (h : Hc) (k : MS) : (RS.cnt e h).again k = k e h := rfl
@[simp] theorem RS.again_brk (e : Env) (h : Hc) (k : MS) : (RS.brk e h).again k = .nx e h := rfl
@[simp] theorem RS.again_ret (d : D) (h : Hc) (k : MS) : (RS.ret d h).again k = .ret d h := rfl
@[simp] theorem RS.again_exc (e : Env) (x : D) (h : Hc) (k : MS) : (RS.exc e x h).again k = .exc e x h := rfl
def RS.againU (r : RS) (k : MS) (_ : Unit) : RS := r.again k
@[simp ↓] theorem RS.again_ap (r : RS) (k : MS) : r.again k = @ap RS MS (Unit → RS) RS.againU r ⟨k⟩ () := (rfl)
@[simp] theorem RS.again_nx_ap (e : Env) (h : Hc) (k : MS) : @ap RS MS (Unit → RS) RS.againU (.nx e h) ⟨k⟩ () = k e h := (rfl)
@[simp] theorem RS.again_cnt_ap (e : Env) (h : Hc) (k : MS) : @ap RS MS (Unit → RS) RS.againU (.cnt e h) ⟨k⟩ () = k e h := (rfl)
@[simp] theorem RS.again_brk_ap (e : Env) (h : Hc) (k : MS) : @ap RS MS (Unit → RS) RS.againU (.brk e h) ⟨k⟩ () = .nx e h := (rfl)
@[simp] theorem RS.again_ret_ap (d : D) (h : Hc) (k : MS) : @ap RS MS (Unit → RS) RS.againU (.ret d h) ⟨k⟩ () = .ret d h := (rfl)
@[simp] theorem RS.again_exc_ap (e : Env) (x : D) (h : Hc) (k : MS) : @ap RS MS (Unit → RS) RS.againU (.exc e x h) ⟨k⟩ () = .exc e x h := (rfl)
theorem mWhile_succ (n : Nat) (c : MB) (b : MS) (env : Env) (h : Hc) : mWhile (n + 1) c b env h = (c env h).thenS env fun x h1 => pick x ((b env h1).again (mWhile n c b)) (.nx env h1) := by
  show (c env h).thenS env _ = _
  congr 1
  funext x h1
  cases x with
  | false => rfl
  | true =>
    show (match b env h1 with
      | .nx e h2 => mWhile n c b e h2
      | .cnt e h2 => mWhile n c b e h2
      | .brk e h2 => .nx e h2
      | .ret d h2 => .ret d h2
      | .exc e x h2 => .exc e x h2
      | .stuck => .stuck) = (b env h1).again _
    cases b env h1 <;> rfl
/-- a for loop's turn -/
theorem forL_cons (T : TgF) (b : MS) (x : D) (r : List D) (env : Env) (h : Hc) : forL T b (x :: r) env h = (match T x env with
    | none => .stuck
    | some env1 => (b env1 h).again (forL T b r)) := by
  show (match T x env with
    | none => RS.stuck
    | some env1 => (match b env1 h with
      | .nx e h2 => forL T b r e h2
      | .cnt e h2 => forL T b r e h2
      | .brk e h2 => .nx e h2
      | .ret d h2 => .ret d h2
      | .exc e x h2 => .exc e x h2
      | .stuck => .stuck)) = _
  cases T x env with
  | none => rfl
  | some env1 =>
    dsimp only
    cases b env1 h <;> rfl
theorem forL_nil (T : TgF) (b : MS) (env : Env) (h : Hc) : forL T b [] env h = .nx env h := rfl
@[simp] theorem fAdd_int (o : Bool) (a b : Int) (h : Hc) : fAdd o (.d (.int a)) (.d (.int b)) h = .ok (.d (.int (a + b))) h := rfl
@[simp] theorem fSum_kl (xs : List D) (h : Hc) : fSum [.d (.kl xs)] h = (match ints? xs with
      | some ns => .ok (.d (.int ns.sum)) h
      | none => .stuck) := rfl
@[simp] theorem fList_kl (o : Bool) (xs : List D) (h : Hc) : fList o [.d (.kl xs)] h = .ok (Vl.ofL o xs) h := rfl
@[simp] theorem ints_map : ∀ ns : List Int, ints? (ns.map D.int) = some ns
  | [] => rfl
  | n :: r => by
    show (ints? (r.map D.int)).map (n :: ·) = _
    rw [ints_map r]
    rfl
end Vi

set_option Elab.async false
set_option linter.all false
set_option maxRecDepth 100000
set_option maxHeartbeats 2000000
namespace Vi
open PySem L2

/-! ### in, not in -/
/-- flat data -/
def vOf : D → Option V
  | .non => some .non
  | .bl b => some (.bl b)
  | .int i => some (.int i)
  | .str x => some (.str x)
  | _ => none
def vOfs : List D → Option (List V)
  | [] => some []
  | x :: r => match vOf x, vOfs r with
    | some v, some vs => some (v :: vs)
    | _, _ => none
theorem vOf_rep {g : Gi} {F : Hp} {al : Nat → Option Addr} {d : D} {v u : V} (r : Rep g F al d v) (e : vOf d = some u) : v = u ∧ flatV u = true := by
  cases d <;> cases e <;> exact ⟨r, rfl⟩
theorem vOfs_reps {g : Gi} {F : Hp} {al : Nat → Option Addr} : ∀ {ds : List D} {vs us : List V}, Reps g F al ds vs → vOfs ds = some us → vs = us ∧ us.all flatV = true
  | [], vs, us, r, e => by
    cases e
    exact ⟨r, rfl⟩
  | d :: ds, vs, us, r, e => by
    obtain ⟨v, ws, rfl, r1, r2⟩ := r
    unfold vOfs at e
    split at e
    · next u us' e1 e2 =>
      cases e
      obtain ⟨rfl, f1⟩ := vOf_rep r1 e1
      obtain ⟨rfl, f2⟩ := vOfs_reps r2 e2
      exact ⟨rfl, by rw [List.all_cons, f1, f2]; rfl⟩
    · cases e
/-- i is a part of the text j -/
def hasSub (j i : PySem.Str) : Bool := !(Builtin.Str.occurrences j i 0 j.length 1).isEmpty
def seq? (h : Hc) (x : Vl) : Option (List D) := match lst? h x with
  | some xs => some xs
  | none => tup? x
def nB (neg b : Bool) : D := .bl (if neg then !b else b)
def fInS (neg : Bool) (x y : Vl) (h : Hc) : R Vl := match x, seq? h y with
  | .d d, some ys => (match vOf d, vOfs ys with
    | some u, some us => .ok (.d (nB neg (inV u us))) h
    | _, _ => (match x.dat?, y.dat? with
      | some d, some (.lst ds) => if shp d && shp (.lst ds) then .ok (.d (nB neg (ds.any fun z => eqD z d))) h else .stuck
      | _, _ => .stuck))
  | _, _ => .stuck
def fIn (neg : Bool) (x y : Vl) (h : Hc) : R Vl := match x, y with
  | .d (.str a), .d (.str b) => .ok (.d (nB neg (hasSub b a))) h
  | x, y => fInS neg x y h
theorem VlRep.seq {g : Gi} {B : Bg} {env : Env} {s : Sta} {σ : L2.St} {H : Hp} {x : Vl} {v : V} {xs : List D} (gd : Good g s H) (h : VlRep g B env σ s H x v) (e : seq? s.h x = some xs) : ∃ a vs, v = .ref a ∧ (SqL g.K H a vs ∨ SqT g.K H a vs) ∧ Reps g s.F s.al xs vs := by
  unfold seq? at e
  split at e
  · next ys e1 =>
    cases e
    obtain ⟨a, vs, h1, h2, h3⟩ := h.lst gd e1
    exact ⟨a, vs, h1, .inl h2, h3⟩
  · obtain ⟨a, vs, h1, h2, h3⟩ := h.tup gd e
    exact ⟨a, vs, h1, .inr h2, h3⟩
theorem toPs_map : ∀ ds : List D, toPs ds = ds.map toP
  | [] => by simp [toPs]
  | d :: ds => by simp [toPs, toPs_map ds]
theorem any_eqD (ds : List D) (d : D) : ((toPs ds).any fun z => PyData.eqv z (toP d)) = ds.any fun z => eqD z d := by
  rw [toPs_map, List.any_map]
  rfl
section
variable {X : Cx} {g : Gi}
theorem o_in (hK : g.K = X.K) (hu : X.A.units + 65 < cLine) : OpV X g (compareOp .In) (fIn false) := by
  refine ⟨_, OpR.or (OpR.or op_in_str op_in_seq) (op_inD hu), fun B W env s σ H x y v w Q sr r1 r2 p => ?_⟩
  unfold fIn at p
  split at p
  · next a b =>
    obtain rfl : v = .str a := r1
    obtain rfl : w = .str b := r2
    exact .inl (.inl ⟨a, b, rfl, rfl, PostE.pure sr p rfl⟩)
  · unfold fInS at p
    split at p
    · next d ys e1 _ =>
      split at p
      · next u us e2 e3 =>
        obtain ⟨a, vs, rfl, h1, h2⟩ := r2.seq sr.good e1
        obtain ⟨rfl, f1⟩ := vOf_rep r1 e2
        obtain ⟨rfl, f2⟩ := vOfs_reps h2 e3
        exact .inl (.inr ⟨a, _, rfl, hK ▸ h1, f1, f2, PostE.pure sr p rfl⟩)
      · split at p
        · next d' ds e4 e5 =>
          split at p
          · next hs =>
            obtain ⟨h1, h2⟩ := Bool.and_eq_true_iff.mp hs
            refine .inr ⟨_, toPs ds, hK ▸ r1.dp' sr.good e4, ?_, h1, ?_, ?_⟩
            · have q := r2.dp' sr.good e5
              simp only [toP] at q
              exact hK ▸ q
            · unfold shp at h2
              simp only [toP] at h2
              exact h2
            · rw [any_eqD]
              exact PostE.pure sr p rfl
          · exact p.elim
        · exact p.elim
    · exact p.elim
theorem o_nin (hK : g.K = X.K) (hu : X.A.units + 65 < cLine) : OpV X g (compareOp .NotIn) (fIn true) := by
  refine ⟨_, OpR.or (OpR.or op_notin_str op_notIn_seq) (op_notInD hu), fun B W env s σ H x y v w Q sr r1 r2 p => ?_⟩
  unfold fIn at p
  split at p
  · next a b =>
    obtain rfl : v = .str a := r1
    obtain rfl : w = .str b := r2
    exact .inl (.inl ⟨a, b, rfl, rfl, PostE.pure sr p rfl⟩)
  · unfold fInS at p
    split at p
    · next d ys e1 _ =>
      split at p
      · next u us e2 e3 =>
        obtain ⟨a, vs, rfl, h1, h2⟩ := r2.seq sr.good e1
        obtain ⟨rfl, f1⟩ := vOf_rep r1 e2
        obtain ⟨rfl, f2⟩ := vOfs_reps h2 e3
        exact .inl (.inr ⟨a, _, rfl, hK ▸ h1, f1, f2, PostE.pure sr p rfl⟩)
      · split at p
        · next d' ds e4 e5 =>
          split at p
          · next hs =>
            obtain ⟨h1, h2⟩ := Bool.and_eq_true_iff.mp hs
            refine .inr ⟨_, toPs ds, hK ▸ r1.dp' sr.good e4, ?_, h1, ?_, ?_⟩
            · have q := r2.dp' sr.good e5
              simp only [toP] at q
              exact hK ▸ q
            · unfold shp at h2
              simp only [toP] at h2
              exact h2
            · rw [any_eqD]
              exact PostE.pure sr p rfl
          · exact p.elim
        · exact p.elim
    · exact p.elim

/-! ### is None -/
def fIsN (neg : Bool) (x y : Vl) (h : Hc) : R Vl := match y with
  | .d .non => (match x with
    | .d .non => .ok (.d (nB neg true)) h
    | .d (.cls _) => .stuck
    | _ => .ok (.d (nB neg false)) h)
  | _ => .stuck
theorem isN_val {g : Gi} {B : Bg} {env : Env} {s : Sta} {σ : L2.St} {H : Hp} {x : Vl} {v : V} (r : VlRep g B env σ s H x v) (n : x ≠ .d .non) : v ≠ .non := by
  intro e
  subst e
  cases x with
  | d d =>
    cases d with
    | non => exact n rfl
    | bl _ => cases r
    | int _ => cases r
    | str _ => cases r
    | tup _ => obtain ⟨_, _, h, _⟩ := r; cases h
    | lst _ => obtain ⟨_, _, h, _⟩ := r; cases h
    | kl _ => obtain ⟨_, _, h, _⟩ := r; cases h
    | ref _ => obtain ⟨_, h, _⟩ := r; cases h
    | obj _ _ => obtain ⟨_, _, _, h, _⟩ := r; cases h
    | cls _ => cases r
    | dK _ => obtain ⟨_, _, h, _⟩ := r; cases h
    | dT _ => obtain ⟨_, _, h, _⟩ := r; cases h
  | tl _ => obtain ⟨_, _, h, _⟩ := r; cases h
  | bl _ => obtain ⟨_, _, h, _⟩ := r; cases h
  | bi _ _ => obtain ⟨_, _, _, h, _⟩ := r; cases h
theorem o_is : OpV X g (compareOp .Is) (fIsN false) := by
  refine ⟨_, op_isN, fun B W env s σ H x y v w Q sr r1 r2 p => ?_⟩
  unfold fIsN at p
  split at p
  · obtain rfl : w = .non := r2
    split at p
    · obtain rfl : v = .non := r1
      exact ⟨rfl, PostE.pure sr p rfl⟩
    · exact p.elim
    · next n1 n2 =>
      have := isN_val r1 n1
      refine ⟨rfl, ?_⟩
      rw [decide_eq_false this]
      exact PostE.pure sr p rfl
  · exact p.elim
theorem o_isnot : OpV X g (compareOp .IsNot) (fIsN true) := by
  refine ⟨_, op_notN, fun B W env s σ H x y v w Q sr r1 r2 p => ?_⟩
  unfold fIsN at p
  split at p
  · obtain rfl : w = .non := r2
    split at p
    · obtain rfl : v = .non := r1
      exact ⟨rfl, PostE.pure sr p rfl⟩
    · exact p.elim
    · next n1 n2 =>
      have := isN_val r1 n1
      refine ⟨rfl, ?_⟩
      rw [decide_eq_false this]
      exact PostE.pure sr p rfl
  · exact p.elim

/-! ### all, any of a list of truths -/
def bools? : List D → Option (List Bool)
  | [] => some []
  | .bl b :: r => (bools? r).map (b :: ·)
  | _ => none
theorem Reps.bools {F : Hp} {al : Nat → Option Addr} : ∀ (ds : List D) {vs : List V} {bs : List Bool}, Reps g F al ds vs → bools? ds = some bs → vs = bs.map V.bl
  | [], vs, bs, r, e => by
    cases e
    exact r
  | d :: ds, vs, bs, r, e => by
    obtain ⟨v, ws, rfl, r1, r2⟩ := r
    cases d with
    | bl b =>
      unfold bools? at e
      cases e2 : bools? ds with
      | none => rw [e2] at e; cases e
      | some bs' =>
        rw [e2] at e
        cases e
        rw [Reps.bools ds r2 e2]
        obtain rfl : v = .bl b := r1
        rfl
    | _ => cases e
def fAll (any : Bool) (xs : List Vl) (h : Hc) : R Vl := match xs with
  | [x] => (match lst? h x with
    | some ys => (match bools? ys with
      | some bs => .ok (.d (.bl (if any then bs.any id else bs.all id))) h
      | none => .stuck)
    | none => .stuck)
  | _ => .stuck
theorem c_all (hK : g.K = X.K) (hc : X.calm = true) : CallV X g (.builtin "all") (fAll false) := by
  refine ⟨_, cr_all hc, fun B W env s σ H xs vs Q sr r p => ?_⟩
  unfold fAll at p
  split at p
  · obtain ⟨v, rfl, rr⟩ := r.one
    split at p
    · next ys e1 =>
      split at p
      · next bs e2 =>
        obtain ⟨a1, ws, rfl, h1, q1⟩ := rr.lst sr.good e1
        have e3 := Reps.bools _ q1 e2
        subst e3
        exact ⟨a1, bs, rfl, hK ▸ h1, PostE.pure sr p rfl⟩
      · exact p.elim
    · exact p.elim
  · exact p.elim
theorem c_any (hK : g.K = X.K) (hc : X.calm = true) : CallV X g (.builtin "any") (fAll true) := by
  refine ⟨_, cr_any hc, fun B W env s σ H xs vs Q sr r p => ?_⟩
  unfold fAll at p
  split at p
  · obtain ⟨v, rfl, rr⟩ := r.one
    split at p
    · next ys e1 =>
      split at p
      · next bs e2 =>
        obtain ⟨a1, ws, rfl, h1, q1⟩ := rr.lst sr.good e1
        have e3 := Reps.bools _ q1 e2
        subst e3
        exact ⟨a1, bs, rfl, hK ▸ h1, PostE.pure sr p rfl⟩
      · exact p.elim
    · exact p.elim
  · exact p.elim
end
end Vi

set_option Elab.async false
set_option linter.all false
set_option maxRecDepth 100000
set_option maxHeartbeats 2000000
namespace Vi
open PySem L2 PyProof.Rows

/-! ### slices -/
abbrev MO := Env → Hc → R (Option Int)
@[simp] def moN : MO := fun _ h => .ok none h
@[simp] def moS (m : ME) : MO := fun env h => (m env h).bind fun x h1 => match x with
  | .d (.int i) => .ok (some i) h1
  | _ => .stuck
def cutL {α : Type} (xs : List α) (lo hi : Option Int) : List α := (xs.drop (HT.sIx xs.length 0 lo)).take (HT.sIx xs.length xs.length hi - HT.sIx xs.length 0 lo)
def fSl (o : Bool) (x : Vl) (lo hi : Option Int) (h : Hc) : R Vl := match lst? h x with
  | some xs => .ok (Vl.ofL o (cutL xs lo hi)) h
  | none => (match tup? x with
    | some xs => .ok (.d (.tup (cutL xs lo hi))) h
    | none => (match x with
      | .d (.str z) => if z.length ≤ 100000 then .ok (.d (.str (Txt.slice z lo hi))) h else .stuck
      | _ => .stuck))
@[simp] def mSl (o : Bool) (m : ME) (lo hi : MO) : ME := fun env h => (m env h).bind fun x h1 => (lo env h1).bind fun l h2 => (hi env h2).bind fun u h3 => fSl o x l u h3
section
variable (g : Gi) (B : Bg) (W : WXv) (env : Env) (s : Sta) (σ : L2.St) (H : Hp)
def PostO : R (Option Int) → (Option Int → Hp → Prop) → Prop
  | .ok i h, Q => ∀ (H' : Hp) (s' : Sta), s'.h = h → Evo s H s' H' → SR g B env s' σ H' → Q i H'
  | .exc x h, _ => PostX g B W env s σ H x h
  | .stuck, _ => False
end
def tP (g : Gi) (B : Bg) (W : WXv) (m : MO) : TO := fun σ H Q => ∃ env s, SR g B env s σ H ∧ PostO g B W env s σ H (m env s.h) Q
section
variable {X : Cx} {g : Gi} {B : Bg} {W : WXv} {pos p2 : Pos} {e e1 e2 : Expr} {m ma mb : ME} {lo hi : Option Expr} {ml mh : MO}
theorem vo_none : PO X none (tP g B W moN) := ⟨fun pins s σ H Q I h => by
  obtain ⟨env, st, sr, p⟩ := h
  exact po_none.run pins s σ H Q I (p H st rfl (Evo.refl st H) sr)⟩
theorem po_imp {X : Cx} {e : Option Expr} {t t' : TO} (h : PO X e t) (i : ∀ σ H Q, t' σ H Q → t σ H Q) : PO X e t' := ⟨fun pins s σ H Q I q => h.run pins s σ H Q I (i σ H Q q)⟩
theorem vo_some (h : PE X e (tE g B W m)) : PO X (some e) (tP g B W (moS m)) := by
  refine po_imp (po_some h) fun σ H Q ⟨env, s, sr, p⟩ => ?_
  refine ⟨env, s, sr, ?_⟩
  unfold moS at p
  cases e1 : m env s.h with
  | ok x h1 =>
    rw [e1] at p
    intro v H1 s1 q1 ev1 sr1 r1
    cases x with
    | d d =>
      cases d with
      | int i => exact ⟨i, r1, p H1 s1 q1 ev1 sr1⟩
      | _ => exact p.elim
    | _ => exact p.elim
  | exc x h => rw [e1] at p; exact p
  | stuck => rw [e1] at p; exact p
theorem bindO {f : Vl → Option Int → Option Int → Hc → R Vl} {env : Env} {s : Sta} {σ : L2.St} {H : Hp} {Q : VK} (sr : SR g B env s σ H) (p : PostE g B W env s σ H ((m env s.h).bind fun x h1 => (ml env h1).bind fun l h2 => (mh env h2).bind fun u h3 => f x l u h3) Q) :
    tE g B W m σ H fun v H1 => tP g B W ml σ H1 fun l H2 => tP g B W mh σ H2 fun u H3 => ∃ s3 x, SR g B env s3 σ H3 ∧ Evo s H s3 H3 ∧ VlRep g B env σ s3 H3 x v ∧ PostE g B W env s3 σ H3 (f x l u s3.h) Q := by
  refine ⟨env, s, sr, ?_⟩
  cases e1 : m env s.h with
  | ok x h1 =>
    rw [e1] at p
    intro v H1 s1 q1 ev1 sr1 r1
    refine ⟨env, s1, sr1, ?_⟩
    rw [q1]
    have p : PostE g B W env s σ H ((ml env h1).bind fun l h2 => (mh env h2).bind fun u h3 => f x l u h3) Q := p
    cases e2 : ml env h1 with
    | ok l h2 =>
      rw [e2] at p
      intro H2 s2 q2 ev2 sr2
      refine ⟨env, s2, sr2, ?_⟩
      rw [q2]
      have p : PostE g B W env s σ H ((mh env h2).bind fun u h3 => f x l u h3) Q := p
      cases e3 : mh env h2 with
      | ok u h3 =>
        rw [e3] at p
        intro H3 s3 q3 ev3 sr3
        refine ⟨s3, x, sr3, (ev1.trans ev2).trans ev3, (r1.evo ev2).evo ev3, ?_⟩
        rw [q3]
        exact PostE.later ((ev1.trans ev2).trans ev3) p
      | exc y h =>
        rw [e3] at p
        intro cls dd H3 s3 q3 ev3 sr3 xr
        exact p cls dd H3 s3 q3 ((ev1.trans ev2).trans ev3) sr3 xr
      | stuck => rw [e3] at p; exact p
    | exc y h =>
      rw [e2] at p
      intro cls dd H2 s2 q2 ev2 sr2 xr
      exact p cls dd H2 s2 q2 (ev1.trans ev2) sr2 xr
    | stuck => rw [e2] at p; exact p
  | exc y h => rw [e1] at p; exact p
  | stuck => rw [e1] at p; exact p
theorem cutL_whole {α : Type} {xs : List α} {lo hi : Option Int} (h : HT.sIx xs.length 0 lo = 0 ∧ HT.sIx xs.length xs.length hi = xs.length) : cutL xs lo hi = xs := by
  unfold cutL
  rw [h.1, h.2, List.drop_zero]
  exact List.take_of_length_le (by omega)
theorem ve_slice (o : Bool) (hK : g.K = X.K) (he : PE X e (tE g B W m)) (hl : PO X lo (tP g B W ml)) (hh : PO X hi (tP g B W mh)) : PE X (.Subscript e (.Slice lo hi none p2) pos) (tE g B W (mSl o m ml mh)) := by
  refine pe_imp (pe_slice (SlR.or (SlR.or sl_list sl_tupA) C8.sl_txt) he hl hh) fun σ H Q ⟨env, s, sr, p⟩ => ?_
  refine (bindO sr p).mono fun v H1 q1 => ?_
  obtain ⟨env1, s1, sr1, q1⟩ := q1
  refine ⟨env1, s1, sr1, ?_⟩
  revert q1
  cases ml env1 s1.h with
  | exc x h => exact fun q => q
  | stuck => exact fun q => q
  | ok l h =>
    intro q1 H2 s2 e2 ev2 sr2
    obtain ⟨env3, s3, sr3, q3⟩ := q1 H2 s2 e2 ev2 sr2
    refine ⟨env3, s3, sr3, ?_⟩
    revert q3
    cases mh env3 s3.h with
    | exc x h => exact fun q => q
    | stuck => exact fun q => q
    | ok u h =>
      intro q3 H4 s4 e4 ev4 sr4
      obtain ⟨s5, x, sr5, ev5, r5, p5⟩ := q3 H4 s4 e4 ev4 sr4
      unfold fSl at p5
      split at p5
      · next xs ex =>
        obtain ⟨a, vs, rfl, h1, h2⟩ := r5.lst sr5.good ex
        refine .inl (.inl ⟨a, vs, rfl, hK ▸ h1, fun q hq => ?_⟩)
        have hc : Reps g s5.F s5.al (cutL xs l u) (cutV vs l u) := by
          unfold cutL cutV
          rw [h2.length]
          exact (h2.drop _).take _
        exact PostE.newLO sr5 p5 hc hq
      · split at p5
        · next xs ex =>
          obtain ⟨a, vs, rfl, h1, h2⟩ := r5.tup sr5.good ex
          have hc : Reps g s5.F s5.al (cutL xs l u) (cutV vs l u) := by
            unfold cutL cutV
            rw [h2.length]
            exact (h2.drop _).take _
          refine .inl (.inr ⟨a, vs, rfl, hK ▸ h1, fun hw => ?_, fun hw q hq => PostE.newT sr5 p5 hc hq⟩)
          rw [h2.length] at hw
          rw [cutL_whole hw] at p5
          obtain rfl := tup?_eq ex
          exact PostE.pure sr5 p5 r5
        · split at p5
          · next z _ _ =>
            split at p5
            · next hz => exact .inr ⟨z, r5, size_of hz, PostE.pure sr5 p5 rfl⟩
            · exact p5.elim
          · exact p5.elim
/-! ### xs[::-1] -/
def rRevL (K : PySem.W.Frag) : V → Hp → VK → Prop := fun x H Q => ∃ a xs, x = .ref a ∧ SqL K H a xs ∧ ∀ p, H p = none → Q (.ref p) (upd H p (.lst xs.reverse))
theorem pe_revsl {te : TE} {j} {p3 p4 : Pos} (he : PE X e te) :
    PE X (.Subscript e (.Slice none none (some (.UnaryOp .USub (.Constant (.int 1) j p3) p4)) p2) pos) (fun σ H Q => te σ H fun x H1 => rRevL X.K x H1 Q) := by
  refine ⟨fun pins s σ H Q I h => ?_⟩
  refine Subscript_ (thn (he.run pins s σ H _ I h) fun v s1 ⟨x, H1, I1, r1, q1⟩ => ?_)
  obtain ⟨a, xs, rfl, hx, q⟩ := q1
  have hk : PE X (.UnaryOp .USub (.Constant (.int 1) j p3) p4) (fun σ H Q => Q (.int (-1)) H) := pe_imp (pe_un un_neg pe_int) fun σ H Q h => ⟨1, rfl, h⟩
  have hpart : PO X (some (.UnaryOp .USub (.Constant (.int 1) j p3) p4)) (fun σ H Q => Q (some (-1)) H) := po_imp (po_some hk) fun σ H Q h => ⟨-1, rfl, h⟩
  refine wpAny_Slice (thn (po_none.run pins s1 σ H1 (fun l H' => l = none ∧ H' = H1) I1 ⟨rfl, rfl⟩) fun vl s2 ⟨l, H2, I2, pl, el, e2⟩ => thn (po_none.run pins s2 σ H2 (fun l H' => l = none ∧ H' = H1) I2 ⟨rfl, e2⟩) fun vu s3 ⟨u, H3, I3, pu, eu, e3⟩ => thn (hpart.run pins s3 σ H3 (fun l H' => l = some (-1) ∧ H' = H1) I3 ⟨rfl, e3⟩) fun vk s4 ⟨w, H4, I4, pk, ew, e4⟩ => ?_)
  subst el eu ew e4
  have I5 : Inv X pins σ H4 { s4 with heap := s4.heap.push { cls := .type "slice", data := .fields #[vl, vu, vk] } } := I4.kept (t' := s4.toks) fun b ob q => Heap.get?_push_of_some _ q
  cases r1
  obtain ⟨its, r, ht, hz⟩ := I5.list hx
  have hlen := r.length
  show wpAny (model X.prog X.w) X.A (subscriptTail e (.Slice none none (some (.UnaryOp .USub (.Constant (.int 1) j p3) p4)) p2) (.ref a) (.ref s4.heap.objs.size)) (EP X pins σ Q) X.xe { s4 with heap := s4.heap.push { cls := .type "slice", data := .fields #[vl, vu, vk] } }
  refine tail_any (ops := [.ref a, .ref s4.heap.objs.size]) ht.isList.typeIs slot_list_getitem.lookup ?_ (by with_unfolding_all rfl)
  refine wpAny_getItem_list_slice ht.isList (Heap.IsSliceOf.new ..) pl pu pk (by simp) ?_ (by rw [List.size_toArray] <;> omega)
  rw [PySem.W.krv_pick]
  refine ⟨.ref _, _, I5.laid (t' := s4.toks) (o := .lst xs.reverse) (fun b ob q => Heap.get?_push_of_some _ q) (Nat.le_refl _) ?_, rfl, q _ (I5.hok.fresh (Nat.le_refl _))⟩
  exact ⟨by rw [List.length_reverse]; exact hz, _, 0, Vals.reverse r, Heap.get?_push_size _ rfl⟩
def fRev (o : Bool) (x : Vl) (h : Hc) : R Vl := match lst? h x with
  | some xs => .ok (Vl.ofL o xs.reverse) h
  | none => .stuck
theorem Reps.reverse {F : Hp} {al : Nat → Option Addr} : ∀ {ds : List D} {vs : List V}, Reps g F al ds vs → Reps g F al ds.reverse vs.reverse
  | [], vs, r => by
    cases r
    rfl
  | d :: ds, vs, r => by
    obtain ⟨v, ws, rfl, r1, r2⟩ := r
    rw [List.reverse_cons, List.reverse_cons]
    exact (Reps.reverse r2).append (Reps.cons r1 Reps.nil)
theorem ve_revsl (o : Bool) {j} {p3 p4 : Pos} (hK : g.K = X.K) (he : PE X e (tE g B W m)) : PE X (.Subscript e (.Slice none none (some (.UnaryOp .USub (.Constant (.int 1) j p3) p4)) p2) pos) (tE g B W (m1 (fRev o) m)) := by
  refine pe_imp (pe_revsl he) fun σ H Q ⟨env, s, sr, p⟩ => ?_
  refine (bindE (Q := Q) sr p).mono fun v H1 ⟨s1, x, sr1, _, r1, p1⟩ => ?_
  unfold fRev at p1
  split at p1
  · next xs ex =>
    obtain ⟨a, vs, rfl, h1, h2⟩ := r1.lst sr1.good ex
    exact ⟨a, vs, rfl, hK ▸ h1, fun q hq => PostE.newLO sr1 p1 h2.reverse hq⟩
  · exact p1.elim
end
end Vi

set_option Elab.async false
set_option linter.all false
set_option maxRecDepth 100000
set_option maxHeartbeats 2000000
namespace Vi
open PySem L2 PyProof.Rows

/-! ### a new cell -/
section
variable {g : Gi} {B : Bg} {W : WXv} {env : Env} {s : Sta} {σ : L2.St} {H : Hp}
theorem SR.addC {p : Addr} {o : HO} {c : Cell} (sr : SR g B env s σ H) (hp : H p = none) (hc : CellRep g s (upd H p o) p c) (nf : ∀ c0, c ≠ .frz c0) :
    SR g B env (s.addC p c) σ (upd H p o) ∧ Evo s H (s.addC p c) (upd H p o) := by
  obtain ⟨sr1, ev1⟩ := sr.new (o := o) hp
  have ow := sr.own_new hp
  have le := addC_le (a := p) (c := c) sr.good
  have gd := addC_goodC sr1.good hc ⟨o, upd_same⟩ ow.f ow.al nf
  refine ⟨⟨gd, addC_evo sr1.good sr1.evo ow.new, sr.len, fun i sl h => ?_, sr.sep⟩, addC_evo sr1.good ev1 hp⟩
  obtain ⟨v, h1, h2⟩ := sr.slot i sl h
  refine ⟨v, h1, ?_⟩
  have al' : ∀ {a : Addr} {u : HO}, H a = some u → (∀ n, s.al n ≠ some a) → ∀ n, (s.addC p c).al n ≠ some a := fun {a u} ha hn n z => by
    have z : (if n = s.h.length then some p else s.al n) = some a := z
    by_cases e : n = s.h.length
    · rw [if_pos e] at z
      cases z
      rw [hp] at ha
      cases ha
    · rw [if_neg e] at z
      exact hn n z
  cases sl with
  | d x => exact h2.mono le.f le.al
  | ol xs =>
    obtain ⟨a, vs, rfl, h3, h4, h5⟩ := h2
    exact ⟨a, vs, rfl, by rw [upd_ne (ne_of_none h3 hp)]; exact h3, ⟨h4.f, al' h3 h4.al, h4.new⟩, h5.mono le.f le.al⟩
  | oi c' fs =>
    obtain ⟨a, dx, vs, rfl, h3, h4, h5, h6⟩ := h2
    exact ⟨a, dx, vs, rfl, by rw [upd_ne (ne_of_none h3 hp)]; exact h3, ⟨h4.f, al' h3 h4.al, h4.new⟩, h5.mono le.f le.al, h6⟩
  | xc c' fs =>
    obtain ⟨h3, h4, vs, h5, h6, h7⟩ := h2
    exact ⟨h3, h4, vs, by rw [upd_ne (ne_of_none h5 hp)]; exact h5, al' h5 h6, h7.mono le.f le.al⟩
theorem PostE.newC {c : Cell} {o : HO} {p : Addr} {Q : VK} (sr : SR g B env s σ H) (h : PostE g B W env s σ H (.ok (.d (.ref s.h.length)) (s.h ++ [c])) Q) (hp : H p = none) (hc : CellRep g s (upd H p o) p c) (nf : ∀ c0, c ≠ .frz c0) : Q (.ref p) (upd H p o) := by
  obtain ⟨sr1, ev⟩ := sr.addC hp hc nf
  exact h _ _ _ rfl ev sr1 ⟨p, rfl, if_pos rfl⟩
end

/-! ### {} -/
@[simp] def mNewT : ME := fun _ h => .ok (.d (.ref h.length)) (h ++ [.dT []])
@[simp] def mNewK : ME := fun _ h => .ok (.d (.ref h.length)) (h ++ [.dK []])
section
variable {X : Cx} {g : Gi} {B : Bg} {W : WXv} {pos : Pos}
theorem ve_newT : PE X (.Dict [] [] pos) (tE g B W mNewT) :=
  pe_imp pe_dnewT fun σ H Q ⟨env, s, sr, p⟩ q hq => PostE.newC sr p hq ⟨[], upd_same, rfl⟩ fun _ z => by cases z
theorem ve_newK : PE X (.Dict [] [] pos) (tE g B W mNewK) :=
  pe_imp pe_dnewK fun σ H Q ⟨env, s, sr, p⟩ q hq => PostE.newC sr p hq ⟨[], upd_same, rfl⟩ fun _ z => by cases z
end

/-! ### what a dict tells -/
inductive DV where
  | k (kvs : List (Key × D)) | t (kvs : List (List Key × D))
def dv? (x : Vl) (h : Hc) : Option DV := match x with
  | .d (.dK kvs) => some (.k kvs)
  | .d (.dT kvs) => some (.t kvs)
  | .d (.ref n) => (match h[n]?.map Cell.bare with
    | some (.dK kvs) => some (.k kvs)
    | some (.dT kvs) => some (.t kvs)
    | _ => none)
  | _ => none
def key? : D → Option Key
  | .int i => some (.inl i)
  | .str x => some (.inr x)
  | _ => none
def keys? : List D → Option (List Key)
  | [] => some []
  | x :: r => match key? x, keys? r with
    | some k, some ks => some (k :: ks)
    | _, _ => none
section
variable {κ : Type} [DecidableEq κ]
/-- what stands at a key -/
def getD' : List (κ × D) → κ → Option D
  | [], _ => none
  | (k, d) :: r, q => if k = q then some d else getD' r q
def putD' (kvs : List (κ × D)) (q : κ) (d : D) : List (κ × D) := match getD' kvs q with
  | some _ => kvs.map fun kv => if kv.1 = q then (kv.1, d) else kv
  | none => kvs ++ [(q, d)]
end
section
variable {g : Gi} {F : Hp} {al : Nat → Option Addr}
theorem RepK.get : ∀ {kvs : List (Key × D)} {vs : List (Key × V)} (q : Key), RepK g F al kvs vs → (match getD' kvs q with
    | some d => ∃ v, valV vs q = some v ∧ Rep g F al d v
    | none => valV vs q = none)
  | [], vs, q, r => by
    cases r
    rfl
  | (k, d) :: kvs, vs, q, r => by
    obtain ⟨v, ws, rfl, r1, r2⟩ := r
    unfold getD'
    by_cases e : k = q
    · rw [if_pos e]
      exact ⟨v, valV_pos (p := (k, v)) e, r1⟩
    · rw [if_neg e, valV_neg (p := (k, v)) e]
      exact RepK.get q r2
theorem RepT.get : ∀ {kvs : List (List Key × D)} {vs : List (List Key × V)} (q : List Key), RepT g F al kvs vs → (match getD' kvs q with
    | some d => ∃ v, valV vs q = some v ∧ Rep g F al d v
    | none => valV vs q = none)
  | [], vs, q, r => by
    cases r
    rfl
  | (k, d) :: kvs, vs, q, r => by
    obtain ⟨v, ws, rfl, r1, r2⟩ := r
    unfold getD'
    by_cases e : k = q
    · rw [if_pos e]
      exact ⟨v, valV_pos (p := (k, v)) e, r1⟩
    · rw [if_neg e, valV_neg (p := (k, v)) e]
      exact RepT.get q r2
theorem RepK.repl {q : Key} {d : D} {v : V} (rd : Rep g F al d v) : ∀ {kvs : List (Key × D)} {vs : List (Key × V)}, RepK g F al kvs vs → RepK g F al (kvs.map fun kv => if kv.1 = q then (kv.1, d) else kv) (vs.map fun kv => if kv.1 = q then (kv.1, v) else kv)
  | [], vs, r => by
    cases r
    rfl
  | (k, e) :: kvs, vs, r => by
    obtain ⟨u, ws, rfl, r1, r2⟩ := r
    rw [List.map_cons, List.map_cons]
    by_cases z : k = q
    · rw [if_pos z, if_pos z]
      exact ⟨v, _, rfl, rd, RepK.repl rd r2⟩
    · rw [if_neg z, if_neg z]
      exact ⟨u, _, rfl, r1, RepK.repl rd r2⟩
theorem RepT.repl {q : List Key} {d : D} {v : V} (rd : Rep g F al d v) : ∀ {kvs : List (List Key × D)} {vs : List (List Key × V)}, RepT g F al kvs vs → RepT g F al (kvs.map fun kv => if kv.1 = q then (kv.1, d) else kv) (vs.map fun kv => if kv.1 = q then (kv.1, v) else kv)
  | [], vs, r => by
    cases r
    rfl
  | (k, e) :: kvs, vs, r => by
    obtain ⟨u, ws, rfl, r1, r2⟩ := r
    rw [List.map_cons, List.map_cons]
    by_cases z : k = q
    · rw [if_pos z, if_pos z]
      exact ⟨v, _, rfl, rd, RepT.repl rd r2⟩
    · rw [if_neg z, if_neg z]
      exact ⟨u, _, rfl, r1, RepT.repl rd r2⟩
theorem RepK.snoc {q : Key} {d : D} {v : V} (rd : Rep g F al d v) : ∀ {kvs : List (Key × D)} {vs : List (Key × V)}, RepK g F al kvs vs → RepK g F al (kvs ++ [(q, d)]) (vs ++ [(q, v)])
  | [], vs, r => by
    cases r
    exact ⟨v, [], rfl, rd, rfl⟩
  | (k, e) :: kvs, vs, r => by
    obtain ⟨u, ws, rfl, r1, r2⟩ := r
    exact ⟨u, _, rfl, r1, RepK.snoc rd r2⟩
theorem RepT.snoc {q : List Key} {d : D} {v : V} (rd : Rep g F al d v) : ∀ {kvs : List (List Key × D)} {vs : List (List Key × V)}, RepT g F al kvs vs → RepT g F al (kvs ++ [(q, d)]) (vs ++ [(q, v)])
  | [], vs, r => by
    cases r
    exact ⟨v, [], rfl, rd, rfl⟩
  | (k, e) :: kvs, vs, r => by
    obtain ⟨u, ws, rfl, r1, r2⟩ := r
    exact ⟨u, _, rfl, r1, RepT.snoc rd r2⟩
theorem put_old {κ : Type} [DecidableEq κ] {kvs : List (κ × V)} {k : κ} {v w : V} (h : valV kvs k = some w) : putK kvs k v = kvs.map fun kv => if kv.1 = k then (kv.1, v) else kv := by
  have e := valV_any k kvs
  rw [h] at e
  unfold putK
  exact if_pos e
theorem RepK.put {q : Key} {d : D} {v : V} (rd : Rep g F al d v) {kvs : List (Key × D)} {vs : List (Key × V)} (r : RepK g F al kvs vs) : RepK g F al (putD' kvs q d) (putK vs q v) := by
  have e := r.get q
  unfold putD'
  split at e
  · next d' h =>
    obtain ⟨w, hw, _⟩ := e
    rw [put_old hw]
    exact r.repl rd
  · next h =>
    rw [putK_new v e]
    exact r.snoc rd
theorem RepT.put {q : List Key} {d : D} {v : V} (rd : Rep g F al d v) {kvs : List (List Key × D)} {vs : List (List Key × V)} (r : RepT g F al kvs vs) : RepT g F al (putD' kvs q d) (putK vs q v) := by
  have e := r.get q
  unfold putD'
  split at e
  · next d' h =>
    obtain ⟨w, hw, _⟩ := e
    rw [put_old hw]
    exact r.repl rd
  · next h =>
    rw [putK_new v e]
    exact r.snoc rd
theorem RepK.length : ∀ {kvs : List (Key × D)} {vs : List (Key × V)}, RepK g F al kvs vs → vs.length = kvs.length
  | [], vs, r => by
    cases r
    rfl
  | (k, d) :: kvs, vs, r => by
    obtain ⟨v, ws, rfl, r1, r2⟩ := r
    exact congrArg (· + 1) (RepK.length r2)
theorem RepT.length : ∀ {kvs : List (List Key × D)} {vs : List (List Key × V)}, RepT g F al kvs vs → vs.length = kvs.length
  | [], vs, r => by
    cases r
    rfl
  | (k, d) :: kvs, vs, r => by
    obtain ⟨v, ws, rfl, r1, r2⟩ := r
    exact congrArg (· + 1) (RepT.length r2)
theorem key_rep {d : D} {v : V} {k : Key} (r : Rep g F al d v) (e : key? d = some k) : v = kV k := by
  cases d <;> cases e <;> exact r
theorem keys_rep : ∀ {ds : List D} {vs : List V} {ks : List Key}, Reps g F al ds vs → keys? ds = some ks → vs = ks.map kV
  | [], vs, ks, r, e => by
    cases e
    exact r
  | d :: ds, vs, ks, r, e => by
    obtain ⟨v, ws, rfl, r1, r2⟩ := r
    unfold keys? at e
    split at e
    · next k ks' e1 e2 =>
      cases e
      rw [key_rep r1 e1, keys_rep r2 e2]
      rfl
    · cases e
end
end Vi

set_option Elab.async false
set_option linter.all false
set_option maxRecDepth 100000
set_option maxHeartbeats 2000000
namespace Vi
open PySem L2 PyProof.Rows

/-! ### dicts: what they tell, what is put into them -/
def DvRep (g : Gi) (s : Sta) (H : Hp) (a : Addr) : DV → Prop
  | .k kvs => ∃ vs, H a = some (.dK vs) ∧ RepK g s.F s.al kvs vs
  | .t kvs => ∃ vs, H a = some (.dT vs) ∧ RepT g s.F s.al kvs vs
section
variable {g : Gi} {B : Bg} {W : WXv} {env : Env} {s : Sta} {σ : L2.St} {H : Hp}
theorem VlRep.dv {x : Vl} {v : V} {d : DV} (gd : Good g s H) (r : VlRep g B env σ s H x v) (e : dv? x s.h = some d) : ∃ a, v = .ref a ∧ DvRep g s H a d := by
  unfold dv? at e
  split at e
  · cases e
    obtain ⟨a, vs, h1, h2, h3⟩ := r
    exact ⟨a, h1, vs, gd.fle _ _ h2, h3⟩
  · cases e
    obtain ⟨a, vs, h1, h2, h3⟩ := r
    exact ⟨a, h1, vs, gd.fle _ _ h2, h3⟩
  · next n =>
    obtain ⟨a, rfl, hal⟩ := r
    refine ⟨a, rfl, ?_⟩
    cases e1 : s.h[n]? with
    | none =>
      rw [e1] at e
      cases e
    | some c =>
      rw [e1] at e
      obtain ⟨b, g1, g2⟩ := gd.cell n c e1
      rw [hal] at g1
      cases g1
      have g3 := g2.bare
      have e : (match some c.bare with
        | some (.dK kvs) => some (DV.k kvs)
        | some (.dT kvs) => some (.t kvs)
        | _ => none) = some d := e
      cases ec : c.bare with
      | dK kvs =>
        rw [ec] at e g3
        cases e
        exact g3
      | dT kvs =>
        rw [ec] at e g3
        cases e
        exact g3
      | _ =>
        rw [ec] at e
        cases e
  · cases e
end
/-- what stands at y: none: it cannot be asked here -/
def dGet (kc : List D → Bool) (dv : DV) (y : D) : Option (Option D) := match dv with
  | .k kvs => (key? y).map (getD' kvs)
  | .t kvs => (match y with
    | .tup ds => if kc ds then none else (keys? ds).map (getD' kvs)
    | _ => none)
section
variable {g : Gi} {B : Bg} {W : WXv} {env : Env} {s : Sta} {σ : L2.St} {H : Hp}
theorem dget_of {dv : DV} {a : Addr} {y : D} {w : V} {o : Option D} (gd : Good g s H) (rd : DvRep g s H a dv) (ry : Rep g s.F s.al y w) (e : dGet g.kc dv y = some o) :
    ∃ ov, DGet H a w ov ∧ (match (generalizing := false) o with
      | some d => ∃ v, ov = some v ∧ Rep g s.F s.al d v
      | none => ov = none) := by
  cases dv with
  | k kvs =>
    obtain ⟨vs, h1, h2⟩ := rd
    have e : (key? y).map (getD' kvs) = some o := e
    obtain ⟨k, e1, rfl⟩ := Option.map_eq_some_iff.mp e
    have hw := key_rep ry e1
    subst hw
    exact ⟨_, .k h1, h2.get k⟩
  | t kvs =>
    obtain ⟨vs, h1, h2⟩ := rd
    cases y with
    | tup ds =>
      have e : (if g.kc ds then none else (keys? ds).map (getD' kvs)) = some o := e
      obtain ⟨b, us, rfl, h3, h4⟩ := ry
      by_cases hk : g.kc ds = true
      · rw [if_pos hk] at e
        cases e
      · rw [if_neg hk] at e
        obtain ⟨ks, e1, rfl⟩ := Option.map_eq_some_iff.mp e
        have hu := keys_rep h4 e1
        subst hu
        have hb : H b = some (.tup (ks.map kV)) := by
          rcases h3 with h3 | h3
          · exact gd.fle _ _ h3
          · exact absurd h3.1 hk
        exact ⟨_, .t h1 hb, h2.get ks⟩
    | _ => cases e
end
def fDIx (kc : List D → Bool) (x y : Vl) (h : Hc) : R Vl := match dv? x h, y with
  | some dv, .d y => (match dGet kc dv y with
    | some (some d) => .ok (.d d) h
    | _ => .stuck)
  | _, _ => .stuck
def fIxD (kc : List D → Bool) (x y : Vl) (h : Hc) : R Vl := if (dv? x h).isSome then fDIx kc x y h else fIx x y h
def fDIn (neg : Bool) (kc : List D → Bool) (x y : Vl) (h : Hc) : R Vl := match dv? y h, x with
  | some dv, .d x => (match dGet kc dv x with
    | some o => .ok (.d (nB neg o.isSome)) h
    | none => .stuck)
  | _, _ => .stuck
def fInD (neg : Bool) (kc : List D → Bool) (x y : Vl) (h : Hc) : R Vl := if (dv? y h).isSome then fDIn neg kc x y h else fIn neg x y h
section
variable {X : Cx} {g : Gi} {B : Bg} {W : WXv} {pos apos cpos tpos : Pos} {e a b o k : Expr} {m n1 n2 ma mb mo mk mx : ME}
theorem ve_alt (h1 : PE X e (tE g B W n1)) (h2 : PE X e (tE g B W n2)) (hm : ∀ env h, m env h = n1 env h ∨ m env h = n2 env h) : PE X e (tE g B W m) := ⟨fun pins s σ H Q I h => by
  obtain ⟨env, st, sr, p⟩ := h
  rcases hm env st.h with q | q
  · exact h1.run pins s σ H Q I ⟨env, st, sr, q ▸ p⟩
  · exact h2.run pins s σ H Q I ⟨env, st, sr, q ▸ p⟩⟩
theorem ve_dix (hu : X.A.units + 64 < cLine) (ha : PE X a (tE g B W ma)) (hb : PE X b (tE g B W mb)) (hs : NoSl b) : PE X (.Subscript a b pos) (tE g B W (m2 (fDIx g.kc) ma mb)) := by
  refine pe_imp (pe_dget (by omega) ha hb hs) fun σ H Q ⟨env, s, sr, p⟩ => ?_
  refine (bind2E (Q := Q) sr p).mono fun v H1 q => q.mono fun w H2 ⟨s2, x, y, sr2, _, r1, r2, p2⟩ => ?_
  unfold fDIx at p2
  split at p2
  · next dv y e1 =>
    split at p2
    · next d e2 =>
      obtain ⟨c, rfl, h1⟩ := r1.dv sr2.good e1
      obtain ⟨ov, h2, v, rfl, h3⟩ := dget_of sr2.good h1 r2 e2
      exact ⟨c, v, rfl, h2, PostE.pure sr2 p2 h3⟩
    · exact p2.elim
  · exact p2.elim
theorem ve_ixd (hK : g.K = X.K) (hu : X.A.units + 64 < cLine) (ha : PE X a (tE g B W ma)) (hb : PE X b (tE g B W mb)) (hs : PlainIx b) (hn : NoSl b) : PE X (.Subscript a b pos) (tE g B W (m2 (fIxD g.kc) ma mb)) := by
  refine ve_alt (ve_dix hu ha hb hn) (ve_ix hK ha hb hs) fun env h => ?_
  unfold m2
  cases ma env h with
  | ok x h1 =>
    rw [R.bind_ok, R.bind_ok, R.bind_ok]
    cases mb env h1 with
    | ok y h2 =>
      rw [R.bind_ok, R.bind_ok, R.bind_ok]
      unfold fIxD
      split
      · exact .inl rfl
      · exact .inr rfl
    | _ => exact .inl rfl
  | _ => exact .inl rfl
theorem op_dIn (hu : X.A.units + 64 < cLine) : OpR X (compareOp .In) (fun x y H Q => ∃ a o, y = .ref a ∧ DGet H a x o ∧ Q (.bl o.isSome) H) := by
  intro pins s σ H x y v u Q I rx ry ⟨a, o, e, d, q⟩
  subst e
  cases ry
  exact d_in (by omega) I d rx fun s' I' => ⟨.bl _, H, I', rfl, q⟩
theorem op_dNotIn (hu : X.A.units + 64 < cLine) : OpR X (compareOp .NotIn) (fun x y H Q => ∃ a o, y = .ref a ∧ DGet H a x o ∧ Q (.bl (!o.isSome)) H) := by
  intro pins s σ H x y v u Q I rx ry ⟨a, o, e, d, q⟩
  subst e
  cases ry
  exact d_notIn (by omega) I d rx fun s' I' => ⟨.bl _, H, I', rfl, q⟩
theorem o_ind (hK : g.K = X.K) (hu : X.A.units + 65 < cLine) : OpV X g (compareOp .In) (fInD false g.kc) := by
  obtain ⟨r0, o0, i0⟩ := o_in (X := X) (g := g) hK hu
  refine ⟨_, OpR.or (op_dIn (by omega)) o0, fun B W env s σ H x y v w Q sr r1 r2 p => ?_⟩
  unfold fInD at p
  split at p
  · unfold fDIn at p
    split at p
    · next dv x e1 =>
      split at p
      · next od e2 =>
        obtain ⟨c, rfl, h1⟩ := r2.dv sr.good e1
        obtain ⟨ov, h2, h3⟩ := dget_of sr.good h1 r1 e2
        refine .inl ⟨c, ov, rfl, h2, ?_⟩
        have eo : od.isSome = ov.isSome := by
          cases od with
          | none => rw [show ov = none from h3]; rfl
          | some d => obtain ⟨v, rfl, _⟩ := h3; rfl
        rw [← eo]
        exact PostE.pure sr p rfl
      · exact p.elim
    · exact p.elim
  · exact .inr (i0 B W env s σ H x y v w Q sr r1 r2 p)
theorem o_nind (hK : g.K = X.K) (hu : X.A.units + 65 < cLine) : OpV X g (compareOp .NotIn) (fInD true g.kc) := by
  obtain ⟨r0, o0, i0⟩ := o_nin (X := X) (g := g) hK hu
  refine ⟨_, OpR.or (op_dNotIn (by omega)) o0, fun B W env s σ H x y v w Q sr r1 r2 p => ?_⟩
  unfold fInD at p
  split at p
  · unfold fDIn at p
    split at p
    · next dv x e1 =>
      split at p
      · next od e2 =>
        obtain ⟨c, rfl, h1⟩ := r2.dv sr.good e1
        obtain ⟨ov, h2, h3⟩ := dget_of sr.good h1 r1 e2
        refine .inl ⟨c, ov, rfl, h2, ?_⟩
        have eo : od.isSome = ov.isSome := by
          cases od with
          | none => rw [show ov = none from h3]; rfl
          | some d => obtain ⟨v, rfl, _⟩ := h3; rfl
        rw [← eo]
        exact PostE.pure sr p rfl
      · exact p.elim
    · exact p.elim
  · exact .inr (i0 B W env s σ H x y v w Q sr r1 r2 p)

/-! ### d.get(k), d.get(k, x) -/
def fDGet (kc : List D → Bool) (x y : Vl) (z : D) (h : Hc) : R Vl := match dv? x h, y with
  | some dv, .d y => (match dGet kc dv y with
    | some (some d) => .ok (.d d) h
    | some none => .ok (.d z) h
    | none => .stuck)
  | _, _ => .stuck
def mDGet1 (kc : List D → Bool) (mo mk : ME) : ME := fun env h => (mo env h).bind fun x h1 => if (dv? x h1).isSome then (mk env h1).bind fun y h2 => fDGet kc x y .non h2 else .stuck
def mDGet2 (kc : List D → Bool) (mo mk mx : ME) : ME := fun env h => (mo env h).bind fun x h1 => if (dv? x h1).isSome then (mk env h1).bind fun y h2 => (mx env h2).bind fun z h3 => match z with
  | .d z => fDGet kc x y z h3
  | _ => .stuck else .stuck
theorem DvRep.isD {s : Sta} {H : Hp} {a : Addr} {d : DV} (r : DvRep g s H a d) : IsD H a := by
  cases d with
  | k kvs => obtain ⟨vs, h1, _⟩ := r; exact .inl ⟨vs, .inl h1⟩
  | t kvs => obtain ⟨vs, h1, _⟩ := r; exact .inr ⟨vs, .inl h1⟩
theorem fDGet_post {env : Env} {s : Sta} {σ : L2.St} {H : Hp} {Q : VK} {x y : Vl} {z : D} {a : Addr} {w u : V} (sr : SR g B env s σ H) (r1 : VlRep g B env σ s H x (.ref a)) (r2 : VlRep g B env σ s H y w) (r3 : Rep g s.F s.al z u) (p : PostE g B W env s σ H (fDGet g.kc x y z s.h) Q) :
    ∃ o, DGet H a w o ∧ Q (o.getD u) H := by
  unfold fDGet at p
  split at p
  · next dv y e1 =>
    obtain ⟨c, ec, h1⟩ := r1.dv sr.good e1
    cases ec
    split at p
    · next d e2 =>
      obtain ⟨ov, h2, v, rfl, h3⟩ := dget_of sr.good h1 r2 e2
      exact ⟨_, h2, PostE.pure sr p h3⟩
    · next e2 =>
      obtain ⟨ov, h2, h3⟩ := dget_of sr.good h1 r2 e2
      obtain rfl : ov = none := h3
      exact ⟨_, h2, PostE.pure sr p r3⟩
    · exact p.elim
  · exact p.elim
theorem ve_dget2 (hu : X.A.units + 64 < cLine) (ho : PE X o (tE g B W mo)) (hk : PE X k (tE g B W mk)) (hx : PE X e (tE g B W mx)) (hm : M2 X o "get" apos k e cpos) : PE X (.Call (.Attribute o "get" apos) [k, e] [] cpos) (tE g B W (mDGet2 g.kc mo mk mx)) := by
  refine pe_imp (pe_dget2 (by omega) ho hk hx hm) fun σ H Q ⟨env, s, sr, p⟩ => ?_
  refine (bindE (Q := Q) sr p).mono fun v H1 ⟨s1, x, sr1, ev1, r1, p1⟩ => ?_
  split at p1
  · next hs =>
    obtain ⟨dv, e1⟩ := Option.isSome_iff_exists.mp hs
    obtain ⟨a, rfl, h1⟩ := r1.dv sr1.good e1
    refine ⟨a, rfl, h1.isD, ?_⟩
    refine (bindE (Q := Q) sr1 p1).mono fun w H2 ⟨s2, y, sr2, ev2, r2, p2⟩ => ?_
    refine (bindE (Q := Q) sr2 p2).mono fun u H3 ⟨s3, z, sr3, ev3, r3, p3⟩ => ?_
    cases z with
    | d z => exact fDGet_post sr3 ((r1.evo ev2).evo ev3) (r2.evo ev3) r3 p3
    | _ => exact p3.elim
  · exact p1.elim
theorem ve_dget1 (hu : X.A.units + 64 < cLine) (ho : PE X o (tE g B W mo)) (hk : PE X k (tE g B W mk)) (hm : M1 X o "get" apos k cpos) : PE X (.Call (.Attribute o "get" apos) [k] [] cpos) (tE g B W (mDGet1 g.kc mo mk)) := by
  refine pe_imp (pe_dget1 (by omega) ho hk hm) fun σ H Q ⟨env, s, sr, p⟩ => ?_
  refine (bindE (Q := Q) sr p).mono fun v H1 ⟨s1, x, sr1, ev1, r1, p1⟩ => ?_
  split at p1
  · next hs =>
    obtain ⟨dv, e1⟩ := Option.isSome_iff_exists.mp hs
    obtain ⟨a, rfl, h1⟩ := r1.dv sr1.good e1
    refine ⟨a, rfl, h1.isD, ?_⟩
    refine (bindE (Q := Q) sr1 p1).mono fun w H2 ⟨s2, y, sr2, ev2, r2, p2⟩ => ?_
    exact fDGet_post sr2 (r1.evo ev2) r2 (show Rep g s2.F s2.al .non .non from rfl) p2
  · exact p1.elim

/-! ### d[k] = v, a dict of one's own -/
def dPut (kc : List D → Bool) (c : Cell) (y v : D) : Option Cell := match c with
  | .dK kvs => if kvs.length < 100000 then (key? y).map fun k => .dK (putD' kvs k v) else none
  | .dT kvs => (match y with
    | .tup ds => if kc ds then none else if kvs.length < 100000 then (keys? ds).map fun k => .dT (putD' kvs k v) else none
    | _ => none)
  | _ => none
def fDPut (kc : List D → Bool) (env : Env) (x y z : Vl) (h : Hc) : RS := match x, y, z with
  | .d v, .d (.ref n), .d k => (match h[n]? with
    | some c => (match dPut kc c k v with
      | some c' => .nx env (h.set n c')
      | none => .stuck)
    | none => .stuck)
  | _, _, _ => .stuck
def mDPut (kc : List D → Bool) (e o k : ME) : MS := fun env h => (e env h).thenS env fun x h1 => (o env h1).thenS env fun y h2 => (k env h2).thenS env fun z h3 => fDPut kc env x y z h3
theorem vs_dput (hu : X.A.units + 64 < cLine) (he : PE X e (tE g B W m)) (ho : PE X o (tE g B W mo)) (hk : PE X k (tE g B W mk)) (hs : swapsWith e (some (.Subscript o k tpos)) pos.line X.env = pure false := by rfl) :
    PS X (.Assign [.Subscript o k tpos] e pos) (tS g B W (mDPut g.kc m mo mk)) := by
  refine ps_imp (ps_dput (by omega) ho hk he hs) fun N σ H ⟨env, s, sr, p⟩ => ?_
  refine (bindS sr p).mono fun v H1 ⟨s1, x, sr1, l1, r1, p1⟩ => ?_
  have two := bind2S (W := W) (N := N) (f := fDPut g.kc env x) sr1 p1
  refine two.mono fun ov H2 q => q.mono fun kv H3 ⟨s3, y, z, sr3, e3, r2, r3, p3⟩ => ?_
  have r1' := r1.evo e3
  unfold fDPut at p3
  split at p3
  · next d n k =>
    split at p3
    · next c hc =>
      split at p3
      · next c' hp =>
        obtain ⟨a, rfl, hal⟩ := r2
        obtain ⟨a2, g1, g2⟩ := sr3.good.cell _ _ hc
        rw [hal] at g1
        cases g1
        cases c with
        | dK kvs =>
          obtain ⟨vs, h3, q1⟩ := g2
          unfold dPut at hp
          dsimp only at hp
          split at hp
          · next hl =>
            obtain ⟨kk, ek, rfl⟩ := Option.map_eq_some_iff.mp hp
            have hw := key_rep r3 ek
            subst hw
            refine ⟨a, _, rfl, .k h3 (by rw [q1.length]; exact size_lt hl), ?_⟩
            exact p3 σ _ { s3 with h := s3.h.set _ _ } rfl ⟨fun _ _ z => z, fun _ _ z => z, fun _ _ z => z⟩ (sr3.cell hc hal (fun _ z => by cases z) (fun _ z => by cases z) ⟨_, upd_same, q1.put r1'⟩)
          · cases hp
        | dT kvs =>
          obtain ⟨vs, h3, q1⟩ := g2
          unfold dPut at hp
          dsimp only at hp
          split at hp
          · next ds =>
            split at hp
            · cases hp
            · next hk =>
              split at hp
              · next hl =>
                obtain ⟨kk, ek, rfl⟩ := Option.map_eq_some_iff.mp hp
                obtain ⟨b, us, rfl, h5, h6⟩ := r3
                have hw := keys_rep h6 ek
                subst hw
                have hb : H3 b = some (.tup (kk.map kV)) := by
                  rcases h5 with h5 | h5
                  · exact sr3.good.fle _ _ h5
                  · exact absurd h5.1 hk
                refine ⟨a, _, rfl, .t h3 hb (by rw [q1.length]; exact size_lt hl), ?_⟩
                exact p3 σ _ { s3 with h := s3.h.set _ _ } rfl ⟨fun _ _ z => z, fun _ _ z => z, fun _ _ z => z⟩ (sr3.cell hc hal (fun _ z => by cases z) (fun _ z => by cases z) ⟨_, upd_same, q1.put r1'⟩)
              · cases hp
          · cases hp
        | _ => cases hp
      · exact p3.elim
    · exact p3.elim
  · exact p3.elim
end
end Vi

set_option Elab.async false
set_option linter.all false
set_option maxRecDepth 100000
set_option maxHeartbeats 2000000
namespace Vi
open PySem L2 PyProof.Rows

/-! ### for the time of a statement all cells but the first stand still -/
def Cell.isF : Cell → Bool
  | .frz _ => true
  | _ => false
def ourZ (h : Hc) (n : Nat) : Bool := match h[n]? with
  | some c => n != 0 && !c.isF
  | none => false
def frzOne (i : Nat) (c : Cell) : Cell := if i != 0 && !c.isF then .frz c else c
def frzAll (h : Hc) : Hc := h.mapIdx frzOne
def thawOne (h : Hc) (i : Nat) (c : Cell) : Cell := if ourZ h i then c.bare else c
def thaw (h h2 : Hc) : Hc := h2.mapIdx (thawOne h)
def RS.mapH (f : Hc → Hc) : RS → RS
  | .nx e h => .nx e (f h)
  | .ret d h => .ret d (f h)
  | .brk e h => .brk e (f h)
  | .cnt e h => .cnt e (f h)
  | .exc e x h => .exc e x (f h)
  | .stuck => .stuck
def mFrzd (m : MS) : MS := fun env h => (m env (frzAll h)).mapH (thaw h)
theorem bare_isF : ∀ c : Cell, c.bare.isF = false
  | .lst _ => rfl
  | .ins _ _ => rfl
  | .dK _ => rfl
  | .dT _ => rfl
  | .frz c => bare_isF c
theorem ourZ_of {h : Hc} {n : Nat} {c : Cell} (e : h[n]? = some c) : ourZ h n = (n != 0 && !c.isF) := by
  unfold ourZ
  rw [e]
section
variable {g : Gi} {B : Bg} {W : WXv} {env : Env} {s : Sta} {σ : L2.St} {H : Hp}
def Sta.frzA (s : Sta) (H : Hp) : Sta := { s with h := frzAll s.h, z := fun n => if ourZ s.h n then (s.al n).bind H else s.z n }
def Sta.thawA (s0 s : Sta) : Sta := { s with h := thaw s0.h s.h, z := fun n => if ourZ s0.h n then none else s.z n }
theorem frzA_at {n : Nat} : (frzAll s.h)[n]? = (s.h[n]?).map (frzOne n) := by
  unfold frzAll
  rw [List.getElem?_mapIdx]
theorem zed_not {gd : Good g s H} {n : Nat} {o : HO} (h : s.z n = some o) : ourZ s.h n = false := by
  obtain ⟨a, c, _, _, h3⟩ := gd.zed.at_ n o h
  rw [ourZ_of h3]
  simp [Cell.isF]
theorem good_frzA (gd : Good g s H) : Good g (s.frzA H) H := by
  refine ⟨gd.fle, gd.inj, fun n a h => ?_, fun n c h => ?_, ⟨fun n o h => ?_, fun n c h => ?_⟩⟩
  · obtain ⟨h1, h2, h3⟩ := gd.dom n a h
    refine ⟨?_, h2, h3⟩
    show n < (frzAll s.h).length
    unfold frzAll
    rw [List.length_mapIdx]
    exact h1
  · have h : (frzAll s.h)[n]? = some c := h
    rw [frzA_at] at h
    obtain ⟨d, h1, rfl⟩ := Option.map_eq_some_iff.mp h
    obtain ⟨a, h2, h3⟩ := gd.cell n d h1
    refine ⟨a, h2, ?_⟩
    have h4 : CellRep g (s.frzA H) H a d := CellRep.mv (s := s) (s' := s.frzA H) (H := H) (fun _ z => z) (fun _ _ z => z) (fun _ _ z => z) h3
    unfold frzOne
    split
    · exact h4
    · exact h4
  · have h : (if ourZ s.h n then (s.al n).bind H else s.z n) = some o := h
    by_cases ho : ourZ s.h n = true
    · rw [if_pos ho] at h
      obtain ⟨a, h1, h2⟩ := Option.bind_eq_some_iff.mp h
      unfold ourZ at ho
      split at ho
      · next c hc =>
        refine ⟨a, c, h1, h2, ?_⟩
        show (frzAll s.h)[n]? = _
        rw [frzA_at, hc, Option.map_some]
        unfold frzOne
        rw [if_pos ho]
      · cases ho
    · rw [if_neg ho] at h
      obtain ⟨a, c, h1, h2, h3⟩ := gd.zed.at_ n o h
      refine ⟨a, c, h1, h2, ?_⟩
      show (frzAll s.h)[n]? = _
      rw [frzA_at, h3, Option.map_some]
      unfold frzOne
      simp [Cell.isF]
  · have h : (frzAll s.h)[n]? = some (.frz c) := h
    rw [frzA_at] at h
    obtain ⟨d, h1, h2⟩ := Option.map_eq_some_iff.mp h
    show ∃ o, (if ourZ s.h n then (s.al n).bind H else s.z n) = some o
    by_cases ho : ourZ s.h n = true
    · rw [if_pos ho]
      obtain ⟨a, h3, h4⟩ := gd.cell n d h1
      obtain ⟨_, _, o, h5⟩ := gd.dom n a h3
      exact ⟨o, by rw [h3]; exact h5⟩
    · rw [if_neg ho]
      have hf : ¬ (n != 0 && !d.isF) = true := by
        rw [ourZ_of h1] at ho
        exact ho
      unfold frzOne at h2
      rw [if_neg hf] at h2
      subst h2
      exact gd.zed.of n c h1
theorem evo_frzA {s0 : Sta} {H0 : Hp} (gd : Good g s H) (e : Evo s0 H0 s H) : Evo s0 H0 (s.frzA H) H := by
  refine ⟨e.f, e.al, e.oth, ?_, fun n o h => ?_⟩
  · show s0.h.length ≤ (frzAll s.h).length
    unfold frzAll
    rw [List.length_mapIdx]
    exact e.len
  · have h1 := e.z n o h
    show (if ourZ s.h n then (s.al n).bind H else s.z n) = some o
    rw [zed_not (gd := gd) h1]
    exact h1
theorem SR.frzA (sr : SR g B env s σ H) : SR g B env (s.frzA H) σ H :=
  ⟨good_frzA sr.good, evo_frzA sr.good sr.evo, sr.len, fun i sl h => by
    obtain ⟨v, h1, h2⟩ := sr.slot i sl h
    refine ⟨v, h1, ?_⟩
    cases sl with
    | d x => exact h2
    | ol xs => obtain ⟨a, vs, e1, e2, e3, e4⟩ := h2; exact ⟨a, vs, e1, e2, ⟨e3.f, e3.al, e3.new⟩, e4⟩
    | oi c fs => obtain ⟨a, dx, vs, e1, e2, e3, e4⟩ := h2; exact ⟨a, dx, vs, e1, e2, ⟨e3.f, e3.al, e3.new⟩, e4⟩
    | xc c fs => exact h2, sr.sep⟩
variable {s2 : Sta} {σ2 : L2.St} {H2 : Hp} {env2 : Env}
theorem thaw_at {n : Nat} : (thaw s.h s2.h)[n]? = (s2.h[n]?).map (thawOne s.h n) := by
  unfold thaw
  rw [List.getElem?_mapIdx]
theorem good_thaw (gd : Good g s2 H2) : Good g (s.thawA s2) H2 := by
  refine ⟨gd.fle, gd.inj, fun n a h => ?_, fun n c h => ?_, ⟨fun n o h => ?_, fun n c h => ?_⟩⟩
  · obtain ⟨h1, h2, h3⟩ := gd.dom n a h
    refine ⟨?_, h2, h3⟩
    show n < (thaw s.h s2.h).length
    unfold thaw
    rw [List.length_mapIdx]
    exact h1
  · have h : (thaw s.h s2.h)[n]? = some c := h
    rw [thaw_at] at h
    obtain ⟨d, h1, rfl⟩ := Option.map_eq_some_iff.mp h
    obtain ⟨a, h2, h3⟩ := gd.cell n d h1
    refine ⟨a, h2, ?_⟩
    have h4 : CellRep g (s.thawA s2) H2 a d := CellRep.mv (s := s2) (s' := s.thawA s2) (H := H2) (fun _ z => z) (fun _ _ z => z) (fun _ _ z => z) h3
    unfold thawOne
    split
    · exact h4.bare
    · exact h4
  · have h : (if ourZ s.h n then none else s2.z n) = some o := h
    by_cases ho : ourZ s.h n = true
    · rw [if_pos ho] at h
      cases h
    · rw [if_neg ho] at h
      obtain ⟨a, c, h1, h2, h3⟩ := gd.zed.at_ n o h
      refine ⟨a, c, h1, h2, ?_⟩
      show (thaw s.h s2.h)[n]? = _
      rw [thaw_at, h3, Option.map_some]
      unfold thawOne
      rw [if_neg ho]
  · have h : (thaw s.h s2.h)[n]? = some (.frz c) := h
    rw [thaw_at] at h
    obtain ⟨d, h1, h2⟩ := Option.map_eq_some_iff.mp h
    show ∃ o, (if ourZ s.h n then none else s2.z n) = some o
    unfold thawOne at h2
    by_cases ho : ourZ s.h n = true
    · rw [if_pos ho] at h2
      have := bare_isF d
      rw [h2] at this
      cases this
    · rw [if_neg ho] at h2 ⊢
      subst h2
      exact gd.zed.of n c h1
theorem evo_thaw {s0 : Sta} {H0 : Hp} (gd : Good g s H) (e0 : ∀ n o, s0.z n = some o → s.z n = some o) (e : Evo s0 H0 s2 H2) : Evo s0 H0 (s.thawA s2) H2 := by
  refine ⟨e.f, e.al, e.oth, ?_, fun n o h => ?_⟩
  · show s0.h.length ≤ (thaw s.h s2.h).length
    unfold thaw
    rw [List.length_mapIdx]
    exact e.len
  · show (if ourZ s.h n then none else s2.z n) = some o
    rw [zed_not (gd := gd) (e0 n o h)]
    exact e.z n o h
theorem SR.thawA (sr0 : SR g B env s σ H) (sr : SR g B env2 s2 σ2 H2) : SR g B env2 (s.thawA s2) σ2 H2 :=
  ⟨good_thaw sr.good, evo_thaw sr0.good sr0.evo.z sr.evo, sr.len, fun i sl h => by
    obtain ⟨v, h1, h2⟩ := sr.slot i sl h
    refine ⟨v, h1, ?_⟩
    cases sl with
    | d x => exact h2
    | ol xs => obtain ⟨a, vs, e1, e2, e3, e4⟩ := h2; exact ⟨a, vs, e1, e2, ⟨e3.f, e3.al, e3.new⟩, e4⟩
    | oi c fs => obtain ⟨a, dx, vs, e1, e2, e3, e4⟩ := h2; exact ⟨a, dx, vs, e1, e2, ⟨e3.f, e3.al, e3.new⟩, e4⟩
    | xc c fs => exact h2, sr.sep⟩
theorem le_thaw (gd : Good g s H) (l : Le (s.frzA H) s2) : Le s (s.thawA s2) := ⟨l.f, l.al, fun n o h => by
  have hn := zed_not (gd := gd) h
  have h1 : (s.frzA H).z n = some o := by
    show (if ourZ s.h n then (s.al n).bind H else s.z n) = some o
    rw [hn]
    exact h
  show (if ourZ s.h n then none else s2.z n) = some o
  rw [hn]
  exact l.z n o h1⟩
theorem PostS.thawed {N : Ends} (sr : SR g B env s σ H) : ∀ {r : RS}, PostS g B W s (r.mapH (thaw s.h)) N → PostS g B W (s.frzA H) r N
  | .nx e h, p => fun σ2 H2 s2 eh l sr2 => p σ2 H2 (s.thawA s2) (by rw [← eh]; rfl) (le_thaw sr.good l) (SR.thawA sr sr2)
  | .ret d h, p => fun v H2 s2 eh ev gd r => p v H2 (s.thawA s2) (by rw [← eh]; rfl) (evo_thaw sr.good sr.evo.z ev) (good_thaw gd) r
  | .brk e h, p => fun σ2 H2 s2 eh l sr2 => p σ2 H2 (s.thawA s2) (by rw [← eh]; rfl) (le_thaw sr.good l) (SR.thawA sr sr2)
  | .cnt e h, p => fun σ2 H2 s2 eh l sr2 => p σ2 H2 (s.thawA s2) (by rw [← eh]; rfl) (le_thaw sr.good l) (SR.thawA sr sr2)
  | .exc e x h, p => fun c d σ2 H2 s2 eh l sr2 xr => p c d σ2 H2 (s.thawA s2) (by rw [← eh]; rfl) (le_thaw sr.good l) (SR.thawA sr sr2) (by
      cases x with
      | obj c' fs => exact xr
      | _ => exact xr.elim)
  | .stuck, p => p
end
section
variable {X : Cx} {g : Gi} {B : Bg} {W : WXv} {st : Stmt} {m : MS}
theorem vs_frzd (h : PS X st (tS g B W m)) : PS X st (tS g B W (mFrzd m)) := ps_imp h fun N σ H ⟨env, s, sr, p⟩ => ⟨env, s.frzA H, sr.frzA, p.thawed sr⟩
end
end Vi

set_option Elab.async false
set_option linter.all false
set_option maxRecDepth 100000
set_option maxHeartbeats 2000000
namespace Vi
open PySem L2 PyProof.Rows

/-! ### methods that change a list in a cell -/
section
variable {g : Gi} {B : Bg} {W : WXv} {env : Env} {s : Sta} {σ : L2.St} {H : Hp}
theorem Evo.cell {n : Nat} {c' : Cell} {a : Addr} {o : HO} (ha : s.al n = some a) : Evo s H { s with h := s.h.set n c' } (upd H a o) := by
  refine ⟨fun _ _ h => h, fun _ _ h => h, fun b u h hn => ?_, ?_, fun _ _ h => h⟩
  · have ne : b ≠ a := fun e => hn n (by rw [e]; exact ha)
    exact ⟨by rw [upd_ne ne]; exact h, fun z => z, hn⟩
  · show s.h.length ≤ (s.h.set n c').length
    rw [List.length_set]
    exact Nat.le_refl _
end
abbrev LM := List D → List D → Option (List D × D)
/-- a method of lists, and what it does to the items -/
structure MetM (X : Cx) (g : Gi) (name : Str) (id : String) (f : LM) : Prop where
  slot : Slot "list" name id
  ty : typeOf (.builtin id) = pure (.type "method_descriptor")
  ex : ∃ r : V → List V → Hp → VK → Prop, MtR X id r ∧ ∀ (F : Hp) (al : Nat → Option Addr) (H : Hp) (l : Addr) (ws vs : List V) (xs ds xs' : List D) (d : D) (Q : VK), H l = some (.lst ws) → Reps g F al xs ws → Reps g F al ds vs → f xs ds = some (xs', d) →
    (∀ (ws' : List V) (v : V), Reps g F al xs' ws' → Rep g F al d v → Q v (upd H l (.lst ws'))) → r (.ref l) vs H Q
def isLc (h : Hc) : Vl → Option Nat
  | .d (.ref n) => (match h[n]? with
    | some (.lst _) => some n
    | _ => none)
  | _ => none
def fMet (f : LM) (n : Nat) (ys : List Vl) (h : Hc) : R Vl := match datas ys, h[n]? with
  | some ds, some (.lst xs) => (match f xs ds with
    | some (xs', d) => .ok (.d d) (h.set n (.lst xs'))
    | none => .stuck)
  | _, _ => .stuck
def mMetM (f : LM) (mo : ME) (ma : MA) : ME := fun env h => (mo env h).bind fun x h1 => match isLc h1 x with
  | some n => (ma env h1).bind fun ys h2 => fMet f n ys h2
  | none => .stuck
section
variable {X : Cx} {g : Gi} {B : Bg} {W : WXv} {env : Env} {s : Sta} {σ : L2.St} {H : Hp}
theorem isLc_at {x : Vl} {v : V} {n : Nat} (gd : Good g s H) (r : VlRep g B env σ s H x v) (e : isLc s.h x = some n) : ∃ a ws xs, v = .ref a ∧ s.al n = some a ∧ s.h[n]? = some (.lst xs) ∧ H a = some (.lst ws) ∧ Reps g s.F s.al xs ws := by
  unfold isLc at e
  split at e
  · next m =>
    split at e
    · next xs hx =>
      cases e
      obtain ⟨a, rfl, hal⟩ := r
      obtain ⟨b, g1, ws, g2, g3⟩ := gd.cell _ _ hx
      rw [hal] at g1
      cases g1
      exact ⟨a, ws, xs, rfl, hal, hx, g2, g3⟩
    · cases e
  · cases e
theorem fMet_post {name : Str} {id : String} {f : LM} {n : Nat} {a : Addr} {ys : List Vl} {vs : List V} {Q : VK} {r : V → List V → Hp → VK → Prop} (sr : SR g B env s σ H)
    (hr : ∀ (F : Hp) (al : Nat → Option Addr) (H : Hp) (l : Addr) (ws vs : List V) (xs ds xs' : List D) (d : D) (Q : VK), H l = some (.lst ws) → Reps g F al xs ws → Reps g F al ds vs → f xs ds = some (xs', d) →
      (∀ (ws' : List V) (v : V), Reps g F al xs' ws' → Rep g F al d v → Q v (upd H l (.lst ws'))) → r (.ref l) vs H Q)
    (ha : s.al n = some a) (ry : VlReps g B env σ s H ys vs) (p : PostE g B W env s σ H (fMet f n ys s.h) Q) : r (.ref a) vs H Q := by
  unfold fMet at p
  split at p
  · next ds xs e1 e2 =>
    split at p
    · next xs' d ef =>
      obtain ⟨b, g1, ws, g2, g3⟩ := sr.good.cell _ _ e2
      rw [ha] at g1
      cases g1
      refine hr s.F s.al H a ws vs xs ds xs' d Q g2 g3 (ry.datas e1) ef fun ws' v q1 q2 => ?_
      exact p v _ { s with h := s.h.set n (.lst xs') } rfl (Evo.cell ha) (sr.cell e2 ha (fun _ z => by cases z) (fun _ z => by cases z) ⟨ws', upd_same, q1⟩) q2
    · exact p.elim
  · exact p.elim
end
section
variable {X : Cx} {g : Gi} {B : Bg} {W : WXv} {pos apos cpos : Pos} {o e : Expr} {es : List Expr} {mo : ME} {ma : MA} {name : Str} {id : String} {f : LM}
theorem bindEA {b : MA} {env : Env} {s : Sta} {σ : L2.St} {H : Hp} {Q : VK} (sr : SR g B env s σ H) {kk : List Vl → Hc → R Vl} (p : PostE g B W env s σ H ((b env s.h).bind kk) Q) :
    tA g B W b σ H fun vs H2 => ∃ s2 xs, SR g B env s2 σ H2 ∧ Evo s H s2 H2 ∧ VlReps g B env σ s2 H2 xs vs ∧ PostE g B W env s2 σ H2 (kk xs s2.h) Q := by
  refine ⟨env, s, sr, ?_⟩
  cases e : b env s.h with
  | ok x h1 =>
    rw [e] at p
    intro v H1 s1 e1 ev sr1 vr
    refine ⟨s1, x, sr1, ev, vr, ?_⟩
    rw [e1]
    exact PostE.later ev p
  | exc x h1 =>
    rw [e] at p
    exact p
  | stuck =>
    rw [e] at p
    exact p
theorem ve_metM (hK : g.K = X.K) (hm : MetM X g name id f) (ho : PE X o (tE g B W mo)) (ha : PA X (e :: es) (tA g B W ma))
    (hbase : attributeBase o name X.env (eval o X.env) = eval o X.env := by rfl)
    (hfew : ((backTo cpos (starEach (e :: es) X.env)).all (fun x => !x.1) && (backToKw cpos (keywordEach [] X.env)).all (fun x => x.1.isSome) && decide ((e :: es).length + ([] : List Keyword).length + (if ([] : List Keyword).isEmpty then 0 else 1) < 30)) = true := by rfl)
    (hline : (apos.endLine == cpos.line) = true := by rfl) (hs : starEach (e :: es) X.env = (false, eval e X.env) :: starEach es X.env := by rfl) (hplain : (backTo cpos (starEach es X.env)).any (·.1) = false := by rfl) :
    PE X (.Call (.Attribute o name apos) (e :: es) [] cpos) (tE g B W (mMetM f mo ma)) := by
  obtain ⟨r, hr, hf⟩ := hm.ex
  refine pe_imp (pe_bm PySem.F.plainAttrs_list hm.slot hm.ty hr ho ha hbase hfew hline hs hplain) fun σ H Q ⟨env, s, sr, p⟩ => ?_
  refine (bindE (Q := Q) sr p).mono fun v H1 ⟨s1, x, sr1, ev1, r1, p1⟩ => ?_
  split at p1
  · next n en =>
    obtain ⟨a, ws, xs, rfl, hal, hx, h1, h2⟩ := isLc_at sr1.good r1 en
    refine ⟨.inl ⟨rfl, ws, .of h1⟩, ?_⟩
    refine (bindEA sr1 p1).mono fun vs H2 ⟨s2, ys, sr2, ev2, r2, p2⟩ => ?_
    exact fMet_post (name := name) (id := id) sr2 hf (ev2.al _ _ hal) r2 p2
  · exact p1.elim
theorem ve_metM0 (hK : g.K = X.K) (hm : MetM X g name id f) (ho : PE X o (tE g B W mo))
    (hbase : attributeBase o name X.env (eval o X.env) = eval o X.env := by rfl) (hline : (apos.endLine == cpos.line) = true := by rfl) :
    PE X (.Call (.Attribute o name apos) [] [] cpos) (tE g B W (mMetM f mo maNil)) := by
  obtain ⟨r, hr, hf⟩ := hm.ex
  refine pe_imp (pe_bm0 PySem.F.plainAttrs_list hm.slot hm.ty hr ho hbase hline) fun σ H Q ⟨env, s, sr, p⟩ => ?_
  refine (bindE (Q := Q) sr p).mono fun v H1 ⟨s1, x, sr1, ev1, r1, p1⟩ => ?_
  split at p1
  · next n en =>
    obtain ⟨a, ws, xs, rfl, hal, hx, h1, h2⟩ := isLc_at sr1.good r1 en
    refine ⟨.inl ⟨rfl, ws, .of h1⟩, ?_⟩
    exact fMet_post (name := name) (id := id) sr1 hf hal .nil p1
  · exact p1.elim
/-! ### append, clear, reverse -/
def lmAppend : LM := fun xs ds => match ds with
  | [d] => if xs.length < 100000 then some (xs ++ [d], .non) else none
  | _ => none
theorem mm_append : MetM X g "append" "list.append" lmAppend := ⟨PySem.F.slot_list_append, PySem.F.type_list_append, _, mt_append, fun F al H l ws vs xs ds xs' d Q h1 h2 h3 h4 q => by
  unfold lmAppend at h4
  split at h4
  · next y =>
    split at h4
    · next hl =>
      cases h4
      obtain ⟨v, r, rfl, r1, r2⟩ := h3
      cases r2
      exact ⟨l, ws, v, rfl, rfl, h1, by rw [h2.length]; exact size_lt hl, q _ _ (h2.append (Reps.cons r1 Reps.nil)) rfl⟩
    · cases h4
  · cases h4⟩
def lmClear : LM := fun _ ds => match ds with
  | [] => some ([], .non)
  | _ => none
theorem mm_clear : MetM X g "clear" "list.clear" lmClear := ⟨PySem.F.slot_list_clear, PySem.F.type_list_clear, _, mt_clear, fun F al H l ws vs xs ds xs' d Q h1 h2 h3 h4 q => by
  unfold lmClear at h4
  split at h4
  · cases h4
    cases h3
    exact ⟨l, ws, rfl, rfl, h1, q [] _ rfl rfl⟩
  · cases h4⟩
def lmReverse : LM := fun xs ds => match ds with
  | [] => some (xs.reverse, .non)
  | _ => none
theorem mm_reverse : MetM X g "reverse" "list.reverse" lmReverse := ⟨PySem.F.slot_list_reverse, PySem.F.type_list_reverse, _, mt_reverse, fun F al H l ws vs xs ds xs' d Q h1 h2 h3 h4 q => by
  unfold lmReverse at h4
  split at h4
  · cases h4
    cases h3
    exact ⟨l, ws, rfl, rfl, h1, q ws.reverse _ h2.reverse rfl⟩
  · cases h4⟩
end
end Vi

set_option Elab.async false
set_option linter.all false
set_option maxRecDepth 100000
set_option maxHeartbeats 2000000
namespace Vi
open PySem L2 PyProof.Rows

/-! ### cells that nobody knows any more are forgotten as a def ends -/
mutual
def refsD (L : Nat) : D → Bool
  | .ref n => decide (n < L)
  | .tup xs => refsDs L xs
  | .lst xs => refsDs L xs
  | .kl xs => refsDs L xs
  | .obj _ fs => refsF L fs
  | .dK kvs => refsK L kvs
  | .dT kvs => refsT L kvs
  | _ => true
def refsDs (L : Nat) : List D → Bool
  | [] => true
  | d :: r => refsD L d && refsDs L r
def refsF (L : Nat) : List (Str × D) → Bool
  | [] => true
  | (_, d) :: r => refsD L d && refsF L r
def refsK (L : Nat) : List (Key × D) → Bool
  | [] => true
  | (_, d) :: r => refsD L d && refsK L r
def refsT (L : Nat) : List (List Key × D) → Bool
  | [] => true
  | (_, d) :: r => refsD L d && refsT L r
end
def alCut (L : Nat) (al : Nat → Option Addr) : Nat → Option Addr := fun n => if n < L then al n else none
section
variable {g : Gi} {F : Hp} {al : Nat → Option Addr} {L : Nat}
mutual
theorem Rep.cut : ∀ {d : D} {v : V}, refsD L d = true → Rep g F al d v → Rep g F (alCut L al) d v
  | .non, _, _, h => h
  | .bl _, _, _, h => h
  | .int _, _, _, h => h
  | .str _, _, _, h => h
  | .tup _, _, e, ⟨a, vs, h1, h2, h3⟩ => ⟨a, vs, h1, h2, Reps.cut (by simpa only [refsD] using e) h3⟩
  | .lst _, _, e, ⟨a, vs, h1, h2, h3⟩ => ⟨a, vs, h1, h2, Reps.cut (by simpa only [refsD] using e) h3⟩
  | .kl _, _, e, ⟨a, vs, h1, h2, h3⟩ => ⟨a, vs, h1, h2, Reps.cut (by simpa only [refsD] using e) h3⟩
  | .ref n, _, e, ⟨a, h1, h2⟩ => ⟨a, h1, by
    have hn : n < L := of_decide_eq_true (by simpa only [refsD] using e)
    show (if n < L then al n else none) = some a
    rw [if_pos hn]
    exact h2⟩
  | .obj _ _, _, e, ⟨a, dx, vs, h1, h2, h3⟩ => ⟨a, dx, vs, h1, h2, RepF.cut (by simpa only [refsD] using e) h3⟩
  | .cls _, _, _, h => h
  | .dK _, _, e, ⟨a, vs, h1, h2, h3⟩ => ⟨a, vs, h1, h2, RepK.cut (by simpa only [refsD] using e) h3⟩
  | .dT _, _, e, ⟨a, vs, h1, h2, h3⟩ => ⟨a, vs, h1, h2, RepT.cut (by simpa only [refsD] using e) h3⟩
theorem Reps.cut : ∀ {d : List D} {v : List V}, refsDs L d = true → Reps g F al d v → Reps g F (alCut L al) d v
  | [], _, _, h => h
  | _ :: _, _, e, ⟨v, r, h1, h2, h3⟩ => by
    obtain ⟨e1, e2⟩ := Bool.and_eq_true_iff.mp (by simpa only [refsDs] using e)
    exact ⟨v, r, h1, Rep.cut e1 h2, Reps.cut e2 h3⟩
theorem RepF.cut : ∀ {d : List (Str × D)} {v : List (Str × V)}, refsF L d = true → RepF g F al d v → RepF g F (alCut L al) d v
  | [], _, _, h => h
  | (_, _) :: _, _, e, ⟨v, r, h1, h2, h3⟩ => by
    obtain ⟨e1, e2⟩ := Bool.and_eq_true_iff.mp (by simpa only [refsF] using e)
    exact ⟨v, r, h1, Rep.cut e1 h2, RepF.cut e2 h3⟩
theorem RepK.cut : ∀ {d : List (Key × D)} {v : List (Key × V)}, refsK L d = true → RepK g F al d v → RepK g F (alCut L al) d v
  | [], _, _, h => h
  | (_, _) :: _, _, e, ⟨v, r, h1, h2, h3⟩ => by
    obtain ⟨e1, e2⟩ := Bool.and_eq_true_iff.mp (by simpa only [refsK] using e)
    exact ⟨v, r, h1, Rep.cut e1 h2, RepK.cut e2 h3⟩
theorem RepT.cut : ∀ {d : List (List Key × D)} {v : List (List Key × V)}, refsT L d = true → RepT g F al d v → RepT g F (alCut L al) d v
  | [], _, _, h => h
  | (_, _) :: _, _, e, ⟨v, r, h1, h2, h3⟩ => by
    obtain ⟨e1, e2⟩ := Bool.and_eq_true_iff.mp (by simpa only [refsT] using e)
    exact ⟨v, r, h1, Rep.cut e1 h2, RepT.cut e2 h3⟩
end
end
def cellRefs (L : Nat) : Cell → Bool
  | .lst xs => refsDs L xs
  | .ins _ fs => refsF L fs
  | .dK kvs => refsK L kvs
  | .dT kvs => refsT L kvs
  | .frz c => cellRefs L c
def cutH (L : Nat) (h : Hc) : Option Hc := if (h.take L).all (cellRefs L) then some (h.take L) else none
def RS.cut (L : Nat) : RS → RS
  | .nx e h => (match cutH L h with
    | some h2 => .nx (e.map fun _ => none) h2
    | none => .stuck)
  | .ret d h => if refsD L d then (match cutH L h with
    | some h2 => .ret d h2
    | none => .stuck) else .stuck
  | .exc e x h => if refsD L x then (match cutH L h with
    | some h2 => .exc (e.map fun _ => none) x h2
    | none => .stuck) else .stuck
  | _ => .stuck
def mCut (m : MS) : MS := fun env h => (m env h).cut h.length
section
variable {g : Gi} {B : Bg} {W : WXv} {env : Env} {s : Sta} {σ : L2.St} {H : Hp}
def Sta.cut (L : Nat) (s : Sta) : Sta := { F := s.F, al := alCut L s.al, h := s.h.take L, z := fun n => if n < L then s.z n else none }
theorem CellRep.cut {L : Nat} {a : Addr} : ∀ {c : Cell}, cellRefs L c = true → CellRep g s H a c → CellRep g (s.cut L) H a c
  | .lst _, e, ⟨vs, h1, h2⟩ => ⟨vs, h1, h2.cut e⟩
  | .ins _ _, e, ⟨dx, vs, h1, h2⟩ => ⟨dx, vs, h1, h2.cut e⟩
  | .dK _, e, ⟨vs, h1, h2⟩ => ⟨vs, h1, h2.cut e⟩
  | .dT _, e, ⟨vs, h1, h2⟩ => ⟨vs, h1, h2.cut e⟩
  | .frz c, e, h => CellRep.cut (c := c) e h
theorem alCut_some {L n : Nat} {al : Nat → Option Addr} {a : Addr} (h : alCut L al n = some a) : n < L ∧ al n = some a := by
  have h : (if n < L then al n else none) = some a := h
  by_cases e : n < L
  · rw [if_pos e] at h
    exact ⟨e, h⟩
  · rw [if_neg e] at h
    cases h
theorem take_some {L n : Nat} {h : Hc} {c : Cell} (e : (h.take L)[n]? = some c) : n < L ∧ h[n]? = some c := by
  by_cases hn : n < L
  · rw [List.getElem?_take_of_lt hn] at e
    exact ⟨hn, e⟩
  · rw [List.getElem?_take, if_neg hn] at e
    cases e
theorem good_cut {L : Nat} (gd : Good g s H) (hc : (s.h.take L).all (cellRefs L) = true) : Good g (s.cut L) H := by
  refine ⟨gd.fle, fun n m a h1 h2 => gd.inj n m a (alCut_some h1).2 (alCut_some h2).2, fun n a h => ?_, fun n c h => ?_, ⟨fun n o h => ?_, fun n c h => ?_⟩⟩
  · obtain ⟨e, h⟩ := alCut_some h
    obtain ⟨h1, h2, h3⟩ := gd.dom n a h
    refine ⟨?_, h2, h3⟩
    show n < (s.h.take L).length
    rw [List.length_take]
    omega
  · obtain ⟨e, h⟩ := take_some (show (s.h.take L)[n]? = some c from h)
    obtain ⟨a, h1, h2⟩ := gd.cell n c h
    have hm : c ∈ s.h.take L := List.mem_of_getElem? (by rw [List.getElem?_take_of_lt e]; exact h)
    refine ⟨a, ?_, h2.cut (List.all_eq_true.mp hc c hm)⟩
    show (if n < L then s.al n else none) = some a
    rw [if_pos e]
    exact h1
  · have h : (if n < L then s.z n else none) = some o := h
    by_cases e : n < L
    · rw [if_pos e] at h
      obtain ⟨a, c, h1, h2, h3⟩ := gd.zed.at_ n o h
      refine ⟨a, c, ?_, h2, ?_⟩
      · show (if n < L then s.al n else none) = some a
        rw [if_pos e]
        exact h1
      · show (s.h.take L)[n]? = _
        rw [List.getElem?_take_of_lt e]
        exact h3
    · rw [if_neg e] at h
      cases h
  · obtain ⟨e, h⟩ := take_some (show (s.h.take L)[n]? = some (.frz c) from h)
    obtain ⟨o, h1⟩ := gd.zed.of n c h
    exact ⟨o, by
      show (if n < L then s.z n else none) = some o
      rw [if_pos e]
      exact h1⟩
theorem evo_cut {s0 s2 : Sta} {H0 H2 : Hp} {L : Nat} (gd : Good g s H) (e0 : Evo s0 H0 s H) (hL : L = s.h.length) (e : Evo s0 H0 s2 H2) : Evo s0 H0 (s2.cut L) H2 := by
  refine ⟨e.f, fun n a h => ?_, fun a o h hn => ?_, ?_, fun n o h => ?_⟩
  · have hn := (gd.dom n a (e0.al n a h)).1
    show (if n < L then s2.al n else none) = some a
    rw [if_pos (by omega)]
    exact e.al n a h
  · obtain ⟨h1, h2, h3⟩ := e.oth a o h hn
    exact ⟨h1, h2, fun n z => h3 n (alCut_some z).2⟩
  · show s0.h.length ≤ (s2.h.take L).length
    rw [List.length_take]
    have := e.len
    have := e0.len
    omega
  · obtain ⟨a, c, h1, _, h3⟩ := gd.zed.at_ n o (e0.z n o h)
    have hn := (List.getElem?_eq_some_iff.mp h3).1
    show (if n < L then s2.z n else none) = some o
    rw [if_pos (by omega)]
    exact e.z n o h
theorem none_map {env : Env} {i : Nat} {sl : Sl} (h : (env.map fun _ => (none : Option Sl))[i]? = some (some sl)) : False := by
  rw [List.getElem?_map] at h
  cases e : env[i]? with
  | none => rw [e] at h; cases h
  | some x => rw [e] at h; cases h
theorem SR.cut {s2 : Sta} {σ2 : L2.St} {H2 : Hp} {env2 : Env} {L : Nat} (sr : SR g B env s σ H) (hL : L = s.h.length) (sr2 : SR g B env2 s2 σ2 H2) (hc : (s2.h.take L).all (cellRefs L) = true) : SR g B (env2.map fun _ => none) (s2.cut L) σ2 H2 :=
  ⟨good_cut sr2.good hc, evo_cut sr.good sr.evo hL sr2.evo, by rw [List.length_map]; exact sr2.len, fun i sl h => (none_map h).elim, fun i j sl sl' v _ h => (none_map h).elim⟩
theorem cutH_some {L : Nat} {h h2 : Hc} (e : cutH L h = some h2) : (h.take L).all (cellRefs L) = true ∧ h2 = h.take L := by
  unfold cutH at e
  split at e
  · next hc => cases e; exact ⟨hc, rfl⟩
  · cases e
theorem le_cut {s2 : Sta} {L : Nat} (gd : Good g s H) (hL : L = s.h.length) (l : Le s s2) : Le s (s2.cut L) := ⟨l.f, fun n a h => by
    have hn := (gd.dom n a h).1
    show (if n < L then s2.al n else none) = some a
    rw [if_pos (by omega)]
    exact l.al n a h, fun n o h => by
    obtain ⟨a, c, h1, _, h3⟩ := gd.zed.at_ n o h
    have hn := (List.getElem?_eq_some_iff.mp h3).1
    show (if n < L then s2.z n else none) = some o
    rw [if_pos (by omega)]
    exact l.z n o h⟩
theorem PostS.cut {N : Ends} (sr : SR g B env s σ H) : ∀ {r : RS}, PostS g B W s (r.cut s.h.length) N → PostS g B W s r N
  | .nx e h, p => fun σ2 H2 s2 eh l sr2 => by
    unfold RS.cut at p
    dsimp only at p
    split at p
    · next h2 hc =>
      rw [← eh] at hc
      obtain ⟨h1, rfl⟩ := cutH_some hc
      exact p σ2 H2 (s2.cut s.h.length) rfl (le_cut sr.good rfl l) (SR.cut sr rfl sr2 h1)
    · exact p.elim
  | .ret d h, p => fun v H2 s2 eh ev gd r => by
    unfold RS.cut at p
    dsimp only at p
    split at p
    · next hd =>
      split at p
      · next h2 hc =>
        rw [← eh] at hc
        obtain ⟨h1, rfl⟩ := cutH_some hc
        exact p v H2 (s2.cut s.h.length) rfl (evo_cut sr.good sr.evo rfl ev) (good_cut gd h1) (r.cut hd)
      · exact p.elim
    · exact p.elim
  | .exc e x h, p => fun c d σ2 H2 s2 eh l sr2 xr => by
    unfold RS.cut at p
    dsimp only at p
    split at p
    · next hd =>
      split at p
      · next h2 hc =>
        rw [← eh] at hc
        obtain ⟨h1, rfl⟩ := cutH_some hc
        refine p c d σ2 H2 (s2.cut s.h.length) rfl (le_cut sr.good rfl l) (SR.cut sr rfl sr2 h1) ?_
        cases x with
        | obj c' fs =>
          obtain ⟨d', vs, e1, e2, e3, e4, e5⟩ := xr
          exact ⟨d', vs, e1, e2, e3, fun n z => e4 n (alCut_some z).2, e5.cut (by simpa only [refsD] using hd)⟩
        | _ => exact xr.elim
      · exact p.elim
    · exact p.elim
  | .brk _ _, p => p.elim
  | .cnt _ _, p => p.elim
  | .stuck, p => p
end
section
variable {X : Cx} {g : Gi} {B : Bg} {W : WXv} {sts : List Stmt} {m : MS}
theorem vss_cut (h : PSs X sts (tS g B W m)) : PSs X sts (tS g B W (mCut m)) := pss_imp h fun N σ H ⟨env, s, sr, p⟩ => ⟨env, s, sr, p.cut sr⟩
end
end Vi

set_option Elab.async false
set_option linter.all false
set_option maxRecDepth 100000
set_option maxHeartbeats 2000000
namespace Vi
open PySem L2 PyProof.Rows

/-! ### isinstance(x, (A, B)) -/
def isi2 (g : Gi) (u t1 t2 : Ty) : Option Bool := match g.isi u t1 with
  | some true => some true
  | some false => g.isi u t2
  | none => none
def fIsi2 (g : Gi) (t1 t2 : Ty) (x : Vl) (h : Hc) : R Vl := match x.ty g h with
  | some u => (match isi2 g u t1 t2 with
    | some b => .ok (.d (.bl b)) h
    | none => .stuck)
  | none => .stuck
section
variable {X : Cx} {g : Gi} {B : Bg} {W : WXv} {pos p p2 : Pos} {e c1 c2 : Expr} {m : ME} {k : Nat}
theorem isi2_kit (G : GiOk g) {u t1 t2 : Ty} {b : Bool} (h : isi2 g u t1 t2 = some b) : PySem.W.kitAny g.K (u.val g) [t1.val g, t2.val g] = some b := by
  unfold isi2 at h
  split at h
  · next e =>
    cases h
    unfold PySem.W.kitAny
    rw [G.isi _ _ _ e]
  · next e =>
    unfold PySem.W.kitAny
    rw [G.isi _ _ _ e]
    dsimp only
    unfold PySem.W.kitAny
    rw [G.isi _ _ _ h]
    cases b <;> rfl
  · cases h
theorem clsV_ty (g : Gi) : ∀ t : Ty, ClsV (t.v g) (t.val g)
  | .bt n => .ty n
  | .own _ => .own _
theorem ve_isi2 (G : GiOk g) (hK : g.K = X.K) (t1 t2 : Ty) (hg : Gl X "isinstance") (hm : X.mg "isinstance" = none) (he : PE X e (tE g B W m)) (h1 : PE X c1 (tC (t1.v g))) (h2 : PE X c2 (tC (t2.v g)))
    (hs : starEach [e, .Tuple [c1, c2] k p2] X.env = (false, eval e X.env) :: starEach [.Tuple [c1, c2] k p2] X.env := by rfl) (hs2 : starEach [.Tuple [c1, c2] k p2] X.env = (false, eval (.Tuple [c1, c2] k p2) X.env) :: starEach [] X.env := by rfl)
    (hs3 : starEach [c1, c2] X.env = (false, eval c1 X.env) :: starEach [c2] X.env := by rfl) (hs4 : starEach [c2] X.env = (false, eval c2 X.env) :: starEach [] X.env := by rfl)
    (hpl : (backTo pos (starEach [.Tuple [c1, c2] k p2] X.env)).any (·.1) = false := by rfl) :
    PE X (.Call (.Name "isinstance" p) [e, .Tuple [c1, c2] k p2] [] pos) (tE g B W (m1 (fIsi2 g t1 t2) m)) := by
  refine pe_imp (pe_callB call_isiT hg hm (by decide +kernel) (pa_cons he (pa_cons (pe_tup (pa_cons h1 (pa_cons h2 pa_nil hs4) hs3)) pa_nil hs2) hs) (by decide) (by decide) hs hpl) fun σ H Q ⟨env, s, sr, p⟩ => ?_
  refine (bindE (Q := Q) sr p).mono fun v H1 ⟨s1, x, sr1, _, r1, p1⟩ => ?_
  unfold fIsi2 at p1
  split at p1
  · next u e1 =>
    split at p1
    · next b e2 =>
      refine ⟨by show 2 ≤ sizeLine; decide, fun q hq => ?_⟩
      obtain ⟨sr2, ev2⟩ := sr1.new (o := .tup [t1.v g, t2.v g]) hq
      refine ⟨v, q, [t1.v g, t2.v g], u.val g, [t1.val g, t2.val g], b, rfl, upd_same, .cons (clsV_ty g t1) (.cons (clsV_ty g t2) .nil), hK ▸ Vl.tyX G sr2.good (r1.evo ev2) e1, hK ▸ isi2_kit G e2, ?_⟩
      exact p1 _ _ s1 rfl ev2 sr2 rfl
    · exact p1.elim
  · exact p1.elim
end
end Vi

set_option Elab.async false
set_option linter.all false
set_option maxRecDepth 100000
set_option maxHeartbeats 2000000
namespace Vi
open PySem L2 PyProof.Rows

/-! ### the order of numbers, of texts, of tuples of both -/
structure Tot {α : Type} (lt : α → α → Bool) : Prop where
  asym : ∀ x y, lt x y = true → lt y x = false
  tr : ∀ x y z, lt y x = false → lt z y = false → lt z x = false
  tri : ∀ x y, lt x y = false → lt y x = false → x = y
theorem Tot.swo {α : Type} {lt : α → α → Bool} (T : Tot lt) : SrtO.Swo lt := ⟨T.asym, T.tr⟩
theorem Tot.irr {α : Type} {lt : α → α → Bool} (T : Tot lt) (x : α) : lt x x = false := T.swo.refl x
def sLt (a b : PySem.Str) : Bool := decide (a.cps.toList < b.cps.toList)
theorem str_eq {a b : PySem.Str} (h : a.cps.toList = b.cps.toList) : a = b := by
  cases a with
  | mk x =>
    cases b with
    | mk y =>
      have : x = y := Array.toList_inj.mp h
      rw [this]
theorem tot_str : Tot sLt := by
  refine ⟨fun x y h => ?_, fun x y z h1 h2 => ?_, fun x y h1 h2 => ?_⟩
  · have a := of_decide_eq_true (p := x.cps.toList < y.cps.toList) h
    exact decide_eq_false (p := y.cps.toList < x.cps.toList) (List.lt_asymm a)
  · have a := of_decide_eq_false (p := y.cps.toList < x.cps.toList) h1
    have b := of_decide_eq_false (p := z.cps.toList < y.cps.toList) h2
    refine decide_eq_false (p := z.cps.toList < x.cps.toList) ?_
    exact List.not_lt.mpr (List.le_trans (List.not_lt.mp a) (List.not_lt.mp b))
  · have a := of_decide_eq_false (p := x.cps.toList < y.cps.toList) h1
    have b := of_decide_eq_false (p := y.cps.toList < x.cps.toList) h2
    exact str_eq (List.le_antisymm (List.not_lt.mp b) (List.not_lt.mp a))
def kLt : Key → Key → Bool
  | .inl a, .inl b => decide (a < b)
  | .inr a, .inr b => sLt a b
  | .inl _, .inr _ => true
  | .inr _, .inl _ => false
theorem tot_key : Tot kLt := by
  refine ⟨fun x y h => ?_, fun x y z h1 h2 => ?_, fun x y h1 h2 => ?_⟩
  · cases x <;> cases y
    · next a b =>
      have q := of_decide_eq_true (p := a < b) h
      exact decide_eq_false (p := b < a) (by omega)
    · rfl
    · cases h
    · exact tot_str.asym _ _ h
  · cases x <;> cases y <;> cases z <;> first | rfl | (cases h1; done) | (cases h2; done) | skip
    · next a b c =>
      have q := of_decide_eq_false (p := b < a) h1
      have r := of_decide_eq_false (p := c < b) h2
      exact decide_eq_false (p := c < a) (by omega)
    · exact tot_str.tr _ _ _ h1 h2
  · cases x <;> cases y
    · next a b =>
      have q := of_decide_eq_false (p := a < b) h1
      have r := of_decide_eq_false (p := b < a) h2
      rw [show a = b by omega]
    · cases h1
    · cases h2
    · rw [tot_str.tri _ _ h1 h2]
def ksLt : List Key → List Key → Bool
  | [], [] => false
  | [], _ :: _ => true
  | _ :: _, [] => false
  | x :: xs, y :: ys => if x = y then ksLt xs ys else kLt x y
theorem ksLt_asym : ∀ x y : List Key, ksLt x y = true → ksLt y x = false
  | [], [], _ => rfl
  | [], _ :: _, _ => rfl
  | _ :: _, [], h => by cases h
  | x :: xs, y :: ys, h => by
    unfold ksLt at h ⊢
    by_cases e : x = y
    · rw [if_pos e] at h
      rw [if_pos e.symm]
      exact ksLt_asym xs ys h
    · rw [if_neg e] at h
      rw [if_neg fun z => e z.symm]
      exact tot_key.asym _ _ h
theorem ksLt_tri : ∀ x y : List Key, ksLt x y = false → ksLt y x = false → x = y
  | [], [], _, _ => rfl
  | [], _ :: _, h, _ => by cases h
  | _ :: _, [], _, h => by cases h
  | x :: xs, y :: ys, h1, h2 => by
    unfold ksLt at h1 h2
    by_cases e : x = y
    · rw [if_pos e] at h1
      rw [if_pos e.symm] at h2
      rw [e, ksLt_tri xs ys h1 h2]
    · rw [if_neg e] at h1
      rw [if_neg fun z => e z.symm] at h2
      exact absurd (tot_key.tri _ _ h1 h2) e
theorem ksLt_tr : ∀ x y z : List Key, ksLt y x = false → ksLt z y = false → ksLt z x = false
  | [], [], z, _, h2 => h2
  | [], y :: ys, [], _, h2 => by cases h2
  | [], y :: ys, z :: zs, _, _ => rfl
  | x :: xs, [], _, h1, _ => by cases h1
  | x :: xs, y :: ys, [], _, h2 => by cases h2
  | x :: xs, y :: ys, z :: zs, h1, h2 => by
    unfold ksLt at h1 h2 ⊢
    by_cases e1 : y = x
    · subst e1
      rw [if_pos rfl] at h1
      by_cases e2 : z = y
      · rw [if_pos e2] at h2 ⊢
        exact ksLt_tr xs ys zs h1 h2
      · rw [if_neg e2] at h2 ⊢
        exact h2
    · rw [if_neg e1] at h1
      by_cases e2 : z = y
      · subst e2
        rw [if_neg e1]
        exact h1
      · rw [if_neg e2] at h2
        have h3 := tot_key.tr _ _ _ h1 h2
        by_cases e3 : z = x
        · subst e3
          exact absurd (tot_key.tri _ _ h2 h1) e2
        · rw [if_neg e3]
          exact h3
theorem tot_keys : Tot ksLt := ⟨ksLt_asym, ksLt_tr, ksLt_tri⟩
theorem tot_int : Tot fun a b : Int => decide (a < b) := by
  refine ⟨fun x y h => ?_, fun x y z h1 h2 => ?_, fun x y h1 h2 => ?_⟩
  · have a := of_decide_eq_true (p := x < y) h
    exact decide_eq_false (p := y < x) (by omega)
  · have a := of_decide_eq_false (p := y < x) h1
    have b := of_decide_eq_false (p := z < y) h2
    exact decide_eq_false (p := z < x) (by omega)
  · have a := of_decide_eq_false (p := x < y) h1
    have b := of_decide_eq_false (p := y < x) h2
    omega
/-! ### sorting -/
section
variable {α : Type} {lt : α → α → Bool}
def insL (lt : α → α → Bool) (x : α) : List α → List α
  | [] => [x]
  | y :: r => if lt y x then y :: insL lt x r else x :: y :: r
def sortL (lt : α → α → Bool) : List α → List α
  | [] => []
  | x :: r => insL lt x (sortL lt r)
theorem insL_perm (x : α) : ∀ l : List α, (insL lt x l).Perm (x :: l)
  | [] => List.Perm.refl _
  | y :: r => by
    unfold insL
    split
    · exact ((insL_perm x r).cons y).trans (List.Perm.swap x y r)
    · exact List.Perm.refl _
theorem sortL_perm : ∀ l : List α, (sortL lt l).Perm l
  | [] => List.Perm.refl _
  | x :: r => (insL_perm x _).trans ((sortL_perm r).cons x)
theorem insL_srtd (T : Tot lt) (x : α) : ∀ {l : List α}, SrtO.Srtd lt l → SrtO.Srtd lt (insL lt x l)
  | [], _ => List.pairwise_singleton _ _
  | y :: r, h => by
    obtain ⟨h1, h2⟩ := List.pairwise_cons.mp h
    unfold insL
    split
    · next hy =>
      refine List.pairwise_cons.mpr ⟨fun z hz => ?_, insL_srtd T x h2⟩
      rcases List.mem_cons.mp ((insL_perm x r).mem_iff.mp hz) with rfl | hz
      · exact T.asym _ _ hy
      · exact h1 z hz
    · next hy =>
      have hy' : lt y x = false := by simpa using hy
      refine List.pairwise_cons.mpr ⟨fun z hz => ?_, h⟩
      rcases List.mem_cons.mp hz with rfl | hz
      · exact hy'
      · exact T.tr _ _ _ hy' (h1 z hz)
theorem sortL_srtd (T : Tot lt) : ∀ l : List α, SrtO.Srtd lt (sortL lt l)
  | [] => List.Pairwise.nil
  | x :: r => insL_srtd T x (sortL_srtd T r)
/-- there is but one sorted arrangement -/
theorem srtd_uniq (T : Tot lt) : ∀ {l m : List α}, SrtO.Srtd lt l → SrtO.Srtd lt m → l.Perm m → l = m
  | [], m, _, _, p => (List.Perm.nil_eq p)
  | x :: l, [], _, _, p => (List.Perm.eq_nil p)
  | x :: l, y :: m, h1, h2, p => by
    obtain ⟨a1, a2⟩ := List.pairwise_cons.mp h1
    obtain ⟨b1, b2⟩ := List.pairwise_cons.mp h2
    have e : x = y := by
      rcases List.mem_cons.mp (p.mem_iff.mp (List.mem_cons_self ..)) with e | hx
      · exact e
      · rcases List.mem_cons.mp (p.mem_iff.mpr (List.mem_cons_self ..)) with e | hy
        · exact e.symm
        · exact T.tri _ _ (b1 x hx) (a1 y hy)
    subst e
    rw [srtd_uniq T a2 b2 (List.Perm.cons_inv p)]
theorem sortL_of (T : Tot lt) {l m : List α} (h : SrtO.Srtd lt m) (p : m.Perm l) : m = sortL lt l :=
  srtd_uniq T h (sortL_srtd T l) (p.trans (sortL_perm l).symm)
end
end Vi

set_option Elab.async false
set_option linter.all false
set_option maxRecDepth 100000
set_option maxHeartbeats 4000000
namespace Vi
open PySem L2 PyProof.Rows

/-! ### tuples of numbers and texts are compared -/
def kKind : Key → Bool
  | .inl _ => true
  | .inr _ => false
/-- two tuples that can be compared -/
def compat : List Key → List Key → Bool
  | x :: xs, y :: ys => (kKind x == kKind y) && (if x = y then compat xs ys else true)
  | _, _ => true
section
variable {prog : Program} {w : World} {A : Around} {E : Value → Shared → Prop} {s : Shared} {Q : Bool → Shared → Prop}
theorem lex_keys {b fin : Bool} : ∀ {ks js : List Key} {us vs : List Value} (i : Nat), Vals (ks.map kV) us → Vals (js.map kV) vs → compat ks js = true → fin = decide (ks.length < js.length) → Q (ksLt ks js) s → PySem.W.KatLex prog w A b fin Q (us.zip vs) i s
  | [], [], _, _, i, .nil, .nil, _, hf, q => by
    subst hf
    exact PySem.W.kat_nil q
  | [], _ :: _, _, _, i, .nil, .cons _ _, _, hf, q => by
    subst hf
    exact PySem.W.kat_nil q
  | _ :: _, [], _, _, i, .cons _ _, .nil, _, hf, q => by
    subst hf
    exact PySem.W.kat_nil q
  | x :: xs, y :: ys, _, _, i, .cons (b := u) (l₂ := us) ru rus, .cons (b := v) (l₂ := vs) rv rvs, hc, hf, q => by
    have hc : ((kKind x == kKind y) && (if x = y then compat xs ys else true)) = true := hc
    obtain ⟨h1, h2⟩ := Bool.and_eq_true_iff.mp hc
    have q : Q (if x = y then ksLt xs ys else kLt x y) s := q
    have hf2 : fin = decide (xs.length < ys.length) := by
      rw [hf]
      refine decide_eq_decide.mpr ?_
      simp only [List.length_cons]
      omega
    have ih : x = y → PySem.W.KatLex prog w A b fin Q (us.zip vs) (i + 1) s := fun e => by
      rw [if_pos e] at h2 q
      exact lex_keys (i + 1) rus rvs h2 hf2 q
    cases x with
    | inl a =>
      cases y with
      | inl c =>
        obtain ⟨t, rfl⟩ := ru
        obtain ⟨t', rfl⟩ := rv
        refine PySem.W.kat_cons (wpAny_eqBool_int ?_)
        refine PySem.W.kat_go (fun e => ?_) (fun e => ?_)
        · have ea : a = c := by simpa using e
          exact PySem.W.kat_yes (ih (by rw [ea]))
        · have ea : ¬ a = c := by simpa using e
          rw [if_neg (fun z => ea (Sum.inl.inj z))] at q
          exact PySem.W.kat_no (PyProof.Rows.oneLt_any_int q)
      | inr c => cases h1
    | inr a =>
      cases y with
      | inl c => cases h1
      | inr c =>
        obtain ⟨t, rfl⟩ := ru
        obtain ⟨t', rfl⟩ := rv
        refine PySem.W.kat_cons (wpAny_eqBool_str ?_)
        refine PySem.W.kat_go (fun e => ?_) (fun e => ?_)
        · have ea : a = c := by simpa using e
          exact PySem.W.kat_yes (ih (by rw [ea]))
        · have ea : ¬ a = c := by simpa using e
          rw [if_neg (fun z => ea (Sum.inr.inj z))] at q
          exact PySem.W.kat_no (PyProof.Rows.oneLt_any_str q)
end
/-! ### sorted of tuples -/
/-- a tuple of numbers and texts, as it stands in the heap -/
def TupK (h : Heap) (v : Value) (ks : List Key) : Prop := ∃ (a : Addr) (its : List Value), v = .ref a ∧ Vals (ks.map kV) its ∧ IsTup h a its.toArray
theorem TupK.keeps {h h' : Heap} {v : Value} {ks : List Key} (x : TupK h v ks) (k : ∀ b o, h.get? b = some o → o.cls = .type "tuple" → h'.get? b = some o) : TupK h' v ks := by
  obtain ⟨a, its, e, r, o, h1, h2, n, h3⟩ := x
  exact ⟨a, its, e, r, o, k a o h1 h2, h2, n, h3⟩
def compatAll (l : List (List Key)) : Bool := l.all fun x => !x.isEmpty && l.all fun y => compat x y
section
variable {prog : Program} {w : World} {A : Around} {E : Value → Shared → Prop} {s : Shared}
theorem tupK_cmp {b : Bool} {vs : List Value} {k : Value → List Key} (hp : ∀ v ∈ vs, TupK s.heap v (k v)) (hc : ∀ v ∈ vs, ∀ u ∈ vs, compat (k v) (k u) = true) : SrtO.Cmp prog w A s (tuples' b) (fun p => p.1 ∈ vs) (SrtO.lt2 fun v u => ksLt (k v) (k u)) := by
  intro p q m1 m2
  obtain ⟨a, its, e1, r1, o1, g1, _, n1, d1⟩ := hp _ m1
  obtain ⟨c, its2, e2, r2, o2, g2, _, n2, d2⟩ := hp _ m2
  show wpAny (model prog w) A (keyLt' (tuples' b) p.1 q.1) (fun r s' => s' = s ∧ r = ksLt (k p.1) (k q.1)) (fun _ _ => False) s
  have q3 := hc _ m1 _ m2
  generalize k p.1 = ks at r1 q3 ⊢
  generalize k q.1 = js at r2 q3 ⊢
  rw [e1, e2]
  refine PySem.W.kat_lt g1 d1 g2 d2 ?_
  refine lex_keys 0 (by simpa using r1) (by simpa using r2) q3 ?_ ⟨rfl, rfl⟩
  have l1 := r1.length
  have l2 := r2.length
  rw [List.length_map] at l1 l2
  rw [List.size_toArray, List.size_toArray, l1, l2]
theorem kat_of {k : Value → List Key} {kd : Bool} : ∀ {l : List Value}, (∀ v ∈ l, TupK s.heap v (k v)) → (∀ v ∈ l, ∃ x r, k v = x :: r ∧ kKind x = kd) →
    ∃ fs, PySem.W.KatTups s.heap l fs ∧ fs.length = l.length ∧ ∀ f ∈ fs, ∃ x, RelV (kV x) f ∧ kKind x = kd
  | [], _, _ => ⟨[], PySem.W.KatTups.nil, rfl, fun f hf => by cases hf⟩
  | v :: l, h1, h2 => by
    obtain ⟨fs, q1, q2, q3⟩ := kat_of (l := l) (fun u hu => h1 u (List.mem_cons_of_mem _ hu)) fun u hu => h2 u (List.mem_cons_of_mem _ hu)
    obtain ⟨a, its, rfl, r1, o1, g1, c1, n1, d1⟩ := h1 v (List.mem_cons_self ..)
    obtain ⟨x, r, ek, hk⟩ := h2 _ (List.mem_cons_self ..)
    rw [ek] at r1
    cases r1 with
    | @cons _ f _ its' rf rr =>
      refine ⟨f :: fs, PySem.W.KatTups.cons g1 c1 d1 (by simp) q1, by simp [q2], fun g hg => ?_⟩
      rcases List.mem_cons.mp hg with rfl | hg
      · exact ⟨x, rf, hk⟩
      · exact q3 g hg
theorem tupK_sortable {a : Addr} {vs : List Value} {k : Value → List Key} {kd : Bool} (h0 : 0 < vs.length) (hp : ∀ v ∈ vs, TupK s.heap v (k v)) (hk : ∀ v ∈ vs, ∃ x r, k v = x :: r ∧ kKind x = kd)
    (hc : ∀ v ∈ vs, ∀ u ∈ vs, compat (k v) (k u) = true) (ha : ∀ o, s.heap.get? a = some o → o.cls ≠ .type "tuple") : SrtO.SortableO prog w A s a vs fun v u => ksLt (k v) (k u) := by
  intro h' same
  have hp' : ∀ v ∈ vs, TupK h' v (k v) := fun v m => (hp v m).keeps fun b o e c => same b o (fun z => ha o (by rw [← z]; exact e) c) e
  obtain ⟨fs, q1, q2, q3⟩ := kat_of (s := { s with heap := h' }) hp' hk
  refine ⟨tuples' true, fun Q E hq => ?_, tupK_cmp hp' hc⟩
  cases kd with
  | true =>
    refine PySem.W.kat_kind (T := .type "int") q1 (by omega) (fun f m => ?_) (by rfl) ?_
    · obtain ⟨x, rx, kx⟩ := q3 f m
      cases x with
      | inl i =>
        obtain ⟨t, rfl⟩ := rx
        exact PySem.W.Looks.now
      | inr _ => cases kx
    · rw [show (Value.type "int" != Value.type "tuple") = true from by decide +kernel]
      exact hq
  | false =>
    refine PySem.W.kat_kind (T := .type "str") q1 (by omega) (fun f m => ?_) (by rfl) ?_
    · obtain ⟨x, rx, kx⟩ := q3 f m
      cases x with
      | inr i =>
        obtain ⟨t, rfl⟩ := rx
        exact PySem.W.Looks.now
      | inl _ => cases kx
    · rw [show (Value.type "str" != Value.type "tuple") = true from by decide +kernel]
      exact hq
theorem swo_by {β : Type} (k : β → List Key) : SrtO.Swo fun v u : β => ksLt (k v) (k u) := ⟨fun x y h => tot_keys.asym _ _ h, fun x y z h1 h2 => tot_keys.tr _ _ _ h1 h2⟩
end
/-- what sorted asks: a list of tuples (k says what stands in them) that can be compared -/
def rSrtK (K : PySem.W.Frag) : List V → Hp → VK → Prop := fun vs H Q => ∃ (a : Addr) (xs : List V) (k : V → List Key) (kd : Bool), vs = [.ref a] ∧ SqL K H a xs ∧ (∀ x ∈ xs, ∃ t, x = .ref t ∧ SqT K H t ((k x).map kV)) ∧
  (∀ x ∈ xs, ∃ y r, k x = y :: r ∧ kKind y = kd) ∧ (∀ x ∈ xs, ∀ y ∈ xs, compat (k x) (k y) = true) ∧
  ∀ ys p, SrtO.Srtd (fun v u => ksLt (k v) (k u)) ys → ys.Perm xs → H p = none → Q (.ref p) (upd H p (.lst ys))
section
variable {X : Cx}
theorem cr_srtK : CallR X (.builtin "sorted") (rSrtK X.K) := by
  intro pins s σ H vs us Q I r ⟨a, xs, k, kd, e, hs, hx, hk, hc, q⟩
  subst e
  obtain ⟨its, rv, hl, hz⟩ := I.list hs
  rw [Vals.ref1 r]
  obtain ⟨e1, e2⟩ := refs_back rv fun x m => by
    obtain ⟨t, et, _⟩ := hx x m
    exact ⟨t, et⟩
  have mem : ∀ v ∈ its, backV v ∈ xs := fun v hv => by rw [e1]; exact List.mem_map.mpr ⟨v, hv, rfl⟩
  have tk : ∀ v ∈ its, TupK s.heap v (k (backV v)) := fun v hv => by
    obtain ⟨t, rfl⟩ := e2 v hv
    obtain ⟨t', et, ht⟩ := hx _ (mem _ hv)
    cases et
    obtain ⟨js, rj, pj, _⟩ := I.tuple ht
    exact ⟨t, js, rfl, rj, pj⟩
  refine SrtO.sorted_ord (swo_by fun v => k (backV v)) hl.isList (by rw [← rv.length]; exact hz) (fun h2 h₁ a' h3 same => ?_) fun out h1 h2 => ?_
  · refine tupK_sortable (s := { s with heap := h₁ }) (kd := kd) (by omega) (fun v hv => (tk v hv).keeps fun b o e _ => (same b o e).2) (fun v hv => hk _ (mem v hv)) (fun v hv u hu => hc _ (mem v hv) _ (mem u hu)) fun o e => ?_
    rw [h3] at e
    cases e
    exact fun z => absurd (show Value.type "list" = Value.type "tuple" from z) (by decide)
  · have h3 : ∀ u ∈ out, ∃ b, u = Value.ref b := fun u hu => e2 u (h2.perm.mem_iff.mp hu)
    have hp : (out.map backV).Perm xs := by
      rw [e1]
      exact h2.perm.map backV
    obtain ⟨ep, he'⟩ := PyProof.Rows.sortedAll_at s.heap its out.toArray
    refine ⟨.ref _, upd H (s.heap.objs.size + 1) (.lst (out.map backV)), I.laid (t' := s.toks) (fun _ _ => PyProof.Rows.sortedAll_old) (Nat.le_succ _) ⟨?_, out, ep, vals_back h3, he'⟩, rfl, q _ _ (List.pairwise_map.mpr h1) hp (I.hok.fresh (Nat.le_succ _))⟩
    rw [hp.length_eq]
    exact hz
end
end Vi

set_option Elab.async false
set_option linter.all false
set_option maxRecDepth 100000
set_option maxHeartbeats 4000000
namespace Vi
open PySem L2 PyProof.Rows

/-! ### sorted of anything whose items are known -/
section
variable {prog : Program} {w : World} {A : Around} {E : Value → Shared → Prop} {s : Shared}
/-- the items of x are vs -/
def Colls (prog : Program) (w : World) (A : Around) (s : Shared) (x : Value) (vs : List Value) : Prop :=
  ∀ (E : Value → Shared → Prop) (R : List Value → Shared → Prop), (∀ (h' : Heap) (tk : Nat), (∀ b o, s.heap.get? b = some o → h'.get? b = some o) → R vs { s with heap := h', toks := tk }) → wpAny (model prog w) A (collect x) R E s
theorem sorted_src {x : Value} {vs : List Value} {ltv : Value → Value → Bool} {Q : Value → Shared → Prop} (O : SrtO.Swo ltv) (hc : Colls prog w A.in1 s x vs) (hz : vs.length ≤ sizeLine)
    (hS : 2 ≤ vs.length → ∀ (s₁ : Shared) (a : Addr), s₁.heap.get? a = some (seqObj "list" vs.toArray 0) → (∀ b o, s.heap.get? b = some o → b ≠ a ∧ s₁.heap.get? b = some o) → SrtO.SortableO prog w A.in1.in1 s₁ a vs ltv)
    (h : ∀ (out : List Value) (h1 h' : Heap) (tk : Nat), SrtO.Srtd ltv out → SrtO.Stb ltv out vs → (∀ b o, s.heap.get? b = some o → h1.get? b = some o) → (∀ b o, h1.get? b = some o → h'.get? b = some o) → (∃ n, h'.get? h1.objs.size = some (seqObj "list" out.toArray n)) → Q (.ref h1.objs.size) { s with heap := h', toks := tk }) :
    wpAny (model prog w) A (call (.builtin "sorted") [x]) Q E s := by
  refine Calls.call_function_entry kind_sorted plain_sorted entry_sorted (args_sorted1 _) ?_
  unfold Builtin.«sorted»
  refine wpAny_bind (m := checkCount "sorted" 1 1 _) (wpAny_pure ?_)
  refine wpAny_bind (hc _ _ fun h1 tk k1 => ?_)
  refine wpAny_bind (wpAny_newList (items := vs) ?_ hz)
  have hL : (h1.push (seqObj "list" vs.toArray 0)).get? h1.objs.size = some (seqObj "list" vs.toArray 0) := Heap.get?_push_size _ rfl
  have k2 : ∀ b o, s.heap.get? b = some o → b ≠ h1.objs.size ∧ (h1.push (seqObj "list" vs.toArray 0)).get? b = some o := fun b o e => by
    have e1 := k1 b o e
    exact ⟨Nat.ne_of_lt (Heap.lt_size e1), Heap.get?_push_of_some _ e1⟩
  show wpAny _ _ _ _ _ { s with heap := h1.push (seqObj "list" vs.toArray 0), toks := tk }
  refine wpAny_bind (wpAny_holding (wpAny_call_entry slot_list_sort ⟨_, hL, rfl⟩ entry_list_sort
    (SrtO.list_sort_ord (s := { s with heap := h1.push (seqObj "list" vs.toArray 0), toks := tk }) O hL hz (fun h2 => hS h2 { s with heap := h1.push (seqObj "list" vs.toArray 0), toks := tk } _ hL k2) fun out q1 q2 => ⟨_, rfl, ?_⟩) (args_list_sort _)))
  obtain ⟨n, hn⟩ := sortedHeap_at (vs := vs) (out := out.toArray) hL
  refine wpAny_pure ⟨_, rfl, h out h1 _ tk q1 q2 k1 (fun b o e => ?_) ⟨n, hn⟩⟩
  have e2 : (h1.push (seqObj "list" vs.toArray 0)).get? b = some o := Heap.get?_push_of_some _ e
  rw [sortedHeap_old (Nat.ne_of_lt (Heap.lt_size e)) (Heap.lt_size e2)]
  exact e2
end
end Vi

set_option Elab.async false
set_option linter.all false
set_option maxRecDepth 100000
set_option maxHeartbeats 4000000
namespace Vi
open PySem L2 PyProof.Rows

section
variable {prog : Program} {w : World} {A : Around} {s : Shared}
theorem colls_list {l : Addr} {vs : List Value} (hl : s.heap.IsList l vs.toArray) (hz : vs.length ≤ sizeLine) : Colls prog w A s (.ref l) vs := fun E R h => by
  refine collect_list hl (h _ s.toks fun b o e => ?_) hz
  have hb : b ≠ s.heap.objs.size := Nat.ne_of_lt (Heap.lt_size e)
  rw [Heap.get?_update_ne _ _ _ _ hb]
  exact Heap.get?_push_of_some _ e
theorem colls_tup {l : Addr} {vs : List Value} (hl : IsTup s.heap l vs.toArray) (hz : vs.length ≤ sizeLine) : Colls prog w A s (.ref l) vs := fun E R h => by
  obtain ⟨o, g1, g2, n, g3⟩ := hl
  have hn : ∀ b u, s.heap.get? b = some u → ((s.heap.push (seqObj "list" #[] 0)).update s.heap.objs.size (Obj.mapSeq (· ++ vs.toArray))).get? b = some u := fun b u e => by
    have hb : b ≠ s.heap.objs.size := Nat.ne_of_lt (Heap.lt_size e)
    rw [Heap.get?_update_ne _ _ _ _ hb]
    exact Heap.get?_push_of_some _ e
  have fin := h _ s.toks hn
  unfold collect
  refine wpAny_bind (wpAny_runValue (codeAny_builtin entry_proto_collect' ?_))
  show wpAny _ _ (newList [] >>= fun z => again (.builtin "list.__iadd__" ⟨[z, .ref l], []⟩)) _ _ s
  refine wpAny_bind (wpAny_newList (items := []) (wpAny_pure ⟨Code.quiet_builtin _ (by decide +kernel), codeAny_builtin entry_list_iadd' ?_⟩) (Nat.zero_le _))
  show wpAny _ _ (Builtin.List.listExtendWith (.ref s.heap.objs.size) (.ref l) (.ref s.heap.objs.size)) _ _ { s with heap := s.heap.push (seqObj "list" #[] 0) }
  have g4 : (s.heap.push (seqObj "list" #[] 0)).get? l = some o := Heap.get?_push_of_some _ g1
  have new : (s.heap.push (seqObj "list" #[] 0)).get? s.heap.objs.size = some (seqObj "list" #[] 0) := Heap.get?_push_size _ rfl
  unfold Builtin.List.listExtendWith
  refine wpAny_bind (wpAny_typeOf (T := "tuple") ⟨o, g4, g2⟩ ?_)
  have tt : (Value.type "tuple" == Value.type "tuple") = true := rfl
  rw [if_pos (by rw [tt, Bool.or_true])]
  refine wpAny_bind (listItems_at g4 g3 (wpAny_bind (listItems_at (xs := #[]) (n := 0) new rfl ?_)))
  rw [if_neg (by simp)]
  refine wpAny_bind (listUpdate_at (xs := #[]) (n := 0) new rfl ?_ (Nat.zero_le _) (by
    show (#[] ++ vs.toArray).size ≤ sizeLine + 1
    have e1 : vs.toArray.size = vs.length := List.size_toArray ..
    have e2 : (#[] ++ vs.toArray).size = vs.toArray.size := by simp
    omega))
  refine wpAny_pure ?_
  show wpAny (model prog w) A (load s.heap.objs.size >>= fun o => match o.data with
      | .seq xs _ => pure xs.toList
      | _ => unsupported "internal:collect") R E { s with heap := (s.heap.push (seqObj "list" #[] 0)).update s.heap.objs.size (Obj.mapSeq (· ++ vs.toArray)) }
  refine wpAny_bind (wpAny_load (get?_update_seq new _) ?_)
  show wpAny _ _ (pure ((#[] : Array Value) ++ vs.toArray).toList) R E _
  rw [show ((#[] : Array Value) ++ vs.toArray).toList = vs by simp]
  exact wpAny_pure fin
end
/-! ### the items and what they are sorted by -/
def bV (v : Value) : V := (absV v).getD .non
theorem bV_of {x : V} {v : Value} (r : RelV x v) : bV v = x := by
  unfold bV
  rw [r.abs]
  rfl
theorem bV_list : ∀ {xs : List V} {us : List Value}, Vals xs us → us.map bV = xs
  | _, _, .nil => rfl
  | _, _, .cons r t => by
    rw [List.map_cons, bV_of r, bV_list t]
theorem vals_bV : ∀ {us : List Value}, (∀ u ∈ us, RelV (bV u) u) → Vals (us.map bV) us
  | [], _ => .nil
  | u :: us, h => .cons (h u (List.mem_cons_self ..)) (vals_bV fun v hv => h v (List.mem_cons_of_mem _ hv))
theorem rel_bV : ∀ {xs : List V} {us : List Value}, Vals xs us → ∀ u ∈ us, bV u ∈ xs ∧ RelV (bV u) u
  | _, _, .nil, u, h => by cases h
  | _, _, .cons r t, u, h => by
    rcases List.mem_cons.mp h with rfl | h
    · rw [bV_of r]
      exact ⟨List.mem_cons_self .., r⟩
    · obtain ⟨h1, h2⟩ := rel_bV t u h
      exact ⟨List.mem_cons_of_mem _ h1, h2⟩
/-- items that can be sorted: numbers, texts, or tuples of both -/
inductive Mode (K : PySem.W.Frag) (H : Hp) (k : V → List Key) (xs : List V) : Prop where
  | flat (kd : Bool) (h : ∀ x ∈ xs, ∃ y, x = kV y ∧ k x = [y] ∧ kKind y = kd)
  | tup (kd : Bool) (h1 : ∀ x ∈ xs, ∃ t, x = .ref t ∧ SqT K H t ((k x).map kV)) (h2 : ∀ x ∈ xs, ∃ y r, k x = y :: r ∧ kKind y = kd) (h3 : ∀ x ∈ xs, ∀ y ∈ xs, compat (k x) (k y) = true)
section
variable {prog : Program} {w : World} {A : Around} {s : Shared}
theorem ints_of {k : V → List Key} : ∀ {vs : List Value}, (∀ v ∈ vs, ∃ y, RelV (kV y) v ∧ kKind y = true) → ∃ ns, IntsAre vs ns
  | [], _ => ⟨[], .nil⟩
  | v :: vs, h => by
    obtain ⟨ns, q⟩ := ints_of (k := k) (vs := vs) fun u hu => h u (List.mem_cons_of_mem _ hu)
    obtain ⟨y, r, e⟩ := h v (List.mem_cons_self ..)
    cases y with
    | inl i =>
      obtain ⟨t, rfl⟩ := r
      exact ⟨i :: ns, .cons i t q⟩
    | inr _ => cases e
theorem strs_of {k : V → List Key} : ∀ {vs : List Value}, (∀ v ∈ vs, ∃ y, RelV (kV y) v ∧ kKind y = false) → ∃ ns, StrsAre vs ns
  | [], _ => ⟨[], .nil⟩
  | v :: vs, h => by
    obtain ⟨ns, q⟩ := strs_of (k := k) (vs := vs) fun u hu => h u (List.mem_cons_of_mem _ hu)
    obtain ⟨y, r, e⟩ := h v (List.mem_cons_self ..)
    cases y with
    | inr i =>
      obtain ⟨t, rfl⟩ := r
      exact ⟨i :: ns, .cons i t q⟩
    | inl _ => cases e
theorem flat_sortable {a : Addr} {vs : List Value} {k : V → List Key} {kd : Bool} (h2 : 2 ≤ vs.length) (hp : ∀ v ∈ vs, ∃ y, RelV (kV y) v ∧ k (bV v) = [y] ∧ kKind y = kd) : SrtO.SortableO prog w A s a vs fun v u => ksLt (k (bV v)) (k (bV u)) := by
  intro h' _
  refine ⟨oneType', fun Q E hq => ?_, fun p q m1 m2 => ?_⟩
  · match vs, h2, hp with
    | v1 :: v2 :: r, _, hp =>
      cases kd with
      | true =>
        obtain ⟨ns, hi⟩ := ints_of (k := k) fun v hv => by
          obtain ⟨y, q1, _, q3⟩ := hp v hv
          exact ⟨y, q1, q3⟩
        rw [keyKind_ints hi]
        exact wpAny_pure hq
      | false =>
        obtain ⟨ns, hi⟩ := strs_of (k := k) fun v hv => by
          obtain ⟨y, q1, _, q3⟩ := hp v hv
          exact ⟨y, q1, q3⟩
        rw [keyKind_strs hi]
        exact wpAny_pure hq
    | [], h, _ => exact absurd h (by decide)
    | [v], h, _ => exact absurd h (by simp)
  · obtain ⟨x, r1, e1, k1⟩ := hp _ m1
    obtain ⟨y, r2, e2, k2⟩ := hp _ m2
    show wpAny (model prog w) A (keyLt' oneType' p.1 q.1) (fun r s' => s' = { s with heap := h' } ∧ r = ksLt (k (bV p.1)) (k (bV q.1))) (fun _ _ => False) _
    rw [e1, e2, keyLt'_oneType]
    cases x with
    | inl i =>
      cases y with
      | inl j =>
        obtain ⟨t, et⟩ := r1
        obtain ⟨t', et'⟩ := r2
        rw [et, et']
        refine oneLt_int ⟨rfl, ?_⟩
        unfold ksLt
        by_cases e : (Sum.inl i : Key) = .inl j
        · rw [if_pos e]
          cases e
          exact decide_eq_false (Int.lt_irrefl _)
        · rw [if_neg e]
          rfl
      | inr j => rw [← k1] at k2; cases k2
    | inr i =>
      cases y with
      | inr j =>
        obtain ⟨t, et⟩ := r1
        obtain ⟨t', et'⟩ := r2
        rw [et, et']
        refine oneLt_str ⟨rfl, ?_⟩
        unfold ksLt
        by_cases e : (Sum.inr i : Key) = .inr j
        · rw [if_pos e]
          cases e
          exact decide_eq_false (List.lt_irrefl _)
        · rw [if_neg e]
          rfl
      | inl j => rw [← k1] at k2; cases k2
end
/-- where the items stand -/
inductive SrcV (K : PySem.W.Frag) (H : Hp) (a : Addr) (xs : List V) : Prop where
  | lst (h : SqL K H a xs)
  | tup (h : SqT K H a xs)
def rSrt (K : PySem.W.Frag) : List V → Hp → VK → Prop := fun vs H Q => ∃ (a : Addr) (xs : List V) (k : V → List Key), vs = [.ref a] ∧ SrcV K H a xs ∧ Mode K H k xs ∧
  ∀ ys p, SrtO.Srtd (fun v u => ksLt (k v) (k u)) ys → ys.Perm xs → H p = none → Q (.ref p) (upd H p (.lst ys))
section
variable {X : Cx}
theorem cr_srt : CallR X (.builtin "sorted") (rSrt X.K) := by
  intro pins s σ H vs us Q I r ⟨a, xs, k, e, hs, hm, q⟩
  subst e
  obtain ⟨its, rv, hc, hz⟩ : ∃ its : List Value, Vals xs its ∧ (∀ A, Colls X.prog X.w A s (.ref a) its) ∧ xs.length ≤ sizeLine := by
    cases hs with
    | lst hs =>
      obtain ⟨its, rv, hl, hz⟩ := I.list hs
      exact ⟨its, rv, fun A => colls_list hl.isList (by rw [← rv.length]; exact hz), hz⟩
    | tup hs =>
      obtain ⟨its, rv, hl, hz⟩ := I.tuple hs
      exact ⟨its, rv, fun A => colls_tup hl (by rw [← rv.length]; exact hz), hz⟩
  rw [Vals.ref1 r]
  have mem := rel_bV rv
  refine sorted_src (swo_by fun v => k (bV v)) (hc _) (by rw [← rv.length]; exact hz) (fun h2 s₁ a' h3 same => ?_) fun out h1 h' tk q1 q2 k1 k2 q3 => ?_
  · cases hm with
    | flat kd h =>
      refine flat_sortable (kd := kd) h2 fun v hv => ?_
      obtain ⟨m1, m2⟩ := mem v hv
      obtain ⟨y, e1, e2, e3⟩ := h _ m1
      exact ⟨y, by rw [← e1]; exact m2, e2, e3⟩
    | tup kd g1 g2 g3 =>
      refine tupK_sortable (kd := kd) (k := fun v => k (bV v)) (by omega) (fun v hv => ?_) (fun v hv => g2 _ (mem v hv).1) (fun v hv u hu => g3 _ (mem v hv).1 _ (mem u hu).1) fun o e => ?_
      · obtain ⟨m1, m2⟩ := mem v hv
        obtain ⟨t, e1, e2⟩ := g1 _ m1
        rw [e1] at m2
        cases m2
        obtain ⟨js, rj, pj, _⟩ := I.tuple e2
        exact (show TupK s.heap (.ref t) (k (bV (.ref t))) from ⟨t, js, rfl, rj, pj⟩).keeps fun b o e _ => (same b o e).2
      · rw [h3] at e
        cases e
        exact fun z => absurd (show Value.type "list" = Value.type "tuple" from z) (by decide)
  · have hr : ∀ u ∈ out, RelV (bV u) u := fun u hu => (mem u (q2.perm.mem_iff.mp hu)).2
    have hp : (out.map bV).Perm xs := by
      have z := q2.perm.map bV
      rw [bV_list rv] at z
      exact z
    have I1 : Inv X pins σ H { s with heap := h1, toks := tk } := I.kept k1
    refine ⟨.ref h1.objs.size, upd H h1.objs.size (.lst (out.map bV)), I1.laid (t' := tk) k2 (Nat.le_refl _) ⟨?_, out, ?_⟩, rfl, q _ _ (List.pairwise_map.mpr q1) hp (I1.hok.fresh (Nat.le_refl _))⟩
    · rw [hp.length_eq]
      exact hz
    · obtain ⟨n, hn⟩ := q3
      exact ⟨n, vals_bV hr, hn⟩
end
end Vi

set_option Elab.async false
set_option linter.all false
set_option maxRecDepth 100000
set_option maxHeartbeats 4000000
namespace Vi
open PySem L2 PyProof.Rows

/-! ### sorted(xs) -/
def dKey : Key → D
  | .inl i => .int i
  | .inr x => .str x
def tupD (ks : List Key) : D := .tup (ks.map dKey)
def sameKinds : List Key → Bool
  | [] => true
  | k :: r => r.all fun j => kKind j == kKind k
def tupKs? (kc : List D → Bool) : List D → Option (List (List Key))
  | [] => some []
  | .tup ds :: r => if kc ds then none else (match keys? ds, tupKs? kc r with
    | some ks, some kss => some (ks :: kss)
    | _, _ => none)
  | _ => none
def sortD? (kc : List D → Bool) (ds : List D) : Option (List D) := match keys? ds with
  | some ks => if sameKinds ks then some ((sortL kLt ks).map dKey) else none
  | none => (match tupKs? kc ds with
    | some kss => if compatAll kss then some ((sortL ksLt kss).map tupD) else none
    | none => none)
def fSorted (kc : List D → Bool) (o : Bool) (xs : List Vl) (h : Hc) : R Vl := match xs with
  | [x] => (match seq? h x with
    | some ds => (match sortD? kc ds with
      | some es => .ok (Vl.ofL o es) h
      | none => .stuck)
    | none => .stuck)
  | _ => .stuck
theorem ks_one {x y : Key} : ksLt [x] [y] = kLt x y := by
  show (if x = y then ksLt [] [] else kLt x y) = kLt x y
  by_cases e : x = y
  · rw [if_pos e, e]
    exact (tot_key.irr y).symm
  · rw [if_neg e]
theorem insL_one (x : Key) : ∀ l : List Key, insL ksLt [x] (l.map fun k => [k]) = (insL kLt x l).map fun k => [k]
  | [] => rfl
  | y :: r => by
    show (if ksLt [y] [x] then [y] :: insL ksLt [x] (r.map fun k => [k]) else [x] :: [y] :: r.map fun k => [k]) = (if kLt y x then y :: insL kLt x r else x :: y :: r).map fun k => [k]
    rw [ks_one, insL_one x r]
    split <;> rfl
theorem sortL_one : ∀ l : List Key, sortL ksLt (l.map fun k => [k]) = (sortL kLt l).map fun k => [k]
  | [] => rfl
  | x :: r => by
    show insL ksLt [x] (sortL ksLt (r.map fun k => [k])) = (insL kLt x (sortL kLt r)).map fun k => [k]
    rw [sortL_one r, insL_one]
open Classical in
/-- what a value is sorted by, as the heap stands -/
noncomputable def kOf (H : Hp) : V → List Key
  | .int i => [.inl i]
  | .str x => [.inr x]
  | .ref t => if h : ∃ ks : List Key, H t = some (.tup (ks.map kV)) then h.choose else []
  | _ => []
open Classical in
theorem kOf_ref {H : Hp} {t : Addr} {ks : List Key} (h : H t = some (.tup (ks.map kV))) : kOf H (.ref t) = ks := by
  have ex : ∃ ks : List Key, H t = some (.tup (ks.map kV)) := ⟨ks, h⟩
  show (if h : ∃ ks : List Key, H t = some (.tup (ks.map kV)) then h.choose else []) = ks
  rw [dif_pos ex]
  have e := h.symm.trans ex.choose_spec
  injection e with e
  injection e with e
  exact (kVs_inj e).symm
theorem kOf_key (H : Hp) (k : Key) : kOf H (kV k) = [k] := by cases k <;> rfl
section
variable {g : Gi} {F : Hp} {al : Nat → Option Addr}
theorem rep_key (k : Key) : Rep g F al (dKey k) (kV k) := by cases k <;> rfl
theorem keys_all {H : Hp} : ∀ {ds : List D} {vs : List V} {ks : List Key}, Reps g F al ds vs → keys? ds = some ks → (∀ v ∈ vs, ∃ y, v = kV y ∧ kOf H v = [y] ∧ y ∈ ks ∧ Rep g F al (dKey y) v) ∧ vs.map (kOf H) = ks.map fun k => [k] := by
  intro ds vs ks r e
  have hv := keys_rep r e
  subst hv
  refine ⟨fun v hv => ?_, ?_⟩
  · obtain ⟨y, hy, rfl⟩ := List.mem_map.mp hv
    exact ⟨y, rfl, kOf_key H y, hy, rep_key y⟩
  · rw [List.map_map]
    exact List.map_congr_left fun k _ => kOf_key H k
theorem dKeys_of : ∀ {ds : List D} {ks : List Key}, keys? ds = some ks → ds = ks.map dKey
  | [], ks, e => by
    cases e
    rfl
  | d :: ds, ks, e => by
    unfold keys? at e
    split at e
    · next k ks' e1 e2 =>
      cases e
      rw [List.map_cons, ← dKeys_of e2]
      cases d <;> cases e1 <;> rfl
    · cases e
theorem tups_all {H : Hp} (hF : ∀ a o, F a = some o → H a = some o) : ∀ {ds : List D} {vs : List V} {kss : List (List Key)}, Reps g F al ds vs → tupKs? g.kc ds = some kss →
    (∀ v ∈ vs, ∃ t ks, v = .ref t ∧ H t = some (.tup (ks.map kV)) ∧ kOf H v = ks ∧ ks ∈ kss ∧ Rep g F al (tupD ks) v) ∧ vs.map (kOf H) = kss
  | [], vs, kss, r, e => by
    cases e
    cases r
    exact ⟨fun v hv => (by cases hv), rfl⟩
  | d :: ds, vs, kss, r, e => by
    obtain ⟨v, ws, rfl, r1, r2⟩ := r
    cases d with
    | tup es =>
      unfold tupKs? at e
      split at e
      · cases e
      · next hk =>
        split at e
        · next ks kss' e1 e2 =>
          cases e
          obtain ⟨q1, q2⟩ := tups_all hF r2 e2
          obtain ⟨t, us, rfl, h1, h2⟩ := r1
          have hu := keys_rep h2 e1
          subst hu
          have hF' : F t = some (.tup (ks.map kV)) := by
            rcases h1 with h1 | h1
            · exact h1
            · exact absurd h1.1 hk
          have hH := hF _ _ hF'
          have ek := kOf_ref hH
          refine ⟨fun v hv => ?_, by rw [List.map_cons, ek, q2]⟩
          rcases List.mem_cons.mp hv with rfl | hv
          · refine ⟨t, ks, rfl, hH, ek, List.mem_cons_self .., t, _, rfl, .inl hF', ?_⟩
            rw [← dKeys_of e1]
            exact h2
          · obtain ⟨t', ks', g1, g2, g3, g4, g5⟩ := q1 v hv
            exact ⟨t', ks', g1, g2, g3, List.mem_cons_of_mem _ g4, g5⟩
        · cases e
    | _ => cases e
theorem reps_by {k : V → List Key} {f : List Key → D} : ∀ {ys : List V}, (∀ y ∈ ys, Rep g F al (f (k y)) y) → Reps g F al ((ys.map k).map f) ys
  | [], _ => rfl
  | y :: ys, h => ⟨y, ys, rfl, h y (List.mem_cons_self ..), reps_by fun z hz => h z (List.mem_cons_of_mem _ hz)⟩
end
section
variable {X : Cx} {g : Gi}
theorem c_sorted (o : Bool) (hK : g.K = X.K) : CallV X g (.builtin "sorted") (fSorted g.kc o) := by
  refine ⟨_, cr_srt, fun B W env s σ H xs vs Q sr r p => ?_⟩
  unfold fSorted at p
  split at p
  · next x =>
    obtain ⟨v, rfl, rr⟩ := r.one
    split at p
    · next ds e1 =>
      split at p
      · next es e2 =>
        obtain ⟨a, ws, rfl, h1, q1⟩ := rr.seq sr.good e1
        have hsrc : SrcV X.K H a ws := by
          rcases h1 with h1 | h1
          · exact .lst (hK ▸ h1)
          · exact .tup (hK ▸ h1)
        unfold sortD? at e2
        split at e2
        · next ks ek =>
          split at e2
          · next hs =>
            cases e2
            obtain ⟨z1, z2⟩ := keys_all (H := H) q1 ek
            refine ⟨a, ws, kOf H, rfl, hsrc, .flat (match ks with
              | [] => true
              | k :: _ => kKind k) (fun v hv => ?_), fun ys q hsd hp hq => ?_⟩
            · obtain ⟨y, g1, g2, g3, _⟩ := z1 v hv
              refine ⟨y, g1, g2, ?_⟩
              cases ks with
              | nil => cases g3
              | cons k r =>
                rcases List.mem_cons.mp g3 with rfl | g3
                · rfl
                · have := List.all_eq_true.mp hs y g3
                  exact eq_of_beq this
            · have e3 : ys.map (kOf H) = (sortL kLt ks).map fun k => [k] := by
                rw [← sortL_one, ← z2]
                exact sortL_of tot_keys (List.pairwise_map.mpr hsd) (hp.map _)
              have hr : Reps g s.F s.al ((sortL kLt ks).map dKey) ys := by
                have q5 := reps_by (g := g) (F := s.F) (al := s.al) (k := kOf H) (f := fun l => match l with
                  | [k] => dKey k
                  | _ => .non) (ys := ys) fun y hy => by
                  obtain ⟨y', g1, g2, _, g4⟩ := z1 y (hp.mem_iff.mp hy)
                  rw [g2]
                  exact g4
                rw [e3, List.map_map] at q5
                exact q5
              exact PostE.newLO sr p hr hq
          · cases e2
        · split at e2
          · next kss ek =>
            split at e2
            · next hs =>
              cases e2
              obtain ⟨z1, z2⟩ := tups_all sr.good.fle q1 ek
              have hc : ∀ x ∈ kss, x.isEmpty = false ∧ ∀ y ∈ kss, compat x y = true := fun x hx => by
                obtain ⟨c1, c2⟩ := Bool.and_eq_true_iff.mp (List.all_eq_true.mp hs x hx)
                exact ⟨by simpa using c1, fun y hy => List.all_eq_true.mp c2 y hy⟩
              refine ⟨a, ws, kOf H, rfl, hsrc, .tup (match kss with
                | (k :: _) :: _ => kKind k
                | _ => true) (fun v hv => ?_) (fun v hv => ?_) (fun v hv u hu => ?_), fun ys q hsd hp hq => ?_⟩
              · obtain ⟨t, ks, g1, g2, g3, _⟩ := z1 v hv
                exact ⟨t, g1, by rw [g3]; exact .inl (.inl g2)⟩
              · obtain ⟨t, ks, g1, g2, g3, g4, _⟩ := z1 v hv
                rw [g3]
                obtain ⟨c1, c2⟩ := hc ks g4
                cases ks with
                | nil => cases c1
                | cons y r =>
                  refine ⟨y, r, rfl, ?_⟩
                  match kss, g4, hc, c2 with
                  | l :: kss', _, hc, c2 =>
                    cases l with
                    | nil =>
                      have := (hc [] (List.mem_cons_self ..)).1
                      cases this
                    | cons z r' =>
                      have c3 := c2 (z :: r') (List.mem_cons_self ..)
                      have c4 : ((kKind y == kKind z) && (if y = z then compat r r' else true)) = true := c3
                      exact eq_of_beq (Bool.and_eq_true_iff.mp c4).1
              · obtain ⟨t, ks, _, _, g3, g4, _⟩ := z1 v hv
                obtain ⟨t', ks', _, _, g3', g4', _⟩ := z1 u hu
                rw [g3, g3']
                exact (hc ks g4).2 ks' g4'
              · have e3 : ys.map (kOf H) = sortL ksLt kss := by
                  rw [← z2]
                  exact sortL_of tot_keys (List.pairwise_map.mpr hsd) (hp.map _)
                have hr : Reps g s.F s.al ((sortL ksLt kss).map tupD) ys := by
                  have q5 := reps_by (g := g) (F := s.F) (al := s.al) (k := kOf H) (f := tupD) (ys := ys) fun y hy => by
                    obtain ⟨t, ks, g1, g2, g3, _, g5⟩ := z1 y (hp.mem_iff.mp hy)
                    rw [g3]
                    exact g5
                  rw [e3] at q5
                  exact q5
                exact PostE.newLO sr p hr hq
            · cases e2
          · cases e2
      · exact p.elim
    · exact p.elim
  · exact p.elim
end
end Vi

set_option Elab.async false
set_option linter.all false
set_option maxRecDepth 100000
set_option maxHeartbeats 2000000
namespace Vi
open PySem L2 PyProof.Rows

/-! ### len(o), x in o, o[x] of an own class -/
def fLens (T : Tbl) (xs : List Vl) (h : Hc) : R Vl := match xs with
  | [.d (.obj c fs)] => (match T c with
    | some F => (F [.obj c fs] h).bind fun d h' => match d with
      | .int i => if 0 ≤ i ∧ i < 2 ^ 62 then .ok (.d (.int i)) h' else .stuck
      | _ => .stuck
    | none => .stuck)
  | _ => fLen xs h
def fIns (neg : Bool) (T : Tbl) (F0 : Vl → Vl → Hc → R Vl) (x y : Vl) (h : Hc) : R Vl := match y with
  | .d (.obj c fs) => (match T c, x with
    | some F, .d xd => (F [.obj c fs, xd] h).bind fun d h' => match d with
      | .bl b => .ok (.d (nB neg b)) h'
      | _ => .stuck
    | _, _ => .stuck)
  | _ => F0 x y h
def fOwnIx (T : Tbl) (x y : Vl) (h : Hc) : R Vl := match x, y with
  | .d (.obj c fs), .d yd => (match T c with
    | some F => (F [.obj c fs, yd] h).bind fun d h' => .ok (.d d) h'
    | none => .stuck)
  | _, _ => .stuck
def isObj? : Vl → Bool
  | .d (.obj _ _) => true
  | _ => false
def fIxs (T : Tbl) (F0 : Vl → Vl → Hc → R Vl) (x y : Vl) (h : Hc) : R Vl := if isObj? x then fOwnIx T x y h else F0 x y h
section
variable {X : Cx} {g : Gi} {B : Bg} {W : WXv} {pos p : Pos} {a b : Expr} {ma mb : ME} {A : MA}
theorem PostE.keepQ {r : R D} {env : Env} {st : Sta} {σ : L2.St} {H : Hp} {k : D → Hc → R Vl} {Q : VK} (p : PostE g B W env st σ H (r.bind k) Q) (Q2 : VK)
    (hk : ∀ d h', r = .ok d h' → PostE g B W env st σ H (k d h') Q → PostE g B W env st σ H (.ok (.d d) h') Q2) : PostE g B W env st σ H (r.bind fun d h' => .ok (.d d) h') Q2 := by
  cases r with
  | ok d h => exact hk d h rfl p
  | exc x h => exact p
  | stuck => exact p.elim
theorem ve_lens {T : Tbl} (d : Bd X g W) (V : VOps X g "__len__" 1 T) (hg : Gl X "len") (hm : X.mg "len" = none) (ha : PA X [a] (tA g B W A))
    (he : starEach [a] X.env = (false, eval a X.env) :: starEach [] X.env := by rfl) (hpl : (backTo pos (starEach [] X.env)).any (·.1) = false := by rfl) : PE X (.Call (.Name "len" p) [a] [] pos) (tE g B W (mA1 (fLens T) A)) := by
  refine ⟨fun pins s σ H Q I ⟨env, st, sr, pp⟩ => ?_⟩
  refine wpAny_Call_Name_kw (ld_blt (u := .builtin "len") I hg hm (by decide +kernel) ?_ (by decide) (by decide))
  refine PyProof.Rows.callWith_builtin1 (thn (ha.run pos pins s σ H _ I (bindA (Q := Q) sr pp)) fun us s1 ⟨vs, H1, I1, r1, st1, xs, sr1, _, rx, p1⟩ => ?_) he hpl
  unfold fLens at p1
  split at p1
  · next c fs =>
    split at p1
    · next F hT =>
      obtain ⟨k, f, fd, ps, FG, hr, hs, hf, hb, hn, _⟩ := (V c F hT).ex
      obtain ⟨v, rfl, rv⟩ := rx.one
      obtain ⟨u, rfl, ru⟩ := vals1 r1
      obtain ⟨o, ox, od, rfl, rfl, J⟩ := obj_at d.G sr1 I1 rv ru
      obtain ⟨m, hF⟩ := I1.fr
      refine PySem.W.len_K hF I1.ok.mod.kin J hs hf ?_
      have p2 := PostE.keepQ p1 (fun v H' => ∃ i : Int, v = .int i ∧ 0 ≤ i ∧ i < 2 ^ 62 ∧ Q (.int i) H') fun dd h' _ q => by
        cases dd with
        | int i =>
          by_cases hi : 0 ≤ i ∧ i < 2 ^ 62
          · have q : PostE g B W env st1 σ H1 (.ok (.d (.int i)) h') Q := by
              have q : PostE g B W env st1 σ H1 (if 0 ≤ i ∧ i < 2 ^ 62 then .ok (.d (.int i)) h' else .stuck) Q := q
              rwa [if_pos hi] at q
            intro v H' s' e1 ev sr' vr
            have e2 : v = .int i := vr
            exact ⟨i, e2, hi.1, hi.2, by rw [← e2]; exact q v H' s' e1 ev sr' vr⟩
          · have q : PostE g B W env st1 σ H1 (if 0 ≤ i ∧ i < 2 ^ 62 then .ok (.d (.int i)) h' else .stuck) Q := q
            rw [if_neg hi] at q
            exact q.elim
        | _ => exact q.elim
      refine wpAny_mono (run_op (vs := [.ref o]) d FG (.inr rfl) hr hb I1 (.cons rfl .nil) hn.symm sr1 (Reps.cons rv Reps.nil) p2) (fun u s' ⟨v, H', I', rv', i, e, h1, h2, q⟩ => ?_) fun _ _ z => z
      subst e
      obtain ⟨t, rfl⟩ := rv'
      exact ⟨⟨h1, by omega⟩, .int i, H', I'.tok _, ⟨_, rfl⟩, q⟩
    · exact p1.elim
  · obtain ⟨r, q1, q2⟩ := c_len (X := X) (g := g) d.K
    exact q1 pins s1 σ H1 vs us Q I1 r1 (q2 B W env st1 σ H1 xs vs Q sr1 rx p1)
theorem own_in (neg : Bool) {T : Tbl} {F0 : Vl → Vl → Hc → R Vl} {op : CmpOp} (hop : op = if neg then .NotIn else .In) (b : Bd X g W) (V : VOps X g "__contains__" 2 T) (h0 : OpV X g (compareOp op) F0) : OpW X g W (compareOp op) (fIns neg T F0) := by
  intro B env st σ H s pins x y v w u1 u2 Q I r1 r2 sr rx ry p
  unfold fIns at p
  split at p
  · next c fs =>
    split at p
    · next F xd hT =>
      obtain ⟨k, f, fd, ps, FG, hr, hs, hf, hb, hn, _⟩ := (V c F hT).ex
      obtain ⟨o, ox, od, rfl, rfl, J⟩ := obj_at b.G sr I ry r2
      obtain ⟨m, hF⟩ := I.fr
      have p2 := PostE.keepQ p (fun v H' => ∃ k : Bool, v = .bl k ∧ Q (.bl (if neg then !k else k)) H') fun dd h' _ q => by
        cases dd with
        | bl k =>
          intro v H' s' e1 ev sr' vr
          exact ⟨k, vr, q _ H' s' e1 ev sr' rfl⟩
        | _ => exact q.elim
      have run := run_op (A := X.A) (vs := [.ref o, v]) b FG (.inl rfl) hr hb I (.cons rfl (.cons r1 .nil)) hn.symm sr (Reps.cons ry (Reps.cons rx Reps.nil)) p2
      cases neg with
      | false =>
        subst hop
        refine PySem.W.in_K hF I.ok.mod.kin J hs hf (wpAny_mono run (fun u s' ⟨v', H', I', rv', k, e, q⟩ => ?_) fun _ _ z => z)
        subst e
        cases rv'
        exact wpAny_truthy_bool ⟨.bl k, H', I', rfl, q⟩
      | true =>
        subst hop
        refine PySem.W.notIn_K hF I.ok.mod.kin J hs hf (wpAny_mono run (fun u s' ⟨v', H', I', rv', k, e, q⟩ => ?_) fun _ _ z => z)
        subst e
        cases rv'
        exact wpAny_truthy_bool ⟨.bl (!k), H', I', rfl, q⟩
    · exact p.elim
  · obtain ⟨r, q1, q2⟩ := h0
    exact q1 pins s σ H v w u1 u2 Q I r1 r2 (q2 B W env st σ H x y v w Q sr rx ry p)
end
end Vi

set_option Elab.async false
set_option linter.all false
set_option maxRecDepth 100000
set_option maxHeartbeats 2000000
namespace Vi
open PySem L2 PyProof.Rows
section
variable {X : Cx} {g : Gi} {B : Bg} {W : WXv} {pos p : Pos} {a b : Expr} {m ma mb : ME} {A : MA}
theorem ve_ownix {T : Tbl} (d : Bd X g W) (V : VOps X g "__getitem__" 2 T) (ha : PE X a (tE g B W ma)) (hb : PE X b (tE g B W mb)) (hs : ∀ o i, subscripted b true o i = runValue (.builtin "lifetime.subscript" ⟨[o, i], []⟩)) :
    PE X (.Subscript a b pos) (tE g B W (m2 (fOwnIx T) ma mb)) := by
  refine ⟨fun pins s σ H Q I ⟨env, st, sr, pp⟩ => ?_⟩
  have two := bind2E (Q := Q) sr pp
  refine Subscript_ (binT (R := fun v w H2 => ∃ s2 x y, SR g B env s2 σ H2 ∧ Evo st H s2 H2 ∧ VlRep g B env σ s2 H2 x v ∧ VlRep g B env σ s2 H2 y w ∧ PostE g B W env s2 σ H2 (fOwnIx T x y s2.h) Q) ha hb I two
    fun v u s2 x y H2 I2 rx ry q => ?_)
  obtain ⟨st2, x', y', sr2, _, vx, vy, p2⟩ := q
  unfold fOwnIx at p2
  split at p2
  · next c fs yd =>
    split at p2
    · next F hT =>
      obtain ⟨k, f, fd, ps, FG, hr, hs', hf, hbi, hn, hfn⟩ := (V c F hT).ex
      obtain ⟨o, ox, od, rfl, rfl, J⟩ := obj_at d.G sr2 I2 vx rx
      obtain ⟨m, hF⟩ := I2.fr
      exact PySem.W.sub_K hF I2.ok.mod.kin J hs' hfn hf (run_op (vs := [.ref o, y]) d FG (.inr rfl) hr hbi I2 (.cons rfl (.cons ry .nil)) hn.symm sr2 (Reps.cons vx (Reps.cons vy Reps.nil)) p2) (hs _ _)
    · exact p2.elim
  · exact p2.elim
theorem ve_ixs {T : Tbl} {F0 : Vl → Vl → Hc → R Vl} (d : Bd X g W) (V : VOps X g "__getitem__" 2 T) (ha : PE X a (tE g B W ma)) (hb : PE X b (tE g B W mb)) (h0 : PE X (.Subscript a b pos) (tE g B W (m2 F0 ma mb)))
    (hs : ∀ o i, subscripted b true o i = runValue (.builtin "lifetime.subscript" ⟨[o, i], []⟩)) : PE X (.Subscript a b pos) (tE g B W (m2 (fIxs T F0) ma mb)) := by
  refine ve_alt (ve_ownix d V ha hb hs) h0 fun env h => ?_
  unfold m2
  cases ma env h with
  | ok x h1 =>
    rw [R.bind_ok, R.bind_ok, R.bind_ok]
    cases mb env h1 with
    | ok y h2 =>
      rw [R.bind_ok, R.bind_ok, R.bind_ok]
      unfold fIxs
      split
      · exact .inl rfl
      · exact .inr rfl
    | _ => exact .inl rfl
  | _ => exact .inl rfl
end
end Vi

set_option Elab.async false
set_option linter.all false
set_option maxRecDepth 100000
set_option maxHeartbeats 2000000
namespace Vi
open PySem L2 PyProof.Rows

/-! ### room for `in` -/
theorem un65 {A : Around} {j : Nat} (hr : Room j A) : A.units + 65 < cLine := by
  have h := hr.un
  omega
end Vi

set_option Elab.async false
set_option linter.all false
set_option maxRecDepth 100000
set_option maxHeartbeats 2000000
namespace Vi
open PySem L2 PyProof.Rows

/-! ### a.split(b), a.join(xs) -/
def txts? : List D → Option (List Str)
  | [] => some []
  | .str a :: r => (txts? r).map (a :: ·)
  | _ => none
def fSplit (o : Bool) (a : Str) (y : Vl) (h : Hc) : R Vl := match y with
  | .d (.str b) => if b.length ≠ 0 ∧ a.length + 2 ≤ sizeLine then .ok (Vl.ofL o ((Txt.split a b).map D.str)) h else .stuck
  | _ => .stuck
def fJoin (a : Str) (y : Vl) (h : Hc) : R Vl := match (seq? h y).bind txts? with
  | some ys => if (ys.map (·.length)).sum + ys.length * a.length ≤ 16777216 then .ok (.d (.str (Txt.join a ys))) h else .stuck
  | none => .stuck
def mStr1 (f : Str → Vl → Hc → R Vl) (mo me : ME) : ME := fun env h => (mo env h).bind fun x h1 => match x with
  | .d (.str a) => (me env h1).bind fun y h2 => f a y h2
  | _ => .stuck
section
variable {X : Cx} {g : Gi} {B : Bg} {W : WXv} {apos pos : Pos} {o e : Expr} {mo me : ME}
theorem reps_txts {F : Hp} {al : Nat → Option Addr} : ∀ ys : List Str, Reps g F al (ys.map D.str) (ys.map V.str)
  | [] => rfl
  | _ :: r => ⟨_, _, rfl, rfl, reps_txts r⟩
theorem txts_reps {F : Hp} {al : Nat → Option Addr} : ∀ {ds : List D} {vs : List V} {ys : List Str}, Reps g F al ds vs → txts? ds = some ys → vs = ys.map V.str
  | [], _, _, h, e => by
    cases e
    exact h
  | .str a :: r, _, _, ⟨v, w, h1, h2, h3⟩, e => by
    obtain ⟨zs, e1, e2⟩ := Option.map_eq_some_iff.mp (show (txts? r).map (a :: ·) = some _ from e)
    subst e2 h1
    cases h2
    rw [txts_reps h3 e1]
    rfl
  | .non :: _, _, _, _, e => by cases e
  | .bl _ :: _, _, _, _, e => by cases e
  | .int _ :: _, _, _, _, e => by cases e
  | .tup _ :: _, _, _, _, e => by cases e
  | .lst _ :: _, _, _, _, e => by cases e
  | .kl _ :: _, _, _, _, e => by cases e
  | .ref _ :: _, _, _, _, e => by cases e
  | .obj _ _ :: _, _, _, _, e => by cases e
  | .cls _ :: _, _, _, _, e => by cases e
  | .dK _ :: _, _, _, _, e => by cases e
  | .dT _ :: _, _, _, _, e => by cases e
theorem str1E {a : ME} {f : Str → Vl → Hc → R Vl} {env : Env} {s : Sta} {σ : L2.St} {H : Hp} {Q : VK} (sr : SR g B env s σ H) (p : PostE g B W env s σ H (mStr1 f mo me env s.h) Q) :
    tE g B W mo σ H fun v H1 => ∃ a, v = .str a ∧ tE g B W me σ H1 fun w H2 => ∃ s2 y, SR g B env s2 σ H2 ∧ VlRep g B env σ s2 H2 y w ∧ PostE g B W env s2 σ H2 (f a y s2.h) Q := by
  refine (bindE (Q := Q) sr p).mono fun v H1 ⟨s1, x, sr1, _, r1, p1⟩ => ?_
  split at p1
  · next a =>
    cases r1
    refine ⟨a, rfl, (bindE (Q := Q) sr1 p1).mono fun w H2 ⟨s2, y, sr2, _, r2, p2⟩ => ⟨s2, y, sr2, r2, p2⟩⟩
  · exact p1.elim
theorem ve_split (own : Bool) (ho : PE X o (tE g B W mo)) (he : PE X e (tE g B W me)) (hs : starEach [e] X.env = [(false, eval e X.env)] := by rfl) (hbase : attributeBase o "split" X.env (eval o X.env) = eval o X.env := by rfl) (hline : (apos.endLine == pos.line) = true := by rfl) :
    PE X (.Call (.Attribute o "split" apos) [e] [] pos) (tE g B W (mStr1 (fSplit own) mo me)) := by
  refine pe_imp (pe_split ho he hs hbase hline) fun σ H Q ⟨env, s, sr, p⟩ => ?_
  refine (str1E (a := mo) sr p).mono fun v H1 ⟨a, hv, q⟩ => ⟨⟨a, hv⟩, q.mono fun w H2 ⟨s2, y, sr2, r2, p2⟩ => ?_⟩
  unfold fSplit at p2
  split at p2
  · next b =>
    by_cases hc : b.length ≠ 0 ∧ a.length + 2 ≤ sizeLine
    · rw [if_pos hc] at p2
      cases r2
      exact ⟨a, b, hv, rfl, by simpa using hc.1, hc.2, fun q hq => PostE.newLO sr2 p2 (reps_txts _) hq⟩
    · rw [if_neg hc] at p2
      exact p2.elim
  · exact p2.elim
theorem ve_join (hK : g.K = X.K) (ho : PE X o (tE g B W mo)) (he : PE X e (tE g B W me)) (hs : starEach [e] X.env = [(false, eval e X.env)] := by rfl) (hbase : attributeBase o "join" X.env (eval o X.env) = eval o X.env := by rfl) (hline : (apos.endLine == pos.line) = true := by rfl) :
    PE X (.Call (.Attribute o "join" apos) [e] [] pos) (tE g B W (mStr1 fJoin mo me)) := by
  refine pe_imp (pe_join ho he hs hbase hline) fun σ H Q ⟨env, s, sr, p⟩ => ?_
  refine (str1E (a := mo) sr p).mono fun v H1 ⟨a, hv, q⟩ => ⟨⟨a, hv⟩, q.mono fun w H2 ⟨s2, y, sr2, r2, p2⟩ => ?_⟩
  unfold fJoin at p2
  split at p2
  · next ys e1 =>
    by_cases hc : (ys.map (·.length)).sum + ys.length * a.length ≤ 16777216
    · rw [if_pos hc] at p2
      obtain ⟨ds, e2, e3⟩ := Option.bind_eq_some_iff.mp e1
      obtain ⟨l, vs, rfl, h1, h2⟩ := r2.seq sr2.good e2
      cases txts_reps h2 e3
      exact ⟨a, l, ys, hv, rfl, hK ▸ h1, hc, PostE.pure sr2 p2 rfl⟩
    · rw [if_neg hc] at p2
      exact p2.elim
  · exact p2.elim
end
end Vi

set_option Elab.async false
set_option linter.all false
set_option maxRecDepth 100000
set_option maxHeartbeats 2000000
namespace Vi
open PySem L2 PyProof.Rows

/-! ### __iter__ of an own class that returns iter(of a tuple) -/
/-- at it a tuple's iterator that has not begun -/
def ItT (l it : Addr) : HO := .ext fun h => h.IsTupleIter it l 0
theorem itT_ok {P : Program} {w : World} {H : Hp} {h : Heap} {l it : Addr} (e : h.IsTupleIter it l 0) : ObjOk P w H h it (ItT l it) :=
  ⟨e, let ⟨o, ho, _⟩ := e; ⟨o, ho⟩, fun h1 h2 ⟨o, ho, q⟩ k => ⟨o, k o ho, q⟩⟩
theorem call_iterTup {prog : Program} {w : World} {A : Around} {E : Value → Shared → Prop} {s : Shared} {l : Addr} {items : Array Value} {Q : Value → Shared → Prop} (hl : s.heap.IsTuple l items)
    (h : Q (.ref s.heap.objs.size) { s with heap := s.heap.push { cls := .type "tuple_iterator", data := .fields #[.ref l, .int 0 0] } }) : wpAny (model prog w) A (call (.builtin "iter") [.ref l]) Q E s := by
  refine Calls.call_function_entry (by decide +kernel) (by decide +kernel) PySem.W.kdk_entry_iter (PySem.W.kdk_args_iter _) ?_
  unfold Builtin.«iter»
  refine wpAny_bind (m := someArgs "iter" 1 2 _) (wpAny_of_eq (a := [Value.ref l]) (by first | rfl | kernel_rfl!) ?_)
  show wpAny _ _ (pyIter (.ref l) >>= _) _ _ _
  refine wpAny_bind (wpAny_pyIter_tuple hl ?_)
  exact wpAny_pure ⟨_, rfl, h⟩
def rIterT (K : PySem.W.Frag) (n : Nat) : List L2.V → Hp → VK → Prop := fun xs H Q => ∃ (l : Addr) (zs : List L2.V), xs = [.ref l] ∧ SqT K H l zs ∧ ∀ it, H it = none → n ≤ it → Q (.ref it) (upd H it (ItT l it))
theorem call_iterT {X : Cx} : CallR X (.builtin "iter") (rIterT X.K X.s_0.heap.objs.size) := by
  intro pins s σ H xs us Q I r h
  obtain ⟨l, zs, rfl, hq, q⟩ := h
  obtain ⟨u, rfl, ru⟩ := vals1 r
  cases ru
  obtain ⟨its, rv, pl, hz⟩ := I.tuple hq
  refine call_iterTup (show s.heap.IsTuple l its.toArray from pl) ?_
  exact ⟨.ref s.heap.objs.size, _, I.laid (t' := s.toks) (fun b u e => Heap.get?_push_of_some _ e) (Nat.le_refl _) (itT_ok ⟨_, Heap.get?_push_size _ rfl, rfl, rfl⟩), rfl, q _ (I.hok.fresh (Nat.le_refl _)) I.sz⟩
/-- return iter(e) -/
def tIterF (n : Nat) (g : Gi) (B : Bg) (W : WXv) (m : ME) : TS := fun N σ H => tE g B W m σ H fun v H1 => ∃ (l : Addr) (zs : List L2.V), v = .ref l ∧ SqT g.K H1 l zs ∧ ∀ it, H1 it = none → n ≤ it → N.rt (.ref it) (upd H1 it (ItT l it))
theorem vss_iter {X : Cx} {g : Gi} {B : Bg} {W : WXv} {e : Expr} {p pos rp : Pos} {m : ME} (hK : g.K = X.K) (hg : Gl X "iter") (hm : X.mg "iter" = none) (he : PE X e (tE g B W m))
    (hst : starEach [e] X.env = (false, eval e X.env) :: starEach [] X.env := by rfl) :
    PSs X [.Return (some (.Call (.Name "iter" p) [e] [] pos)) rp] (tIterF X.s_0.heap.objs.size g B W m) := by
  refine pss_imp (pss_one (ps_ret (pe_callB call_iterT hg hm (by decide +kernel) (pa_cons he pa_nil hst) (by decide) (by decide) hst rfl))) fun N σ H h => ?_
  refine tE.mono (g := g) (B := B) (W := W) h fun v H1 ⟨l, zs, e1, hq, q⟩ => ?_
  subst e1
  exact ⟨l, zs, rfl, hK ▸ hq, q⟩
/-- what the def promises -/
def PostIt (b : Nat) (g : Gi) (s : Sta) (H : Hp) : R Vl → VK → Prop
  | .ok (.d (.tup xs)) h, Q => ∀ (l it : Addr) (zs : List L2.V) (H' : Hp) (s' : Sta), s'.h = h → Evo s H s' H' → Good g s' H' → SqT g.K s'.F l zs → Reps g s'.F s'.al xs zs → H' it = none → b ≤ it → Q (.ref it) (upd H' it (ItT l it))
  | _, _ => False
/-- b: how big the heap is as it is called -/
def spIt (g : Gi) (N n : Nat) (m : ME) (b : Nat) : Sp := fun vs H Q _ => ∃ (s : Sta) (ds : List D), vs.length = n ∧ Good g s H ∧ Reps g s.F s.al ds vs ∧ PostIt b g s H (m (mkEnv N ds) s.h) Q
/-- defs: a promise that knows how big the heap is -/
structure FnGS (P : Program) (w : World) (K : PySem.W.Frag) (mg : Str → Option Value) (base : Heap) (k : Nat) (f : Addr) (fd : FuncData) (ps : List Str) (sp : Nat → Sp) : Prop where
  len : ∀ b vs H Q E, sp b vs H Q E → vs.length = ps.length
  run : ∀ (A : Around) (outer : List PySem.Env) (s : Shared) (H : Hp) (args : Args) (us : List Value) (vs : List V) (Q : VK) (E : XK), Room k A → A.guards = some [] → Env0 P w K mg base A outer s H → BindsTo s fd args (ps.zip us) → Vals vs us → sp s.heap.objs.size vs H Q E →
    codeAny (model P w) A (.call (.ref f) args) (CR (L2.CX P w) outer P w H s Q E) s
theorem fn_GS {P : Program} {w : World} {K : PySem.W.Frag} {mg : Str → Option Value} {base : Heap} {x qual : Str} {params : Arguments} {body : List Stmt} {scope : Scope} {dvs : List V} {kws : List (Str × V)} {f : Addr} {fd : FuncData} {N ps : List Str} {k : Nat} {sp : Nat → Sp}
    (F : FunD K x qual params body scope dvs kws f fd) (S : FnScope N ps scope) (len : ∀ b vs H Q E, sp b vs H Q E → vs.length = ps.length)
    (hbody : ∀ (cdv : Value) (A : Around) (outer : List PySem.Env) (s : Shared) (H : Hp) (vs : List V) (Q : VK) (E : XK), Room k (A.deeper (envOfC qual scope s.heap.objs.size f cdv)) → A.guards = some [] → sp s.heap.objs.size vs H Q E →
      ∃ t, PSs (cxOf (L2.CX P w) P w K mg base N qual scope f cdv A outer s H E) body t ∧ t { nx := fun _ H' => Q .non H', rt := Q } (start N vs) H) : FnGS P w K mg base (k + 1) f fd ps sp := by
  obtain ⟨oc, od, dV, kV, doc, pm, an, cdv, ct, osl, rfl, lk, hcd, _, _⟩ := F.ex
  refine ⟨len, ?_⟩
  intro A outer s H args us vs Q E room gds e0 bnd rv want
  have many := len _ _ _ _ _ want
  have inK : K.In s.heap := e0.mod.kin.keeps fun b o e => (e0.bs b o e).1
  have free : s.heap.NoLimit := e0.mod.nolimit.keeps fun b o e => (e0.bs b o e).1
  have kinds : ∀ y ∈ ps.zip us, scope.names.lookup y.1 = some .local ∨ (scope.names.lookup y.1 = some .cell ∧ ((cellsFrom (s.heap.objs.size + 1) scope.names []).lookup y.1).isSome = true) := by
    rintro ⟨n, v⟩ hy
    rcases S.par n (List.of_mem_zip hy).1 with q | q
    · exact .inl q
    · exact .inr ⟨q, PySem.W.cellsFrom_some _ _ _ (.inl q)⟩
  refine codeAny_call_function room.depth (inK _ _ lk) rfl S.co S.gen rfl (PySem.W.codeRec_of inK hcd) (bnd _ _ _ _ ?_)
  refine wpAny_newFunctionEnv_cells S.kind kinds ?_
  intro env he s1 x
  subst he
  refine ⟨free.keeps x.toInCall.keep, codeAny_func ?_⟩
  obtain ⟨t, ht, hq⟩ := hbody cdv A outer s H vs Q E (room.deeper _) gds want
  have I : Inv (cxOf (L2.CX P w) P w K mg base N qual scope f cdv A outer s H E) [] (start N vs) H s1 := inv_start S room.hd e0 many rv x
  have fin : ∀ {s' : Shared} {σ' : L2.St} {H' : Hp} {v : V} {u : Value}, Inv (cxOf (L2.CX P w) P w K mg base N qual scope f cdv A outer s H E) [] σ' H' s' → RelV v u → Q v H' → CE outer P w H s Q u s' := by
    intro s' σ' H' v u J r q
    exact ⟨v, H', J.os, J.bare, J.base, J.hok, r, q⟩
  refine wpAny_mono (ht.run [] s1 (start N vs) H _ I hq) ?_ fun e s' hs => hs
  intro fl s' hs
  cases fl with
  | ret u =>
    obtain ⟨v, σ', H', J, r, q⟩ := hs
    exact fin J r q
  | next =>
    obtain ⟨σ', H', J, q⟩ := hs
    exact fin (v := V.non) (u := Value.none) J rfl q
  | brk => exact (hs.choose_spec.choose_spec.2).elim
  | cont => exact (hs.choose_spec.choose_spec.2).elim
theorem fn_It {P : Program} {w : World} {g : Gi} {mg : Str → Option Value} {base : Heap} {x qual : Str} {params : Arguments} {body : List Stmt} {scope : Scope} {dvs : List L2.V} {kws : List (Str × L2.V)} {f : Addr} {fd : FuncData} {N ps : List Str} {k : Nat} {m : ME}
    (G : GiOk g) (F : FunD g.K x qual params body scope dvs kws f fd) (S : FnScope N ps scope)
    (hbody : ∀ (cdv : Value) (A : Around) (outer : List PySem.Env) (s : Shared) (H : Hp) (E : XK) (B : Bg), Room k (cxOf (L2.CX P w) P w g.K mg base N qual scope f cdv A outer s H E).A → Bd (cxOf (L2.CX P w) P w g.K mg base N qual scope f cdv A outer s H E) g (fun cls d _ H => E cls d H) →
      PSs (cxOf (L2.CX P w) P w g.K mg base N qual scope f cdv A outer s H E) body (tIterF s.heap.objs.size g B (fun cls d _ H => E cls d H) m)) :
    FnGS P w g.K mg base (k + 1) f fd ps (spIt g N.length ps.length m) := by
  refine fn_GS F S (fun b vs H Q E h => ?_) ?_
  · obtain ⟨_, _, hl, _⟩ := h
    exact hl
  · intro cdv A outer s H vs Q E hr gds h
    obtain ⟨st, ds, hl, gd, r, p⟩ := h
    have hb := hbody cdv A outer s H E ⟨st, H, 0, 0, 0, 0⟩ hr ⟨G, rfl, rfl, gds, takes_of rfl rfl rfl rfl, passes_of rfl, hr.units⟩
    refine ⟨_, hb, mkEnv N.length ds, st, start_sr gd r, ?_⟩
    cases e : m (mkEnv N.length ds) st.h with
    | ok x h =>
      rw [e] at p
      cases x with
      | d y =>
        cases y with
        | tup xs =>
          intro v H' s' e1 ev sr vr
          obtain ⟨l, zs, rfl, hq, hz⟩ := vr
          exact ⟨l, zs, rfl, sr.good.sqT hq.sq, fun it hit hb => p l it zs H' s' e1 ev sr.good hq.sq hz hit hb⟩
        | _ => exact p.elim
      | _ => exact p.elim
    | exc x h => rw [e] at p; exact p.elim
    | stuck => rw [e] at p; exact p.elim

/-! ### who walks it -/
structure VIter (X : Cx) (g : Gi) (c : Nat) (m : ME) : Prop where
  ex : ∃ (k : Nat) (f : Addr) (fd : FuncData) (ps : List Str), FnGS X.prog X.w X.K X.mg X.base k f fd ps (spIt g 1 1 m) ∧ Room (k + 4) X.A ∧ PySem.W.findIn X.K (.ref (g.ca c)) "__iter__" = some (some (.ref f)) ∧ PySem.W.isFn X.K (.ref f) = true ∧ Binds X.K fd ps []  ∧ ps.length = 1
abbrev TblI := Nat → Option ME
def VIters (X : Cx) (g : Gi) (T : TblI) : Prop := ∀ c m, T c = some m → VIter X g c m
/-- the same kind of around -/
structure AOk (X : Cx) (A : Around) : Prop where
  fr : A.frames = X.A.frames
  gd : A.guards = some []
theorem Inv.env0A {X : Cx} {pins : List (Addr × Obj)} {σ : L2.St} {H : Hp} {s : Shared} {A : Around} (I : Inv X pins σ H s) (a : AOk X A) : Env0 X.prog X.w X.K X.mg X.base A X.stack s H := by
  have e := I.env0
  exact ⟨by rw [a.fr]; exact e.frames, e.mod, e.bs, e.bsz, e.funs, e.frf, e.hok, e.bare⟩
section
variable {X : Cx} {g : Gi} {B : Bg} {env : Env} {st : Sta} {σ : L2.St} {H : Hp} {s : Shared} {pins : List (Addr × Obj)}
/-- pyIter of an own object -/
theorem own_pyIter {c : Nat} {m : ME} {fs : List (Str × D)} {xs : List D} {v : L2.V} {u : Value} {h1 : Hc} {A : Around} {E : Value → Shared → Prop} {Q : Value → Shared → Prop} (G : GiOk g) (hK : g.K = X.K)
    (V : VIter X g c m) (hA : ∀ k, Room (k + 4) X.A → Room k A) (ao : AOk X A)
    (I : Inv X pins σ H s) (sr : SR g B env st σ H) (rv : VlRep g B env σ st H (.d (.obj c fs)) v) (ru : RelV v u) (e : m [some (.d (.obj c fs))] st.h = .ok (.d (.tup xs)) h1)
    (k : ∀ (l it : Addr) (zs : List L2.V) (H' : Hp) (st' : Sta) (s' : Shared), st'.h = h1 → Evo st H st' H' → SR g B env st' σ H' → SqT g.K st'.F l zs → Reps g st'.F st'.al xs zs → H' it = none → Inv X pins σ (upd H' it (ItT l it)) s' → X.s_0.heap.objs.size ≤ it → Q (.ref it) s') :
    wpAny (model X.prog X.w) A (pyIter u) Q E s := by
  obtain ⟨kk, f, fd, ps, FG, hr, hs, hf, hb, hn⟩ := V.ex
  obtain ⟨a, ox, od, rfl, rfl, J⟩ := obj_at G sr I rv ru
  obtain ⟨m0, hF⟩ := I.fr
  refine PySem.W.owit_iter hF I.ok.mod.kin J hs hf ?_
  have r2 : Vals [L2.V.ref a] [Value.ref a] := .cons rfl .nil
  have bt : BindsTo s fd ⟨[.ref a], []⟩ (ps.zip [.ref a]) := by
    have z := hb s [.ref a] I.kIn (by rw [List.append_nil]; simpa using hn.symm)
    rwa [List.append_nil] at z
  have sp : spIt g 1 1 m s.heap.objs.size [.ref a] H (fun v H1 => ∃ (l it : Addr) (zs : List L2.V) (H' : Hp) (st' : Sta), v = .ref it ∧ H1 = upd H' it (ItT l it) ∧ st'.h = h1 ∧ Evo st H st' H' ∧ Good g st' H' ∧ SqT g.K st'.F l zs ∧ Reps g st'.F st'.al xs zs ∧ H' it = none ∧ s.heap.objs.size ≤ it) (fun _ _ _ => False) := by
    refine ⟨st, [.obj c fs], rfl, sr.good, Reps.cons rv Reps.nil, ?_⟩
    show PostIt s.heap.objs.size g st H (m [some (.d (.obj c fs))] st.h) _
    rw [e]
    intro l it zs H' s' e1 ev gd hq hz hit hb
    exact ⟨l, it, zs, H', s', rfl, rfl, e1, ev, gd, hq, hz, hit, hb⟩
  refine wpAny_call (codeAny_mono (FG.run A X.stack s H ⟨[.ref a], []⟩ [.ref a] [.ref a] _ (fun _ _ _ => False) (hA _ hr) ao.gd (Inv.env0A I ao) bt r2 sp) fun r s' hq => ?_)
  cases r with
  | error e =>
    obtain ⟨_, _, _, _, _, _, _, _, _, _, _, _, hE⟩ := hq
    exact hE.elim
  | ok fl =>
    cases fl with
    | next => exact False.elim hq
    | brk => exact False.elim hq
    | cont => exact False.elim hq
    | ret u =>
      obtain ⟨v, H1, I1, rv', l, it, zs, H', st', rfl, rfl, e1, ev, gd, hz1, hz2, hit, big⟩ := I.after hq
      cases rv'
      have hT : s'.heap.IsTupleIter it l 0 := (I1.hok it _ upd_same).1
      obtain ⟨o, ho, hc, _⟩ := id hT
      show PySem.W.OwitIt _ _ Q _ (.ref it) s'
      unfold PySem.W.OwitIt
      refine wpAny_specialOf (T := "tuple_iterator") (name := Str.ofString "__next__") ⟨o, ho, hc⟩ PySem.F.slot_tuple_iterator_next.lookup ?_
      exact k l it zs H' st' s' e1 ev (sr.call ev gd) hz1 hz2 hit I1 (Nat.le_trans I.sz big)
end
end Vi

set_option Elab.async false
set_option linter.all false
set_option maxRecDepth 100000
set_option maxHeartbeats 2000000
namespace Vi
open PySem L2 PyProof.Rows

/-! ### for x in o, [.. for x in o] -/
/-- what an own object tells when it is walked -/
def itemsO (T : TblI) (x : Vl) (h : Hc) (k : List D → Hc → R Vl) : R Vl := match x with
  | .d (.obj c fs) => (match T c with
    | some m => (match m [some (.d (.obj c fs))] h with
      | .ok (.d (.tup xs)) h1 => k xs h1
      | _ => .stuck)
    | none => .stuck)
  | _ => .stuck
def mCompO (o : Bool) (own : List Nat) (I : TblI) (T : TgF) (mt : MB) (me src : ME) : ME := fun env h => (src env h).bind fun x h1 => itemsO I x h1 fun xs h2 => compL o T mt me xs [] (wipeE env own) h2
/-- where the items come from -/
def iOwn (K : PySem.W.Frag) (g : Gi) (B : Bg) (W : WXv) (T : TblI) (src : ME) : TI := fun σ H R => tE g B W src σ H fun v H1 => ∃ (env : Env) (st : Sta) (c : Nat) (m : ME) (fs : List (Str × D)) (xs : List D) (h1 : Hc), SR g B env st σ H1 ∧ VlRep g B env σ st H1 (.d (.obj c fs)) v ∧ T c = some m ∧ m [some (.d (.obj c fs))] st.h = .ok (.d (.tup xs)) h1 ∧
  ∀ (l : Addr) (zs : List L2.V) (H' : Hp) (st' : Sta), st'.h = h1 → Evo st H1 st' H' → SR g B env st' σ H' → SqT g.K st'.F l zs → Reps g st'.F st'.al xs zs → R (Itt K l) H'
section
variable {X : Cx} {g : Gi} {B : Bg} {W : WXv}
theorem pi_own {tg e : Expr} {T : TblI} {src : ME} (b : Bd X g W) (V : VIters X g T) (he : PE X e (tE g B W src)) : PI X tg e (iOwn X.K g B W T src) := by
  refine ⟨fun pins s σ H R I h => ?_⟩
  refine thn (he.run pins s σ H _ I h) fun u s1 ⟨v, H1, I1, ru, q1⟩ => ?_
  obtain ⟨env, st, c, m, fs, xs, h1, sr, rv, hT, e1, k⟩ := q1
  refine own_pyIter b.G b.K (V c m hT) (fun k hr => hr.mono (by omega)) ⟨rfl, b.gd⟩ I1 sr rv ru e1 fun l it zs H' st' s' e2 ev sr' hz hr hit I2 big => ?_
  have I3 := ItX.inv_drop I2 upd_same
  have fp := ItX.inv_fp I2 upd_same big
  rw [ItX.dropH_upd hit] at I3 fp
  have hTi : s'.heap.IsTupleIter it l 0 := (I2.hok it _ upd_same).1
  exact ⟨it, [it], _, _, H', rfl, I3, turn_tuple l it, hTi, fun b hb => by
    obtain rfl : b = it := by simpa using hb
    exact fp, k l zs H' st' e2 ev sr' hz hr⟩
end
section
variable {X : Cx} {g : Gi} {B : Bg} {W : WXv} {own : List Nat} {o : Bool} {I : TblI} {T : TgF} {mt : MB} {me m : ME} {t : TG} {σ : L2.St} {H : Hp} {Q : VK}
theorem lc_ofO (hK : g.K = X.K) (q1 : CgQ g own t T) (h : tE g B W (mCompO o own I T mt me m) σ H Q) :
    tLc (iOwn X.K g B W I m) t (tT g B (fun _ _ _ _ => False) mt) (tE g B (fun _ _ _ _ => False) me) own σ H Q := by
  obtain ⟨env, s, sr, p⟩ := h
  have p : PostE g B W env s σ H ((m env s.h).bind fun x h1 => itemsO I x h1 fun xs h2 => compL o T mt me xs [] (wipeE env own) h2) Q := p
  refine (bindE (Q := Q) sr p).mono fun v H1 ⟨s1, x, sr1, ev1, r1, p1⟩ => ?_
  unfold itemsO at p1
  split at p1
  · next c fs =>
    split at p1
    · next mi hT =>
      split at p1
      · next xs h1 em =>
        refine ⟨env, s1, c, mi, fs, xs, h1, sr1, r1, hT, em, fun l zs H' st' e2 ev sr2 hz hr Dn hD => ?_⟩
        have p2 : PostE g B W env st' σ H' (compL o T mt me xs [] (wipeE env own) st'.h) Q := by
          rw [e2]
          exact PostE.later ev p1
        have sq : ∀ {s' : Sta} {H2 : Hp}, Good g s' H2 → Evo st' H' s' H2 → SqT X.K H2 l zs := fun gd e3 => hK ▸ gd.sqT (sqT_mono e3.f hz)
        refine lc_tup (xs := zs) (fun i H => CInv g B W env st' σ H' own o T mt me Q Dn (xs.drop i) H) ?_ (fun i H _ c => ?_) (fun i y H hi c => ?_) (fun H c => ?_)
        · exact comp_start sr2 hD p2
        · obtain ⟨s', _, _, gd, e3, _⟩ := c
          exact sq gd e3
        · have hl : i < xs.length := by
            rw [← hr.length]
            exact (List.getElem?_eq_some_iff.mp hi).1
          obtain ⟨y', ey, ry⟩ := hr.get (List.getElem?_eq_getElem hl)
          rw [hi] at ey
          cases ey
          rw [List.drop_eq_getElem_cons hl] at c
          exact comp_turn q1 sr2 hD c fun s' e3 => e3.rep ry
        · rw [hr.length, List.drop_length] at c
          exact comp_end sr2 hD c
      · exact p1.elim
    · exact p1.elim
  · exact p1.elim
end
section
variable {X : Cx} {g : Gi} {B : Bg} {W : WXv} {own : List (Str × Nat)} {o : Bool} {I : TblI} {T : TgF} {mt : MB} {me m : ME} {t : TG} {elt tg iter : Expr} {ifs : List Expr} {scope : Scope} {pos p' rp : Pos} {ma : MA}
theorem ve_lcO (o : Bool) (b : Bd X g W) (V : VIters X g I) (hN : X.N.Nodup) (he : PE X iter (tE g B W m)) (ok : BlkOk X.N X.env.scope scope own) (q1 : CgQ g (own.map (·.2)) t T)
    (hg : ∀ (s : Shared) (H : Hp) (C : Addr) (cl : List (Str × Addr)) (fp : List Addr), PG (X.blk s H scope (compEnvC scope cl C X.env) fp) tg t)
    (ht : ∀ (s : Shared) (H : Hp) (C : Addr) (cl : List (Str × Addr)) (fp : List Addr), PTs (X.blk s H scope (compEnvC scope cl C X.env) fp) ifs (tT g B (fun _ _ _ _ => False) mt))
    (hel : ∀ (s : Shared) (H : Hp) (C : Addr) (cl : List (Str × Addr)) (fp : List Addr), PE (X.blk s H scope (compEnvC scope cl C X.env) fp) elt (tE g B (fun _ _ _ _ => False) me)) (hs : ∀ x, foldedSetIterable iter X.env x = pure x := by intro _; rfl) :
    PE X (.ListComp elt [⟨tg, iter, ifs, 0⟩] scope pos) (tE g B W (mCompO o (own.map (·.2)) I T mt me m)) :=
  pe_imp (pe_lc b.calm hN (pi_own (tg := tg) b V he) ok hg ht hel hs) fun σ H Q h => lc_ofO b.K q1 h
end

/-! ### list(o) -/
section
variable {X : Cx} {g : Gi} {B : Bg} {env : Env} {st : Sta} {σ : L2.St} {H : Hp} {s : Shared} {pins : List (Addr × Obj)}
/-- a call that gives d, and raises nothing -/
theorem run_sure {F : Fn} {k : Nat} {f : Addr} {fd : FuncData} {ps : List Str} {A : Around} {ds : List D} {vs : List L2.V} {us : List Value} {d : D} {h1 : Hc} {E : Value → Shared → Prop} {Q : Value → Shared → Prop} (FG : FnG X.prog X.w X.K X.mg X.base k f fd ps (spD g ps.length F)) (hr : Room k A) (ao : AOk X A) (hb : Binds X.K fd ps [])
    (I : Inv X pins σ H s) (r : Vals vs us) (hl : vs.length = ps.length) (gd : Good g st H) (rr : Reps g st.F st.al ds vs) (e : F ds st.h = .ok d h1)
    (q : ∀ (v : L2.V) (u : Value) (H' : Hp) (st' : Sta) (s' : Shared), st'.h = h1 → Evo st H st' H' → Good g st' H' → Rep g st'.F st'.al d v → RelV v u → Inv X pins σ H' s' → Q u s') : wpAny (model X.prog X.w) A (call (.ref f) us) Q E s := by
  have bt : BindsTo s fd ⟨us, []⟩ (ps.zip us) := by
    have z := hb s us I.kIn (by rw [List.append_nil, ← r.length]; exact hl)
    rwa [List.append_nil] at z
  have sp : spD g ps.length F vs H (fun v H' => ∃ st', st'.h = h1 ∧ Evo st H st' H' ∧ Good g st' H' ∧ Rep g st'.F st'.al d v) (fun _ _ _ => False) := by
    refine ⟨st, ds, hl, gd, rr, ?_⟩
    rw [e]
    intro v H' s' e1 ev gd' rv
    exact ⟨s', e1, ev, gd', rv⟩
  refine wpAny_call (codeAny_mono (FG.run A X.stack s H ⟨us, []⟩ us vs _ (fun _ _ _ => False) hr ao.gd (Inv.env0A I ao) bt r sp) fun r s' hq => ?_)
  cases r with
  | error e =>
    obtain ⟨_, _, _, _, _, _, _, _, _, _, _, _, hE⟩ := hq
    exact hE.elim
  | ok fl =>
    cases fl with
    | next => exact False.elim hq
    | brk => exact False.elim hq
    | cont => exact False.elim hq
    | ret u =>
      obtain ⟨v, H', I', rv, st', e1, ev, gd', rr'⟩ := I.after hq
      exact q v u H' st' s' e1 ev gd' rr' rv I'
theorem sqT_updL {K : PySem.W.Frag} {H : Hp} {l q : Addr} {zs ys ys0 : List L2.V} (hq : H q = some (.lst ys0)) (h : SqT K H l zs) : SqT K (upd H q (.lst ys)) l zs := by
  rcases h with (h | ⟨o, h⟩) | h
  · have ne : l ≠ q := fun e => by rw [e, hq] at h; cases h
    exact .inl (.inl (by rw [upd_ne ne]; exact h))
  · have ne : l ≠ q := fun e => by rw [e, hq] at h; cases h
    exact .inl (.inr ⟨o, by rw [upd_ne ne]; exact h⟩)
  · exact .inr h
/-- the list at q is filled from the tuple's iterator at it -/
theorem tup_loop {l it q : Addr} {zs : List L2.V} {Rs : Result → Shared → Prop} {A : Around} (hh : A.handled = none) (hz : zs.length ≤ 100000) :
    ∀ (k i : Nat) (H : Hp) (s : Shared), k = zs.length - i → i ≤ zs.length → Inv X pins σ H s → FpOk X pins H it → s.heap.IsTupleIter it l i → SqT X.K H l zs → H q = some (.lst (zs.take i)) →
      (∀ s', Inv X pins σ (upd H q (.lst zs)) s' → Rs (.ok (.ret .none)) s') → codeAny (model X.prog X.w) A (.builtin "list.extend.loop" ⟨[.ref q, .ref it, .none], []⟩) Rs s := by
  intro k
  induction k with
  | zero =>
    intro i H s hk hi I hf st hq hl hd
    obtain rfl : i = zs.length := by omega
    obtain ⟨its, rv, pl, _⟩ := I.tuple hq
    refine codeAny_builtin PySem.F.entry_extend_loop ?_
    rw [Around.under_plainId PySem.F.plain_extend_loop _]
    show wpAny _ A.in1 (pyNext (.ref it) >>= _) _ _ s
    obtain ⟨f0, f1, f2, f3, f4, f5⟩ := hf
    refine wpAny_bind (wpAny_pyNext_tuple_end (items := its.toArray) hh st pl (by rw [List.getElem?_toArray, List.getElem?_eq_none (by rw [← rv.length]; exact Nat.le_refl _)]) fun h' eb => ?_)
    have I1 : Inv X pins σ H { s with heap := h', toks := s.toks } := I.turned (t' := s.toks) (fun b o hb e => eb b o hb e) f0 f1 f3 f4 f5
    have e1 : upd H q (.lst zs) = H := by
      funext b
      by_cases hb : b = q
      · rw [hb, upd_same, hl, List.take_length]
      · rw [upd_ne hb]
    exact wpAny_pure (hd _ (by rw [e1]; exact I1))
  | succ k ih =>
    intro i H s hk hi I hf st hq hl hd
    have hlt : i < zs.length := by omega
    obtain ⟨its, rv, pl, _⟩ := I.tuple hq
    obtain ⟨u, hu, ru⟩ := rv.get (List.getElem?_eq_getElem hlt)
    refine codeAny_builtin PySem.F.entry_extend_loop ?_
    rw [Around.under_plainId PySem.F.plain_extend_loop _]
    show wpAny _ A.in1 (pyNext (.ref it) >>= _) _ _ s
    obtain ⟨f0, f1, f2, f3, f4, f5⟩ := hf
    refine wpAny_bind (wpAny_pyNext_tuple_item (items := its.toArray) (x := u) st pl (by rw [List.getElem?_toArray]; exact hu) fun h' st' sb => ?_)
    have I1 : Inv X pins σ H { s with heap := h', toks := s.toks } := I.turned (t' := s.toks) (fun b o hb e => sb.extBut b o hb e) f0 f1 f3 f4 f5
    show wpAny _ A.in1 (updateSeq q (·.push u) >>= _) _ _ _
    obtain ⟨z, its2, c, r2, hl2, e2⟩ := I1.lstM hl
    have hneq : it ≠ q := fun e => by rw [e, hl] at f0; cases f0
    have hlen : its2.length = i := by rw [← r2.length, List.length_take]; omega
    refine wpAny_bind (wpAny_updateSeq e2 rfl (wpAny_pure ⟨plainId_quiet PySem.F.plain_extend_loop _, ?_⟩) (by rw [List.size_toArray, sizeLine_eq]; omega) (by show (its2.toArray.push u).size ≤ sizeLine + 1; rw [Array.size_push, List.size_toArray, sizeLine_eq]; omega))
    have I2 := I1.lset (f := (·.push u)) (its' := its2 ++ [u]) (ys := zs.take (i + 1)) (t' := s.toks) hl e2 (by simp) (by rw [List.take_succ_eq_append_getElem hlt]; exact r2.append (.cons ru .nil)) (by rw [List.length_take, sizeLine_eq]; omega)
    have hu1 : ∀ b, b ≠ q → upd H q (.lst (zs.take (i + 1))) b = H b := fun b hb => upd_ne hb
    refine ih (i + 1) _ _ (by omega) (by omega) I2 ?_ ?_ ?_ upd_same fun s' I' => ?_
    · exact ⟨by rw [hu1 it hneq]; exact f0, f1, f2, f3, f4, f5⟩
    · obtain ⟨o, ho, hc, hdt⟩ := st'
      exact ⟨o, by rw [Heap.get?_update_other _ _ hneq.symm]; exact ho, hc, hdt⟩
    · exact sqT_updL hl hq
    · rw [upd_upd] at I'
      exact hd s' I'
end
end Vi

set_option Elab.async false
set_option linter.all false
set_option maxRecDepth 100000
set_option maxHeartbeats 2000000
namespace Vi
open PySem L2 PyProof.Rows
theorem Good.drop {g : Gi} {s : Sta} {H : Hp} {p : Addr} (gd : Good g s H) (hf : s.F p = none) (hn : ∀ n, s.al n ≠ some p) : Good g s (ItX.dropH H p) := by
  refine ⟨fun a u h => ?_, gd.inj, fun n a h => ?_, fun n c h => ?_, gd.zed.keep rfl rfl (fun _ _ h => h) fun n a o h1 h2 => by rw [ItX.dropH_ne (fun e => hn n (by rw [← e]; exact h1))]; exact h2⟩
  · have ne : a ≠ p := fun e => by rw [e, hf] at h; cases h
    rw [ItX.dropH_ne ne]
    exact gd.fle a u h
  · obtain ⟨h1, h2, u, h3⟩ := gd.dom n a h
    have ne : a ≠ p := fun e => hn n (by rw [← e]; exact h)
    exact ⟨h1, h2, u, by rw [ItX.dropH_ne ne]; exact h3⟩
  · obtain ⟨a, h1, h2⟩ := gd.cell n c h
    have ne : a ≠ p := fun e => hn n (by rw [← e]; exact h1)
    refine ⟨a, h1, ?_⟩
    exact h2.mv (fun o h3 => by rw [ItX.dropH_ne ne]; exact h3) (fun _ _ h => h) fun _ _ h => h
/-- a special method of the class c that is called from deep within -/
structure VOp4 (X : Cx) (g : Gi) (c : Nat) (name : Str) (n : Nat) (F : Fn) : Prop where
  ex : ∃ (k : Nat) (f : Addr) (fd : FuncData) (ps : List Str), FnG X.prog X.w X.K X.mg X.base k f fd ps (spD g ps.length F) ∧ Room (k + 4) X.A ∧ PySem.W.findIn X.K (.ref (g.ca c)) name = some (some (.ref f)) ∧ PySem.W.isFn X.K (.ref f) = true ∧ Binds X.K fd ps [] ∧ ps.length = n
def VOps4 (X : Cx) (g : Gi) (name : Str) (n : Nat) (T : Tbl) : Prop := ∀ c F, T c = some F → VOp4 X g c name n F
theorem RdyM.op4 {X : Cx} {g : Gi} {c : Nat} {m : Str} {k j n : Nat} {F : Fn} (h : RdyM X.prog X.w X.K X.mg X.base g c m k n [] F) (hr : Room j X.A) (hj : k + 4 ≤ j) : VOp4 X g c m (n + 1) F := by
  obtain ⟨f, fd, ps, dvs, ds, h1, h2, h3, h4, h5, h6, h7⟩ := h.ex
  have z := h5 (fun _ => none) (fun _ => none)
  obtain rfl : dvs = [] := z
  cases h4
  exact ⟨⟨k, f, fd, ps, h1, hr.mono hj, h2.at_, h2.fn, h3, h6.symm⟩⟩
section
variable {X : Cx} {g : Gi} {B : Bg} {W : WXv} {env : Env} {st : Sta} {σ : L2.St} {H : Hp} {s : Shared} {pins : List (Addr × Obj)} {Q : VK}
theorem call_listO {c : Nat} {m : ME} {F : Fn} {fs : List (Str × D)} {ys : List D} {v : L2.V} {u : Value} {h1 h2 : Hc} {k : Int} {o : Bool} (b : Bd X g W) (V : VIter X g c m) (VL : VOp4 X g c "__len__" 1 F)
    (I : Inv X pins σ H s) (sr : SR g B env st σ H) (rv : VlRep g B env σ st H (.d (.obj c fs)) v) (ru : RelV v u)
    (e1 : m [some (.d (.obj c fs))] st.h = .ok (.d (.tup ys)) h1) (e2 : F [.obj c fs] h1 = .ok (.int k) h2) (h0 : 0 ≤ k) (h3 : k ≤ 100000) (h4 : ys.length ≤ 100000)
    (p : PostE g B W env st σ H (.ok (Vl.ofL o ys) h2) Q) : wpAny (model X.prog X.w) X.A (call (.type "list") [u]) (EP X pins σ Q) X.xe s := by
  obtain ⟨a, ox, od, rfl, rfl, J⟩ := obj_at b.G sr I rv ru
  obtain ⟨kl, fl, fdl, psl, FGl, hrl, hsl, hfl, hbl, hnl⟩ := VL.ex
  refine callType_codes (Q₁ := fun obj s₁ => obj = .ref s.heap.objs.size ∧ s₁ = { s with heap := s.heap.push { cls := .type "list", data := .seq #[] } }) PySem.F.called_list (PySem.F.typeCall_list_1 _) PySem.F.entry_list_init
    (code_list_new _ ⟨rfl, rfl⟩) fun obj s₁ h₁ => ?_
  obtain ⟨rfl, rfl⟩ := h₁
  have hS : (s.heap.push { cls := .type "list", data := .seq #[] }).get? s.heap.objs.size = some { cls := .type "list", data := .seq #[] } := Heap.get?_push_size _ rfl
  refine ⟨⟨_, hS, rfl⟩, PySem.F.args_list_init_2 _ _, ?_⟩
  have fr : H s.heap.objs.size = none := I.hok.fresh (Nat.le_refl _)
  have I1 : Inv X pins σ (upd H s.heap.objs.size (.lst [])) { s with heap := s.heap.push { cls := .type "list", data := .seq #[] } } := I.lnew (its := []) (t' := s.toks) .nil (Nat.zero_le _)
  show wpAny _ _ (do let old ← Builtin.List.listItems (.ref s.heap.objs.size); Builtin.List.listUpdate (.ref s.heap.objs.size) (fun _ => #[]); letGo old.toList.reverse; Builtin.List.listExtendWith (.ref s.heap.objs.size) (.ref a) .none) _ _ _
  refine wpAny_bind ?_
  unfold Builtin.List.listItems
  refine wpAny_bind (wpAny_seqItems hS rfl (wpAny_pure ?_))
  show wpAny _ _ (updateSeq s.heap.objs.size (fun _ => #[]) >>= fun _ => letGo (#[] : Array Value).toList.reverse >>= fun _ => Builtin.List.listExtendWith (.ref s.heap.objs.size) (.ref a) .none) _ _ _
  refine wpAny_bind (wpAny_updateSeq hS rfl ?_)
  have I2 := I1.lset (f := fun _ => #[]) (its := []) (its' := []) (ys := []) (t' := s.toks) upd_same hS rfl .nil (Nat.zero_le _)
  rw [upd_upd] at I2
  refine wpAny_bind (wpAny_letGo ?_)
  obtain ⟨srq, evq⟩ := sr.new (o := .lst []) fr
  obtain ⟨qF, qA⟩ := own_free sr.good fr
  have rvq : VlRep g B env σ st (upd H s.heap.objs.size (.lst [])) (.d (.obj c fs)) (.ref a) := rv.evo evq
  obtain ⟨a', ox', od', ea, _, J'⟩ := obj_at b.G srq I2 rvq (rfl : RelV (.ref a) (.ref a))
  cases ea
  have hne : s.heap.objs.size ≠ a := fun e => by
    obtain ⟨_, dx, ws, ev, hF, _⟩ := rvq
    cases ev
    have z := srq.good.fle _ _ hF
    rw [← e, upd_same] at z
    cases z
  generalize hq : s.heap.objs.size = q at *
  unfold Builtin.List.listExtendWith
  refine wpAny_bind (J'.type.here ?_)
  have k1 : Builtin.List.listSameRef (.ref q) (.ref a) = false := by simp [Builtin.List.listSameRef, hne]
  have k2 : (Value.ref (g.ca c) == Value.type "list") = false := rfl
  have k3 : (Value.ref (g.ca c) == Value.type "tuple") = false := rfl
  simp only [k1, k2, k3, Bool.or_false, Bool.false_eq_true, if_false]
  refine wpAny_bind (own_pyIter (A := X.A.in1.in1) b.G b.K V (fun k hr => ((hr.mono (by omega) : Room (k + 2) X.A).in1).in1) ⟨rfl, b.gd⟩ I2 srq rvq rfl e1 fun l it zs H' st' s' e3 ev sr' hz hr hit I3 big => ?_)
  refine wpAny_bind (wpAny_holding ?_)
  obtain ⟨srI, evI⟩ := sr'.new (o := ItT l it) hit
  have rvI : VlRep g B env σ st' (upd H' it (ItT l it)) (.d (.obj c fs)) (.ref a) := (rvq.evo ev).evo evI
  obtain ⟨a2, ox2, od2, ea, _, J2⟩ := obj_at b.G srI I3 rvI (rfl : RelV (.ref a) (.ref a))
  cases ea
  unfold Builtin.List.listLengthHint
  refine wpAny_bind (wpAny_bind (J2.type.here ((PySem.W.looks_findIn I3.kIn hsl).here ?_)))
  refine PySem.W.KFB.if_not rfl ?_
  refine PySem.W.KFB.if_so rfl ?_
  refine wpAny_bind (wpAny_rule ?_)
  obtain ⟨m1, hF1⟩ := I3.fr
  refine wpAny_bind (wpAny_attempt ?_)
  refine PySem.W.len_K hF1 I3.ok.mod.kin J2 hsl hfl ?_
  refine run_sure (A := X.A.in1.in1.in1) (st := st') (H := upd H' it (ItT l it)) (vs := [.ref a]) FGl (((hrl.mono (by omega) : Room (kl + 3) X.A).in1).in1).in1 ⟨rfl, b.gd⟩ hbl I3 (.cons rfl .nil) hnl.symm srI.good (Reps.cons rvI Reps.nil) (by rw [e3]; exact e2) fun vl ul H2 st2 s2 q1 q2 q3 q4 q5 I4 => ?_
  have q4 : vl = .int k := q4
  subst q4
  obtain ⟨tk, rfl⟩ := q5
  refine ⟨⟨h0, by omega⟩, ?_⟩
  refine wpAny_bind (wpAny_of_eq (a := some k) rfl ?_)
  refine PySem.W.KFB.if_not (show Builtin.List.listTooLong k.toNat = false from decide_eq_false (by rw [sizeLine_eq]; omega)) ?_
  refine wpAny_pure ?_
  -- what stands behind the call of len
  have hitS : (upd H' it (ItT l it)) it = some (ItT l it) := upd_same
  obtain ⟨itF, itA⟩ := own_free sr'.good hit
  obtain ⟨g1, g2, g3⟩ := q2.oth it _ hitS itA
  have hqI : upd H' it (ItT l it) q = some (.lst []) := by
    obtain ⟨z, _⟩ := ev.oth q _ upd_same qA
    have ne : q ≠ it := fun e => by rw [e, hit] at z; cases z
    rw [upd_ne ne]
    exact z
  have qA' : ∀ n, st'.al n ≠ some q := (ev.oth q _ upd_same qA).2.2
  obtain ⟨p1, p2, p3⟩ := q2.oth q _ hqI qA'
  have qF' : st2.F q = none := p2 ((ev.oth q _ upd_same qA).2.1 qF)
  have evAll : Evo st (upd H q (.lst [])) st2 H2 := ev.trans (evI.trans q2)
  have hz2 : SqT g.K st2.F l zs := sqT_mono q2.f hz
  have hr2 : Reps g st2.F st2.al ys zs := q2.reps hr
  have hz3 : SqT X.K (ItX.dropH H2 it) l zs := by
    have z : SqT g.K (ItX.dropH H2 it) l zs := sqT_mono (fun a o e => by
      have ne : a ≠ it := fun q => by
        rw [q, g2 itF] at e
        cases e
      rw [ItX.dropH_ne ne]
      exact q3.fle a o e) hz2
    exact b.K ▸ z
  have I5 := ItX.inv_drop I4 g1
  have fp := ItX.inv_fp I4 g1 big
  have hT : s2.heap.IsTupleIter it l 0 := (I4.hok it _ g1).1
  have hqit : q ≠ it := fun e => by rw [e, g1] at p1; cases p1
  have hl : ItX.dropH H2 it q = some (.lst (zs.take 0)) := by
    rw [ItX.dropH_ne hqit, p1]
    rfl
  have hlen : zs.length ≤ 100000 := by rw [hr2.length]; exact h4
  -- the end
  have fin : ∀ s9 : Shared, Inv X pins σ (upd (ItX.dropH H2 it) q (.lst zs)) s9 → EP X pins σ Q (.ref q) s9 := by
    intro s9 I9
    refine ⟨.ref q, _, I9, rfl, ?_⟩
    have gd0 : Good g st2 (ItX.dropH H2 it) := q3.drop (g2 itF) g3
    have gd9 : Good g st2 (upd (ItX.dropH H2 it) q (.lst zs)) := gd0.updO qF' p3
    have evH : Evo st H st2 (upd (ItX.dropH H2 it) q (.lst zs)) := by
      refine ⟨evAll.f, evAll.al, fun a o h n => ?_, evAll.len, evAll.z⟩
      have ha : upd H q (.lst []) a = some o := by rw [upd_ne (ne_of_none h fr)]; exact h
      obtain ⟨x1, x2, x3⟩ := evAll.oth a o ha n
      have na : a ≠ it := fun e => by
        have z := (ev.oth a o ha n).1
        rw [e, hit] at z
        cases z
      exact ⟨by rw [upd_ne (ne_of_none h fr), ItX.dropH_ne na]; exact x1, x2, x3⟩
    exact comp_end (own := []) (T := fun _ _ => none) (mt := mYes) (me := fun _ _ => .stuck) sr fr ⟨st2, ys, zs, gd9, evH, upd_same, qF', p3, hr2, by
      show PostE g B W env st σ H (.ok (Vl.ofL o ys) st2.h) Q
      rw [q1]
      exact p⟩
  have I6 : Inv X pins σ (ItX.dropH H2 it) { s2 with toks := s2.toks + 1 } := I5.tok _
  have hh : X.A.handled = none := I5.ok.hd b.calm
  have loop : ∀ s7 : Shared, Inv X pins σ (ItX.dropH H2 it) s7 → s7.heap.IsTupleIter it l 0 → codeAny (model X.prog X.w) X.A.in1 (.builtin "list.extend.loop" ⟨[.ref q, .ref it, .none], []⟩) (wants (fun r s₂ => r = .none ∧ EP X pins σ Q (.ref q) s₂) X.xe) s7 := fun s7 I7 t7 =>
    tup_loop (zs := zs) (by exact hh) hlen (zs.length - 0) 0 _ s7 rfl (Nat.zero_le _) I7 fp t7 hz3 hl fun s' I' => ⟨rfl, fin s' I'⟩
  refine wpAny_ite_split (fun _ => ?_) (fun _ => wpAny_pure ⟨plainId_quiet PySem.F.plain_extend_loop _, loop _ I6 hT⟩)
  refine wpAny_bind (wpAny_rule ?_)
  refine wpAny_bind ?_
  show wpAny _ _ (updateSeq q (·.push .none) >>= fun _ => updateSeq q (·.pop)) _ _ _
  have hl0 : ItX.dropH H2 it q = some (.lst []) := hl
  obtain ⟨z3, its3, c3, r3, hl3, w3⟩ := I6.lstM hl0
  cases r3
  refine wpAny_bind (wpAny_updateSeq w3 rfl ?_)
  have J2' := I6.lset (f := (·.push Value.none)) (its' := [Value.none]) (ys := [.non]) (t' := s2.toks + 1) hl0 w3 (by simp) (.cons rfl .nil) (by rw [List.length_singleton, sizeLine_eq]; decide)
  obtain ⟨z4, its4, c4, r4, hl4, w4⟩ := J2'.lstM upd_same
  obtain ⟨u4, rfl, ru4⟩ := r4.one
  refine wpAny_updateSeq w4 rfl ?_ (by show 1 ≤ sizeLine; rw [sizeLine_eq]; decide) (by show 0 ≤ sizeLine + 1; exact Nat.zero_le _)
  have J3' := J2'.lset (f := (·.pop)) (its := [u4]) (its' := []) (ys := []) (t' := s2.toks + 1) upd_same w4 (by rfl) .nil (Nat.zero_le _)
  rw [upd_upd] at J3'
  have hH : upd (ItX.dropH H2 it) q (.lst []) = ItX.dropH H2 it := by
    funext b
    by_cases hb : b = q
    · rw [hb, upd_same, hl0]
    · rw [upd_ne hb]
  rw [hH] at J3'
  obtain ⟨oi, hoi, hci, hdi⟩ := id hT
  exact wpAny_pure ⟨plainId_quiet PySem.F.plain_extend_loop _, loop _ J3' ⟨oi, by rw [Heap.get?_update_other _ _ hqit, Heap.get?_update_other _ _ hqit]; exact hoi, hci, hdi⟩⟩
end
def fListO (o : Bool) (T : TblI) (TL : Tbl) (xs : List Vl) (h : Hc) : R Vl := match xs with
  | [.d (.obj c fs)] => itemsO T (.d (.obj c fs)) h fun ys h1 => (match TL c with
    | some F => (match F [.obj c fs] h1 with
      | .ok (.int k) h2 => if 0 ≤ k ∧ k ≤ 100000 ∧ ys.length ≤ 100000 then .ok (Vl.ofL o ys) h2 else .stuck
      | _ => .stuck)
    | none => .stuck)
  | _ => fList o xs h
section
variable {X : Cx} {g : Gi} {B : Bg} {W : WXv} {pos p : Pos} {a : Expr} {A : MA}
theorem ve_listO (o : Bool) {T : TblI} {TL : Tbl} (d : Bd X g W) (V : VIters X g T) (VL : VOps4 X g "__len__" 1 TL) (hg : Gl X "list") (hm : X.mg "list" = none) (ha : PA X [a] (tA g B W A))
    (he : starEach [a] X.env = (false, eval a X.env) :: starEach [] X.env := by rfl) (hpl : (backTo pos (starEach [] X.env)).any (·.1) = false := by rfl) : PE X (.Call (.Name "list" p) [a] [] pos) (tE g B W (mA1 (fListO o T TL) A)) := by
  refine ⟨fun pins s σ H Q I ⟨env, st, sr, pp⟩ => ?_⟩
  refine wpAny_Call_Name_kw (ld_blt (u := .type "list") I hg hm (by decide +kernel) ?_ (by decide) (by decide))
  refine PyProof.Rows.callWith_type1 (thn (ha.run pos pins s σ H _ I (bindA (Q := Q) sr pp)) fun us s1 ⟨vs, H1, I1, r1, st1, xs, sr1, _, rx, p1⟩ => ?_) he hpl
  unfold fListO at p1
  split at p1
  · next c fs =>
    obtain ⟨v, rfl, rv⟩ := rx.one
    obtain ⟨u, rfl, ru⟩ := vals1 r1
    unfold itemsO at p1
    cases hT : T c with
    | none => simp only [hT] at p1; exact p1.elim
    | some m =>
      simp only [hT] at p1
      split at p1
      · next ys h1 e1 =>
        cases hF : TL c with
        | none => simp only [hF] at p1; exact p1.elim
        | some F =>
          simp only [hF] at p1
          split at p1
          · next k h2 e2 =>
            split at p1
            · next hk => exact call_listO d (V c m hT) (VL c F hF) I1 sr1 rv ru e1 e2 hk.1 hk.2.1 hk.2.2 p1
            · exact p1.elim
          · exact p1.elim
      · exact p1.elim
  · obtain ⟨r, q1, q2⟩ := c_list (X := X) (g := g) o d.K
    exact q1 pins s1 σ H1 vs us Q I1 r1 (q2 B W env st1 σ H1 xs vs Q sr1 rx p1)
end
end Vi

set_option Elab.async false
set_option linter.all false
set_option maxRecDepth 100000
set_option maxHeartbeats 2000000
namespace PySem.W
open PySem PySem.Calls PyProof.Rows Builtin
section
variable {prog : Program} {w : World} {A : Around} {E : Value → Shared → Prop} {s : Shared} {K : Frag} {x C f : Addr} {ox : Obj} {od : Option Obj} {b tb : Value}
theorem vi_ne_K {Q : Value → Shared → Prop} (hu : A.units + 1 < cLine) (X : K.In s.heap) (I : InstAt s.heap x ox C od) (hb : Looks (model prog w) s.heap (typeOf b) tb) (hn : notFirst K C tb = true)
    (hne : findIn K (.ref C) "__ne__" = some (some (.builtin "object.__ne__"))) (hm : mroIn K C (.type "object") = some true)
    (hs : findIn K (.ref C) "__eq__" = some (some (.ref f))) (hf : isFn K (.ref f) = true)
    (h : wpAny (model prog w) A.in1 (call (.ref f) [.ref x, b]) (fun v s' => ∃ k, v = .bool k ∧ Q (.bool (!k)) s') E s) : wpAny (model prog w) A (richCompare .NotEq (.ref x) b) Q E s := by
  have hbody : wpAny (model prog w) A.in1 (Builtin.«object.__ne__» ⟨[.ref x, b], []⟩) (fun fin s' => ∃ v, fin = .done (.ret v) ∧ (∃ k, v = .bool k) ∧ Q v s') E s := by
    unfold Builtin.«object.__ne__»
    refine wpAny_bind (wpAny_of_eq (a := (Value.ref x, [b])) (by first | rfl | kernel_rfl) ?_)
    refine wpAny_bind (wpAny_cRoomFor (by exact hu) ?_)
    refine wpAny_bind (ifBound_K X I hs hf (wpAny_mono h (fun v s' hv => ?_) fun _ _ e => e))
    obtain ⟨k, rfl, q⟩ := hv
    exact wpAny_bind (wpAny_truthy_bool (wpAny_pure ⟨_, rfl, ⟨_, rfl⟩, q⟩))
  have hcall : wpAny (model prog w) A (call (.builtin "object.__ne__") [.ref x, b]) (fun v s' => (∃ k, v = .bool k) ∧ Q v s') E s := by
    refine wpAny_call (codeAny_call_builtin F.cmp_object.ne.plain F.cmpEntry_ne (check_slot F.cmpKind_ne F.cmpSplit_ne ?_ (F.cmpArgs_ne _ _) (wpAny_mono hbody (fun fin s' hq => ?_) fun _ _ e => e)))
    · exact (I.type (M := model prog w)).andThen (looks_mroIn X hm)
    · obtain ⟨v, rfl, hv, q⟩ := hq
      exact ⟨hv, q⟩
  have one : wpAny (model prog w) A (tryCompare (.ref x) "__ne__" b) (fun r s' => ∃ v, r = some v ∧ Q v s') E s := by
    unfold tryCompare
    refine wpAny_bind ?_
    simp only [callSpecialIfBound?, bindSpecialIfBound?]
    refine wpAny_holding (wpAny_bind (wpAny_bind (wpAny_bind (I.type.here ((looks_findIn X hne).here ?_)))))
    simp only [F.cmp_object.ne.bind]
    refine wpAny_bind (wpAny_askSetting (wpAny_ite ?_))
    have fin : wpAny (model prog w) A (call (.builtin "object.__ne__") ([.ref x] ++ [b]) >>= fun v => pure (some v)) (fun r s' => wpAny (model prog w) A (match r with
      | some .notImplemented | none => pure none
      | some v => pure (some v)) (fun r s' => ∃ v, r = some v ∧ Q v s') E s') E s := by
      refine wpAny_bind (wpAny_mono hcall (fun v s' h' => wpAny_pure ?_) fun _ _ h' => h')
      obtain ⟨⟨k, rfl⟩, q⟩ := h'
      exact wpAny_pure ⟨_, rfl, q⟩
    split
    · exact wpAny_bind (wpAny_pure (wpAny_pure fin))
    · exact wpAny_tryCatch (wpAny_bind (wpAny_pure (wpAny_pure fin)))
  unfold richCompare
  simp only [oneThing_ref]
  refine wpAny_holding (wpAny_bind (wpAny_cRoomFor (by omega) ?_))
  refine wpAny_bind (I.type.here (wpAny_bind (hb.here ?_)))
  split
  · rename_i q
    have e : subIn K tb (.ref C) = some false := by
      rcases Bool.or_eq_true_iff.mp hn with e | e
      · rw [beq_iff_eq.mp e] at q; simp at q
      · exact beq_iff_eq.mp e
    refine wpAny_bind ((looks_subIn X e).here ?_)
    simp only [Bool.false_eq_true, if_false]
    refine wpAny_bind (wpAny_mono one (fun r s' z => ?_) fun _ _ e => e)
    obtain ⟨v, rfl, hq⟩ := z
    exact wpAny_pure hq
  · refine wpAny_bind (wpAny_pure ?_)
    simp only [Bool.false_eq_true, if_false]
    refine wpAny_bind (wpAny_mono one (fun r s' z => ?_) fun _ _ e => e)
    obtain ⟨v, rfl, hq⟩ := z
    exact wpAny_pure hq
end
end PySem.W

set_option Elab.async false
set_option linter.all false
set_option maxRecDepth 100000
set_option maxHeartbeats 4000000
namespace Vi
open PySem L2 PyProof.Rows

/-! ### len(set(texts)) -/
def ndS (acc : List Str) (x : Str) : List Str := if x ∈ acc then acc else acc ++ [x]
/-- each text once -/
def nd (xs : List Str) : List Str := xs.foldl ndS []
theorem nd_succ {xs : List Str} {i : Nat} (h : i < xs.length) : nd (xs.take (i + 1)) = ndS (nd (xs.take i)) xs[i] := by
  rw [List.take_succ_eq_append_getElem h]
  unfold nd
  rw [List.foldl_append]
  rfl
theorem ndS_mem (acc : List Str) (x k : Str) : decide (k ∈ ndS acc x) = (decide (k ∈ acc) || decide (k = x)) := by
  unfold ndS
  by_cases h : x ∈ acc
  · rw [if_pos h]
    by_cases e : k = x
    · subst e; simp [h]
    · simp [e]
  · rw [if_neg h]
    simp [List.mem_append]
theorem ndS_len (acc : List Str) (x : Str) : (ndS acc x).length = if decide (x ∈ acc) = true then acc.length else acc.length + 1 := by
  unfold ndS
  by_cases h : x ∈ acc
  · simp [h]
  · simp [h]
theorem ndS_le (acc : List Str) (x : Str) : (ndS acc x).length ≤ acc.length + 1 := by
  rw [ndS_len]
  split <;> omega
theorem nd_le : ∀ (i : Nat) (xs : List Str), (nd (xs.take i)).length ≤ i
  | 0, xs => by rw [List.take_zero]; exact Nat.le_refl _
  | i + 1, xs => by
    by_cases h : i < xs.length
    · rw [nd_succ h]
      exact Nat.le_trans (ndS_le _ _) (Nat.succ_le_succ (nd_le i xs))
    · rw [List.take_of_length_le (by omega), ← List.take_of_length_le (i := i) (by omega : xs.length ≤ i)]
      exact Nat.le_succ_of_le (nd_le i xs)
theorem txt_at : ∀ {ys : List Str} {us : List Value}, Vals (ys.map L2.V.str) us → ∀ (i : Nat) (v : Value), us[i]? = some v → ∃ (h : i < ys.length) (t : Tok), v = .str ys[i] t
  | [], _, .nil, i, v, e => by simp at e
  | y :: ys, _, .cons r t, 0, v, e => by
    obtain ⟨k, rfl⟩ := r
    simp at e
    exact ⟨by simp, k, e.symm⟩
  | y :: ys, _, .cons r t, i + 1, v, e => by
    rw [List.getElem?_cons_succ] at e
    obtain ⟨h, k, e2⟩ := txt_at t i v e
    exact ⟨by simp; omega, k, e2⟩
section
variable {prog : Program} {w : World} {A : Around} {R : Result → Shared → Prop} {I : Addr} {fp wr : List Addr} {G : Array GenState → Array GenState → Prop} {n : Nat} {P : Nat → Value → Prop} {St : Nat → Shared → Prop}
/-- the walk that fills a set with texts -/
theorem set_fill (W : WalksS prog w A.in1 I fp wr G n P St) {S : Addr} (hSf : S ∉ fp) {xs : List Str} (hn : n = xs.length) (hval : ∀ i v, P i v → ∃ (h : i < xs.length) (t : Tok), v = .str xs[i] t) (hb : n + 1 < scanBound) :
    ∀ (k i : Nat) (s : Shared), n - i = k → i ≤ n → St i s → s.heap.SetOf (PySem.strKind prog w) S (fun y => decide (y ∈ nd (xs.take i))) (nd (xs.take i)).length →
      (∀ s', Moved (S :: wr) G s s' → s'.heap.SetOf (PySem.strKind prog w) S (fun y => decide (y ∈ nd xs)) (nd xs).length → R (.ok (.ret .none)) s') → codeAny (model prog w) A (.builtin "set.update.loop" ⟨[.ref S, .ref I], []⟩) R s := by
  have hSw : S ∉ wr := fun h => hSf (W.sub _ h)
  have stay : ∀ {s s' : Shared} {f : Str → Bool} {c : Nat}, s.heap.SetOf (PySem.strKind prog w) S f c → Moved wr G s s' → s'.heap.SetOf (PySem.strKind prog w) S f c := fun hS hm => by
    obtain ⟨o, es, ep, t, ho, rest⟩ := hS
    exact ⟨o, es, ep, t, hm.heap S _ hSw ho, rest⟩
  have up : ∀ {s s' : Shared}, Moved wr G s s' → Moved (S :: wr) G s s' := fun hm => hm.mono fun b hb => List.mem_cons_of_mem _ hb
  intro k
  induction k with
  | zero =>
    intro i s hk hi hst hS hR
    obtain rfl : i = n := by omega
    rw [List.take_of_length_le (by omega)] at hS
    refine codeAny_builtin PyProof.Rows.F.entry_set_update_loop ?_
    rw [Around.under_plainId PyProof.Rows.F.plain_set_update_loop _]
    show wpAny _ A.in1 (pyNext (.ref I) >>= _) _ _ s
    refine wpAny_bind (W.done s _ _ hst fun s1 hm => ?_)
    exact wpAny_pure (hR s1 (up hm) (stay hS hm))
  | succ k ih =>
    intro i s hk hi hst hS hR
    refine codeAny_builtin PyProof.Rows.F.entry_set_update_loop ?_
    rw [Around.under_plainId PyProof.Rows.F.plain_set_update_loop _]
    show wpAny _ A.in1 (pyNext (.ref I) >>= _) _ _ s
    refine wpAny_bind (W.item i s _ _ (by omega) hst fun v s1 hP hst1 hm => ?_)
    obtain ⟨hlt, t, rfl⟩ := hval i v hP
    show wpAny _ A.in1 (holding [Value.str xs[i] t] (setAdd S (.str xs[i] t)) >>= _) _ _ s1
    refine wpAny_bind (wpAny_holding ?_)
    unfold setAdd
    refine wpAny_holding (wpAny_bind ((PySem.strKind prog w).pyHash (k := xs[i]) (strKind_is _ _ _ _) ?_))
    have hS1 := stay hS hm
    have room : (nd (xs.take i)).length + 1 < scanBound := by
      have := nd_le i xs
      omega
    refine wpAny_setAddHashed_of (knd := PySem.strKind prog w) (s := { s1 with toks := s1.toks + 1 }) (strKind_is _ _ _ _) rfl hS1 room fun h2 sb hS2 => ?_
    have hS3 : h2.SetOf (PySem.strKind prog w) S (fun y => decide (y ∈ nd (xs.take (i + 1)))) (nd (xs.take (i + 1))).length :=
      SetOf_congr hS2 (fun y => by rw [nd_succ hlt, ndS_mem]) (by rw [nd_succ hlt, ndS_len])
    have keep : ∀ b o, b ≠ S → s1.heap.get? b = some o → h2.get? b = some o := fun b o hb e => by rw [sb.2 b hb]; exact e
    refine wpAny_pure ⟨plainId_quiet PyProof.Rows.F.plain_set_update_loop _, ih (i + 1) _ (by omega) (by omega) (W.frame _ s1 _ _ hst1 (Nat.le_succ _) fun b hb o e => keep b o (fun z => hSf (z ▸ hb)) e) hS3 fun s3 hm3 hS4 => ?_⟩
    exact hR s3 (Moved.trans W.gtrans ((up hm).then_heap (Nat.le_succ _) fun b o hb e => keep b o (fun z => hb (z ▸ List.mem_cons_self)) e) hm3) hS4
end
section
variable {prog : Program} {w : World} {A : Around} {E : Value → Shared → Prop} {s : Shared}
theorem call_set_txt {T iT : String} {l : Addr} {od : Option Addr} {n : Nat} {sl : Array (Option Value)} {items : Array Value} {xs : List Str} {Is : Heap → Prop} {St : Addr → Nat → Heap → Prop} {Q : Value → Shared → Prop}
    (hsls : isSubtype (.type T) (.type "set") = pure false) (hslf : isSubtype (.type T) (.type "frozenset") = pure false) (hne : (Value.type T == Value.type "dict") = false)
    (hl : s.heap.get? l = some { cls := .type T, dict := od, data := .seq items n, slots := sl })
    (hIs : ∀ h : Heap, (∀ o, s.heap.get? l = some o → h.get? l = some o) → Is h)
    (hit : ∀ {A : Around} {E : Value → Shared → Prop} {s1 : Shared} {Q : Value → Shared → Prop}, Is s1.heap → Q (.ref s1.heap.objs.size) { s1 with heap := s1.heap.push { cls := .type iT, data := .fields #[.ref l, .int 0 0] } } → wpAny (model prog w) A (pyIter (.ref l)) Q E s1)
    (hSt : ∀ {h : Heap} {a : Addr}, h.get? a = some { cls := .type iT, data := .fields #[.ref l, .int 0 0] } → Is h → St a 0 h)
    (hW : ∀ {A : Around} {a : Addr}, A.handled = none → l ≠ a → Walks prog w A a [a, l] [a] items.size (fun i v => items[i]? = some v) (St a))
    (hh : A.handled = none) (hv : Vals (xs.map L2.V.str) items.toList) (hb : xs.length + 1 < scanBound)
    (h : ∀ (h' : Heap) (tk : Nat), h'.SetOf (PySem.strKind prog w) s.heap.objs.size (fun y => decide (y ∈ nd xs)) (nd xs).length → (∀ b o, b < s.heap.objs.size → s.heap.get? b = some o → h'.get? b = some o) → Q (.ref s.heap.objs.size) { s with heap := h', toks := tk }) :
    wpAny (model prog w) A (call (.type "set") [.ref l]) Q E s := by
  have hx : items.size = xs.length := by
    have e := hv.length
    rw [List.length_map, Array.length_toList] at e
    exact e.symm
  obtain ⟨c, tl, hmro⟩ := PySem.F.called_set.mro
  have hmade := PySem.F.called_set.made
  have hsub := PySem.F.called_set.sub
  have h1 := PySem.F.called_set.notType
  have h2 := PySem.F.called_set.canCreate
  have hct := PySem.F.typeCall_set_1 (.ref l)
  refine wpAny_call (codeAny_of_tree ?_)
  show wpAny _ _ (callAny (.type "set") _) _ _ _
  refine wpAny_pure ⟨Code.quiet_builtin _ (by decide +kernel), codeAny_builtin PySem.F.entry_type_call ?_⟩
  rw [Around.under_plain (weight_type_call_type "set" [.ref l] []) rfl]
  repeat (any_goals (first | assumption | wp_step))
  have fresh : ∀ led : Bool, (s.heap.push { cls := .type "set", dict := none, data := .set #[] 0 (.fresh 0 0 led) }).get? s.heap.objs.size = some { cls := .type "set", dict := none, data := .set #[] 0 (.fresh 0 0 led) } := fun _ => Heap.get?_push_size _ rfl
  refine codeAny_mono (code_set_new_1 (.ref l) (E := E) (Q₁ := fun obj s1 => ∃ led : Bool, obj = .ref s.heap.objs.size ∧ s1 = { s with heap := s.heap.push { cls := .type "set", dict := none, data := .set #[] 0 (.fresh 0 0 led) } }) fun led => ⟨led, rfl, rfl⟩) fun r s1 hr => ?_
  cases r with
  | error e => exact hr
  | ok fl =>
    cases fl with
    | next => exact hr.elim
    | brk => exact hr.elim
    | cont => exact hr.elim
    | ret obj =>
      obtain ⟨led, rfl, rfl⟩ := hr
      have hS := fresh led
      have hT : Shared.TypeIs { s with heap := s.heap.push { cls := .type "set", dict := none, data := .set #[] 0 (.fresh 0 0 led) } } (.ref s.heap.objs.size) "set" := ⟨_, hS, rfl⟩
      have hli := PySem.F.called_set.init.lookup
      have hbi := PySem.F.called_set.init.bind (.ref s.heap.objs.size)
      repeat (any_goals (first | assumption | wp_step))
      refine codeAny_mono (codeAny_call_builtin (R := wants (fun r s2 => r = .none ∧ ∃ h' tk, s2 = { s with heap := h', toks := tk } ∧ h'.SetOf (PySem.strKind prog w) s.heap.objs.size (fun y => decide (y ∈ nd xs)) (nd xs).length ∧
          (∀ b o, b < s.heap.objs.size → s.heap.get? b = some o → h'.get? b = some o)) E) PySem.F.called_set.init.plain PySem.F.entry_set_init (check_set_init_1 hT ?_)) fun r2 s2 hr2 => ?_
      · have hl2 : (s.heap.push { cls := .type "set", dict := none, data := .set #[] 0 (.fresh 0 0 led) }).get? l = some { cls := .type T, dict := od, data := .seq items n, slots := sl } := Heap.get?_push_of_some _ hl
        have hI2 : Is (s.heap.push { cls := .type "set", dict := none, data := .set #[] 0 (.fresh 0 0 led) }) := hIs _ fun o e => Heap.get?_push_of_some _ e
        unfold Builtin.«set.__init__» noKeywords Builtin.Frozenset.updateFrom
        generalize hPI : pyIter = PI
        wp_walk
        subst hPI
        refine hit hI2 ?_
        refine wpAny_bind (wpAny_runValue ?_)
        have hlS : l < s.heap.objs.size := Heap.lt_size hl
        have hlI : l ≠ (s.heap.push { cls := .type "set", dict := none, data := .set #[] 0 (.fresh 0 0 led) }).objs.size := by
          rw [Heap.size_push]
          exact Nat.ne_of_lt (Nat.lt_succ_of_lt hlS)
        refine set_fill ((hW (A := A.in1.in1.in1) (by simp [hh]) hlI).toS) (S := s.heap.objs.size) (xs := xs) ?_ hx (fun i v e => txt_at hv i v (by rw [Array.getElem?_toList]; exact e)) (by rw [hx]; exact hb) (items.size - 0) 0 _ rfl (Nat.zero_le _) ?_ ?_ ?_
        · rw [Heap.size_push]
          simp only [List.mem_cons, List.not_mem_nil, or_false, not_or]
          exact ⟨Nat.ne_of_lt (Nat.lt_succ_self _), Nat.ne_of_gt hlS⟩
        · exact hSt (Heap.get?_push_size _ rfl) (hIs _ fun o e => Heap.get?_push_of_some _ (Heap.get?_push_of_some _ e))
        · have hget : ((s.heap.push { cls := .type "set", dict := none, data := .set #[] 0 (.fresh 0 0 led) }).push { cls := .type iT, data := .fields #[.ref l, .int 0 0] }).get? s.heap.objs.size = some { cls := .type "set", dict := none, data := .set #[] 0 (.fresh 0 0 led) } := Heap.get?_push_of_some _ hS
          exact SetOf_congr ((setObjOf_fresh (knd := PySem.strKind prog w) led).setOf hget (by unfold scanBound; omega)) (fun y => rfl) rfl
        · intro s3 hm hS3
          obtain ⟨h', g', d', tk', os'⟩ := s3
          obtain rfl : g' = s.gens := hm.gens
          obtain rfl : d' = s.drawn := hm.drawn
          obtain rfl : os' = s.os := hm.os
          show wpAny _ _ _ _ _ _
          refine wpAny_pure ?_
          show wpAny _ _ (ret Value.none) _ _ _
          refine wpAny_pure ⟨rfl, h', tk', rfl, hS3, fun b o hb e => ?_⟩
          refine hm.heap b o ?_ (Heap.get?_push_of_some _ (Heap.get?_push_of_some _ e))
          rw [Heap.size_push]
          simp only [List.mem_cons, List.not_mem_nil, or_false, not_or]
          exact ⟨Nat.ne_of_lt hb, Nat.ne_of_lt (Nat.lt_succ_of_lt hb)⟩
      · cases r2 with
        | error e => exact hr2
        | ok fl2 =>
          cases fl2 with
          | next => exact hr2.elim
          | brk => exact hr2.elim
          | cont => exact hr2.elim
          | ret r =>
            obtain ⟨rfl, h', tk, rfl, hS', hk'⟩ := hr2
            repeat (any_goals (first | assumption | wp_step))
            exact h _ _ hS' hk'
end

theorem call_set_txtL {prog : Program} {w : World} {A : Around} {E : Value → Shared → Prop} {s : Shared} {l : Addr} {its : List Value} {xs : List Str} {Q : Value → Shared → Prop} (hl : s.heap.IsList l its.toArray) (hh : A.handled = none) (hv : Vals (xs.map L2.V.str) its) (hb : xs.length + 1 < scanBound)
    (h : ∀ (h' : Heap) (tk : Nat), h'.SetOf (PySem.strKind prog w) s.heap.objs.size (fun y => decide (y ∈ nd xs)) (nd xs).length → (∀ b o, b < s.heap.objs.size → s.heap.get? b = some o → h'.get? b = some o) → Q (.ref s.heap.objs.size) { s with heap := h', toks := tk }) :
    wpAny (model prog w) A (call (.type "set") [.ref l]) Q E s := by
  obtain ⟨⟨oc, od, dt, sl⟩, ho, hc, n, hd⟩ := id hl
  obtain rfl : oc = .type "list" := hc
  obtain rfl : dt = .seq its.toArray n := hd
  exact call_set_txt (T := "list") (iT := "list_iterator") (Is := fun h => h.IsList l its.toArray) (St := fun a i h => h.IsListIter a l i ∧ h.IsList l its.toArray) PySem.F.sub_list_set PySem.F.sub_list_frozenset (by decide) ho
    (fun h k => ⟨_, k _ ho, rfl, n, rfl⟩) (fun hi q => wpAny_pyIter_list hi q) (fun e hi => ⟨⟨_, e, rfl, rfl⟩, hi⟩) (fun hA ne => Walks.list hA _ l ne its.toArray) hh hv hb h
theorem call_set_txtT {prog : Program} {w : World} {A : Around} {E : Value → Shared → Prop} {s : Shared} {l : Addr} {its : List Value} {xs : List Str} {Q : Value → Shared → Prop} (hl : s.heap.IsTuple l its.toArray) (hh : A.handled = none) (hv : Vals (xs.map L2.V.str) its) (hb : xs.length + 1 < scanBound)
    (h : ∀ (h' : Heap) (tk : Nat), h'.SetOf (PySem.strKind prog w) s.heap.objs.size (fun y => decide (y ∈ nd xs)) (nd xs).length → (∀ b o, b < s.heap.objs.size → s.heap.get? b = some o → h'.get? b = some o) → Q (.ref s.heap.objs.size) { s with heap := h', toks := tk }) :
    wpAny (model prog w) A (call (.type "set") [.ref l]) Q E s := by
  obtain ⟨⟨oc, od, dt, sl⟩, ho, hc, n, hd⟩ := id hl
  obtain rfl : oc = .type "tuple" := hc
  obtain rfl : dt = .seq its.toArray n := hd
  exact call_set_txt (T := "tuple") (iT := "tuple_iterator") (Is := fun h => h.IsTuple l its.toArray) (St := fun a i h => h.IsTupleIter a l i ∧ h.IsTuple l its.toArray) PySem.F.sub_tuple_set PySem.F.sub_tuple_frozenset (by decide) ho
    (fun h k => ⟨_, k _ ho, rfl, n, rfl⟩) (fun hi q => wpAny_pyIter_tuple hi q) (fun e hi => ⟨⟨_, e, rfl, rfl⟩, hi⟩) (fun hA ne => Walks.tuple hA _ l ne its.toArray) hh hv hb h
def strs? : List D → Option (List Str)
  | [] => some []
  | .str x :: r => (strs? r).map (x :: ·)
  | _ :: _ => none
theorem strs_rep {g : Gi} {F : Hp} {al : Nat → Option Addr} : ∀ {ds : List D} {vs : List L2.V} {xs : List Str}, Reps g F al ds vs → strs? ds = some xs → vs = xs.map L2.V.str
  | [], vs, xs, r, e => by
    cases e
    exact r
  | d :: ds, vs, xs, ⟨v, ws, h1, r1, r2⟩, e => by
    cases d with
    | str x =>
      have e : (strs? ds).map (x :: ·) = some xs := e
      obtain ⟨ys, e1, rfl⟩ := Option.map_eq_some_iff.mp e
      rw [h1, strs_rep r2 e1, show v = .str x from r1]
      rfl
    | _ => cases e
/-- len(set(x)), x a list or a tuple of texts -/
def fLenSet (x : Vl) (h : Hc) : R Vl := match (match lst? h x with
    | some ys => some ys
    | none => tup? x) with
  | some ys => (match strs? ys with
    | some xs => if xs.length ≤ 4000 then .ok (.d (.int (nd xs).length)) h else .stuck
    | none => .stuck)
  | none => .stuck
section
variable {X : Cx} {g : Gi} {B : Bg} {W : WXv} {a : Expr} {m : ME} {p p2 q pos : Pos}
theorem ve_lenSet (b : Bd X g W) (hg : Gl X "len") (hm : X.mg "len" = none) (hg2 : Gl X "set") (hm2 : X.mg "set" = none) (ha : PE X a (tE g B W m))
    (na : starEach [a] X.env = (false, eval a X.env) :: starEach [] X.env := by rfl) : PE X (.Call (.Name "len" p) [.Call (.Name "set" p2) [a] [] q] [] pos) (tE g B W (m1 fLenSet m)) := by
  refine ⟨fun pins s σ H Q I ⟨env, st, sr, pp⟩ => ?_⟩
  refine Call_ (ld_blt I hg hm boot_len ?_)
  refine callWith_builtin1 (args_cons ?_ rfl) rfl rfl
  refine Call_ (ld_blt I hg2 hm2 boot_set ?_)
  refine callWith_type1 (args_cons (thn (ha.run pins s σ H _ I (bindE (Q := Q) sr pp)) fun v s1 ⟨x, H1, I1, r1, st1, y, sr1, _, ry, p1⟩ => args_nil ?_) na) na rfl
  unfold fLenSet at p1
  split at p1
  · next ys ey =>
    split at p1
    · next xs ex =>
      split at p1
      · next hx =>
        have hb : xs.length + 1 < scanBound := by unfold scanBound; omega
        have fin : ∀ (h' : Heap) (tk : Nat), h'.SetOf (PySem.strKind X.prog X.w) s1.heap.objs.size (fun y => decide (y ∈ nd xs)) (nd xs).length → (∀ b o, b < s1.heap.objs.size → s1.heap.get? b = some o → h'.get? b = some o) →
            wpAny (model X.prog X.w) X.A (spliced (backTo pos (starEach [] X.env))) (fun vs s2 => wpAny (model X.prog X.w) X.A (call (.builtin "len") (Value.ref s1.heap.objs.size :: vs)) (EP X pins σ Q) X.xe s2) X.xe { s1 with heap := h', toks := tk } := fun h' tk hS hk => by
          refine args_nil ?_
          obtain ⟨o, es, ep, t, ho, hex, hd, _, _, _, hf, hn⟩ := hS
          have I2 : Inv X pins σ H1 { s1 with heap := h', toks := tk } := I1.kept fun b o e => hk b o (Heap.lt_size e) e
          have hle : (nd xs).length ≤ 4000 := by
            have z := nd_le xs.length xs
            rw [List.take_length] at z
            omega
          refine call_len_set ho hex hd hf (by rw [hn]; omega) ⟨.int (nd xs).length, H1, I2.tok _, ⟨_, by rw [hn]⟩, PostE.pure sr1 p1 rfl⟩
        have hh := I1.ok.hd b.calm
        cases e1 : lst? st1.h y with
        | some zs =>
          rw [e1] at ey
          cases ey
          obtain ⟨a1, ws, rfl, hq, hr⟩ := ry.lst sr1.good e1
          cases r1
          obtain ⟨its, rv, pl, _⟩ := I1.list (b.K ▸ hq)
          rw [strs_rep hr ex] at rv
          exact call_set_txtL pl.isList hh rv hb fin
        | none =>
          rw [e1] at ey
          obtain ⟨a1, ws, rfl, hq, hr⟩ := ry.tup sr1.good ey
          cases r1
          obtain ⟨its, rv, pl, _⟩ := I1.tuple (b.K ▸ hq)
          rw [strs_rep hr ex] at rv
          exact call_set_txtT pl hh rv hb fin
      · exact p1.elim
    · exact p1.elim
  · exact p1.elim
end
end Vi

set_option Elab.async false
set_option linter.all false
set_option maxRecDepth 100000
set_option maxHeartbeats 2000000
namespace Vi
open PySem L2 PyProof.Rows

/-! ### e1 != e2, where an own class knows == -/
def fNes (g : Gi) (T : Tbl) (nf : Nat → Ty → Bool) (F0 : Vl → Vl → Hc → R Vl) (x y : Vl) (h : Hc) : R Vl := match x with
  | .d (.obj c fs) => (match T c, y with
    | some F, .d yd => (match yd.ty g with
      | some t => if nf c t then (F [.obj c fs, yd] h).bind fun d h' => (match d with
        | .bl k => .ok (.d (.bl (!k))) h'
        | _ => .stuck) else .stuck
      | none => .stuck)
    | _, _ => .stuck)
  | _ => F0 x y h
section
variable {X : Cx} {g : Gi} {W : WXv} {T : Tbl}
theorem o_nes {nf : Nat → Ty → Bool} {F0 : Vl → Vl → Hc → R Vl} (b : Bd X g W) (V : VOps X g "__eq__" 2 T) (hne : ∀ c F, T c = some F → PySem.W.findIn X.K (.ref (g.ca c)) "__ne__" = some (some (.builtin "object.__ne__")) ∧ PySem.W.mroIn X.K (g.ca c) (.type "object") = some true)
    (hnf : ∀ c t, nf c t = true → PySem.W.notFirst X.K (g.ca c) (t.val g) = true) (h0 : OpV X g (compareOp .NotEq) F0) : OpW X g W (compareOp .NotEq) (fNes g T nf F0) := by
  intro B env st σ H s pins x y v w u1 u2 Q I r1 r2 sr rx ry p
  unfold fNes at p
  split at p
  · next c fs =>
    split at p
    · next F yd hT =>
      split at p
      · next t ht =>
        split at p
        · next hc =>
          obtain ⟨k, f, fd, ps, FG, hr, hs, hf, hb, hn, _⟩ := (V c F hT).ex
          obtain ⟨n1, n2⟩ := hne c F hT
          obtain ⟨a, ox, od, rfl, rfl, J⟩ := obj_at b.G sr I rx r1
          have ty : TyX X.K H w (t.val g) := b.K ▸ Vl.tyX (x := .d yd) b.G sr.good ry (ty_up ht)
          obtain ⟨P, Z, pz, _⟩ := kit_of I r2 ty
          show wpAny _ _ (richCompare .NotEq (.ref a) u2) _ _ _
          refine PySem.W.vi_ne_K (tb := t.val g) (by have := b.un; omega) I.kIn J (Z.ty _ _ I.kIn pz) (hnf c t hc) n1 n2 hs hf ?_
          have p2 := PostE.keepQ p (fun v H' => ∃ k : Bool, v = .bl k ∧ Q (.bl (!k)) H') fun dd h' _ q => by
            cases dd with
            | bl k =>
              intro v H' s' e1 ev sr' vr
              exact ⟨k, vr, q _ H' s' e1 ev sr' rfl⟩
            | _ => exact q.elim
          refine wpAny_mono (run_op (A := X.A.in1) (vs := [.ref a, w]) b FG (.inr rfl) hr hb I (.cons rfl (.cons r2 .nil)) hn.symm sr (Reps.cons rx (Reps.cons ry Reps.nil)) p2) (fun u s' ⟨v', H', I', rv', k, e, q⟩ => ?_) fun _ _ z => z
          subst e
          cases rv'
          exact ⟨k, rfl, .bl (!k), H', I', rfl, q⟩
        · exact p.elim
      · exact p.elim
    · exact p.elim
  · obtain ⟨r, q1, q2⟩ := h0
    exact q1 pins s σ H v w u1 u2 Q I r1 r2 (q2 B W env st σ H x y v w Q sr rx ry p)
end

/-! ### list(x), a cell of its own -/
def fListC (xs : List Vl) (h : Hc) : R Vl := match xs with
  | [x] => (match lst? h x with
    | some ys => .ok (.d (.ref h.length)) (h ++ [.lst ys])
    | none => (match tup? x with
      | some ys => .ok (.d (.ref h.length)) (h ++ [.lst ys])
      | none => .stuck))
  | _ => .stuck
section
variable {X : Cx} {g : Gi}
theorem c_listC (hK : g.K = X.K) : CallV X g (.type "list") fListC := by
  refine ⟨_, call_list_of, fun B W env s σ H xs vs Q sr r p => ?_⟩
  have key : ∀ {ys : List D} {ws : List L2.V}, Reps g s.F s.al ys ws → PostE g B W env s σ H (.ok (.d (.ref s.h.length)) (s.h ++ [.lst ys])) Q → ∀ l, H l = none → Q (.ref l) (upd H l (.lst ws)) := fun {ys ws} q1 p l hl =>
    PostE.newC sr p hl ⟨ws, upd_same, q1⟩ fun _ z => by cases z
  unfold fListC at p
  split at p
  · obtain ⟨v, rfl, rr⟩ := r.one
    split at p
    · next ys e1 =>
      obtain ⟨a1, ws, rfl, h1, q1⟩ := rr.lst sr.good e1
      exact ⟨_, ws, rfl, .inl (hK ▸ h1), key q1 p⟩
    · split at p
      · next ys e1 =>
        obtain ⟨a1, ws, rfl, h1, q1⟩ := rr.tup sr.good e1
        exact ⟨_, ws, rfl, .inr (hK ▸ h1), key q1 p⟩
      · exact p.elim
  · exact p.elim
end

/-! ### repr of a list whose items are cells -/
def deref1 (h : Hc) : D → D
  | .ref n => (match h[n]?.map Cell.bare with
    | some (.lst xs) => .lst xs
    | _ => .ref n)
  | d => d
def derefV (h : Hc) : Vl → Vl
  | .d (.lst xs) => .d (.lst (xs.map (deref1 h)))
  | x => x
def fReprC (xs : List Vl) (h : Hc) : R Vl := match xs with
  | [.d (.lst ys)] => (match (Vl.d (.lst (ys.map (deref1 h)))).dat? with
    | some d => if shwB (toP d) then .ok (.d (.str (toP d).shown)) h else .stuck
    | none => .stuck)
  | _ => fRepr xs h
section
variable {X : Cx} {g : Gi} {s : Sta} {H : Hp}
theorem rep_deref1 (gd : Good g s H) : ∀ {d : D} {v : L2.V}, Rep g s.F s.al d v → Rep g H s.al (deref1 s.h d) v := by
  intro d v r
  unfold deref1
  split
  · next n =>
    split
    · next xs e =>
      obtain ⟨a, vs, rfl, h1, h2⟩ := ref_lst gd r (xs := xs) (by rw [e])
      exact ⟨a, vs, rfl, h1, h2.mono gd.fle fun _ _ z => z⟩
    · exact r.mono gd.fle fun _ _ z => z
  · exact r.mono gd.fle fun _ _ z => z
theorem reps_deref (gd : Good g s H) : ∀ {ds : List D} {vs : List L2.V}, Reps g s.F s.al ds vs → Reps g H s.al (ds.map (deref1 s.h)) vs
  | [], _, r => r
  | d :: ds, vs, ⟨v, ws, h1, r1, r2⟩ => ⟨v, ws, h1, rep_deref1 gd r1, reps_deref gd r2⟩
theorem c_reprC {W : WXv} (b : Bd X g W) : CallV X g (.builtin "repr") fReprC := by
  refine ⟨_, call_repr b.gd b.un, fun B W2 env s σ H xs vs Q sr r p => ?_⟩
  unfold fReprC at p
  split at p
  · next ys =>
    obtain ⟨v, rfl, rv⟩ := r.one
    cases e : (Vl.d (.lst (ys.map (deref1 s.h)))).dat? with
    | none => rw [e] at p; exact p.elim
    | some d =>
      rw [e] at p
      by_cases hs : shwB (toP d) = true
      · simp only [if_pos hs] at p
        obtain ⟨a, ws, rfl, h1, h2⟩ := rv
        have e : (if dat (.lst (ys.map (deref1 s.h))) then some (D.lst (ys.map (deref1 s.h))) else none) = some d := e
        split at e
        · next hd =>
          cases e
          have rr : Rep g H s.al (.lst (ys.map (deref1 s.h))) (.ref a) := ⟨a, ws, rfl, sr.good.fle _ _ h1, reps_deref sr.good h2⟩
          exact ⟨.ref a, _, rfl, b.K ▸ dp_of (fun _ _ z => z) rr hd, hasDict_toP _, hs, PostE.pure sr p rfl⟩
        · cases e
      · simp only [if_neg hs] at p
        exact p.elim
  · unfold fRepr at p
    split at p
    · next x _ =>
      obtain ⟨v, rfl, rv⟩ := r.one
      cases e : x.dat? with
      | none => rw [e] at p; exact p.elim
      | some d =>
        rw [e] at p
        by_cases hs : shwB (toP d) = true
        · simp only [if_pos hs] at p
          exact ⟨v, toP d, rfl, b.K ▸ VlRep.dp' sr.good rv e, hasDict_toP d, hs, PostE.pure sr p rfl⟩
        · simp only [if_neg hs] at p
          exact p.elim
    · exact p.elim
end
end Vi

set_option Elab.async false
set_option linter.all false
set_option maxRecDepth 100000
set_option maxHeartbeats 2000000
namespace Vi
open PySem L2 PyProof.Rows

/-! ### [.. for c in text] -/
def chD (z : Str) : List D := z.cps.toList.map fun c => .str ⟨#[c]⟩
theorem chD_get? (z : Str) (i : Nat) : (chD z)[i]? = (z.cps[i]?).map fun c => D.str ⟨#[c]⟩ := by
  unfold chD
  rw [List.getElem?_map, Array.getElem?_toList]
def mCompS (o : Bool) (own : List Nat) (T : TgF) (mt : MB) (me src : ME) : ME := fun env h => (src env h).bind fun x h1 => match x with
  | .d (.str z) => compL o T mt me (chD z) [] (wipeE env own) h1
  | _ => .stuck
section
variable {X : Cx} {g : Gi} {B : Bg} {W : WXv} {own : List Nat} {o : Bool} {T : TgF} {mt : MB} {me m : ME} {t : TG} {σ : L2.St} {H : Hp} {Q : VK}
theorem lc_ofS (q1 : CgQ g own t T) (h : tE g B W (mCompS o own T mt me m) σ H Q) :
    tLc (iStr (tE g B W m)) t (tT g B (fun _ _ _ _ => False) mt) (tE g B (fun _ _ _ _ => False) me) own σ H Q := by
  obtain ⟨env, s, sr, p⟩ := h
  have p : PostE g B W env s σ H ((m env s.h).bind fun x h1 => match x with
    | .d (.str z) => compL o T mt me (chD z) [] (wipeE env own) h1
    | _ => .stuck) Q := p
  refine (bindE (Q := Q) sr p).mono fun v H1 ⟨s1, x, sr1, ev1, r1, p1⟩ => ?_
  split at p1
  · next z =>
    have r1 : v = .str z := r1
    have hn : (chD z).length = z.cps.size := by unfold chD; rw [List.length_map, Array.length_toList]
    refine ⟨z, r1, fun Dn hD => ⟨fun i k H => k = z.cps.size - i ∧ i ≤ z.cps.size ∧ CInv g B W env s1 σ H1 own o T mt me Q Dn ((chD z).drop i) H, ⟨z.cps.size, by simp, Nat.zero_le _, comp_start sr1 hD p1⟩, ?_⟩⟩
    rintro i k H ⟨rfl, hi, c⟩
    by_cases hlt : i < z.cps.size
    · refine .inr ⟨hlt, CInv g B W env s1 σ H1 own o T mt me Q Dn ((chD z).drop (i + 1)), fun H' c' => ⟨z.cps.size - (i + 1), by omega, rfl, hlt, c'⟩, fun x H' y => ?_⟩
      obtain ⟨rfl, ch, hc, rfl⟩ := y
      have hl : i < (chD z).length := by rw [hn]; exact hlt
      have e1 : (chD z)[i] = .str ⟨#[ch]⟩ := by
        have z2 := List.getElem?_eq_getElem hl
        rw [chD_get?, hc] at z2
        exact (Option.some.inj z2).symm
      rw [List.drop_eq_getElem_cons hl, e1] at c
      exact comp_turn q1 sr1 hD c fun s' e2 => (show Rep g s'.F s'.al (.str ⟨#[ch]⟩) (.str ⟨#[ch]⟩) from rfl)
    · have hi2 : i = z.cps.size := by omega
      subst hi2
      rw [List.drop_of_length_le (by omega)] at c
      exact .inl ⟨Nat.le_refl _, comp_end sr1 hD c⟩
  · exact p1.elim
end
section
variable {X : Cx} {g : Gi} {B : Bg} {W : WXv} {own : List (Str × Nat)} {o : Bool} {T : TgF} {mt : MB} {me m : ME} {t : TG} {elt tg iter : Expr} {ifs : List Expr} {scope : Scope} {pos : Pos}
theorem ve_lcS (o : Bool) (b : Bd X g W) (hN : X.N.Nodup) (he : PE X iter (tE g B W m)) (ok : BlkOk X.N X.env.scope scope own) (q1 : CgQ g (own.map (·.2)) t T)
    (hg : ∀ (s : Shared) (H : Hp) (C : Addr) (cl : List (Str × Addr)) (fp : List Addr), PG (X.blk s H scope (compEnvC scope cl C X.env) fp) tg t)
    (ht : ∀ (s : Shared) (H : Hp) (C : Addr) (cl : List (Str × Addr)) (fp : List Addr), PTs (X.blk s H scope (compEnvC scope cl C X.env) fp) ifs (tT g B (fun _ _ _ _ => False) mt))
    (hel : ∀ (s : Shared) (H : Hp) (C : Addr) (cl : List (Str × Addr)) (fp : List Addr), PE (X.blk s H scope (compEnvC scope cl C X.env) fp) elt (tE g B (fun _ _ _ _ => False) me)) (hs : ∀ x, foldedSetIterable iter X.env x = pure x := by intro _; rfl) :
    PE X (.ListComp elt [⟨tg, iter, ifs, 0⟩] scope pos) (tE g B W (mCompS o (own.map (·.2)) T mt me m)) :=
  pe_imp (pe_lc b.calm hN (pi_str (tg := tg) he) ok hg ht hel hs) fun σ H Q h => lc_ofS q1 h
end
/-! ### __iter__, ready -/
structure RdyIt (P : Program) (w : World) (K : PySem.W.Frag) (mg : Str → Option Value) (base : Heap) (g : Gi) (c k : Nat) (m : ME) : Prop where
  ex : ∃ (f : Addr) (fd : FuncData) (ps : List Str), FnGS P w K mg base k f fd ps (spIt g 1 1 m) ∧ Meth K (g.ca c) "__iter__" f ∧ Binds K fd ps [] ∧ ps.length = 1
theorem RdyIt.v {X : Cx} {g : Gi} {c k j : Nat} {m : ME} (h : RdyIt X.prog X.w X.K X.mg X.base g c k m) (hr : Room j X.A) (hj : k + 4 ≤ j) : VIter X g c m := by
  obtain ⟨f, fd, ps, h1, h2, h3, h4⟩ := h.ex
  exact ⟨⟨k, f, fd, ps, h1, hr.mono hj, h2.at_, h2.fn, h3, h4⟩⟩

/-! ### more words; a module's plain names -/
theorem bt_all : bootBuiltins "all" = some (.builtin "all") := by decide +kernel
theorem bt_any : bootBuiltins "any" = some (.builtin "any") := by decide +kernel
theorem bt_sorted : bootBuiltins "sorted" = some (.builtin "sorted") := by decide +kernel
def kGlobI (x : Str) (i : Int) (K : PySem.W.Frag) : Bool := match PySem.W.nsIn K mainGlobals x with
  | some (some (.int j _)) => decide (j = i)
  | _ => false
def kGlobS (x : Str) (y : Str) (K : PySem.W.Frag) : Bool := match PySem.W.nsIn K mainGlobals x with
  | some (some (.str z _)) => decide (z = y)
  | _ => false
theorem gd_int {X : Cx} {g : Gi} {x : Str} {i : Int} (kin : X.K.In X.base) (gn : X.base.Ns mainGlobals X.mg) (h : kGlobI x i X.K = true) : GlobD X g x (.int i) := by
  unfold kGlobI at h
  split at h
  · next j t e =>
    obtain rfl : j = i := of_decide_eq_true h
    exact ⟨.int j, .int j t, PySem.W.mg_of kin gn e, ⟨t, rfl⟩, fun _ _ => rfl⟩
  · cases h
theorem gd_str {X : Cx} {g : Gi} {x : Str} {y : Str} (kin : X.K.In X.base) (gn : X.base.Ns mainGlobals X.mg) (h : kGlobS x y X.K = true) : GlobD X g x (.str y) := by
  unfold kGlobS at h
  split at h
  · next z t e =>
    obtain rfl : z = y := of_decide_eq_true h
    exact ⟨.str z, .str z t, PySem.W.mg_of kin gn e, ⟨t, rfl⟩, fun _ _ => rfl⟩
  · cases h

section
variable {X : Cx} {g : Gi} {B : Bg} {W : WXv} {pos : Pos} {a b c : Expr} {ma mb mc : ME}
/-- a chain as a test -/
theorem vt_chain {op op' : CmpOp} {F F' : Vl → Vl → Hc → R Vl} (ho : OpV X g (compareOp op) F) (ho' : OpV X g (compareOp op') F') (ha : PE X a (tE g B W ma)) (hb : PE X b (tE g B W mb)) (hc : PE X c (tE g B W mc))
    (hm : lastMarks [op, op'] [b, c] = false := by with_unfolding_all rfl) : PT X (.Compare a [op, op'] [b, c] pos) (tT g B W (asB (mChain F F' ma mb mc))) := by
  obtain ⟨r, h1, h2⟩ := ho
  obtain ⟨r', h1', h2'⟩ := ho'
  refine pt_imp (pt_chain h1 h1' ha hb hc hm) fun σ H Q h => ?_
  obtain ⟨env, s, sr, p⟩ := tE_asB h
  show tChain r r' (tE g B W ma) (tE g B W mb) (tE g B W mc) σ H _
  refine (bindE sr p).mono fun v H1 ⟨s1, x, sr1, _, r1, p1⟩ => (bindE sr1 p1).mono fun w H2 ⟨s2, y, sr2, e2, r2, p2⟩ => h2 B W env s2 σ H2 x y v w _ sr2 (r1.evo e2) r2 (p2.then.mono fun z H3 ⟨s3, q, sr3, e3, r3, p3⟩ => ?_)
  split at p3
  · exact ⟨true, r3, iteT ((bindE sr3 p3).mono fun u H4 ⟨s4, q4, sr4, e4, r4, p4⟩ => h2' B W env s4 σ H4 y q4 w u _ sr4 ((r2.evo e3).evo e4) r4 p4)⟩
  · exact ⟨false, r3, iteF (PostE.pure sr3 p3 rfl)⟩
  · exact p3.elim
end
end Vi

set_option Elab.async false
set_option linter.all false
set_option maxRecDepth 100000
set_option maxHeartbeats 4000000
namespace G02
open PySem L2 PyProof.Rows Vi
abbrev prog : Program := PySem.Challenge.pw_swornlots_k02_plants
def top (i : Nat) : Stmt := prog.main.body.getD i (.Pass ⟨0, 0, 0, 0⟩)
def clsB (s : Stmt) : List Stmt := match s with
  | .ClassDef (body := z) .. => z
  | _ => []
def sub (i j : Nat) : Stmt := (clsB (top i)).getD j (.Pass ⟨0, 0, 0, 0⟩)
def PDx : PD where
  nm := ["LotError", "BadPlant", "BadDeed", "NoThing", "Plant"]
  cls := [4]
  fld := [(4, "farms"), (4, "traits"), (4, "vessel_names"), (4, "vessels")]
  isi := [((.bt "NoneType", .bt "str"), false), ((.bt "bool", .bt "str"), false), ((.bt "int", .bt "str"), false), ((.bt "str", .bt "str"), true), ((.bt "tuple", .bt "str"), false), ((.bt "list", .bt "str"), false), ((.bt "NoneType", .bt "list"), false), ((.bt "bool", .bt "list"), false), ((.bt "int", .bt "list"), false), ((.bt "str", .bt "list"), false), ((.bt "tuple", .bt "list"), false), ((.bt "list", .bt "list"), true), ((.bt "NoneType", .bt "tuple"), false), ((.bt "bool", .bt "tuple"), false), ((.bt "int", .bt "tuple"), false), ((.bt "str", .bt "tuple"), false), ((.bt "tuple", .bt "tuple"), true), ((.bt "list", .bt "tuple"), false), ((.bt "NoneType", .bt "int"), false), ((.bt "bool", .bt "int"), true), ((.bt "int", .bt "int"), true), ((.bt "str", .bt "int"), false), ((.bt "tuple", .bt "int"), false), ((.bt "list", .bt "int"), false), ((.bt "NoneType", .bt "bool"), false), ((.bt "bool", .bt "bool"), true), ((.bt "int", .bt "bool"), false), ((.bt "str", .bt "bool"), false), ((.bt "tuple", .bt "bool"), false), ((.bt "list", .bt "bool"), false), ((.own 4, .own 4), true), ((.bt "list", .own 4), false), ((.own 1, .own 2), false), ((.own 1, .own 3), false), ((.own 1, .bt "ValueError"), true), ((.own 1, .own 1), true), ((.own 3, .own 3), true), ((.own 3, .bt "ValueError"), true), ((.own 3, .own 1), false)]
  xcs := [1, 3]
  xno := [(1, "part"), (3, "name")]
  nf := [(4, .own 4), (4, .bt "list")]
  kcs := [[(.str "and"), (.str "or"), (.str "not"), (.str "free"), (.str "untouched"), (.str "least"), (.str "most"), (.str "of"), (.str "since"), (.str "until"), (.str "single"), (.str "recipe"), (.str "take"), (.str "move"), (.str "drain"), (.str "wash"), (.str "pack"), (.str "repeat"), (.str "when"), (.str "else"), (.str "end"), (.str "done"), (.str "yes"), (.str "no"), (.str "none")]]
abbrev g0 : Gi := PDx.gi []
abbrev xsB : Nat → Bool := fun c => decide (c ∈ PDx.xcs)
abbrev xnB : Nat → Str → Bool := fun c f => decide ((c, f) ∈ PDx.xno)
abbrev nfB : Nat → Ty → Bool := fun c t => decide ((c, t) ∈ PDx.nf)
abbrev d_RESERVED : D := (.tup [(.str "and"), (.str "or"), (.str "not"), (.str "free"), (.str "untouched"), (.str "least"), (.str "most"), (.str "of"), (.str "since"), (.str "until"), (.str "single"), (.str "recipe"), (.str "take"), (.str "move"), (.str "drain"), (.str "wash"), (.str "pack"), (.str "repeat"), (.str "when"), (.str "else"), (.str "end"), (.str "done"), (.str "yes"), (.str "no"), (.str "none")])
abbrev d_LETTERS : D := (.str "abcdefghijklmnopqrstuvwxyz")
abbrev d_SIGNS : D := (.str "abcdefghijklmnopqrstuvwxyz0123456789")
abbrev d_LONGEST_NAME : D := (.int 8)
abbrev d_MOST_FARMS : D := (.int 4)
abbrev d_MOST_TRAITS : D := (.int 4)
abbrev d_MOST_VESSELS : D := (.int 6)
abbrev d_GREATEST_SIZE : D := (.int 10000)
def r_BadPlant_xinitx : DefV := ⟨pM "BadPlant" "__init__", "__init__", "BadPlant.__init__", defArgs (sub 2 0), defBody (sub 2 0), defScope (sub 2 0), []⟩
def r_BadDeed_xinitx : DefV := ⟨pM "BadDeed" "__init__", "__init__", "BadDeed.__init__", defArgs (sub 3 0), defBody (sub 3 0), defScope (sub 3 0), []⟩
def r_NoThing_xinitx : DefV := ⟨pM "NoThing" "__init__", "__init__", "NoThing.__init__", defArgs (sub 4 0), defBody (sub 4 0), defScope (sub 4 0), []⟩
def r_is_name : DefV := ⟨pG "is_name", "is_name", "is_name", defArgs (top 10), defBody (top 10), defScope (top 10), []⟩
def r_is_whole : DefV := ⟨pG "is_whole", "is_whole", "is_whole", defArgs (top 11), defBody (top 11), defScope (top 11), []⟩
def r_is_whole_within : DefV := ⟨pG "is_whole_within", "is_whole_within", "is_whole_within", defArgs (top 12), defBody (top 12), defScope (top 12), []⟩
def r_are_names : DefV := ⟨pG "are_names", "are_names", "are_names", defArgs (top 18), defBody (top 18), defScope (top 18), []⟩
def r_is_vessel : DefV := ⟨pG "is_vessel", "is_vessel", "is_vessel", defArgs (top 19), defBody (top 19), defScope (top 19), []⟩
def r_are_vessels : DefV := ⟨pG "are_vessels", "are_vessels", "are_vessels", defArgs (top 20), defBody (top 20), defScope (top 20), []⟩
def r_Plant_xinitx : DefV := ⟨pM "Plant" "__init__", "__init__", "Plant.__init__", defArgs (sub 21 0), defBody (sub 21 0), defScope (sub 21 0), []⟩
def r_Plant_xgetitemx : DefV := ⟨pM "Plant" "__getitem__", "__getitem__", "Plant.__getitem__", defArgs (sub 21 1), defBody (sub 21 1), defScope (sub 21 1), []⟩
def r_Plant_xcontainsx : DefV := ⟨pM "Plant" "__contains__", "__contains__", "Plant.__contains__", defArgs (sub 21 2), defBody (sub 21 2), defScope (sub 21 2), []⟩
def r_Plant_xiterx : DefV := ⟨pM "Plant" "__iter__", "__iter__", "Plant.__iter__", defArgs (sub 21 3), defBody (sub 21 3), defScope (sub 21 3), []⟩
def r_Plant_xlenx : DefV := ⟨pM "Plant" "__len__", "__len__", "Plant.__len__", defArgs (sub 21 4), defBody (sub 21 4), defScope (sub 21 4), []⟩
def r_Plant_xeqx : DefV := ⟨pM "Plant" "__eq__", "__eq__", "Plant.__eq__", defArgs (sub 21 5), defBody (sub 21 5), defScope (sub 21 5), []⟩
def r__law_bag : DefV := ⟨pG "_law_bag", "_law_bag", "_law_bag", defArgs (top 23), defBody (top 23), defScope (top 23), []⟩
def r__law_mixed : DefV := ⟨pG "_law_mixed", "_law_mixed", "_law_mixed", defArgs (top 24), defBody (top 24), defScope (top 24), []⟩
def r__law_draw : DefV := ⟨pG "_law_draw", "_law_draw", "_law_draw", defArgs (top 25), defBody (top 25), defScope (top 25), []⟩
def r__law_pick : DefV := ⟨pG "_law_pick", "_law_pick", "_law_pick", defArgs (top 26), defBody (top 26), defScope (top 26), []⟩
def r__law_name : DefV := ⟨pG "_law_name", "_law_name", "_law_name", defArgs (top 27), defBody (top 27), defScope (top 27), []⟩
def r__law_names : DefV := ⟨pG "_law_names", "_law_names", "_law_names", defArgs (top 28), defBody (top 28), defScope (top 28), []⟩
def r__law_p3_odd : DefV := ⟨pG "_law_p3_odd", "_law_p3_odd", "_law_p3_odd", defArgs (top 29), defBody (top 29), defScope (top 29), []⟩
def r__law_p3_names_told : DefV := ⟨pG "_law_p3_names_told", "_law_p3_names_told", "_law_p3_names_told", defArgs (top 30), defBody (top 30), defScope (top 30), []⟩
def r__law_p3_vessels : DefV := ⟨pG "_law_p3_vessels", "_law_p3_vessels", "_law_p3_vessels", defArgs (top 31), defBody (top 31), defScope (top 31), []⟩
def r__law_p3_spoilt_names : DefV := ⟨pG "_law_p3_spoilt_names", "_law_p3_spoilt_names", "_law_p3_spoilt_names", defArgs (top 32), defBody (top 32), defScope (top 32), []⟩
def r__law_p3_spoilt_vessels : DefV := ⟨pG "_law_p3_spoilt_vessels", "_law_p3_spoilt_vessels", "_law_p3_spoilt_vessels", defArgs (top 33), defBody (top 33), defScope (top 33), []⟩
def r__law_p3_refused : DefV := ⟨pG "_law_p3_refused", "_law_p3_refused", "_law_p3_refused", defArgs (top 34), defBody (top 34), defScope (top 34), []⟩
def r__law_p3_pair : DefV := ⟨pG "_law_p3_pair", "_law_p3_pair", "_law_p3_pair", defArgs (top 35), defBody (top 35), defScope (top 35), []⟩
def r__law_p3_fits : DefV := ⟨pG "_law_p3_fits", "_law_p3_fits", "_law_p3_fits", defArgs (top 36), defBody (top 36), defScope (top 36), []⟩
def r__law_p3_another : DefV := ⟨pG "_law_p3_another", "_law_p3_another", "_law_p3_another", defArgs (top 37), defBody (top 37), defScope (top 37), []⟩
def r_law : DefV := ⟨pG "law", "law", "law", defArgs (top 38), defBody (top 38), defScope (top 38), []⟩
def fn : List DefV := [r_BadPlant_xinitx, r_BadDeed_xinitx, r_NoThing_xinitx, r_is_name, r_is_whole, r_is_whole_within, r_are_names, r_is_vessel, r_are_vessels, r_Plant_xinitx, r_Plant_xgetitemx, r_Plant_xcontainsx, r_Plant_xiterx, r_Plant_xlenx, r_Plant_xeqx, r__law_bag, r__law_mixed, r__law_draw, r__law_pick, r__law_name, r__law_names, r__law_p3_odd, r__law_p3_names_told, r__law_p3_vessels, r__law_p3_spoilt_names, r__law_p3_spoilt_vessels, r__law_p3_refused, r__law_p3_pair, r__law_p3_fits, r__law_p3_another, r_law]
def ck : List (PySem.W.Frag → Bool) := [PDx.ok,
  (He.Fa.glo "BadDeed").ok,
  (He.Fa.glo "BadPlant").ok,
  (He.Fa.glo "LotError").ok,
  (He.Fa.glo "NoThing").ok,
  (He.Fa.glo "Plant").ok,
  (He.Fa.glo "RESERVED").ok,
  (He.Fa.glo "_law_bag").ok,
  (He.Fa.glo "_law_draw").ok,
  (He.Fa.glo "_law_mixed").ok,
  (He.Fa.glo "_law_name").ok,
  (He.Fa.glo "_law_names").ok,
  (He.Fa.glo "_law_p3_another").ok,
  (He.Fa.glo "_law_p3_fits").ok,
  (He.Fa.glo "_law_p3_names_told").ok,
  (He.Fa.glo "_law_p3_odd").ok,
  (He.Fa.glo "_law_p3_pair").ok,
  (He.Fa.glo "_law_p3_refused").ok,
  (He.Fa.glo "_law_p3_spoilt_names").ok,
  (He.Fa.glo "_law_p3_spoilt_vessels").ok,
  (He.Fa.glo "_law_p3_vessels").ok,
  (He.Fa.glo "_law_pick").ok,
  (He.Fa.glo "are_names").ok,
  (He.Fa.glo "are_vessels").ok,
  (He.Fa.glo "is_name").ok,
  (He.Fa.glo "is_vessel").ok,
  (He.Fa.glo "is_whole").ok,
  (He.Fa.glo "is_whole_within").ok,
  (He.Fa.glo "law").ok,
  (He.Fa.free "ValueError").ok,
  (He.Fa.free "abs").ok,
  (He.Fa.free "all").ok,
  (He.Fa.free "bool").ok,
  (He.Fa.free "int").ok,
  (He.Fa.free "isinstance").ok,
  (He.Fa.free "iter").ok,
  (He.Fa.free "len").ok,
  (He.Fa.free "list").ok,
  (He.Fa.free "range").ok,
  (He.Fa.free "repr").ok,
  (He.Fa.free "set").ok,
  (He.Fa.free "sorted").ok,
  (He.Fa.free "str").ok,
  (He.Fa.free "sum").ok,
  (He.Fa.free "tuple").ok,
  fun K => He.tupB K "RESERVED" [(.str "and"), (.str "or"), (.str "not"), (.str "free"), (.str "untouched"), (.str "least"), (.str "most"), (.str "of"), (.str "since"), (.str "until"), (.str "single"), (.str "recipe"), (.str "take"), (.str "move"), (.str "drain"), (.str "wash"), (.str "pack"), (.str "repeat"), (.str "when"), (.str "else"), (.str "end"), (.str "done"), (.str "yes"), (.str "no"), (.str "none")],
  kGlobS "LETTERS" "abcdefghijklmnopqrstuvwxyz",
  kGlobS "SIGNS" "abcdefghijklmnopqrstuvwxyz0123456789",
  kGlobI "LONGEST_NAME" 8,
  kGlobI "MOST_FARMS" 4,
  kGlobI "MOST_TRAITS" 4,
  kGlobI "MOST_VESSELS" 6,
  kGlobI "GREATEST_SIZE" 10000,
  kExo "BadPlant",
  (He.Fa.meth "BadPlant" "__init__").ok,
  (He.Fa.noat "BadPlant" "part").ok,
  (He.Fa.noat "BadPlant" "class_name").ok,
  kExo "BadDeed",
  (He.Fa.meth "BadDeed" "__init__").ok,
  (He.Fa.noat "BadDeed" "deed").ok,
  (He.Fa.noat "BadDeed" "class_name").ok,
  kExo "NoThing",
  (He.Fa.meth "NoThing" "__init__").ok,
  (He.Fa.noat "NoThing" "name").ok,
  (He.Fa.noat "NoThing" "class_name").ok,
  (He.Fa.mkr "Plant").ok,
  (He.Fa.meth "Plant" "__getitem__").ok,
  (He.Fa.meth "Plant" "__contains__").ok,
  (He.Fa.meth "Plant" "__iter__").ok,
  (He.Fa.meth "Plant" "__len__").ok,
  (He.Fa.meth "Plant" "__eq__").ok,
  fun K => eqv (PySem.W.findIn K (.ref (He.ga K "Plant")) "__ne__") (some (some (.builtin "object.__ne__"))),
  kCatch "BadPlant" "LotError" true,
  kCatch "NoThing" "LotError" true]
section
variable {P : Program} {w : World} {K : PySem.W.Frag} {mg : Str → Option Value} {base : Heap}
abbrev Gn (K : PySem.W.Frag) (mg : Str → Option Value) (base : Heap) : Prop := Gnd PDx ck fn K mg base
theorem gl_BadDeed (Z : Gn K mg base) : mg "BadDeed" = some (.ref (He.ga K "BadDeed")) := He.glo_ok Z.X Z.G (Z.S.fact 1)
theorem gl_BadPlant (Z : Gn K mg base) : mg "BadPlant" = some (.ref (He.ga K "BadPlant")) := He.glo_ok Z.X Z.G (Z.S.fact 2)
theorem gl_LotError (Z : Gn K mg base) : mg "LotError" = some (.ref (He.ga K "LotError")) := He.glo_ok Z.X Z.G (Z.S.fact 3)
theorem gl_NoThing (Z : Gn K mg base) : mg "NoThing" = some (.ref (He.ga K "NoThing")) := He.glo_ok Z.X Z.G (Z.S.fact 4)
theorem gl_Plant (Z : Gn K mg base) : mg "Plant" = some (.ref (He.ga K "Plant")) := He.glo_ok Z.X Z.G (Z.S.fact 5)
theorem gl_RESERVED (Z : Gn K mg base) : mg "RESERVED" = some (.ref (He.ga K "RESERVED")) := He.glo_ok Z.X Z.G (Z.S.fact 6)
theorem gl__law_bag (Z : Gn K mg base) : mg "_law_bag" = some (.ref (He.ga K "_law_bag")) := He.glo_ok Z.X Z.G (Z.S.fact 7)
theorem gl__law_draw (Z : Gn K mg base) : mg "_law_draw" = some (.ref (He.ga K "_law_draw")) := He.glo_ok Z.X Z.G (Z.S.fact 8)
theorem gl__law_mixed (Z : Gn K mg base) : mg "_law_mixed" = some (.ref (He.ga K "_law_mixed")) := He.glo_ok Z.X Z.G (Z.S.fact 9)
theorem gl__law_name (Z : Gn K mg base) : mg "_law_name" = some (.ref (He.ga K "_law_name")) := He.glo_ok Z.X Z.G (Z.S.fact 10)
theorem gl__law_names (Z : Gn K mg base) : mg "_law_names" = some (.ref (He.ga K "_law_names")) := He.glo_ok Z.X Z.G (Z.S.fact 11)
theorem gl__law_p3_another (Z : Gn K mg base) : mg "_law_p3_another" = some (.ref (He.ga K "_law_p3_another")) := He.glo_ok Z.X Z.G (Z.S.fact 12)
theorem gl__law_p3_fits (Z : Gn K mg base) : mg "_law_p3_fits" = some (.ref (He.ga K "_law_p3_fits")) := He.glo_ok Z.X Z.G (Z.S.fact 13)
theorem gl__law_p3_names_told (Z : Gn K mg base) : mg "_law_p3_names_told" = some (.ref (He.ga K "_law_p3_names_told")) := He.glo_ok Z.X Z.G (Z.S.fact 14)
theorem gl__law_p3_odd (Z : Gn K mg base) : mg "_law_p3_odd" = some (.ref (He.ga K "_law_p3_odd")) := He.glo_ok Z.X Z.G (Z.S.fact 15)
theorem gl__law_p3_pair (Z : Gn K mg base) : mg "_law_p3_pair" = some (.ref (He.ga K "_law_p3_pair")) := He.glo_ok Z.X Z.G (Z.S.fact 16)
theorem gl__law_p3_refused (Z : Gn K mg base) : mg "_law_p3_refused" = some (.ref (He.ga K "_law_p3_refused")) := He.glo_ok Z.X Z.G (Z.S.fact 17)
theorem gl__law_p3_spoilt_names (Z : Gn K mg base) : mg "_law_p3_spoilt_names" = some (.ref (He.ga K "_law_p3_spoilt_names")) := He.glo_ok Z.X Z.G (Z.S.fact 18)
theorem gl__law_p3_spoilt_vessels (Z : Gn K mg base) : mg "_law_p3_spoilt_vessels" = some (.ref (He.ga K "_law_p3_spoilt_vessels")) := He.glo_ok Z.X Z.G (Z.S.fact 19)
theorem gl__law_p3_vessels (Z : Gn K mg base) : mg "_law_p3_vessels" = some (.ref (He.ga K "_law_p3_vessels")) := He.glo_ok Z.X Z.G (Z.S.fact 20)
theorem gl__law_pick (Z : Gn K mg base) : mg "_law_pick" = some (.ref (He.ga K "_law_pick")) := He.glo_ok Z.X Z.G (Z.S.fact 21)
theorem gl_are_names (Z : Gn K mg base) : mg "are_names" = some (.ref (He.ga K "are_names")) := He.glo_ok Z.X Z.G (Z.S.fact 22)
theorem gl_are_vessels (Z : Gn K mg base) : mg "are_vessels" = some (.ref (He.ga K "are_vessels")) := He.glo_ok Z.X Z.G (Z.S.fact 23)
theorem gl_is_name (Z : Gn K mg base) : mg "is_name" = some (.ref (He.ga K "is_name")) := He.glo_ok Z.X Z.G (Z.S.fact 24)
theorem gl_is_vessel (Z : Gn K mg base) : mg "is_vessel" = some (.ref (He.ga K "is_vessel")) := He.glo_ok Z.X Z.G (Z.S.fact 25)
theorem gl_is_whole (Z : Gn K mg base) : mg "is_whole" = some (.ref (He.ga K "is_whole")) := He.glo_ok Z.X Z.G (Z.S.fact 26)
theorem gl_is_whole_within (Z : Gn K mg base) : mg "is_whole_within" = some (.ref (He.ga K "is_whole_within")) := He.glo_ok Z.X Z.G (Z.S.fact 27)
theorem gl_law (Z : Gn K mg base) : mg "law" = some (.ref (He.ga K "law")) := He.glo_ok Z.X Z.G (Z.S.fact 28)
theorem fr_ValueError (Z : Gn K mg base) : mg "ValueError" = none := He.free_ok Z.X Z.G (Z.S.fact 29)
theorem fr_abs (Z : Gn K mg base) : mg "abs" = none := He.free_ok Z.X Z.G (Z.S.fact 30)
theorem fr_all (Z : Gn K mg base) : mg "all" = none := He.free_ok Z.X Z.G (Z.S.fact 31)
theorem fr_bool (Z : Gn K mg base) : mg "bool" = none := He.free_ok Z.X Z.G (Z.S.fact 32)
theorem fr_int (Z : Gn K mg base) : mg "int" = none := He.free_ok Z.X Z.G (Z.S.fact 33)
theorem fr_isinstance (Z : Gn K mg base) : mg "isinstance" = none := He.free_ok Z.X Z.G (Z.S.fact 34)
theorem fr_iter (Z : Gn K mg base) : mg "iter" = none := He.free_ok Z.X Z.G (Z.S.fact 35)
theorem fr_len (Z : Gn K mg base) : mg "len" = none := He.free_ok Z.X Z.G (Z.S.fact 36)
theorem fr_list (Z : Gn K mg base) : mg "list" = none := He.free_ok Z.X Z.G (Z.S.fact 37)
theorem fr_range (Z : Gn K mg base) : mg "range" = none := He.free_ok Z.X Z.G (Z.S.fact 38)
theorem fr_repr (Z : Gn K mg base) : mg "repr" = none := He.free_ok Z.X Z.G (Z.S.fact 39)
theorem fr_set (Z : Gn K mg base) : mg "set" = none := He.free_ok Z.X Z.G (Z.S.fact 40)
theorem fr_sorted (Z : Gn K mg base) : mg "sorted" = none := He.free_ok Z.X Z.G (Z.S.fact 41)
theorem fr_str (Z : Gn K mg base) : mg "str" = none := He.free_ok Z.X Z.G (Z.S.fact 42)
theorem fr_sum (Z : Gn K mg base) : mg "sum" = none := He.free_ok Z.X Z.G (Z.S.fact 43)
theorem fr_tuple (Z : Gn K mg base) : mg "tuple" = none := He.free_ok Z.X Z.G (Z.S.fact 44)
end
section
variable {X : Cx}
theorem gd_LotError (Z : Gn X.K X.mg X.base) : GlobD X (PDx.gi X.K) "LotError" (.cls 0) := ⟨.ref (He.ga X.K "LotError"), _, gl_LotError Z, rfl, fun _ _ => rfl⟩
theorem gd_BadPlant (Z : Gn X.K X.mg X.base) : GlobD X (PDx.gi X.K) "BadPlant" (.cls 1) := ⟨.ref (He.ga X.K "BadPlant"), _, gl_BadPlant Z, rfl, fun _ _ => rfl⟩
theorem gd_BadDeed (Z : Gn X.K X.mg X.base) : GlobD X (PDx.gi X.K) "BadDeed" (.cls 2) := ⟨.ref (He.ga X.K "BadDeed"), _, gl_BadDeed Z, rfl, fun _ _ => rfl⟩
theorem gd_NoThing (Z : Gn X.K X.mg X.base) : GlobD X (PDx.gi X.K) "NoThing" (.cls 3) := ⟨.ref (He.ga X.K "NoThing"), _, gl_NoThing Z, rfl, fun _ _ => rfl⟩
theorem gd_Plant (Z : Gn X.K X.mg X.base) : GlobD X (PDx.gi X.K) "Plant" (.cls 4) := ⟨.ref (He.ga X.K "Plant"), _, gl_Plant Z, rfl, fun _ _ => rfl⟩
theorem gd_LETTERS (Z : Gn X.K X.mg X.base) : GlobD X (PDx.gi X.K) "LETTERS" d_LETTERS := gd_str Z.X Z.G (Z.S.fact 46)
theorem gd_SIGNS (Z : Gn X.K X.mg X.base) : GlobD X (PDx.gi X.K) "SIGNS" d_SIGNS := gd_str Z.X Z.G (Z.S.fact 47)
theorem gd_LONGEST_NAME (Z : Gn X.K X.mg X.base) : GlobD X (PDx.gi X.K) "LONGEST_NAME" d_LONGEST_NAME := gd_int Z.X Z.G (Z.S.fact 48)
theorem gd_MOST_FARMS (Z : Gn X.K X.mg X.base) : GlobD X (PDx.gi X.K) "MOST_FARMS" d_MOST_FARMS := gd_int Z.X Z.G (Z.S.fact 49)
theorem gd_MOST_TRAITS (Z : Gn X.K X.mg X.base) : GlobD X (PDx.gi X.K) "MOST_TRAITS" d_MOST_TRAITS := gd_int Z.X Z.G (Z.S.fact 50)
theorem gd_MOST_VESSELS (Z : Gn X.K X.mg X.base) : GlobD X (PDx.gi X.K) "MOST_VESSELS" d_MOST_VESSELS := gd_int Z.X Z.G (Z.S.fact 51)
theorem gd_GREATEST_SIZE (Z : Gn X.K X.mg X.base) : GlobD X (PDx.gi X.K) "GREATEST_SIZE" d_GREATEST_SIZE := gd_int Z.X Z.G (Z.S.fact 52)
theorem gd_RESERVED (Z : Gn X.K X.mg X.base) : GlobD X (PDx.gi X.K) "RESERVED" d_RESERVED := ⟨.ref (He.ga X.K "RESERVED"), _, gl_RESERVED Z, rfl, fun F al => ⟨_, _, rfl, .inr ⟨rfl, He.tupB_ok (Z.S.fact 45) F⟩, ⟨_, _, rfl, rfl, ⟨_, _, rfl, rfl, ⟨_, _, rfl, rfl, ⟨_, _, rfl, rfl, ⟨_, _, rfl, rfl, ⟨_, _, rfl, rfl, ⟨_, _, rfl, rfl, ⟨_, _, rfl, rfl, ⟨_, _, rfl, rfl, ⟨_, _, rfl, rfl, ⟨_, _, rfl, rfl, ⟨_, _, rfl, rfl, ⟨_, _, rfl, rfl, ⟨_, _, rfl, rfl, ⟨_, _, rfl, rfl, ⟨_, _, rfl, rfl, ⟨_, _, rfl, rfl, ⟨_, _, rfl, rfl, ⟨_, _, rfl, rfl, ⟨_, _, rfl, rfl, ⟨_, _, rfl, rfl, ⟨_, _, rfl, rfl, ⟨_, _, rfl, rfl, ⟨_, _, rfl, rfl, ⟨_, _, rfl, rfl, rfl⟩⟩⟩⟩⟩⟩⟩⟩⟩⟩⟩⟩⟩⟩⟩⟩⟩⟩⟩⟩⟩⟩⟩⟩⟩⟩⟩
abbrev cat_LotError : Nat → Option Bool := fun c => ([(1, true), (3, true)] : List (Nat × Bool)).lookup c
theorem ct_LotError (Z : Gn X.K X.mg X.base) (hg : Gl X "LotError") : Catch X (PDx.gi X.K) "LotError" cat_LotError := ⟨_, ⟨hg, rfl, .inl (gl_LotError Z)⟩, fun c b e => by
  have m := mem_of_lookup e
  simp only [List.mem_cons, Prod.mk.injEq, List.not_mem_nil, or_false] at m
  rcases m with ⟨rfl, rfl⟩ | ⟨rfl, rfl⟩
  · exact of_decide_eq_true (Z.S.fact 72)
  · exact of_decide_eq_true (Z.S.fact 73)⟩
end
def m_is_name : MS := (mSeq (mIfS (tOrM (tNotM (asB (m1 (fIsi g0 (.bt "str")) (mVar 0)))) (tNotM (asB (mChain fLe fLe (mC (.int 1)) (mA1 fLen (maCons (mVar 0) maNil)) (mC d_LONGEST_NAME))))) (mRet (mC (.bl false))) mSkip) (mSeq (mIfS (tOrM (asB (m2 (fIn true) (m2 fIx (mVar 0) (mC (.int 0))) (mC d_LETTERS))) (asB (m2 (fIn false) (mVar 0) (mC d_RESERVED)))) (mRet (mC (.bl false))) mSkip) (mRet (mA1 (fAll false) (maCons (mCompS false [1] (gtN 1) mYes (m2 (fIn false) (mVar 1) (mC d_SIGNS)) (mVar 0)) maNil)))))
def F_is_name : Fn := fnOf 2 1 m_is_name
def m_is_whole : MS := (mRet (mAnd (m1 (fIsi g0 (.bt "int")) (mVar 0)) (mNot (m1 (fIsi g0 (.bt "bool")) (mVar 0)))))
def F_is_whole : Fn := fnOf 1 1 m_is_whole
def m_is_whole_within : MS := (mRet (mAnd (mA1 (fCallN 1 F_is_whole []) (maCons (mVar 0) maNil)) (mChain fLe fLe (mVar 1) (mVar 0) (mVar 2))))
def F_is_whole_within : Fn := fnOf 3 3 m_is_whole_within
def m_are_names : MS := (mSeq (mIfS (tOrM (tNotM (asB (m1 (fIsi2 g0 (.bt "list") (.bt "tuple")) (mVar 0)))) (tNotM (asB (mChain fLe fLe (mVar 1) (mA1 fLen (maCons (mVar 0) maNil)) (mVar 2))))) (mRet (mC (.bl false))) mSkip) (mSeq (mIfS (tNotM (asB (mA1 (fAll false) (maCons (mComp false [3] (gtN 3) mYes (mA1 (fCallN 1 F_is_name []) (maCons (mVar 3) maNil)) (mVar 0)) maNil)))) (mRet (mC (.bl false))) mSkip) (mRet (m2 (fEq false) (m1 fLenSet (mVar 0)) (mA1 fLen (maCons (mVar 0) maNil))))))
def F_are_names : Fn := fnOf 4 3 m_are_names
def m_is_vessel : MS := (mSeq (mIfS (tOrM (tNotM (asB (m1 (fIsi g0 (.bt "tuple")) (mVar 0)))) (asB (m2 (fEq true) (mA1 fLen (maCons (mVar 0) maNil)) (mC (.int 3))))) (mRet (mC (.bl false))) mSkip) (mSeq (mUnp (gtT 3 (gtCons (gtN 1) (gtCons (gtN 2) (gtCons (gtN 3) gtNil)))) (mVar 0)) (mRet (mAnd (mA1 (fCallN 1 F_is_name []) (maCons (mVar 1) maNil)) (mAnd (mA1 (fCallN 3 F_is_whole_within []) (maCons (mVar 2) (maCons (mC (.int 1)) (maCons (mC d_GREATEST_SIZE) maNil)))) (mA1 (fCallN 3 F_is_whole_within []) (maCons (mVar 3) (maCons (mC (.int 0)) (maCons (m2 fSub (mVar 2) (mC (.int 1))) maNil)))))))))
def F_is_vessel : Fn := fnOf 4 1 m_is_vessel
def m_are_vessels : MS := (mSeq (mIfS (tOrM (tNotM (asB (m1 (fIsi2 g0 (.bt "list") (.bt "tuple")) (mVar 0)))) (tNotM (asB (mA1 (fAll false) (maCons (mComp false [1] (gtN 1) mYes (mA1 (fCallN 1 F_is_vessel []) (maCons (mVar 1) maNil)) (mVar 0)) maNil))))) (mRet (mC (.bl false))) mSkip) (mRet (mA1 (fCallN 3 F_are_names []) (maCons (mComp false [1] (gtN 1) mYes (m2 fIx (mVar 1) (mC (.int 0))) (mVar 0)) (maCons (mC (.int 1)) (maCons (mC d_MOST_VESSELS) maNil))))))
def F_are_vessels : Fn := fnOf 2 1 m_are_vessels
def m_Plant_xinitx : MS := (mSeq (mIfS (tNotM (asB (mA1 (fCallN 3 F_are_names []) (maCons (mVar 1) (maCons (mC (.int 1)) (maCons (mC d_MOST_FARMS) maNil)))))) (mRaise 1 1 (mkE "part" "class_name" "BadPlant") (maCons (mC (.str "farms")) maNil)) mSkip) (mSeq (mIfS (tNotM (asB (mA1 (fCallN 3 F_are_names []) (maCons (mVar 2) (maCons (mC (.int 0)) (maCons (mC d_MOST_TRAITS) maNil)))))) (mRaise 1 1 (mkE "part" "class_name" "BadPlant") (maCons (mC (.str "traits")) maNil)) mSkip) (mSeq (mIfS (tNotM (asB (mA1 (fCallN 1 F_are_vessels []) (maCons (mVar 3) maNil)))) (mRaise 1 1 (mkE "part" "class_name" "BadPlant") (maCons (mC (.str "vessels")) maNil)) mSkip) (mSeq (mSetFld g0 0 "farms" (mA1 fTuple (maCons (mA1 (fSorted g0.kc false) (maCons (mVar 1) maNil)) maNil))) (mSeq (mSetFld g0 0 "traits" (mA1 fTuple (maCons (mA1 (fSorted g0.kc false) (maCons (mVar 2) maNil)) maNil))) (mSeq (mSetFld g0 0 "vessels" (mA1 fTuple (maCons (mVar 3) maNil))) (mSetFld g0 0 "vessel_names" (mA1 fTuple (maCons (mComp false [4] (gtN 4) mYes (m2 fIx (mVar 4) (mC (.int 0))) (mVar 3)) maNil)))))))))
def FI_Plant_xinitx : FnI := initOf 4 3 4 m_Plant_xinitx
def m_Plant_xgetitemx : MS := (mSeq (mFor (gtT 3 (gtCons (gtN 2) (gtCons (gtN 3) (gtCons (gtN 4) gtNil)))) (m1 (fFld g0 "vessels") (mVar 0)) (mIfS (asB (m2 (fEq false) (mVar 2) (mVar 1))) (mRet (mA1 fTup (maCons (mVar 3) (maCons (mVar 4) maNil)))) mSkip)) (mRaise 3 1 (mkE "name" "class_name" "NoThing") (maCons (mVar 1) maNil)))
def F_Plant_xgetitemx : Fn := fnOf 5 2 m_Plant_xgetitemx
def T_getitem : Tbl := fun c => if c = 4 then some F_Plant_xgetitemx else none
def m_Plant_xcontainsx : MS := (mRet (m2 (fIn false) (mVar 1) (m1 (fFld g0 "vessel_names") (mVar 0))))
def F_Plant_xcontainsx : Fn := fnOf 2 2 m_Plant_xcontainsx
def T_contains : Tbl := fun c => if c = 4 then some F_Plant_xcontainsx else none
def m_Plant_xiterx : ME := (m1 (fFld g0 "vessel_names") (mVar 0))
def TI_iter : TblI := fun c => if c = 4 then some m_Plant_xiterx else none
def m_Plant_xlenx : MS := (mRet (mA1 fLen (maCons (m1 (fFld g0 "vessel_names") (mVar 0)) maNil)))
def F_Plant_xlenx : Fn := fnOf 1 1 m_Plant_xlenx
def T_len : Tbl := fun c => if c = 4 then some F_Plant_xlenx else none
def m_Plant_xeqx : MS := (mRet (mAnd (m1 (fIsi g0 (.own 4)) (mVar 1)) (mAnd (m2 (fEq false) (m1 (fFld g0 "farms") (mVar 0)) (m1 (fFld g0 "farms") (mVar 1))) (mAnd (m2 (fEq false) (m1 (fFld g0 "traits") (mVar 0)) (m1 (fFld g0 "traits") (mVar 1))) (m2 (fEq false) (m1 (fFld g0 "vessels") (mVar 0)) (m1 (fFld g0 "vessels") (mVar 1)))))))
def F_Plant_xeqx : Fn := fnOf 2 2 m_Plant_xeqx
def T_eq : Tbl := fun c => if c = 4 then some F_Plant_xeqx else none
def m__law_bag : MS := (mRetC (mA1 (fLst true) (maCons (mA1 (fList false) (maCons (mVar 0) maNil)) (maCons (mC (.int 0)) (maCons (mC (.int 0)) (maCons (m2 fMod (mA1 fIntOf (maCons (mA1 fSum (maCons (mVar 0) maNil)) maNil)) (mC (.int 1000003))) (maCons (mC (.int 0)) (maCons (mC (.int 0)) maNil))))))))
def F__law_bag : Fn := fnOf 1 1 m__law_bag
def m__law_mixed : MS := (mSeq (mSet 2 (m2 fMod (mA1 fIntOf (maCons (m2 (fAdd false) (m2 fMul (m2 (fAdd false) (mVar 0) (mC (.int 1))) (mC (.int 48271))) (m2 fMul (m2 (fAdd false) (mVar 1) (mC (.int 1))) (mC (.int 69621)))) maNil)) (mC (.int 2147483647)))) (mRet (m2 fDiv (m2 fMod (mA1 fIntOf (maCons (m2 (fAdd false) (m2 (fAdd false) (m2 fMul (mVar 2) (mVar 2)) (m2 fMul (mVar 2) (mC (.int 16807)))) (m2 fMul (mC (.int 7)) (mVar 1))) maNil)) (mC (.int 2147483629))) (mC (.int 7)))))
def F__law_mixed : Fn := fnOf 3 2 m__law_mixed
def m__law_draw : MS := (mSeq (mIfS (asB (m2 fLt (mVar 1) (mC (.int 2)))) (mRet (mC (.int 0))) mSkip) (mSeq (mSetIx (m2 (fAdd false) (m2 fIx (mVar 0) (mC (.int 5))) (mC (.int 1))) (mVar 0) (mC (.int 5))) (mSeq (mIfS (tAndM (asB (m2 (fEq false) (m2 fIx (mVar 0) (mC (.int 2))) (mC (.int 0)))) (tAndM (asB (m2 (fEq false) (m2 fIx (mVar 0) (mC (.int 4))) (mC (.int 0)))) (asB (m2 fLt (m2 fIx (mVar 0) (mC (.int 1))) (mA1 fLen (maCons (m2 fIx (mVar 0) (mC (.int 0))) maNil)))))) (mSeq (mSet 2 (m2 fIx (m2 fIx (mVar 0) (mC (.int 0))) (m2 fIx (mVar 0) (mC (.int 1))))) (mSeq (mSetIx (m2 (fAdd false) (m2 fIx (mVar 0) (mC (.int 1))) (mC (.int 1))) (mVar 0) (mC (.int 1))) (mIfS (asB (m2 fGe (mA1 fAbs (maCons (mVar 2) maNil)) (m2 fPow (mC (.int 10)) (mC (.int 18))))) (mSetIx (mA1 fAbs (maCons (mVar 2) maNil)) (mVar 0) (mC (.int 2))) (mSeq (mSetIx (m2 (fAdd false) (m2 fMul (mC (.int 2)) (mA1 fAbs (maCons (mVar 2) maNil))) (mA1 fIntOf (maCons (m2 fLt (mVar 2) (mC (.int 0))) maNil))) (mVar 0) (mC (.int 3))) (mSetIx (mC (.int 15)) (mVar 0) (mC (.int 4))))))) mSkip) (mSeq (mIfS (asB (m2 fGt (m2 fIx (mVar 0) (mC (.int 2))) (mC (.int 0)))) (mSeq (mSet 3 (m2 fMod (mA1 fIntOf (maCons (m2 fIx (mVar 0) (mC (.int 2))) maNil)) (mVar 1))) (mSeq (mSetIx (m2 fDiv (m2 fIx (mVar 0) (mC (.int 2))) (mVar 1)) (mVar 0) (mC (.int 2))) (mRet (mVar 3)))) mSkip) (mSeq (mIfS (asB (m2 fGt (m2 fIx (mVar 0) (mC (.int 4))) (mC (.int 0)))) (mSetIx (m2 fSub (m2 fIx (mVar 0) (mC (.int 4))) (mC (.int 1))) (mVar 0) (mC (.int 4))) mSkip) (mRet (m2 fMod (mA1 fIntOf (maCons (mA1 (fCallN 2 F__law_mixed []) (maCons (m2 fIx (mVar 0) (mC (.int 3))) (maCons (m2 fIx (mVar 0) (mC (.int 5))) maNil))) maNil)) (mVar 1))))))))
def F__law_draw : Fn := fnOf 4 2 m__law_draw
def m__law_pick : MS := (mRet (m2 fIx (mVar 1) (mA1 (fCallN 2 F__law_draw []) (maCons (mVar 0) (maCons (mA1 fLen (maCons (mVar 1) maNil)) maNil)))))
def F__law_pick : Fn := fnOf 2 2 m__law_pick
def m__law_name : MS := (mSeq (mSet 2 (mC (.str "abcdefghijklmnopqrstuvwxyz0123456789"))) (mSeq (mSet 3 (m2 fIx (mVar 2) (mA1 (fCallN 2 F__law_draw []) (maCons (mVar 0) (maCons (mC (.int 26)) maNil))))) (mSeq (mForR (gtN 4) (maCons (m2 fIx (mA1 (fLst false) (maCons (mC (.int 0)) (maCons (mC (.int 1)) (maCons (mC (.int 2)) (maCons (mC (.int 7)) maNil))))) (mA1 (fCallN 2 F__law_draw []) (maCons (mVar 0) (maCons (mC (.int 4)) maNil)))) maNil) (mSet 3 (m2 (fAdd false) (mVar 3) (m2 fIx (mVar 2) (mA1 (fCallN 2 F__law_draw []) (maCons (mVar 0) (maCons (mC (.int 36)) maNil))))))) (mSeq (mSet 5 (mC (.str " and or not free untouched least most of since until single recipe take move drain wash pack "))) (mSeq (mIfS (tAndM (asB (m2 (fIn true) (mVar 3) (mVar 1))) (asB (m2 (fIn true) (m2 (fAdd false) (m2 (fAdd false) (mC (.str " ")) (mVar 3)) (mC (.str " "))) (m2 (fAdd false) (mVar 5) (mC (.str "repeat when else end done yes no none ")))))) (mRet (mVar 3)) mSkip) (mRet (m2 fIx (mComp false [6] (gtN 6) (asB (m2 (fIn true) (mVar 6) (mVar 1))) (mVar 6) (mCompR false [4] (gtN 4) mYes (m2 (fAdd false) (mC (.str "q")) (mA1 fStrOf (maCons (mVar 4) maNil))) (maCons (m2 (fAdd false) (mA1 fLen (maCons (mVar 1) maNil)) (mC (.int 1))) maNil))) (mC (.int 0)))))))))
def F__law_name : Fn := fnOf 7 2 m__law_name
def m__law_names : MS := (mSeq (mSet 3 (mA1 (fLst true) maNil)) (mSeq (mForR (gtN 4) (maCons (mVar 1) maNil) (mAppend 3 (mA1 (fCallN 2 F__law_name []) (maCons (mVar 0) (maCons (m2 (fAdd false) (mVar 2) (mVar 3)) maNil))))) (mFrz 3 (mRet (mVar 3)))))
def F__law_names : Fn := fnOf 5 3 m__law_names
def m__law_p3_odd : MS := (mSeq (mSet 1 (mA1 (fLst false) (maCons (mC (.int 5)) (maCons (mC (.str "")) (maCons (mC (.str "A")) (maCons (mC (.str "a_b")) (maCons (mC (.str "abcdefghi")) (maCons (mC (.str "1a")) (maCons (mC (.str "or")) (maCons (mC (.str "none")) (maCons (mC .non) (maCons (mA1 fTup (maCons (mC (.str "a")) maNil)) (maCons (mC (.bl true)) (maCons (mC (.str "a b")) (maCons (mC (.str "done")) (maCons (mC (.str "bA")) (maCons (mC (.str "ab-")) (maCons (mC (.str "xx ")) maNil)))))))))))))))))) (mRet (mA1 (fCallN 2 F__law_pick []) (maCons (mVar 0) (maCons (mVar 1) maNil)))))
def F__law_p3_odd : Fn := fnOf 2 1 m__law_p3_odd
def m__law_p3_names_told : MS := (mSeq (mSet 2 (mC (.str "and or not free untouched least most of since until single recipe take move drain wash pack"))) (mSeq (mSet 2 (mStr1 (fSplit false) (m2 (fAdd false) (mVar 2) (mC (.str " repeat when else end done yes no none"))) (mC (.str " ")))) (mSeq (mIfS (tOrM (asB (m2 (fEq true) (mA1 fRepr (maCons (mC d_RESERVED) maNil)) (mA1 fRepr (maCons (mA1 fTuple (maCons (mVar 2) maNil)) maNil)))) (asB (m2 fGt (mA1 fLen (maCons (mComp false [3] (gtN 3) (asB (mA1 (fCallN 1 F_is_name []) (maCons (mVar 3) maNil))) (mVar 3) (mVar 2)) maNil)) (mC (.int 0))))) (mRet (mC (.bl false))) mSkip) (mRet (m2 (fEq false) (mA1 fRepr (maCons (m2 (fAdd false) (mA1 (fLst false) (maCons (mA1 (fCallN 1 F_is_name []) (maCons (mVar 0) maNil)) maNil)) (mComp false [4] (gtN 4) mYes (mA1 (fCallN 1 F_is_name []) (maCons (mVar 4) maNil)) (mVar 1))) maNil)) (mA1 fRepr (maCons (m2 (fAdd false) (mA1 (fLst false) (maCons (mC (.bl false)) maNil)) (mComp false [4] (gtN 4) mYes (mC (.bl true)) (mVar 1))) maNil)))))))
def F__law_p3_names_told : Fn := fnOf 5 2 m__law_p3_names_told
def m__law_p3_vessels : MS := (mSeq (mSet 2 (mA1 (fLst true) maNil)) (mSeq (mFor (gtN 3) (mA1 (fCallN 3 F__law_names []) (maCons (mVar 0) (maCons (mVar 1) (maCons (mA1 (fLst false) maNil) maNil)))) (mSeq (mSet 4 (mA1 (fCallN 2 F__law_pick []) (maCons (mVar 0) (maCons (mA1 (fLst false) (maCons (mC (.int 1)) (maCons (mC (.int 2)) (maCons (m2 (fAdd false) (mC (.int 1)) (mA1 (fCallN 2 F__law_draw []) (maCons (mVar 0) (maCons (mC (.int 60)) maNil)))) (maCons (m2 (fAdd false) (mC (.int 1)) (mA1 (fCallN 2 F__law_draw []) (maCons (mVar 0) (maCons (mC (.int 10000)) maNil)))) (maCons (mC (.int 10000)) maNil)))))) maNil)))) (mAppend 2 (mA1 fTup (maCons (mVar 3) (maCons (mVar 4) (maCons (mA1 (fCallN 2 F__law_pick []) (maCons (mVar 0) (maCons (mA1 (fLst false) (maCons (mC (.int 0)) (maCons (m2 fSub (mVar 4) (mC (.int 1))) (maCons (mA1 (fCallN 2 F__law_draw []) (maCons (mVar 0) (maCons (mVar 4) maNil))) maNil)))) maNil))) maNil))))))) (mFrz 2 (mRet (mVar 2)))))
def F__law_p3_vessels : Fn := fnOf 5 2 m__law_p3_vessels
def m__law_p3_spoilt_names : MS := (mSeq (mSet 3 (mA1 (fCallN 2 F__law_draw []) (maCons (mVar 0) (maCons (mC (.int 5)) maNil)))) (mSeq (mSet 4 (mA1 (fCallN 2 F__law_draw []) (maCons (mVar 0) (maCons (m2 (fAdd false) (mA1 fLen (maCons (mVar 1) maNil)) (mC (.int 1))) maNil)))) (mSeq (mIfS (asB (m2 (fEq false) (mVar 3) (mC (.int 0)))) (mRet (m2 (fAdd false) (m2 (fAdd false) (mSl false (mVar 1) moN (moS (mVar 4))) (mA1 (fLst false) (maCons (mA1 (fCallN 1 F__law_p3_odd []) (maCons (mVar 0) maNil)) maNil))) (mSl false (mVar 1) (moS (m2 (fAdd false) (mVar 4) (mC (.int 1)))) moN))) mSkip) (mSeq (mIfS (tAndM (asB (m2 (fEq false) (mVar 3) (mC (.int 1)))) (asB (m2 fGt (mA1 fLen (maCons (mVar 1) maNil)) (mC (.int 0))))) (mRet (m2 (fAdd false) (m2 (fAdd false) (mSl false (mVar 1) moN (moS (mVar 4))) (mA1 (fLst false) (maCons (mA1 (fCallN 2 F__law_pick []) (maCons (mVar 0) (maCons (mVar 1) maNil))) maNil))) (mSl false (mVar 1) (moS (mVar 4)) moN))) mSkip) (mSeq (mIfS (tAndM (asB (m2 (fEq false) (mVar 3) (mC (.int 2)))) (asB (m2 (fEq false) (mVar 2) (mC (.int 1))))) (mRet (mA1 (fLst false) maNil)) mSkip) (mSeq (mIfS (asB (m2 (fEq false) (mVar 3) (mC (.int 3)))) (mRet (mA1 (fCallN 2 F__law_pick []) (maCons (mVar 0) (maCons (mA1 (fLst false) (maCons (mC (.str "ab")) (maCons (mC (.str "")) (maCons (mC .non) (maCons (mC (.int 7)) (maCons (mC (.bl true)) maNil)))))) maNil)))) mSkip) (mRet (mA1 (fCallN 3 F__law_names []) (maCons (mVar 0) (maCons (mC (.int 5)) (maCons (mA1 (fLst false) maNil) maNil)))))))))))
def F__law_p3_spoilt_names : Fn := fnOf 5 3 m__law_p3_spoilt_names
def m__law_p3_spoilt_vessels : MS := (mSeq (mSet 2 (mA1 (fCallN 2 F__law_draw []) (maCons (mVar 0) (maCons (mC (.int 8)) maNil)))) (mSeq (mSet 3 (mA1 (fCallN 2 F__law_draw []) (maCons (mVar 0) (maCons (mA1 fLen (maCons (mVar 1) maNil)) maNil)))) (mSeq (mSet 4 (m2 fIx (m2 fIx (mVar 1) (mVar 3)) (mC (.int 0)))) (mSeq (mSet 5 (m2 fIx (m2 fIx (mVar 1) (mVar 3)) (mC (.int 1)))) (mSeq (mSet 6 (mA1 fTup (maCons (mVar 4) (maCons (mVar 5) (maCons (mVar 5) maNil))))) (mSeq (mIfS (asB (m2 (fEq false) (mVar 2) (mC (.int 0)))) (mSet 6 (mA1 fTup (maCons (mA1 (fCallN 1 F__law_p3_odd []) (maCons (mVar 0) maNil)) (maCons (mVar 5) (maCons (m2 fIx (m2 fIx (mVar 1) (mVar 3)) (mC (.int 2))) maNil))))) mSkip) (mSeq (mIfS (asB (m2 (fEq false) (mVar 2) (mC (.int 1)))) (mSet 6 (mA1 fTup (maCons (mVar 4) (maCons (mA1 (fCallN 2 F__law_pick []) (maCons (mVar 0) (maCons (mA1 (fLst false) (maCons (mC (.int 0)) (maCons (m1 fNeg (mC (.int 1))) (maCons (mC (.int 10001)) (maCons (mC (.bl true)) (maCons (mC .non) (maCons (mC (.str "5")) (maCons (mA1 fTup (maCons (mC (.int 5)) maNil)) maNil)))))))) maNil))) (maCons (mC (.int 0)) maNil))))) mSkip) (mSeq (mIfS (asB (m2 (fEq false) (mVar 2) (mC (.int 2)))) (mSet 6 (mA1 fTup (maCons (mVar 4) (maCons (mVar 5) (maCons (mA1 (fCallN 2 F__law_pick []) (maCons (mVar 0) (maCons (mA1 (fLst false) (maCons (mVar 5) (maCons (m2 (fAdd false) (mVar 5) (mC (.int 1))) (maCons (m1 fNeg (mC (.int 1))) (maCons (mC .non) (maCons (mC (.bl false)) (maCons (mC (.str "0")) (maCons (m2 fPow (mC (.int 10)) (mC (.int 20))) maNil)))))))) maNil))) maNil))))) mSkip) (mSeq (mIfS (asB (m2 (fEq false) (mVar 2) (mC (.int 3)))) (mSeq (mSet 7 (m2 fIx (m2 fIx (mVar 1) (mVar 3)) (mC (.int 2)))) (mSet 6 (mA1 (fCallN 2 F__law_pick []) (maCons (mVar 0) (maCons (mA1 (fLst false) (maCons (mA1 (fLst false) (maCons (mVar 4) (maCons (mVar 5) (maCons (mVar 7) maNil)))) (maCons (mA1 fTup (maCons (mVar 4) (maCons (mVar 5) maNil))) (maCons (mA1 fTup (maCons (mVar 4) (maCons (mVar 5) (maCons (mVar 7) (maCons (mC (.int 0)) maNil))))) (maCons (mVar 4) (maCons (mC .non) (maCons (mA1 fTup maNil) maNil))))))) maNil))))) mSkip) (mSeq (mIfS (asB (m2 (fEq false) (mVar 2) (mC (.int 4)))) (mRet (m2 (fAdd false) (m2 (fAdd false) (mSl false (mVar 1) moN (moS (mVar 3))) (mA1 (fLst false) (maCons (mA1 fTup (maCons (mVar 4) (maCons (mC (.int 7)) (maCons (mC (.int 3)) maNil)))) maNil))) (mSl false (mVar 1) (moS (mVar 3)) moN))) mSkip) (mSeq (mIfS (asB (m2 (fEq false) (mVar 2) (mC (.int 5)))) (mRet (mComp false [8] (gtN 8) mYes (mA1 fTup (maCons (mVar 8) (maCons (mC (.int 9)) (maCons (mC (.int 2)) maNil)))) (mA1 (fCallN 3 F__law_names []) (maCons (mVar 0) (maCons (mC (.int 7)) (maCons (mA1 (fLst false) maNil) maNil)))))) mSkip) (mSeq (mIfS (asB (m2 (fEq false) (mVar 2) (mC (.int 6)))) (mRet (mA1 (fCallN 2 F__law_pick []) (maCons (mVar 0) (maCons (mA1 (fLst false) (maCons (mA1 (fLst false) maNil) (maCons (mA1 fTup maNil) (maCons (mC .non) (maCons (mC (.str "v")) (maCons (mC (.int 8)) maNil)))))) maNil)))) mSkip) (mRet (m2 (fAdd false) (m2 (fAdd false) (mSl false (mVar 1) moN (moS (mVar 3))) (mA1 (fLst false) (maCons (mVar 6) maNil))) (mSl false (mVar 1) (moS (m2 (fAdd false) (mVar 3) (mC (.int 1)))) moN)))))))))))))))
def F__law_p3_spoilt_vessels : Fn := fnOf 9 2 m__law_p3_spoilt_vessels
def m__law_p3_refused : MS := (mSeq (mTry 3 cat_LotError (mDrop (mA1 (fMake 4 3 FI_Plant_xinitx []) (maCons (mVar 0) (maCons (mVar 1) (maCons (mVar 2) maNil))))) (mSeq (mSet 4 (mOr (mIsX g0 xsB (.own 2) 3) (mOr (mIsX g0 xsB (.own 3) 3) (mNot (mIsX g0 xsB (.bt "ValueError") 3))))) (mSeq (mIfS (tAndM (asB (mIsX g0 xsB (.own 1) 3)) (tNotM (asB (mVar 4)))) (mRet (mXf xsB xnB "part" 3)) mSkip) (mRet (mC (.str "odd")))))) (mRet (mC (.str ""))))
def F__law_p3_refused : Fn := fnOf 5 3 m__law_p3_refused
def m__law_p3_pair : MS := (mTry 2 cat_LotError (mRet (mA1 (fLst false) (maCons (m2 (fIxs T_getitem fIx) (mVar 0) (mVar 1)) maNil))) (mSeq (mIfS (tAndM (asB (mIsX g0 xsB (.own 3) 2)) (tAndM (asB (mIsX g0 xsB (.bt "ValueError") 2)) (tNotM (asB (mIsX g0 xsB (.own 1) 2))))) (mRet (mA1 (fLst false) (maCons (mC (.str "none")) (maCons (mXf xsB xnB "name" 2) maNil)))) mSkip) (mRet (mA1 (fLst false) (maCons (mC (.str "odd")) maNil)))))
def F__law_p3_pair : Fn := fnOf 3 2 m__law_p3_pair
def m__law_p3_fits : MS := (mSeq (mSet 4 (mComp false [7] (gtN 7) mYes (m2 (fIxs T_getitem fIx) (mVar 7) (mC (.int 0))) (mVar 3))) (mSeq (mSet 5 (mA1 (fLst false) (maCons (m1 (fFld g0 "farms") (mVar 0)) (maCons (m1 (fFld g0 "traits") (mVar 0)) (maCons (m1 (fFld g0 "vessels") (mVar 0)) (maCons (mA1 (fLens T_len) (maCons (mVar 0) maNil)) (maCons (mA1 (fListO false TI_iter T_len) (maCons (mVar 0) maNil)) (maCons (mCompO false [8] TI_iter (gtN 8) mYes (mVar 8) (mVar 0)) maNil)))))))) (mSeq (mSet 6 (mA1 (fLst false) (maCons (mA1 fTuple (maCons (mA1 (fSorted g0.kc false) (maCons (mVar 1) maNil)) maNil)) (maCons (mA1 fTuple (maCons (mA1 (fSorted g0.kc false) (maCons (mVar 2) maNil)) maNil)) (maCons (mA1 fTuple (maCons (mVar 3) maNil)) (maCons (mA1 (fLens T_len) (maCons (mVar 4) maNil)) (maCons (mVar 4) (maCons (mVar 4) maNil)))))))) (mSeq (mIfS (asB (m2 (fNes g0 T_eq nfB (fEq true)) (mA1 fRepr (maCons (mVar 5) maNil)) (mA1 fRepr (maCons (mVar 6) maNil)))) (mRet (mC (.bl false))) mSkip) (mSeq (mFor (gtN 7) (mVar 3) (mIfS (asB (m2 (fNes g0 T_eq nfB (fEq true)) (mA1 fRepr (maCons (mA1 (fLst false) (maCons (m2 (fIns false T_contains (fIn false)) (m2 (fIxs T_getitem fIx) (mVar 7) (mC (.int 0))) (mVar 0)) (maCons (mA1 (fCallN 2 F__law_p3_pair []) (maCons (mVar 0) (maCons (m2 (fIxs T_getitem fIx) (mVar 7) (mC (.int 0))) maNil))) maNil))) maNil)) (mA1 fRepr (maCons (mA1 (fLst false) (maCons (mC (.bl true)) (maCons (mA1 (fLst false) (maCons (mA1 fTup (maCons (m2 (fIxs T_getitem fIx) (mVar 7) (mC (.int 1))) (maCons (m2 (fIxs T_getitem fIx) (mVar 7) (mC (.int 2))) maNil))) maNil)) maNil))) maNil)))) (mRet (mC (.bl false))) mSkip)) (mSeq (mFor (gtN 8) (m2 (fAdd false) (m2 (fAdd false) (mVar 1) (mVar 2)) (mA1 (fLst false) (maCons (mC (.str "zz9zz9")) maNil))) (mIfS (tAndM (asB (m2 (fIns true T_contains (fIn true)) (mVar 8) (mVar 4))) (asB (m2 (fNes g0 T_eq nfB (fEq true)) (mA1 fRepr (maCons (mA1 (fLst false) (maCons (m2 (fIns false T_contains (fIn false)) (mVar 8) (mVar 0)) (maCons (mA1 (fCallN 2 F__law_p3_pair []) (maCons (mVar 0) (maCons (mVar 8) maNil))) maNil))) maNil)) (mA1 fRepr (maCons (mA1 (fLst false) (maCons (mC (.bl false)) (maCons (mA1 (fLst false) (maCons (mC (.str "none")) (maCons (mVar 8) maNil))) maNil))) maNil))))) (mRet (mC (.bl false))) mSkip)) (mRet (mC (.bl true)))))))))
def F__law_p3_fits : Fn := fnOf 9 4 m__law_p3_fits
def m__law_p3_another : MS := (mSeq (mSet 4 (mA1 (fCallN 2 F__law_draw []) (maCons (mVar 0) (maCons (mC (.int 6)) maNil)))) (mSeq (mSet 5 (mA1 (fLst true) (maCons (m1 (fRev false) (mVar 1)) (maCons (mA1 fTuple (maCons (m1 (fRev false) (mVar 2)) maNil)) (maCons (mA1 (fList false) (maCons (mVar 3) maNil)) maNil))))) (mSeq (mIfS (asB (m2 (fEq false) (mVar 4) (mC (.int 1)))) (mSetIxO 5 (m2 (fAdd false) (mA1 (fLst false) (maCons (mA1 (fCallN 2 F__law_name []) (maCons (mVar 0) (maCons (mVar 1) maNil))) maNil)) (mSl false (mVar 1) (moS (mC (.int 1))) moN)) (mC (.int 0))) mSkip) (mSeq (mIfS (asB (m2 (fEq false) (mVar 4) (mC (.int 2)))) (mSetIxO 5 (mSl false (mVar 2) (moS (mC (.int 1))) moN) (mC (.int 1))) mSkip) (mSeq (mIfS (asB (m2 (fEq false) (mVar 4) (mC (.int 3)))) (mSetIxO 5 (mA1 fTuple (maCons (m1 (fRev false) (mVar 3)) maNil)) (mC (.int 2))) mSkip) (mSeq (mIfS (asB (m2 (fEq false) (mVar 4) (mC (.int 4)))) (mSetIxO 5 (m2 (fAdd false) (mA1 (fLst false) (maCons (mA1 fTup (maCons (m2 fIx (m2 fIx (mVar 3) (mC (.int 0))) (mC (.int 0))) (maCons (mC (.int 10000)) (maCons (m2 (fAdd false) (mC (.int 1)) (mA1 (fCallN 2 F__law_draw []) (maCons (mVar 0) (maCons (mC (.int 9999)) maNil)))) maNil)))) maNil)) (mSl false (mVar 3) (moS (mC (.int 1))) moN)) (mC (.int 2))) mSkip) (mSeq (mIfS (asB (m2 (fEq false) (mVar 4) (mC (.int 5)))) (mSetIxO 5 (mSl false (mVar 3) moN (moS (mC (.int 1)))) (mC (.int 2))) mSkip) (mFrz 5 (mRet (mVar 5))))))))))
def F__law_p3_another : Fn := fnOf 6 4 m__law_p3_another
def m_law : MS := (mSeq (mSet 1 (mA1 (fCallN 1 F__law_bag []) (maCons (mVar 0) maNil))) (mSeq (mSet 2 (mA1 (fCallN 3 F__law_names []) (maCons (mVar 1) (maCons (m2 (fAdd false) (mC (.int 1)) (mA1 (fCallN 2 F__law_draw []) (maCons (mVar 1) (maCons (mC (.int 4)) maNil)))) (maCons (mA1 (fLst false) maNil) maNil))))) (mSeq (mSet 3 (mA1 (fCallN 3 F__law_names []) (maCons (mVar 1) (maCons (mA1 (fCallN 2 F__law_draw []) (maCons (mVar 1) (maCons (mC (.int 5)) maNil))) (maCons (mA1 (fLst false) maNil) maNil))))) (mSeq (mSet 4 (mA1 (fCallN 2 F__law_p3_vessels []) (maCons (mVar 1) (maCons (m2 (fAdd false) (mC (.int 1)) (mA1 (fCallN 2 F__law_draw []) (maCons (mVar 1) (maCons (mC (.int 6)) maNil)))) maNil)))) (mSeq (mSet 5 (mA1 (fLst false) (maCons (mA1 fListC (maCons (mVar 2) maNil)) (maCons (mA1 fListC (maCons (mVar 3) maNil)) (maCons (mA1 fListC (maCons (mVar 4) maNil)) maNil))))) (mSeq (mFrzd (mSet 6 (mA1 (fMake 4 3 FI_Plant_xinitx []) (maCons (m2 (fIxs T_getitem fIx) (mVar 5) (mC (.int 0))) (maCons (m2 (fIxs T_getitem fIx) (mVar 5) (mC (.int 1))) (maCons (m2 (fIxs T_getitem fIx) (mVar 5) (mC (.int 2))) maNil)))))) (mSeq (mIfS (asB (m2 (fNes g0 T_eq nfB (fEq true)) (mA1 fReprC (maCons (mVar 5) maNil)) (mA1 fReprC (maCons (mA1 (fLst false) (maCons (mVar 2) (maCons (mVar 3) (maCons (mVar 4) maNil)))) maNil)))) (mRet (mC (.bl false))) mSkip) (mSeq (mDrop (mMetM lmAppend (m2 (fIxs T_getitem fIx) (mVar 5) (mC (.int 0))) (maCons (mC (.str "late")) maNil))) (mSeq (mDrop (mMetM lmClear (m2 (fIxs T_getitem fIx) (mVar 5) (mC (.int 1))) maNil)) (mSeq (mDrop (mMetM lmReverse (m2 (fIxs T_getitem fIx) (mVar 5) (mC (.int 2))) maNil)) (mSeq (mDrop (mMetM lmAppend (m2 (fIxs T_getitem fIx) (mVar 5) (mC (.int 2))) (maCons (mA1 fTup (maCons (mC (.str "late")) (maCons (mC (.int 3)) (maCons (mC (.int 1)) maNil)))) maNil))) (mSeq (mIfS (tNotM (asB (mA1 (fCallN 4 F__law_p3_fits []) (maCons (mVar 6) (maCons (mVar 2) (maCons (mVar 3) (maCons (mVar 4) maNil))))))) (mRet (mC (.bl false))) mSkip) (mSeq (mIfS (tNotM (asB (mA1 (fCallN 2 F__law_p3_names_told []) (maCons (mA1 (fCallN 1 F__law_p3_odd []) (maCons (mVar 1) maNil)) (maCons (m2 (fAdd false) (m2 (fAdd false) (mVar 2) (mVar 3)) (mComp false [13] (gtN 13) mYes (m2 (fIxs T_getitem fIx) (mVar 13) (mC (.int 0))) (mVar 4))) maNil))))) (mRet (mC (.bl false))) mSkip) (mSeq (mSet 7 (mA1 (fCallN 4 F__law_p3_another []) (maCons (mVar 1) (maCons (mVar 2) (maCons (mVar 3) (maCons (mVar 4) maNil)))))) (mSeq (mSet 8 (mA1 (fMake 4 3 FI_Plant_xinitx []) (maCons (m2 (fIxs T_getitem fIx) (mVar 7) (mC (.int 0))) (maCons (m2 (fIxs T_getitem fIx) (mVar 7) (mC (.int 1))) (maCons (m2 (fIxs T_getitem fIx) (mVar 7) (mC (.int 2))) maNil))))) (mSeq (mSet 9 (mAnd (m2 (fEqs g0 T_eq nfB (fEq false)) (mA1 (fSorted g0.kc false) (maCons (m2 (fIxs T_getitem fIx) (mVar 7) (mC (.int 0))) maNil)) (mA1 (fSorted g0.kc false) (maCons (mVar 2) maNil))) (m2 (fEqs g0 T_eq nfB (fEq false)) (mA1 (fSorted g0.kc false) (maCons (m2 (fIxs T_getitem fIx) (mVar 7) (mC (.int 1))) maNil)) (mA1 (fSorted g0.kc false) (maCons (mVar 3) maNil))))) (mSeq (mSet 9 (mAnd (mVar 9) (m2 (fEqs g0 T_eq nfB (fEq false)) (mA1 (fList false) (maCons (m2 (fIxs T_getitem fIx) (mVar 7) (mC (.int 2))) maNil)) (mVar 4)))) (mSeq (mIfS (asB (m2 (fNes g0 T_eq nfB (fEq true)) (mA1 fReprC (maCons (mA1 (fLst false) (maCons (m2 (fEqs g0 T_eq nfB (fEq false)) (mVar 6) (mVar 8)) (maCons (m2 (fEqs g0 T_eq nfB (fEq false)) (mVar 8) (mVar 6)) (maCons (m2 (fNes g0 T_eq nfB (fEq true)) (mVar 6) (mVar 8)) (maCons (m2 (fEqs g0 T_eq nfB (fEq false)) (mVar 6) (mVar 4)) maNil))))) maNil)) (mA1 fReprC (maCons (mA1 (fLst false) (maCons (mVar 9) (maCons (mVar 9) (maCons (mNot (mVar 9)) (maCons (mC (.bl false)) maNil))))) maNil)))) (mRet (mC (.bl false))) mSkip) (mSeq (mIfS (tNotM (asB (mA1 (fCallN 4 F__law_p3_fits []) (maCons (mVar 8) (maCons (mA1 (fList false) (maCons (m2 (fIxs T_getitem fIx) (mVar 7) (mC (.int 0))) maNil)) (maCons (mA1 (fList false) (maCons (m2 (fIxs T_getitem fIx) (mVar 7) (mC (.int 1))) maNil)) (maCons (mA1 (fList false) (maCons (m2 (fIxs T_getitem fIx) (mVar 7) (mC (.int 2))) maNil)) maNil))))))) (mRet (mC (.bl false))) mSkip) (mSeq (mForR (gtN 10) (maCons (mC (.int 2)) maNil) (mSeq (mSet 11 (mC (.str ""))) (mSeq (mSet 12 (mA1 (fLst true) (maCons (mA1 (fList false) (maCons (mVar 2) maNil)) (maCons (mA1 fTuple (maCons (mVar 3) maNil)) (maCons (mA1 (fList false) (maCons (mVar 4) maNil)) maNil))))) (mSeq (mIfS (asB (m2 (fEqs g0 T_eq nfB (fEq false)) (mA1 (fCallN 2 F__law_draw []) (maCons (mVar 1) (maCons (mC (.int 3)) maNil))) (mC (.int 1)))) (mSeq (mSetIxO 12 (mA1 (fCallN 2 F__law_p3_spoilt_vessels []) (maCons (mVar 1) (maCons (mVar 4) maNil))) (mC (.int 2))) (mSet 11 (mC (.str "vessels")))) mSkip) (mSeq (mIfS (asB (m2 (fEqs g0 T_eq nfB (fEq false)) (mA1 (fCallN 2 F__law_draw []) (maCons (mVar 1) (maCons (mC (.int 3)) maNil))) (mC (.int 1)))) (mSeq (mSetIxO 12 (mA1 (fCallN 3 F__law_p3_spoilt_names []) (maCons (mVar 1) (maCons (mVar 3) (maCons (mC (.int 0)) maNil)))) (mC (.int 1))) (mSet 11 (mC (.str "traits")))) mSkip) (mSeq (mIfS (asB (m2 (fEqs g0 T_eq nfB (fEq false)) (mA1 (fCallN 2 F__law_draw []) (maCons (mVar 1) (maCons (mC (.int 3)) maNil))) (mC (.int 1)))) (mSeq (mSetIxO 12 (mA1 (fCallN 3 F__law_p3_spoilt_names []) (maCons (mVar 1) (maCons (mVar 2) (maCons (mC (.int 1)) maNil)))) (mC (.int 0))) (mSet 11 (mC (.str "farms")))) mSkip) (mFrz 12 (mIfS (asB (m2 (fNes g0 T_eq nfB (fEq true)) (mA1 fReprC (maCons (mA1 (fCallN 3 F__law_p3_refused []) (maCons (m2 (fIxs T_getitem fIx) (mVar 12) (mC (.int 0))) (maCons (m2 (fIxs T_getitem fIx) (mVar 12) (mC (.int 1))) (maCons (m2 (fIxs T_getitem fIx) (mVar 12) (mC (.int 2))) maNil)))) maNil)) (mA1 fReprC (maCons (mVar 11) maNil)))) (mRet (mC (.bl false))) mSkip)))))))) (mRet (mA1 (fCallN 4 F__law_p3_fits []) (maCons (mVar 6) (maCons (mVar 2) (maCons (mVar 3) (maCons (mVar 4) maNil))))))))))))))))))))))))))
def F_law : Fn := fnOf 14 1 m_law
section
variable {P : Program} {w : World} {K : PySem.W.Frag} {mg : Str → Option Value} {base : Heap}
theorem ok_BadPlant_xinitx (Z : Gn K mg base) : RdyE P w K mg base (PDx.gi K) "BadPlant" 1 1 1 (mkE "part" "class_name" "BadPlant") := by
  obtain ⟨fd, FD⟩ := SaysV.fun_ Z.S 0
  have sc : FnScope ["self", "part"] ["self", "part"] (defScope (sub 2 0)) := ⟨rfl, rfl, rfl, by decide +kernel, rfl, by decide +kernel, by decide +kernel⟩
  have T := kExo_ok (Z.S.fact 53)
  have M := He.meth_ok (Z.S.fact 54)
  exact ⟨_, fd, _, _, T, M.at_, beq_iff_eq.mp M.fn, fn_E FD sc T (He.noat_ok (Z.S.fact 55)) (He.noat_ok (Z.S.fact 56)) (Or.inl rfl) (Or.inl rfl) rfl rfl rfl rfl, FD.bindsN (ps := ["self", "part"]) (fun _ _ _ _ _ _ us hl => match us, hl with | [_, _], _ => rfl), gl_BadPlant Z, by decide, mkE_ok⟩
theorem ok_BadDeed_xinitx (Z : Gn K mg base) : RdyE P w K mg base (PDx.gi K) "BadDeed" 2 1 1 (mkE "deed" "class_name" "BadDeed") := by
  obtain ⟨fd, FD⟩ := SaysV.fun_ Z.S 1
  have sc : FnScope ["self", "deed"] ["self", "deed"] (defScope (sub 3 0)) := ⟨rfl, rfl, rfl, by decide +kernel, rfl, by decide +kernel, by decide +kernel⟩
  have T := kExo_ok (Z.S.fact 57)
  have M := He.meth_ok (Z.S.fact 58)
  exact ⟨_, fd, _, _, T, M.at_, beq_iff_eq.mp M.fn, fn_E FD sc T (He.noat_ok (Z.S.fact 59)) (He.noat_ok (Z.S.fact 60)) (Or.inl rfl) (Or.inl rfl) rfl rfl rfl rfl, FD.bindsN (ps := ["self", "deed"]) (fun _ _ _ _ _ _ us hl => match us, hl with | [_, _], _ => rfl), gl_BadDeed Z, by decide, mkE_ok⟩
theorem ok_NoThing_xinitx (Z : Gn K mg base) : RdyE P w K mg base (PDx.gi K) "NoThing" 3 1 1 (mkE "name" "class_name" "NoThing") := by
  obtain ⟨fd, FD⟩ := SaysV.fun_ Z.S 2
  have sc : FnScope ["self", "name"] ["self", "name"] (defScope (sub 4 0)) := ⟨rfl, rfl, rfl, by decide +kernel, rfl, by decide +kernel, by decide +kernel⟩
  have T := kExo_ok (Z.S.fact 61)
  have M := He.meth_ok (Z.S.fact 62)
  exact ⟨_, fd, _, _, T, M.at_, beq_iff_eq.mp M.fn, fn_E FD sc T (He.noat_ok (Z.S.fact 63)) (He.noat_ok (Z.S.fact 64)) (Or.inl rfl) (Or.inl rfl) rfl rfl rfl rfl, FD.bindsN (ps := ["self", "name"]) (fun _ _ _ _ _ _ us hl => match us, hl with | [_, _], _ => rfl), gl_NoThing Z, by decide, mkE_ok⟩
theorem ok_is_name (Z : Gn K mg base) : Rdy P w K mg base (PDx.gi K) "is_name" 1 1 [] F_is_name := by
  obtain ⟨fd, FD⟩ := SaysV.fun_ Z.S 3
  have sc : FnScope ["thing", "sign"] ["thing"] (defScope (top 10)) := ⟨rfl, rfl, rfl, by decide +kernel, rfl, by decide +kernel, by decide +kernel⟩
  exact rdy_of FD (fn_D (k := 0) (m := m_is_name) (PD.giOk Z.ok) FD sc (fun cdv A outer s H E B hr b => (vs_cons (vs_if (PW.pt (vw_or (vt_not (vt_val (ve_isi b.G b.K (.bt "str") rfl (fr_isinstance Z) (ve_var 0) (pe_bltn (v := .ty "str") rfl (fr_str Z) bt_str rfl)))) (vw_or1 (vt_not (vt_chain o_le o_le ve_int (ve_callB (c_len b.K) rfl (fr_len Z) bt_len (va_cons (ve_var 0) va_nil)) (ve_glob rfl (gd_LONGEST_NAME Z))))))) (vs_one (vs_ret ve_bl)) vs_nil) (vs_cons (vs_if (PW.pt (vw_or (vt_cmp (o_nin b.K (un65 hr)) (ve_ix b.K (ve_var 0) ve_int fun _ _ => rfl) (ve_glob rfl (gd_LETTERS Z)) rfl) (vw_or1 (vt_cmp (o_in b.K (un65 hr)) (ve_var 0) (ve_glob rfl (gd_RESERVED Z)) rfl)))) (vs_one (vs_ret ve_bl)) vs_nil) (vs_one (vs_ret (ve_callB (c_all b.K b.calm) rfl (fr_all Z) bt_all (va_cons (ve_lcS (own := [("sign", 1)]) false b sc.nd (ve_var 0) (blkOk_by (own := [("sign", 1)]) rfl) (cg_name (i := 1) (by decide)) (fun _ _ _ _ _ => pg_name sc.nd rfl (Or.inl rfl)) (fun _ _ _ _ _ => vts_nil) (fun _ _ _ _ _ => (ve_cmp (o_in b.blk.K (un65 hr)) (ve_var 1) (ve_glob rfl (gd_SIGNS Z)) rfl))) va_nil)))))))) (gl_is_name Z) (fun _ _ _ _ _ _ us hl => match us, hl with | [_], _ => rfl) rfl
theorem ok_is_whole (Z : Gn K mg base) : Rdy P w K mg base (PDx.gi K) "is_whole" 1 1 [] F_is_whole := by
  obtain ⟨fd, FD⟩ := SaysV.fun_ Z.S 4
  have sc : FnScope ["thing"] ["thing"] (defScope (top 11)) := ⟨rfl, rfl, rfl, by decide +kernel, rfl, by decide +kernel, by decide +kernel⟩
  exact rdy_of FD (fn_D (k := 0) (m := m_is_whole) (PD.giOk Z.ok) FD sc (fun cdv A outer s H E B hr b => (vs_one (vs_ret (ve_and (ve_isi b.G b.K (.bt "int") rfl (fr_isinstance Z) (ve_var 0) (pe_bltn (v := .ty "int") rfl (fr_int Z) bt_int rfl)) (ve_one (ve_not (ve_isi b.G b.K (.bt "bool") rfl (fr_isinstance Z) (ve_var 0) (pe_bltn (v := .ty "bool") rfl (fr_bool Z) bt_bool rfl))))))))) (gl_is_whole Z) (fun _ _ _ _ _ _ us hl => match us, hl with | [_], _ => rfl) rfl
theorem ok_is_whole_within (Z : Gn K mg base) : Rdy P w K mg base (PDx.gi K) "is_whole_within" 2 3 [] F_is_whole_within := by
  obtain ⟨fd, FD⟩ := SaysV.fun_ Z.S 5
  have sc : FnScope ["thing", "least", "most"] ["thing", "least", "most"] (defScope (top 12)) := ⟨rfl, rfl, rfl, by decide +kernel, rfl, by decide +kernel, by decide +kernel⟩
  exact rdy_of FD (fn_D (k := 1) (m := m_is_whole_within) (PD.giOk Z.ok) FD sc (fun cdv A outer s H E B hr b => (vs_one (vs_ret (ve_and (ve_call ((ok_is_whole Z).v hr (by decide)) b.gd b.tk rfl (va_cons (ve_var 0) va_nil)) (ve_one (ve_chain o_le o_le (ve_var 1) (ve_var 0) (ve_var 2)))))))) (gl_is_whole_within Z) (fun _ _ _ _ _ _ us hl => match us, hl with | [_, _, _], _ => rfl) rfl
theorem ok_are_names (Z : Gn K mg base) : Rdy P w K mg base (PDx.gi K) "are_names" 2 3 [] F_are_names := by
  obtain ⟨fd, FD⟩ := SaysV.fun_ Z.S 6
  have sc : FnScope ["things", "least", "most", "thing"] ["things", "least", "most"] (defScope (top 18)) := ⟨rfl, rfl, rfl, by decide +kernel, rfl, by decide +kernel, by decide +kernel⟩
  exact rdy_of FD (fn_D (k := 1) (m := m_are_names) (PD.giOk Z.ok) FD sc (fun cdv A outer s H E B hr b => (vs_cons (vs_if (PW.pt (vw_or (vt_not (vt_val (ve_isi2 b.G b.K (.bt "list") (.bt "tuple") rfl (fr_isinstance Z) (ve_var 0) (pe_bltn (v := .ty "list") rfl (fr_list Z) bt_list rfl) (pe_bltn (v := .ty "tuple") rfl (fr_tuple Z) bt_tuple rfl)))) (vw_or1 (vt_not (vt_chain o_le o_le (ve_var 1) (ve_callB (c_len b.K) rfl (fr_len Z) bt_len (va_cons (ve_var 0) va_nil)) (ve_var 2)))))) (vs_one (vs_ret ve_bl)) vs_nil) (vs_cons (vs_if (vt_not (vt_val (ve_callB (c_all b.K b.calm) rfl (fr_all Z) bt_all (va_cons (ve_lc (o := false) (own := [("thing", 3)]) b sc.nd (ve_var 0) (blkOk_by (own := [("thing", 3)]) rfl) (cg_name (i := 3) (by decide)) (fun _ _ _ _ _ => pg_name sc.nd rfl (Or.inl rfl)) (fun _ _ _ _ _ => vts_nil) (fun _ _ _ _ _ => (ve_call ((ok_is_name Z).v hr (by decide)) b.blk.gd b.blk.tk rfl (va_cons (ve_var 3) va_nil)))) va_nil)))) (vs_one (vs_ret ve_bl)) vs_nil) (vs_one (vs_ret (ve_cmp (o_eq b.K b.un) (ve_lenSet b rfl (fr_len Z) rfl (fr_set Z) (ve_var 0)) (ve_callB (c_len b.K) rfl (fr_len Z) bt_len (va_cons (ve_var 0) va_nil)) rfl))))))) (gl_are_names Z) (fun _ _ _ _ _ _ us hl => match us, hl with | [_, _, _], _ => rfl) rfl
theorem ok_is_vessel (Z : Gn K mg base) : Rdy P w K mg base (PDx.gi K) "is_vessel" 3 1 [] F_is_vessel := by
  obtain ⟨fd, FD⟩ := SaysV.fun_ Z.S 7
  have sc : FnScope ["thing", "name", "size", "keep"] ["thing"] (defScope (top 19)) := ⟨rfl, rfl, rfl, by decide +kernel, rfl, by decide +kernel, by decide +kernel⟩
  exact rdy_of FD (fn_D (k := 2) (m := m_is_vessel) (PD.giOk Z.ok) FD sc (fun cdv A outer s H E B hr b => (vs_cons (vs_if (PW.pt (vw_or (vt_not (vt_val (ve_isi b.G b.K (.bt "tuple") rfl (fr_isinstance Z) (ve_var 0) (pe_bltn (v := .ty "tuple") rfl (fr_tuple Z) bt_tuple rfl)))) (vw_or1 (vt_cmp (o_ne b.K b.un) (ve_callB (c_len b.K) rfl (fr_len Z) bt_len (va_cons (ve_var 0) va_nil)) ve_int rfl)))) (vs_one (vs_ret ve_bl)) vs_nil) (vs_cons (vs_unp (ve_var 0) (vg_tup b.K b.calm (vg_cons (vg_name sc.nd rfl (Or.inl rfl)) (vg_cons (vg_name sc.nd rfl (Or.inl rfl)) (vg_cons (vg_name sc.nd rfl (Or.inl rfl)) vg_nil))))) (vs_one (vs_ret (ve_and (ve_call ((ok_is_name Z).v hr (by decide)) b.gd b.tk rfl (va_cons (ve_var 1) va_nil)) (ve_and (ve_call ((ok_is_whole_within Z).v hr (by decide)) b.gd b.tk rfl (va_cons (ve_var 2) (va_cons ve_int (va_cons (ve_glob rfl (gd_GREATEST_SIZE Z)) va_nil)))) (ve_one (ve_call ((ok_is_whole_within Z).v hr (by decide)) b.gd b.tk rfl (va_cons (ve_var 3) (va_cons ve_int (va_cons (ve_bin o_sub (ve_var 2) ve_int) va_nil))))))))))))) (gl_is_vessel Z) (fun _ _ _ _ _ _ us hl => match us, hl with | [_], _ => rfl) rfl
theorem ok_are_vessels (Z : Gn K mg base) : Rdy P w K mg base (PDx.gi K) "are_vessels" 4 1 [] F_are_vessels := by
  obtain ⟨fd, FD⟩ := SaysV.fun_ Z.S 8
  have sc : FnScope ["things", "thing"] ["things"] (defScope (top 20)) := ⟨rfl, rfl, rfl, by decide +kernel, rfl, by decide +kernel, by decide +kernel⟩
  exact rdy_of FD (fn_D (k := 3) (m := m_are_vessels) (PD.giOk Z.ok) FD sc (fun cdv A outer s H E B hr b => (vs_cons (vs_if (PW.pt (vw_or (vt_not (vt_val (ve_isi2 b.G b.K (.bt "list") (.bt "tuple") rfl (fr_isinstance Z) (ve_var 0) (pe_bltn (v := .ty "list") rfl (fr_list Z) bt_list rfl) (pe_bltn (v := .ty "tuple") rfl (fr_tuple Z) bt_tuple rfl)))) (vw_or1 (vt_not (vt_val (ve_callB (c_all b.K b.calm) rfl (fr_all Z) bt_all (va_cons (ve_lc (o := false) (own := [("thing", 1)]) b sc.nd (ve_var 0) (blkOk_by (own := [("thing", 1)]) rfl) (cg_name (i := 1) (by decide)) (fun _ _ _ _ _ => pg_name sc.nd rfl (Or.inl rfl)) (fun _ _ _ _ _ => vts_nil) (fun _ _ _ _ _ => (ve_call ((ok_is_vessel Z).v hr (by decide)) b.blk.gd b.blk.tk rfl (va_cons (ve_var 1) va_nil)))) va_nil))))))) (vs_one (vs_ret ve_bl)) vs_nil) (vs_one (vs_ret (ve_call ((ok_are_names Z).v hr (by decide)) b.gd b.tk rfl (va_cons (ve_lc (o := false) (own := [("thing", 1)]) b sc.nd (ve_var 0) (blkOk_by (own := [("thing", 1)]) rfl) (cg_name (i := 1) (by decide)) (fun _ _ _ _ _ => pg_name sc.nd rfl (Or.inl rfl)) (fun _ _ _ _ _ => vts_nil) (fun _ _ _ _ _ => (ve_ix b.blk.K (ve_var 1) ve_int fun _ _ => rfl))) (va_cons ve_int (va_cons (ve_glob rfl (gd_MOST_VESSELS Z)) va_nil))))))))) (gl_are_vessels Z) (fun _ _ _ _ _ _ us hl => match us, hl with | [_], _ => rfl) rfl
theorem ok_Plant_xinitx (Z : Gn K mg base) : RdyI P w K mg base (PDx.gi K) 4 5 3 [] FI_Plant_xinitx := by
  obtain ⟨fd, FD⟩ := SaysV.fun_ Z.S 9
  have sc : FnScope ["self", "farms", "traits", "vessels", "vessel"] ["self", "farms", "traits", "vessels"] (defScope (sub 21 0)) := ⟨rfl, rfl, rfl, by decide +kernel, rfl, by decide +kernel, by decide +kernel⟩
  have bn : Binds K fd ["self", "farms", "traits", "vessels"] [] := FD.bindsN (fun _ _ _ _ _ _ us hl => match us, hl with | [_, _, _, _], _ => rfl)
  exact ⟨_, fd, _, _, [], [], fn_I (c := 4) (k := 4) (m := m_Plant_xinitx) (PD.giOk Z.ok) FD sc (fun cdv A outer s H E B hr b => (vs_cons (vs_if (vt_not (vt_val (ve_call ((ok_are_names Z).v hr (by decide)) b.gd b.tk rfl (va_cons (ve_var 1) (va_cons ve_int (va_cons (ve_glob rfl (gd_MOST_FARMS Z)) va_nil)))))) (vs_one (vs_raise b ((ok_BadPlant_xinitx Z).v hr (by decide)) rfl (va_cons ve_str va_nil))) vs_nil) (vs_cons (vs_if (vt_not (vt_val (ve_call ((ok_are_names Z).v hr (by decide)) b.gd b.tk rfl (va_cons (ve_var 2) (va_cons ve_int (va_cons (ve_glob rfl (gd_MOST_TRAITS Z)) va_nil)))))) (vs_one (vs_raise b ((ok_BadPlant_xinitx Z).v hr (by decide)) rfl (va_cons ve_str va_nil))) vs_nil) (vs_cons (vs_if (vt_not (vt_val (ve_call ((ok_are_vessels Z).v hr (by decide)) b.gd b.tk rfl (va_cons (ve_var 3) va_nil)))) (vs_one (vs_raise b ((ok_BadPlant_xinitx Z).v hr (by decide)) rfl (va_cons ve_str va_nil))) vs_nil) (vs_cons (vs_setfld b.G b.K (pe_var (i := 0) rfl (Or.inl rfl)) (ve_callTy (c_tuple b.K) rfl (fr_tuple Z) bt_tuple (va_cons (ve_callB (c_sorted (g := PDx.gi K) false b.K) rfl (fr_sorted Z) bt_sorted (va_cons (ve_var 1) va_nil)) va_nil))) (vs_cons (vs_setfld b.G b.K (pe_var (i := 0) rfl (Or.inl rfl)) (ve_callTy (c_tuple b.K) rfl (fr_tuple Z) bt_tuple (va_cons (ve_callB (c_sorted (g := PDx.gi K) false b.K) rfl (fr_sorted Z) bt_sorted (va_cons (ve_var 2) va_nil)) va_nil))) (vs_cons (vs_setfld b.G b.K (pe_var (i := 0) rfl (Or.inl rfl)) (ve_callTy (c_tuple b.K) rfl (fr_tuple Z) bt_tuple (va_cons (ve_var 3) va_nil))) (vs_one (vs_setfld b.G b.K (pe_var (i := 0) rfl (Or.inl rfl)) (ve_callTy (c_tuple b.K) rfl (fr_tuple Z) bt_tuple (va_cons (ve_lc (o := false) (own := [("vessel", 4)]) b sc.nd (ve_var 3) (blkOk_by (own := [("vessel", 4)]) rfl) (cg_name (i := 4) (by decide)) (fun _ _ _ _ _ => pg_name sc.nd rfl (Or.inl rfl)) (fun _ _ _ _ _ => vts_nil) (fun _ _ _ _ _ => (ve_ix b.blk.K (ve_var 4) ve_int fun _ _ => rfl))) va_nil))))))))))), He.mkr_ok (Z.S.fact 65), bn, .nil, fun _ _ => rfl, rfl⟩
theorem ok_Plant_xgetitemx (Z : Gn K mg base) : RdyM P w K mg base (PDx.gi K) 4 "__getitem__" 3 1 [] F_Plant_xgetitemx := by
  obtain ⟨fd, FD⟩ := SaysV.fun_ Z.S 10
  have sc : FnScope ["self", "at", "name", "size", "keep"] ["self", "at"] (defScope (sub 21 1)) := ⟨rfl, rfl, rfl, by decide +kernel, rfl, by decide +kernel, by decide +kernel⟩
  exact rdyM_of (g := PDx.gi K) (c := 4) FD (fn_D (k := 2) (m := m_Plant_xgetitemx) (PD.giOk Z.ok) FD sc (fun cdv A outer s H E B hr b => (vs_cons (vs_for b.K b.ps b.calm (ve_fld b.G b.K (ve_var 0)) (vg_tup b.K b.calm (vg_cons (vg_name sc.nd rfl (Or.inl rfl)) (vg_cons (vg_name sc.nd rfl (Or.inl rfl)) (vg_cons (vg_name sc.nd rfl (Or.inl rfl)) vg_nil)))) (vs_one (vs_if (vt_cmp (o_eq b.K b.un) (ve_var 2) (ve_var 1) rfl) (vs_one (vs_ret (ve_tup (va_cons (ve_var 3) (va_cons (ve_var 4) va_nil))))) vs_nil))) (vs_one (vs_raise b ((ok_NoThing_xinitx Z).v hr (by decide)) rfl (va_cons (ve_var 1) va_nil)))))) (He.meth_ok (Z.S.fact 66)) (show decide (4 ∈ PDx.cls) = true by decide) (fun _ _ _ _ _ _ us hl => match us, hl with | [_, _], _ => rfl) rfl
theorem vo_getitem {X : Cx} {j : Nat} (Z : Gn X.K X.mg X.base) (hr : Room j X.A) (hj : 4 ≤ j) : VOps X (PDx.gi X.K) "__getitem__" 2 T_getitem := fun c F e => by
  have e : (if c = 4 then some F_Plant_xgetitemx else none) = some F := e
  by_cases h : c = 4
  · rw [if_pos h] at e
    cases e
    subst h
    exact (ok_Plant_xgetitemx Z).op (PD.sf Z.ok (by decide)) hr hj
  · rw [if_neg h] at e
    cases e
theorem ok_Plant_xcontainsx (Z : Gn K mg base) : RdyM P w K mg base (PDx.gi K) 4 "__contains__" 1 1 [] F_Plant_xcontainsx := by
  obtain ⟨fd, FD⟩ := SaysV.fun_ Z.S 11
  have sc : FnScope ["self", "x"] ["self", "x"] (defScope (sub 21 2)) := ⟨rfl, rfl, rfl, by decide +kernel, rfl, by decide +kernel, by decide +kernel⟩
  exact rdyM_of (g := PDx.gi K) (c := 4) FD (fn_D (k := 0) (m := m_Plant_xcontainsx) (PD.giOk Z.ok) FD sc (fun cdv A outer s H E B hr b => (vs_one (vs_ret (ve_cmp (o_in b.K (un65 hr)) (ve_var 1) (ve_fld b.G b.K (ve_var 0)) rfl))))) (He.meth_ok (Z.S.fact 67)) (show decide (4 ∈ PDx.cls) = true by decide) (fun _ _ _ _ _ _ us hl => match us, hl with | [_, _], _ => rfl) rfl
theorem vo_contains {X : Cx} {j : Nat} (Z : Gn X.K X.mg X.base) (hr : Room j X.A) (hj : 2 ≤ j) : VOps X (PDx.gi X.K) "__contains__" 2 T_contains := fun c F e => by
  have e : (if c = 4 then some F_Plant_xcontainsx else none) = some F := e
  by_cases h : c = 4
  · rw [if_pos h] at e
    cases e
    subst h
    exact (ok_Plant_xcontainsx Z).op (PD.sf Z.ok (by decide)) hr hj
  · rw [if_neg h] at e
    cases e
theorem ok_Plant_xiterx (Z : Gn K mg base) : RdyIt P w K mg base (PDx.gi K) 4 1 m_Plant_xiterx := by
  obtain ⟨fd, FD⟩ := SaysV.fun_ Z.S 12
  have sc : FnScope ["self"] ["self"] (defScope (sub 21 3)) := ⟨rfl, rfl, rfl, by decide +kernel, rfl, by decide +kernel, by decide +kernel⟩
  exact ⟨_, fd, ["self"], fn_It (k := 0) (m := m_Plant_xiterx) (PD.giOk Z.ok) FD sc (fun cdv A outer s H E B hr b => (vss_iter b.K rfl (fr_iter Z) (ve_fld b.G b.K (ve_var 0)))), He.meth_ok (Z.S.fact 68), FD.bindsN (ps := ["self"]) (fun _ _ _ _ _ _ us hl => match us, hl with | [_], _ => rfl), rfl⟩
theorem vi_iter {X : Cx} {j : Nat} (Z : Gn X.K X.mg X.base) (hr : Room j X.A) (hj : 5 ≤ j) : VIters X (PDx.gi X.K) TI_iter := fun c m e => by
  have e : (if c = 4 then some m_Plant_xiterx else none) = some m := e
  by_cases h : c = 4
  · rw [if_pos h] at e
    cases e
    subst h
    exact (ok_Plant_xiterx Z).v hr hj
  · rw [if_neg h] at e
    cases e
theorem ok_Plant_xlenx (Z : Gn K mg base) : RdyM P w K mg base (PDx.gi K) 4 "__len__" 1 0 [] F_Plant_xlenx := by
  obtain ⟨fd, FD⟩ := SaysV.fun_ Z.S 13
  have sc : FnScope ["self"] ["self"] (defScope (sub 21 4)) := ⟨rfl, rfl, rfl, by decide +kernel, rfl, by decide +kernel, by decide +kernel⟩
  exact rdyM_of (g := PDx.gi K) (c := 4) FD (fn_D (k := 0) (m := m_Plant_xlenx) (PD.giOk Z.ok) FD sc (fun cdv A outer s H E B hr b => (vs_one (vs_ret (ve_callB (c_len b.K) rfl (fr_len Z) bt_len (va_cons (ve_fld b.G b.K (ve_var 0)) va_nil)))))) (He.meth_ok (Z.S.fact 69)) (show decide (4 ∈ PDx.cls) = true by decide) (fun _ _ _ _ _ _ us hl => match us, hl with | [_], _ => rfl) rfl
theorem vo_len {X : Cx} {j : Nat} (Z : Gn X.K X.mg X.base) (hr : Room j X.A) (hj : 2 ≤ j) : VOps X (PDx.gi X.K) "__len__" 1 T_len := fun c F e => by
  have e : (if c = 4 then some F_Plant_xlenx else none) = some F := e
  by_cases h : c = 4
  · rw [if_pos h] at e
    cases e
    subst h
    exact (ok_Plant_xlenx Z).op (PD.sf Z.ok (by decide)) hr hj
  · rw [if_neg h] at e
    cases e
theorem vo_len4 {X : Cx} {j : Nat} (Z : Gn X.K X.mg X.base) (hr : Room j X.A) (hj : 5 ≤ j) : VOps4 X (PDx.gi X.K) "__len__" 1 T_len := fun c F e => by
  have e : (if c = 4 then some F_Plant_xlenx else none) = some F := e
  by_cases h : c = 4
  · rw [if_pos h] at e
    cases e
    subst h
    exact (ok_Plant_xlenx Z).op4 hr hj
  · rw [if_neg h] at e
    cases e
theorem ok_Plant_xeqx (Z : Gn K mg base) : RdyM P w K mg base (PDx.gi K) 4 "__eq__" 1 1 [] F_Plant_xeqx := by
  obtain ⟨fd, FD⟩ := SaysV.fun_ Z.S 14
  have sc : FnScope ["self", "other"] ["self", "other"] (defScope (sub 21 5)) := ⟨rfl, rfl, rfl, by decide +kernel, rfl, by decide +kernel, by decide +kernel⟩
  exact rdyM_of (g := PDx.gi K) (c := 4) FD (fn_D (k := 0) (m := m_Plant_xeqx) (PD.giOk Z.ok) FD sc (fun cdv A outer s H E B hr b => (vs_one (vs_ret (ve_and (ve_isi b.G b.K (.own 4) rfl (fr_isinstance Z) (ve_var 1) (pe_glob rfl (gl_Plant Z) rfl)) (ve_and (ve_cmp (o_eq b.K b.un) (ve_fld b.G b.K (ve_var 0)) (ve_fld b.G b.K (ve_var 1)) rfl) (ve_and (ve_cmp (o_eq b.K b.un) (ve_fld b.G b.K (ve_var 0)) (ve_fld b.G b.K (ve_var 1)) rfl) (ve_one (ve_cmp (o_eq b.K b.un) (ve_fld b.G b.K (ve_var 0)) (ve_fld b.G b.K (ve_var 1)) rfl))))))))) (He.meth_ok (Z.S.fact 70)) (show decide (4 ∈ PDx.cls) = true by decide) (fun _ _ _ _ _ _ us hl => match us, hl with | [_, _], _ => rfl) rfl
theorem vo_eq {X : Cx} {j : Nat} (Z : Gn X.K X.mg X.base) (hr : Room j X.A) (hj : 2 ≤ j) : VOps X (PDx.gi X.K) "__eq__" 2 T_eq := fun c F e => by
  have e : (if c = 4 then some F_Plant_xeqx else none) = some F := e
  by_cases h : c = 4
  · rw [if_pos h] at e
    cases e
    subst h
    exact (ok_Plant_xeqx Z).op (PD.sf Z.ok (by decide)) hr hj
  · rw [if_neg h] at e
    cases e
theorem ne_ok {X : Cx} (Z : Gn X.K X.mg X.base) : ∀ c F, T_eq c = some F → PySem.W.findIn X.K (.ref ((PDx.gi X.K).ca c)) "__ne__" = some (some (.builtin "object.__ne__")) ∧ PySem.W.mroIn X.K ((PDx.gi X.K).ca c) (.type "object") = some true := fun c F e => by
  have e : (if c = 4 then some F_Plant_xeqx else none) = some F := e
  by_cases h : c = 4
  · subst h
    exact ⟨eqv_ok (Z.S.fact 71), ((PD.giOk Z.ok).cls 4 (show decide (4 ∈ PDx.cls) = true by decide)).hm⟩
  · rw [if_neg h] at e
    cases e
theorem ok__law_bag (Z : Gn K mg base) : Rdy P w K mg base (PDx.gi K) "_law_bag" 1 1 [] F__law_bag := by
  obtain ⟨fd, FD⟩ := SaysV.fun_ Z.S 15
  have sc : FnScope ["_law_script"] ["_law_script"] (defScope (top 23)) := ⟨rfl, rfl, rfl, by decide +kernel, rfl, by decide +kernel, by decide +kernel⟩
  exact rdy_of FD (fn_D (k := 0) (m := m__law_bag) (PD.giOk Z.ok) FD sc (fun cdv A outer s H E B hr b => (vs_one (vs_retC (ve_lst (o := true) (va_cons (ve_callTy (c_list false b.K) rfl (fr_list Z) bt_list (va_cons (ve_var 0) va_nil)) (va_cons ve_int (va_cons ve_int (va_cons (ve_bin o_mod (ve_callTy c_int rfl (fr_int Z) bt_int (va_cons (ve_callB (c_sum b.K b.calm) rfl (fr_sum Z) bt_sum (va_cons (ve_var 0) va_nil)) va_nil)) ve_int) (va_cons ve_int (va_cons ve_int va_nil))))))))))) (gl__law_bag Z) (fun _ _ _ _ _ _ us hl => match us, hl with | [_], _ => rfl) rfl
theorem ok__law_mixed (Z : Gn K mg base) : Rdy P w K mg base (PDx.gi K) "_law_mixed" 1 2 [] F__law_mixed := by
  obtain ⟨fd, FD⟩ := SaysV.fun_ Z.S 16
  have sc : FnScope ["_law_seed", "_law_turn", "_law_first"] ["_law_seed", "_law_turn"] (defScope (top 24)) := ⟨rfl, rfl, rfl, by decide +kernel, rfl, by decide +kernel, by decide +kernel⟩
  exact rdy_of FD (fn_D (k := 0) (m := m__law_mixed) (PD.giOk Z.ok) FD sc (fun cdv A outer s H E B hr b => (vs_cons (vs_set sc.nd rfl (Or.inl rfl) (ve_bin o_mod (ve_callTy c_int rfl (fr_int Z) bt_int (va_cons (ve_bin (o_add false b.K) (ve_bin o_mul (ve_bin (o_add false b.K) (ve_var 0) ve_int) ve_int) (ve_bin o_mul (ve_bin (o_add false b.K) (ve_var 1) ve_int) ve_int)) va_nil)) ve_int)) (vs_one (vs_ret (ve_bin o_div (ve_bin o_mod (ve_callTy c_int rfl (fr_int Z) bt_int (va_cons (ve_bin (o_add false b.K) (ve_bin (o_add false b.K) (ve_bin o_mul (ve_var 2) (ve_var 2)) (ve_bin o_mul (ve_var 2) ve_int)) (ve_bin o_mul ve_int (ve_var 1))) va_nil)) ve_int) ve_int)))))) (gl__law_mixed Z) (fun _ _ _ _ _ _ us hl => match us, hl with | [_, _], _ => rfl) rfl
theorem ok__law_draw (Z : Gn K mg base) : Rdy P w K mg base (PDx.gi K) "_law_draw" 2 2 [] F__law_draw := by
  obtain ⟨fd, FD⟩ := SaysV.fun_ Z.S 17
  have sc : FnScope ["_law_bag_here", "_law_many", "_law_cell", "_law_value"] ["_law_bag_here", "_law_many"] (defScope (top 25)) := ⟨rfl, rfl, rfl, by decide +kernel, rfl, by decide +kernel, by decide +kernel⟩
  exact rdy_of FD (fn_D (k := 1) (m := m__law_draw) (PD.giOk Z.ok) FD sc (fun cdv A outer s H E B hr b => (vs_cons (vs_if (vt_cmp o_lt (ve_var 1) ve_int rfl) (vs_one (vs_ret ve_int)) vs_nil) (vs_cons (vs_setix (ve_bin (o_add false b.K) (ve_ix b.K (ve_var 0) ve_int fun _ _ => rfl) ve_int) (ve_var 0) ve_int) (vs_cons (vs_if (PW.pt (vw_and (vt_cmp (o_eq b.K b.un) (ve_ix b.K (ve_var 0) ve_int fun _ _ => rfl) ve_int rfl) (vw_and (vt_cmp (o_eq b.K b.un) (ve_ix b.K (ve_var 0) ve_int fun _ _ => rfl) ve_int rfl) (vw_and1 (vt_cmp o_lt (ve_ix b.K (ve_var 0) ve_int fun _ _ => rfl) (ve_callB (c_len b.K) rfl (fr_len Z) bt_len (va_cons (ve_ix b.K (ve_var 0) ve_int fun _ _ => rfl) va_nil)) rfl))))) (vs_cons (vs_set sc.nd rfl (Or.inl rfl) (ve_ix b.K (ve_ix b.K (ve_var 0) ve_int fun _ _ => rfl) (ve_ix b.K (ve_var 0) ve_int fun _ _ => rfl) fun _ _ => rfl)) (vs_cons (vs_setix (ve_bin (o_add false b.K) (ve_ix b.K (ve_var 0) ve_int fun _ _ => rfl) ve_int) (ve_var 0) ve_int) (vs_one (vs_if (vt_cmp o_ge (ve_callB c_abs rfl (fr_abs Z) bt_abs (va_cons (ve_var 2) va_nil)) (ve_bin o_pow ve_int ve_int) rfl) (vs_one (vs_setix (ve_callB c_abs rfl (fr_abs Z) bt_abs (va_cons (ve_var 2) va_nil)) (ve_var 0) ve_int)) (vs_cons (vs_setix (ve_bin (o_add false b.K) (ve_bin o_mul ve_int (ve_callB c_abs rfl (fr_abs Z) bt_abs (va_cons (ve_var 2) va_nil))) (ve_callTy c_int rfl (fr_int Z) bt_int (va_cons (ve_cmp o_lt (ve_var 2) ve_int rfl) va_nil))) (ve_var 0) ve_int) (vs_one (vs_setix ve_int (ve_var 0) ve_int))))))) vs_nil) (vs_cons (vs_if (vt_cmp o_gt (ve_ix b.K (ve_var 0) ve_int fun _ _ => rfl) ve_int rfl) (vs_cons (vs_set sc.nd rfl (Or.inl rfl) (ve_bin o_mod (ve_callTy c_int rfl (fr_int Z) bt_int (va_cons (ve_ix b.K (ve_var 0) ve_int fun _ _ => rfl) va_nil)) (ve_var 1))) (vs_cons (vs_setix (ve_bin o_div (ve_ix b.K (ve_var 0) ve_int fun _ _ => rfl) (ve_var 1)) (ve_var 0) ve_int) (vs_one (vs_ret (ve_var 3))))) vs_nil) (vs_cons (vs_if (vt_cmp o_gt (ve_ix b.K (ve_var 0) ve_int fun _ _ => rfl) ve_int rfl) (vs_one (vs_setix (ve_bin o_sub (ve_ix b.K (ve_var 0) ve_int fun _ _ => rfl) ve_int) (ve_var 0) ve_int)) vs_nil) (vs_one (vs_ret (ve_bin o_mod (ve_callTy c_int rfl (fr_int Z) bt_int (va_cons (ve_call ((ok__law_mixed Z).v hr (by decide)) b.gd b.tk rfl (va_cons (ve_ix b.K (ve_var 0) ve_int fun _ _ => rfl) (va_cons (ve_ix b.K (ve_var 0) ve_int fun _ _ => rfl) va_nil))) va_nil)) (ve_var 1))))))))))) (gl__law_draw Z) (fun _ _ _ _ _ _ us hl => match us, hl with | [_, _], _ => rfl) rfl
theorem ok__law_pick (Z : Gn K mg base) : Rdy P w K mg base (PDx.gi K) "_law_pick" 3 2 [] F__law_pick := by
  obtain ⟨fd, FD⟩ := SaysV.fun_ Z.S 18
  have sc : FnScope ["_law_bag_here", "_law_row"] ["_law_bag_here", "_law_row"] (defScope (top 26)) := ⟨rfl, rfl, rfl, by decide +kernel, rfl, by decide +kernel, by decide +kernel⟩
  exact rdy_of FD (fn_D (k := 2) (m := m__law_pick) (PD.giOk Z.ok) FD sc (fun cdv A outer s H E B hr b => (vs_one (vs_ret (ve_ix b.K (ve_var 1) (ve_call ((ok__law_draw Z).v hr (by decide)) b.gd b.tk rfl (va_cons (ve_var 0) (va_cons (ve_callB (c_len b.K) rfl (fr_len Z) bt_len (va_cons (ve_var 1) va_nil)) va_nil))) fun _ _ => rfl))))) (gl__law_pick Z) (fun _ _ _ _ _ _ us hl => match us, hl with | [_, _], _ => rfl) rfl
theorem ok__law_name (Z : Gn K mg base) : Rdy P w K mg base (PDx.gi K) "_law_name" 3 2 [] F__law_name := by
  obtain ⟨fd, FD⟩ := SaysV.fun_ Z.S 19
  have sc : FnScope ["_law_bag_here", "_law_taken", "_law_signs", "_law_name_here", "_law_k", "_law_words", "_law_spare"] ["_law_bag_here", "_law_taken"] (defScope (top 27)) := ⟨rfl, rfl, rfl, by decide +kernel, rfl, by decide +kernel, by decide +kernel⟩
  exact rdy_of FD (fn_D (k := 2) (m := m__law_name) (PD.giOk Z.ok) FD sc (fun cdv A outer s H E B hr b => (vs_cons (vs_set sc.nd rfl (Or.inl rfl) ve_str) (vs_cons (vs_set sc.nd rfl (Or.inl rfl) (ve_ix b.K (ve_var 2) (ve_call ((ok__law_draw Z).v hr (by decide)) b.gd b.tk rfl (va_cons (ve_var 0) (va_cons ve_int va_nil))) fun _ _ => rfl)) (vs_cons (vs_forR1 b.ps b.calm rfl (fr_range Z) (va_cons (ve_ix b.K (ve_lst (o := false) (va_cons ve_int (va_cons ve_int (va_cons ve_int (va_cons ve_int va_nil))))) (ve_call ((ok__law_draw Z).v hr (by decide)) b.gd b.tk rfl (va_cons (ve_var 0) (va_cons ve_int va_nil))) fun _ _ => rfl) va_nil) (vg_name sc.nd rfl (Or.inl rfl)) (vs_one (vs_set sc.nd rfl (Or.inl rfl) (ve_bin (o_add false b.K) (ve_var 3) (ve_ix b.K (ve_var 2) (ve_call ((ok__law_draw Z).v hr (by decide)) b.gd b.tk rfl (va_cons (ve_var 0) (va_cons ve_int va_nil))) fun _ _ => rfl))))) (vs_cons (vs_set sc.nd rfl (Or.inl rfl) ve_str) (vs_cons (vs_if (PW.pt (vw_and (vt_cmp (o_nin b.K (un65 hr)) (ve_var 3) (ve_var 1) rfl) (vw_and1 (vt_cmp (o_nin b.K (un65 hr)) (ve_bin (o_add false b.K) (ve_bin (o_add false b.K) ve_str (ve_var 3)) ve_str) (ve_bin (o_add false b.K) (ve_var 5) ve_str) rfl)))) (vs_one (vs_ret (ve_var 3))) vs_nil) (vs_one (vs_ret (ve_ix b.K (ve_lc (o := false) (own := [("_law_spare", 6)]) b sc.nd (ve_lcR (o := false) (own := [("_law_k", 4)]) b sc.nd rfl (fr_range Z) (va_cons (ve_bin (o_add false b.K) (ve_callB (c_len b.K) rfl (fr_len Z) bt_len (va_cons (ve_var 1) va_nil)) ve_int) va_nil) (blkOk_by (own := [("_law_k", 4)]) rfl) (cg_name (i := 4) (by decide)) (fun _ _ _ _ _ => pg_name sc.nd rfl (Or.inl rfl)) (fun _ _ _ _ _ => vts_nil) (fun _ _ _ _ _ => (ve_bin (o_add false b.blk.K) ve_str (ve_callTy c_str rfl (fr_str Z) bt_str (va_cons (ve_var 4) va_nil))))) (blkOk_by (own := [("_law_spare", 6)]) rfl) (cg_name (i := 6) (by decide)) (fun _ _ _ _ _ => pg_name sc.nd rfl (Or.inl rfl)) (fun _ _ _ _ _ => (vts_one (vt_cmp (o_nin b.blk.K (un65 hr)) (ve_var 6) (ve_var 1) rfl))) (fun _ _ _ _ _ => (ve_var 6))) ve_int fun _ _ => rfl)))))))))) (gl__law_name Z) (fun _ _ _ _ _ _ us hl => match us, hl with | [_, _], _ => rfl) rfl
theorem ok__law_names (Z : Gn K mg base) : Rdy P w K mg base (PDx.gi K) "_law_names" 4 3 [] F__law_names := by
  obtain ⟨fd, FD⟩ := SaysV.fun_ Z.S 20
  have sc : FnScope ["_law_bag_here", "_law_many", "_law_taken", "_law_found", "_law_k"] ["_law_bag_here", "_law_many", "_law_taken"] (defScope (top 28)) := ⟨rfl, rfl, rfl, by decide +kernel, rfl, by decide +kernel, by decide +kernel⟩
  exact rdy_of FD (fn_D (k := 3) (m := m__law_names) (PD.giOk Z.ok) FD sc (fun cdv A outer s H E B hr b => (vs_cons (vs_set sc.nd rfl (Or.inl rfl) (ve_lst (o := true) va_nil)) (vs_cons (vs_forR1 b.ps b.calm rfl (fr_range Z) (va_cons (ve_var 1) va_nil) (vg_name sc.nd rfl (Or.inl rfl)) (vs_one (vs_append b.K (pe_var (i := 3) rfl (Or.inl rfl)) (ve_call ((ok__law_name Z).v hr (by decide)) b.gd b.tk rfl (va_cons (ve_var 0) (va_cons (ve_bin (o_add false b.K) (ve_var 2) (ve_var 3)) va_nil)))))) (vss_frz 3 (vs_one (vs_ret (ve_var 3)))))))) (gl__law_names Z) (fun _ _ _ _ _ _ us hl => match us, hl with | [_, _, _], _ => rfl) rfl
theorem ok__law_p3_odd (Z : Gn K mg base) : Rdy P w K mg base (PDx.gi K) "_law_p3_odd" 4 1 [] F__law_p3_odd := by
  obtain ⟨fd, FD⟩ := SaysV.fun_ Z.S 21
  have sc : FnScope ["_law_bag_here", "_law_odds"] ["_law_bag_here"] (defScope (top 29)) := ⟨rfl, rfl, rfl, by decide +kernel, rfl, by decide +kernel, by decide +kernel⟩
  exact rdy_of FD (fn_D (k := 3) (m := m__law_p3_odd) (PD.giOk Z.ok) FD sc (fun cdv A outer s H E B hr b => (vs_cons (vs_set sc.nd rfl (Or.inl rfl) (ve_lst (o := false) (va_cons ve_int (va_cons ve_str (va_cons ve_str (va_cons ve_str (va_cons ve_str (va_cons ve_str (va_cons ve_str (va_cons ve_str (va_cons ve_non (va_cons (ve_tup (va_cons ve_str va_nil)) (va_cons ve_bl (va_cons ve_str (va_cons ve_str (va_cons ve_str (va_cons ve_str (va_cons ve_str va_nil)))))))))))))))))) (vs_one (vs_ret (ve_call ((ok__law_pick Z).v hr (by decide)) b.gd b.tk rfl (va_cons (ve_var 0) (va_cons (ve_var 1) va_nil)))))))) (gl__law_p3_odd Z) (fun _ _ _ _ _ _ us hl => match us, hl with | [_], _ => rfl) rfl
theorem ok__law_p3_names_told (Z : Gn K mg base) : Rdy P w K mg base (PDx.gi K) "_law_p3_names_told" 2 2 [] F__law_p3_names_told := by
  obtain ⟨fd, FD⟩ := SaysV.fun_ Z.S 22
  have sc : FnScope ["_law_odd", "_law_names_here", "_law_words", "_law_word", "_law_name_here"] ["_law_odd", "_law_names_here"] (defScope (top 30)) := ⟨rfl, rfl, rfl, by decide +kernel, rfl, by decide +kernel, by decide +kernel⟩
  exact rdy_of FD (fn_D (k := 1) (m := m__law_p3_names_told) (PD.giOk Z.ok) FD sc (fun cdv A outer s H E B hr b => (vs_cons (vs_set sc.nd rfl (Or.inl rfl) ve_str) (vs_cons (vs_set sc.nd rfl (Or.inl rfl) (ve_split false (ve_bin (o_add false b.K) (ve_var 2) ve_str) ve_str)) (vs_cons (vs_if (PW.pt (vw_or (vt_cmp (o_ne b.K b.un) (ve_callB (c_repr b) rfl (fr_repr Z) bt_repr (va_cons (ve_glob rfl (gd_RESERVED Z)) va_nil)) (ve_callB (c_repr b) rfl (fr_repr Z) bt_repr (va_cons (ve_callTy (c_tuple b.K) rfl (fr_tuple Z) bt_tuple (va_cons (ve_var 2) va_nil)) va_nil)) rfl) (vw_or1 (vt_cmp o_gt (ve_callB (c_len b.K) rfl (fr_len Z) bt_len (va_cons (ve_lc (o := false) (own := [("_law_word", 3)]) b sc.nd (ve_var 2) (blkOk_by (own := [("_law_word", 3)]) rfl) (cg_name (i := 3) (by decide)) (fun _ _ _ _ _ => pg_name sc.nd rfl (Or.inl rfl)) (fun _ _ _ _ _ => (vts_one (vt_val (ve_call ((ok_is_name Z).v hr (by decide)) b.blk.gd b.blk.tk rfl (va_cons (ve_var 3) va_nil))))) (fun _ _ _ _ _ => (ve_var 3))) va_nil)) ve_int rfl)))) (vs_one (vs_ret ve_bl)) vs_nil) (vs_one (vs_ret (ve_cmp (o_eq b.K b.un) (ve_callB (c_repr b) rfl (fr_repr Z) bt_repr (va_cons (ve_bin (o_add false b.K) (ve_lst (o := false) (va_cons (ve_call ((ok_is_name Z).v hr (by decide)) b.gd b.tk rfl (va_cons (ve_var 0) va_nil)) va_nil)) (ve_lc (o := false) (own := [("_law_name_here", 4)]) b sc.nd (ve_var 1) (blkOk_by (own := [("_law_name_here", 4)]) rfl) (cg_name (i := 4) (by decide)) (fun _ _ _ _ _ => pg_name sc.nd rfl (Or.inl rfl)) (fun _ _ _ _ _ => vts_nil) (fun _ _ _ _ _ => (ve_call ((ok_is_name Z).v hr (by decide)) b.blk.gd b.blk.tk rfl (va_cons (ve_var 4) va_nil))))) va_nil)) (ve_callB (c_repr b) rfl (fr_repr Z) bt_repr (va_cons (ve_bin (o_add false b.K) (ve_lst (o := false) (va_cons ve_bl va_nil)) (ve_lc (o := false) (own := [("_law_name_here", 4)]) b sc.nd (ve_var 1) (blkOk_by (own := [("_law_name_here", 4)]) rfl) (cg_name (i := 4) (by decide)) (fun _ _ _ _ _ => pg_name sc.nd rfl (Or.inl rfl)) (fun _ _ _ _ _ => vts_nil) (fun _ _ _ _ _ => ve_bl))) va_nil)) rfl)))))))) (gl__law_p3_names_told Z) (fun _ _ _ _ _ _ us hl => match us, hl with | [_, _], _ => rfl) rfl
theorem ok__law_p3_vessels (Z : Gn K mg base) : Rdy P w K mg base (PDx.gi K) "_law_p3_vessels" 5 2 [] F__law_p3_vessels := by
  obtain ⟨fd, FD⟩ := SaysV.fun_ Z.S 23
  have sc : FnScope ["_law_bag_here", "_law_many", "_law_rows", "_law_name_here", "_law_size"] ["_law_bag_here", "_law_many"] (defScope (top 31)) := ⟨rfl, rfl, rfl, by decide +kernel, rfl, by decide +kernel, by decide +kernel⟩
  exact rdy_of FD (fn_D (k := 4) (m := m__law_p3_vessels) (PD.giOk Z.ok) FD sc (fun cdv A outer s H E B hr b => (vs_cons (vs_set sc.nd rfl (Or.inl rfl) (ve_lst (o := true) va_nil)) (vs_cons (vs_for b.K b.ps b.calm (ve_call ((ok__law_names Z).v hr (by decide)) b.gd b.tk rfl (va_cons (ve_var 0) (va_cons (ve_var 1) (va_cons (ve_lst (o := false) va_nil) va_nil)))) (vg_name sc.nd rfl (Or.inl rfl)) (vs_cons (vs_set sc.nd rfl (Or.inl rfl) (ve_call ((ok__law_pick Z).v hr (by decide)) b.gd b.tk rfl (va_cons (ve_var 0) (va_cons (ve_lst (o := false) (va_cons ve_int (va_cons ve_int (va_cons (ve_bin (o_add false b.K) ve_int (ve_call ((ok__law_draw Z).v hr (by decide)) b.gd b.tk rfl (va_cons (ve_var 0) (va_cons ve_int va_nil)))) (va_cons (ve_bin (o_add false b.K) ve_int (ve_call ((ok__law_draw Z).v hr (by decide)) b.gd b.tk rfl (va_cons (ve_var 0) (va_cons ve_int va_nil)))) (va_cons ve_int va_nil)))))) va_nil)))) (vs_one (vs_append b.K (pe_var (i := 2) rfl (Or.inl rfl)) (ve_tup (va_cons (ve_var 3) (va_cons (ve_var 4) (va_cons (ve_call ((ok__law_pick Z).v hr (by decide)) b.gd b.tk rfl (va_cons (ve_var 0) (va_cons (ve_lst (o := false) (va_cons ve_int (va_cons (ve_bin o_sub (ve_var 4) ve_int) (va_cons (ve_call ((ok__law_draw Z).v hr (by decide)) b.gd b.tk rfl (va_cons (ve_var 0) (va_cons (ve_var 4) va_nil))) va_nil)))) va_nil))) va_nil)))))))) (vss_frz 2 (vs_one (vs_ret (ve_var 2)))))))) (gl__law_p3_vessels Z) (fun _ _ _ _ _ _ us hl => match us, hl with | [_, _], _ => rfl) rfl
theorem ok__law_p3_spoilt_names (Z : Gn K mg base) : Rdy P w K mg base (PDx.gi K) "_law_p3_spoilt_names" 5 3 [] F__law_p3_spoilt_names := by
  obtain ⟨fd, FD⟩ := SaysV.fun_ Z.S 24
  have sc : FnScope ["_law_bag_here", "_law_row", "_law_floor", "_law_way", "_law_at"] ["_law_bag_here", "_law_row", "_law_floor"] (defScope (top 32)) := ⟨rfl, rfl, rfl, by decide +kernel, rfl, by decide +kernel, by decide +kernel⟩
  exact rdy_of FD (fn_D (k := 4) (m := m__law_p3_spoilt_names) (PD.giOk Z.ok) FD sc (fun cdv A outer s H E B hr b => (vs_cons (vs_set sc.nd rfl (Or.inl rfl) (ve_call ((ok__law_draw Z).v hr (by decide)) b.gd b.tk rfl (va_cons (ve_var 0) (va_cons ve_int va_nil)))) (vs_cons (vs_set sc.nd rfl (Or.inl rfl) (ve_call ((ok__law_draw Z).v hr (by decide)) b.gd b.tk rfl (va_cons (ve_var 0) (va_cons (ve_bin (o_add false b.K) (ve_callB (c_len b.K) rfl (fr_len Z) bt_len (va_cons (ve_var 1) va_nil)) ve_int) va_nil)))) (vs_cons (vs_if (vt_cmp (o_eq b.K b.un) (ve_var 3) ve_int rfl) (vs_one (vs_ret (ve_bin (o_add false b.K) (ve_bin (o_add false b.K) (ve_slice false b.K (ve_var 1) vo_none (vo_some (ve_var 4))) (ve_lst (o := false) (va_cons (ve_call ((ok__law_p3_odd Z).v hr (by decide)) b.gd b.tk rfl (va_cons (ve_var 0) va_nil)) va_nil))) (ve_slice false b.K (ve_var 1) (vo_some (ve_bin (o_add false b.K) (ve_var 4) ve_int)) vo_none)))) vs_nil) (vs_cons (vs_if (PW.pt (vw_and (vt_cmp (o_eq b.K b.un) (ve_var 3) ve_int rfl) (vw_and1 (vt_cmp o_gt (ve_callB (c_len b.K) rfl (fr_len Z) bt_len (va_cons (ve_var 1) va_nil)) ve_int rfl)))) (vs_one (vs_ret (ve_bin (o_add false b.K) (ve_bin (o_add false b.K) (ve_slice false b.K (ve_var 1) vo_none (vo_some (ve_var 4))) (ve_lst (o := false) (va_cons (ve_call ((ok__law_pick Z).v hr (by decide)) b.gd b.tk rfl (va_cons (ve_var 0) (va_cons (ve_var 1) va_nil))) va_nil))) (ve_slice false b.K (ve_var 1) (vo_some (ve_var 4)) vo_none)))) vs_nil) (vs_cons (vs_if (PW.pt (vw_and (vt_cmp (o_eq b.K b.un) (ve_var 3) ve_int rfl) (vw_and1 (vt_cmp (o_eq b.K b.un) (ve_var 2) ve_int rfl)))) (vs_one (vs_ret (ve_lst (o := false) va_nil))) vs_nil) (vs_cons (vs_if (vt_cmp (o_eq b.K b.un) (ve_var 3) ve_int rfl) (vs_one (vs_ret (ve_call ((ok__law_pick Z).v hr (by decide)) b.gd b.tk rfl (va_cons (ve_var 0) (va_cons (ve_lst (o := false) (va_cons ve_str (va_cons ve_str (va_cons ve_non (va_cons ve_int (va_cons ve_bl va_nil)))))) va_nil))))) vs_nil) (vs_one (vs_ret (ve_call ((ok__law_names Z).v hr (by decide)) b.gd b.tk rfl (va_cons (ve_var 0) (va_cons ve_int (va_cons (ve_lst (o := false) va_nil) va_nil)))))))))))))) (gl__law_p3_spoilt_names Z) (fun _ _ _ _ _ _ us hl => match us, hl with | [_, _, _], _ => rfl) rfl
theorem ok__law_p3_spoilt_vessels (Z : Gn K mg base) : Rdy P w K mg base (PDx.gi K) "_law_p3_spoilt_vessels" 5 2 [] F__law_p3_spoilt_vessels := by
  obtain ⟨fd, FD⟩ := SaysV.fun_ Z.S 25
  have sc : FnScope ["_law_bag_here", "_law_rows", "_law_way", "_law_at", "_law_name_here", "_law_size", "_law_bad", "_law_keep", "_law_one"] ["_law_bag_here", "_law_rows"] (defScope (top 33)) := ⟨rfl, rfl, rfl, by decide +kernel, rfl, by decide +kernel, by decide +kernel⟩
  exact rdy_of FD (fn_D (k := 4) (m := m__law_p3_spoilt_vessels) (PD.giOk Z.ok) FD sc (fun cdv A outer s H E B hr b => (vs_cons (vs_set sc.nd rfl (Or.inl rfl) (ve_call ((ok__law_draw Z).v hr (by decide)) b.gd b.tk rfl (va_cons (ve_var 0) (va_cons ve_int va_nil)))) (vs_cons (vs_set sc.nd rfl (Or.inl rfl) (ve_call ((ok__law_draw Z).v hr (by decide)) b.gd b.tk rfl (va_cons (ve_var 0) (va_cons (ve_callB (c_len b.K) rfl (fr_len Z) bt_len (va_cons (ve_var 1) va_nil)) va_nil)))) (vs_cons (vs_set sc.nd rfl (Or.inl rfl) (ve_ix b.K (ve_ix b.K (ve_var 1) (ve_var 3) fun _ _ => rfl) ve_int fun _ _ => rfl)) (vs_cons (vs_set sc.nd rfl (Or.inl rfl) (ve_ix b.K (ve_ix b.K (ve_var 1) (ve_var 3) fun _ _ => rfl) ve_int fun _ _ => rfl)) (vs_cons (vs_set sc.nd rfl (Or.inl rfl) (ve_tup (va_cons (ve_var 4) (va_cons (ve_var 5) (va_cons (ve_var 5) va_nil))))) (vs_cons (vs_if (vt_cmp (o_eq b.K b.un) (ve_var 2) ve_int rfl) (vs_one (vs_set sc.nd rfl (Or.inl rfl) (ve_tup (va_cons (ve_call ((ok__law_p3_odd Z).v hr (by decide)) b.gd b.tk rfl (va_cons (ve_var 0) va_nil)) (va_cons (ve_var 5) (va_cons (ve_ix b.K (ve_ix b.K (ve_var 1) (ve_var 3) fun _ _ => rfl) ve_int fun _ _ => rfl) va_nil)))))) vs_nil) (vs_cons (vs_if (vt_cmp (o_eq b.K b.un) (ve_var 2) ve_int rfl) (vs_one (vs_set sc.nd rfl (Or.inl rfl) (ve_tup (va_cons (ve_var 4) (va_cons (ve_call ((ok__law_pick Z).v hr (by decide)) b.gd b.tk rfl (va_cons (ve_var 0) (va_cons (ve_lst (o := false) (va_cons ve_int (va_cons (ve_neg ve_int) (va_cons ve_int (va_cons ve_bl (va_cons ve_non (va_cons ve_str (va_cons (ve_tup (va_cons ve_int va_nil)) va_nil)))))))) va_nil))) (va_cons ve_int va_nil)))))) vs_nil) (vs_cons (vs_if (vt_cmp (o_eq b.K b.un) (ve_var 2) ve_int rfl) (vs_one (vs_set sc.nd rfl (Or.inl rfl) (ve_tup (va_cons (ve_var 4) (va_cons (ve_var 5) (va_cons (ve_call ((ok__law_pick Z).v hr (by decide)) b.gd b.tk rfl (va_cons (ve_var 0) (va_cons (ve_lst (o := false) (va_cons (ve_var 5) (va_cons (ve_bin (o_add false b.K) (ve_var 5) ve_int) (va_cons (ve_neg ve_int) (va_cons ve_non (va_cons ve_bl (va_cons ve_str (va_cons (ve_bin o_pow ve_int ve_int) va_nil)))))))) va_nil))) va_nil)))))) vs_nil) (vs_cons (vs_if (vt_cmp (o_eq b.K b.un) (ve_var 2) ve_int rfl) (vs_cons (vs_set sc.nd rfl (Or.inl rfl) (ve_ix b.K (ve_ix b.K (ve_var 1) (ve_var 3) fun _ _ => rfl) ve_int fun _ _ => rfl)) (vs_one (vs_set sc.nd rfl (Or.inl rfl) (ve_call ((ok__law_pick Z).v hr (by decide)) b.gd b.tk rfl (va_cons (ve_var 0) (va_cons (ve_lst (o := false) (va_cons (ve_lst (o := false) (va_cons (ve_var 4) (va_cons (ve_var 5) (va_cons (ve_var 7) va_nil)))) (va_cons (ve_tup (va_cons (ve_var 4) (va_cons (ve_var 5) va_nil))) (va_cons (ve_tup (va_cons (ve_var 4) (va_cons (ve_var 5) (va_cons (ve_var 7) (va_cons ve_int va_nil))))) (va_cons (ve_var 4) (va_cons ve_non (va_cons (ve_tup va_nil) va_nil))))))) va_nil)))))) vs_nil) (vs_cons (vs_if (vt_cmp (o_eq b.K b.un) (ve_var 2) ve_int rfl) (vs_one (vs_ret (ve_bin (o_add false b.K) (ve_bin (o_add false b.K) (ve_slice false b.K (ve_var 1) vo_none (vo_some (ve_var 3))) (ve_lst (o := false) (va_cons (ve_tup (va_cons (ve_var 4) (va_cons ve_int (va_cons ve_int va_nil)))) va_nil))) (ve_slice false b.K (ve_var 1) (vo_some (ve_var 3)) vo_none)))) vs_nil) (vs_cons (vs_if (vt_cmp (o_eq b.K b.un) (ve_var 2) ve_int rfl) (vs_one (vs_ret (ve_lc (o := false) (own := [("_law_one", 8)]) b sc.nd (ve_call ((ok__law_names Z).v hr (by decide)) b.gd b.tk rfl (va_cons (ve_var 0) (va_cons ve_int (va_cons (ve_lst (o := false) va_nil) va_nil)))) (blkOk_by (own := [("_law_one", 8)]) rfl) (cg_name (i := 8) (by decide)) (fun _ _ _ _ _ => pg_name sc.nd rfl (Or.inl rfl)) (fun _ _ _ _ _ => vts_nil) (fun _ _ _ _ _ => (ve_tup (va_cons (ve_var 8) (va_cons ve_int (va_cons ve_int va_nil)))))))) vs_nil) (vs_cons (vs_if (vt_cmp (o_eq b.K b.un) (ve_var 2) ve_int rfl) (vs_one (vs_ret (ve_call ((ok__law_pick Z).v hr (by decide)) b.gd b.tk rfl (va_cons (ve_var 0) (va_cons (ve_lst (o := false) (va_cons (ve_lst (o := false) va_nil) (va_cons (ve_tup va_nil) (va_cons ve_non (va_cons ve_str (va_cons ve_int va_nil)))))) va_nil))))) vs_nil) (vs_one (vs_ret (ve_bin (o_add false b.K) (ve_bin (o_add false b.K) (ve_slice false b.K (ve_var 1) vo_none (vo_some (ve_var 3))) (ve_lst (o := false) (va_cons (ve_var 6) va_nil))) (ve_slice false b.K (ve_var 1) (vo_some (ve_bin (o_add false b.K) (ve_var 3) ve_int)) vo_none)))))))))))))))))) (gl__law_p3_spoilt_vessels Z) (fun _ _ _ _ _ _ us hl => match us, hl with | [_, _], _ => rfl) rfl
theorem ok__law_p3_refused (Z : Gn K mg base) : Rdy P w K mg base (PDx.gi K) "_law_p3_refused" 7 3 [] F__law_p3_refused := by
  obtain ⟨fd, FD⟩ := SaysV.fun_ Z.S 26
  have sc : FnScope ["_law_farms", "_law_traits", "_law_vessels", "e", "_law_other"] ["_law_farms", "_law_traits", "_law_vessels"] (defScope (top 34)) := ⟨rfl, rfl, rfl, by decide +kernel, rfl, by decide +kernel, by decide +kernel⟩
  exact rdy_of FD (fn_D (k := 6) (m := m__law_p3_refused) (PD.giOk Z.ok) FD sc (fun cdv A outer s H E B hr b => (vs_cons (vs_try b rfl rfl sc.nd rfl rfl (ct_LotError Z rfl) (fun W1 pn xe b1 => (vs_one (vs_expr (ve_make b1 ((ok_Plant_xinitx Z).v hr (by decide)) rfl (gl_Plant Z) (va_cons (ve_var 0) (va_cons (ve_var 1) (va_cons (ve_var 2) va_nil))))))) (fun a1 d1 c1 oe pn S => (vs_cons (vs_set sc.nd rfl (Or.inl rfl) (ve_or (ve_isx S (PD.xcOk Z.ok) (.own 2) 3 rfl (Or.inl rfl) rfl (fr_isinstance Z) (pe_glob rfl (gl_BadDeed Z) rfl)) (ve_or (ve_isx S (PD.xcOk Z.ok) (.own 3) 3 rfl (Or.inl rfl) rfl (fr_isinstance Z) (pe_glob rfl (gl_NoThing Z) rfl)) (ve_one (ve_not (ve_isx S (PD.xcOk Z.ok) (.bt "ValueError") 3 rfl (Or.inl rfl) rfl (fr_isinstance Z) (pe_bltn (v := .ty "ValueError") rfl (fr_ValueError Z) bt_ValueError rfl))))))) (vs_cons (vs_if (PW.pt (vw_and (vt_val (ve_isx S (PD.xcOk Z.ok) (.own 1) 3 rfl (Or.inl rfl) rfl (fr_isinstance Z) (pe_glob rfl (gl_BadPlant Z) rfl))) (vw_and1 (vt_not (vt_val (ve_var 4)))))) (vs_one (vs_ret (ve_xf S (PD.xcOk Z.ok) "part" 3 rfl (Or.inl rfl)))) vs_nil) (vs_one (vs_ret ve_str)))))) (vs_one (vs_ret ve_str))))) (gl__law_p3_refused Z) (fun _ _ _ _ _ _ us hl => match us, hl with | [_, _, _], _ => rfl) rfl
theorem ok__law_p3_pair (Z : Gn K mg base) : Rdy P w K mg base (PDx.gi K) "_law_p3_pair" 5 2 [] F__law_p3_pair := by
  obtain ⟨fd, FD⟩ := SaysV.fun_ Z.S 27
  have sc : FnScope ["_law_plant", "_law_name_here", "e"] ["_law_plant", "_law_name_here"] (defScope (top 35)) := ⟨rfl, rfl, rfl, by decide +kernel, rfl, by decide +kernel, by decide +kernel⟩
  exact rdy_of FD (fn_D (k := 4) (m := m__law_p3_pair) (PD.giOk Z.ok) FD sc (fun cdv A outer s H E B hr b => (vs_one (vs_try b rfl rfl sc.nd rfl rfl (ct_LotError Z rfl) (fun W1 pn xe b1 => (vs_one (vs_ret (ve_lst (o := false) (va_cons (ve_ixs b1 (vo_getitem Z hr (by decide)) (ve_var 0) (ve_var 1) (ve_ix b1.K (ve_var 0) (ve_var 1) fun _ _ => rfl) fun _ _ => rfl) va_nil))))) (fun a1 d1 c1 oe pn S => (vs_cons (vs_if (PW.pt (vw_and (vt_val (ve_isx S (PD.xcOk Z.ok) (.own 3) 2 rfl (Or.inl rfl) rfl (fr_isinstance Z) (pe_glob rfl (gl_NoThing Z) rfl))) (vw_and (vt_val (ve_isx S (PD.xcOk Z.ok) (.bt "ValueError") 2 rfl (Or.inl rfl) rfl (fr_isinstance Z) (pe_bltn (v := .ty "ValueError") rfl (fr_ValueError Z) bt_ValueError rfl))) (vw_and1 (vt_not (vt_val (ve_isx S (PD.xcOk Z.ok) (.own 1) 2 rfl (Or.inl rfl) rfl (fr_isinstance Z) (pe_glob rfl (gl_BadPlant Z) rfl)))))))) (vs_one (vs_ret (ve_lst (o := false) (va_cons ve_str (va_cons (ve_xf S (PD.xcOk Z.ok) "name" 2 rfl (Or.inl rfl)) va_nil))))) vs_nil) (vs_one (vs_ret (ve_lst (o := false) (va_cons ve_str va_nil)))))))))) (gl__law_p3_pair Z) (fun _ _ _ _ _ _ us hl => match us, hl with | [_, _], _ => rfl) rfl
theorem ok__law_p3_fits (Z : Gn K mg base) : Rdy P w K mg base (PDx.gi K) "_law_p3_fits" 6 4 [] F__law_p3_fits := by
  obtain ⟨fd, FD⟩ := SaysV.fun_ Z.S 28
  have sc : FnScope ["_law_plant", "_law_farms", "_law_traits", "_law_vessels", "_law_names_here", "_law_told", "_law_due", "_law_row", "_law_name_here"] ["_law_plant", "_law_farms", "_law_traits", "_law_vessels"] (defScope (top 36)) := ⟨rfl, rfl, rfl, by decide +kernel, rfl, by decide +kernel, by decide +kernel⟩
  exact rdy_of FD (fn_D (k := 5) (m := m__law_p3_fits) (PD.giOk Z.ok) FD sc (fun cdv A outer s H E B hr b => (vs_cons (vs_setLc (o := false) (own := [("_law_row", 7)]) b sc.nd rfl rfl (sw_true rfl rfl rfl rfl) (ve_var 3) (blkOk_by (own := [("_law_row", 7)]) rfl) (cg_name (i := 7) (by decide)) (fun _ _ _ _ _ => pg_name sc.nd rfl (Or.inl rfl)) (fun _ _ _ _ _ => vts_nil) (fun _ _ _ _ _ => (ve_ixs b.blk (vo_getitem Z hr (by decide)) (ve_var 7) ve_int (ve_ix b.blk.K (ve_var 7) ve_int fun _ _ => rfl) fun _ _ => rfl))) (vs_cons (vs_set sc.nd rfl (Or.inl rfl) (ve_lst (o := false) (va_cons (ve_fld b.G b.K (ve_var 0)) (va_cons (ve_fld b.G b.K (ve_var 0)) (va_cons (ve_fld b.G b.K (ve_var 0)) (va_cons (ve_lens b (vo_len Z hr (by decide)) rfl (fr_len Z) (va_cons (ve_var 0) va_nil)) (va_cons (ve_listO false b (vi_iter Z hr (by decide)) (vo_len4 Z hr (by decide)) rfl (fr_list Z) (va_cons (ve_var 0) va_nil)) (va_cons (ve_lcO (own := [("_law_name_here", 8)]) false b (vi_iter Z hr (by decide)) sc.nd (ve_var 0) (blkOk_by (own := [("_law_name_here", 8)]) rfl) (cg_name (i := 8) (by decide)) (fun _ _ _ _ _ => pg_name sc.nd rfl (Or.inl rfl)) (fun _ _ _ _ _ => vts_nil) (fun _ _ _ _ _ => (ve_var 8))) va_nil)))))))) (vs_cons (vs_set sc.nd rfl (Or.inl rfl) (ve_lst (o := false) (va_cons (ve_callTy (c_tuple b.K) rfl (fr_tuple Z) bt_tuple (va_cons (ve_callB (c_sorted (g := PDx.gi K) false b.K) rfl (fr_sorted Z) bt_sorted (va_cons (ve_var 1) va_nil)) va_nil)) (va_cons (ve_callTy (c_tuple b.K) rfl (fr_tuple Z) bt_tuple (va_cons (ve_callB (c_sorted (g := PDx.gi K) false b.K) rfl (fr_sorted Z) bt_sorted (va_cons (ve_var 2) va_nil)) va_nil)) (va_cons (ve_callTy (c_tuple b.K) rfl (fr_tuple Z) bt_tuple (va_cons (ve_var 3) va_nil)) (va_cons (ve_lens b (vo_len Z hr (by decide)) rfl (fr_len Z) (va_cons (ve_var 4) va_nil)) (va_cons (ve_var 4) (va_cons (ve_var 4) va_nil)))))))) (vs_cons (vs_if (vt_cmpW (o_nes b (vo_eq Z hr (by decide)) (ne_ok Z) (PD.nfOk Z.ok) (o_ne b.K b.un)) (ve_callB (c_repr b) rfl (fr_repr Z) bt_repr (va_cons (ve_var 5) va_nil)) (ve_callB (c_repr b) rfl (fr_repr Z) bt_repr (va_cons (ve_var 6) va_nil)) rfl) (vs_one (vs_ret ve_bl)) vs_nil) (vs_cons (vs_for b.K b.ps b.calm (ve_var 3) (vg_name sc.nd rfl (Or.inl rfl)) (vs_one (vs_if (vt_cmpW (o_nes b (vo_eq Z hr (by decide)) (ne_ok Z) (PD.nfOk Z.ok) (o_ne b.K b.un)) (ve_callB (c_repr b) rfl (fr_repr Z) bt_repr (va_cons (ve_lst (o := false) (va_cons (ve_cmpW (own_in false rfl b (vo_contains Z hr (by decide)) (o_in b.K (un65 hr))) (ve_ixs b (vo_getitem Z hr (by decide)) (ve_var 7) ve_int (ve_ix b.K (ve_var 7) ve_int fun _ _ => rfl) fun _ _ => rfl) (ve_var 0) rfl) (va_cons (ve_call ((ok__law_p3_pair Z).v hr (by decide)) b.gd b.tk rfl (va_cons (ve_var 0) (va_cons (ve_ixs b (vo_getitem Z hr (by decide)) (ve_var 7) ve_int (ve_ix b.K (ve_var 7) ve_int fun _ _ => rfl) fun _ _ => rfl) va_nil))) va_nil))) va_nil)) (ve_callB (c_repr b) rfl (fr_repr Z) bt_repr (va_cons (ve_lst (o := false) (va_cons ve_bl (va_cons (ve_lst (o := false) (va_cons (ve_tup (va_cons (ve_ixs b (vo_getitem Z hr (by decide)) (ve_var 7) ve_int (ve_ix b.K (ve_var 7) ve_int fun _ _ => rfl) fun _ _ => rfl) (va_cons (ve_ixs b (vo_getitem Z hr (by decide)) (ve_var 7) ve_int (ve_ix b.K (ve_var 7) ve_int fun _ _ => rfl) fun _ _ => rfl) va_nil))) va_nil)) va_nil))) va_nil)) rfl) (vs_one (vs_ret ve_bl)) vs_nil))) (vs_cons (vs_for b.K b.ps b.calm (ve_bin (o_add false b.K) (ve_bin (o_add false b.K) (ve_var 1) (ve_var 2)) (ve_lst (o := false) (va_cons ve_str va_nil))) (vg_name sc.nd rfl (Or.inl rfl)) (vs_one (vs_if (PW.pt (vw_and (vt_cmpW (own_in true rfl b (vo_contains Z hr (by decide)) (o_nin b.K (un65 hr))) (ve_var 8) (ve_var 4) rfl) (vw_and1 (vt_cmpW (o_nes b (vo_eq Z hr (by decide)) (ne_ok Z) (PD.nfOk Z.ok) (o_ne b.K b.un)) (ve_callB (c_repr b) rfl (fr_repr Z) bt_repr (va_cons (ve_lst (o := false) (va_cons (ve_cmpW (own_in false rfl b (vo_contains Z hr (by decide)) (o_in b.K (un65 hr))) (ve_var 8) (ve_var 0) rfl) (va_cons (ve_call ((ok__law_p3_pair Z).v hr (by decide)) b.gd b.tk rfl (va_cons (ve_var 0) (va_cons (ve_var 8) va_nil))) va_nil))) va_nil)) (ve_callB (c_repr b) rfl (fr_repr Z) bt_repr (va_cons (ve_lst (o := false) (va_cons ve_bl (va_cons (ve_lst (o := false) (va_cons ve_str (va_cons (ve_var 8) va_nil))) va_nil))) va_nil)) rfl)))) (vs_one (vs_ret ve_bl)) vs_nil))) (vs_one (vs_ret ve_bl)))))))))) (gl__law_p3_fits Z) (fun _ _ _ _ _ _ us hl => match us, hl with | [_, _, _, _], _ => rfl) rfl
theorem ok__law_p3_another (Z : Gn K mg base) : Rdy P w K mg base (PDx.gi K) "_law_p3_another" 4 4 [] F__law_p3_another := by
  obtain ⟨fd, FD⟩ := SaysV.fun_ Z.S 29
  have sc : FnScope ["_law_bag_here", "_law_farms", "_law_traits", "_law_vessels", "_law_way", "_law_parts"] ["_law_bag_here", "_law_farms", "_law_traits", "_law_vessels"] (defScope (top 37)) := ⟨rfl, rfl, rfl, by decide +kernel, rfl, by decide +kernel, by decide +kernel⟩
  exact rdy_of FD (fn_D (k := 3) (m := m__law_p3_another) (PD.giOk Z.ok) FD sc (fun cdv A outer s H E B hr b => (vs_cons (vs_set sc.nd rfl (Or.inl rfl) (ve_call ((ok__law_draw Z).v hr (by decide)) b.gd b.tk rfl (va_cons (ve_var 0) (va_cons ve_int va_nil)))) (vs_cons (vs_set sc.nd rfl (Or.inl rfl) (ve_lst (o := true) (va_cons (ve_revsl false b.K (ve_var 1)) (va_cons (ve_callTy (c_tuple b.K) rfl (fr_tuple Z) bt_tuple (va_cons (ve_revsl false b.K (ve_var 2)) va_nil)) (va_cons (ve_callTy (c_list false b.K) rfl (fr_list Z) bt_list (va_cons (ve_var 3) va_nil)) va_nil))))) (vs_cons (vs_if (vt_cmp (o_eq b.K b.un) (ve_var 4) ve_int rfl) (vs_one (vs_setixO (ve_bin (o_add false b.K) (ve_lst (o := false) (va_cons (ve_call ((ok__law_name Z).v hr (by decide)) b.gd b.tk rfl (va_cons (ve_var 0) (va_cons (ve_var 1) va_nil))) va_nil)) (ve_slice false b.K (ve_var 1) (vo_some ve_int) vo_none)) (pe_var (i := 5) rfl (Or.inl rfl)) ve_int)) vs_nil) (vs_cons (vs_if (vt_cmp (o_eq b.K b.un) (ve_var 4) ve_int rfl) (vs_one (vs_setixO (ve_slice false b.K (ve_var 2) (vo_some ve_int) vo_none) (pe_var (i := 5) rfl (Or.inl rfl)) ve_int)) vs_nil) (vs_cons (vs_if (vt_cmp (o_eq b.K b.un) (ve_var 4) ve_int rfl) (vs_one (vs_setixO (ve_callTy (c_tuple b.K) rfl (fr_tuple Z) bt_tuple (va_cons (ve_revsl false b.K (ve_var 3)) va_nil)) (pe_var (i := 5) rfl (Or.inl rfl)) ve_int)) vs_nil) (vs_cons (vs_if (vt_cmp (o_eq b.K b.un) (ve_var 4) ve_int rfl) (vs_one (vs_setixO (ve_bin (o_add false b.K) (ve_lst (o := false) (va_cons (ve_tup (va_cons (ve_ix b.K (ve_ix b.K (ve_var 3) ve_int fun _ _ => rfl) ve_int fun _ _ => rfl) (va_cons ve_int (va_cons (ve_bin (o_add false b.K) ve_int (ve_call ((ok__law_draw Z).v hr (by decide)) b.gd b.tk rfl (va_cons (ve_var 0) (va_cons ve_int va_nil)))) va_nil)))) va_nil)) (ve_slice false b.K (ve_var 3) (vo_some ve_int) vo_none)) (pe_var (i := 5) rfl (Or.inl rfl)) ve_int)) vs_nil) (vs_cons (vs_if (vt_cmp (o_eq b.K b.un) (ve_var 4) ve_int rfl) (vs_one (vs_setixO (ve_slice false b.K (ve_var 3) vo_none (vo_some ve_int)) (pe_var (i := 5) rfl (Or.inl rfl)) ve_int)) vs_nil) (vss_frz 5 (vs_one (vs_ret (ve_var 5))))))))))))) (gl__law_p3_another Z) (fun _ _ _ _ _ _ us hl => match us, hl with | [_, _, _, _], _ => rfl) rfl
theorem fg_law (Z : Gn K mg base) {fd : FuncData} (FD : FunD K r_law.name r_law.qual r_law.params r_law.body r_law.scope [] [] (r_law.pth K) fd) : FnG P w K mg base 8 (r_law.pth K) fd ["_law_script"] (spD (PDx.gi K) 1 F_law) := by
  have sc : FnScope ["_law_script", "_law_bag_here", "_law_farms", "_law_traits", "_law_vessels", "_law_handed", "_law_plant", "_law_parts", "_law_other", "_law_same", "_law_k", "_law_due", "_law_spoilt", "_law_row"] ["_law_script"] (defScope (top 38)) := ⟨rfl, rfl, rfl, by decide +kernel, rfl, by decide +kernel, by decide +kernel⟩
  exact fn_D (k := 7) (m := m_law) (PD.giOk Z.ok) FD sc (fun cdv A outer s H E B hr b => (vs_cons (vs_set sc.nd rfl (Or.inl rfl) (ve_call ((ok__law_bag Z).v hr (by decide)) b.gd b.tk rfl (va_cons (ve_var 0) va_nil))) (vs_cons (vs_set sc.nd rfl (Or.inl rfl) (ve_call ((ok__law_names Z).v hr (by decide)) b.gd b.tk rfl (va_cons (ve_var 1) (va_cons (ve_bin (o_add false b.K) ve_int (ve_call ((ok__law_draw Z).v hr (by decide)) b.gd b.tk rfl (va_cons (ve_var 1) (va_cons ve_int va_nil)))) (va_cons (ve_lst (o := false) va_nil) va_nil))))) (vs_cons (vs_set sc.nd rfl (Or.inl rfl) (ve_call ((ok__law_names Z).v hr (by decide)) b.gd b.tk rfl (va_cons (ve_var 1) (va_cons (ve_call ((ok__law_draw Z).v hr (by decide)) b.gd b.tk rfl (va_cons (ve_var 1) (va_cons ve_int va_nil))) (va_cons (ve_lst (o := false) va_nil) va_nil))))) (vs_cons (vs_set sc.nd rfl (Or.inl rfl) (ve_call ((ok__law_p3_vessels Z).v hr (by decide)) b.gd b.tk rfl (va_cons (ve_var 1) (va_cons (ve_bin (o_add false b.K) ve_int (ve_call ((ok__law_draw Z).v hr (by decide)) b.gd b.tk rfl (va_cons (ve_var 1) (va_cons ve_int va_nil)))) va_nil)))) (vs_cons (vs_set sc.nd rfl (Or.inl rfl) (ve_lst (o := false) (va_cons (ve_callTy (c_listC b.K) rfl (fr_list Z) bt_list (va_cons (ve_var 2) va_nil)) (va_cons (ve_callTy (c_listC b.K) rfl (fr_list Z) bt_list (va_cons (ve_var 3) va_nil)) (va_cons (ve_callTy (c_listC b.K) rfl (fr_list Z) bt_list (va_cons (ve_var 4) va_nil)) va_nil))))) (vs_cons (vs_frzd (vs_set sc.nd rfl (Or.inl rfl) (ve_make b ((ok_Plant_xinitx Z).v hr (by decide)) rfl (gl_Plant Z) (va_cons (ve_ixs b (vo_getitem Z hr (by decide)) (ve_var 5) ve_int (ve_ix b.K (ve_var 5) ve_int fun _ _ => rfl) fun _ _ => rfl) (va_cons (ve_ixs b (vo_getitem Z hr (by decide)) (ve_var 5) ve_int (ve_ix b.K (ve_var 5) ve_int fun _ _ => rfl) fun _ _ => rfl) (va_cons (ve_ixs b (vo_getitem Z hr (by decide)) (ve_var 5) ve_int (ve_ix b.K (ve_var 5) ve_int fun _ _ => rfl) fun _ _ => rfl) va_nil)))))) (vs_cons (vs_if (vt_cmpW (o_nes b (vo_eq Z hr (by decide)) (ne_ok Z) (PD.nfOk Z.ok) (o_ne b.K b.un)) (ve_callB (c_reprC b) rfl (fr_repr Z) bt_repr (va_cons (ve_var 5) va_nil)) (ve_callB (c_reprC b) rfl (fr_repr Z) bt_repr (va_cons (ve_lst (o := false) (va_cons (ve_var 2) (va_cons (ve_var 3) (va_cons (ve_var 4) va_nil)))) va_nil)) rfl) (vs_one (vs_ret ve_bl)) vs_nil) (vs_cons (vs_expr (ve_metM b.K mm_append (ve_ixs b (vo_getitem Z hr (by decide)) (ve_var 5) ve_int (ve_ix b.K (ve_var 5) ve_int fun _ _ => rfl) fun _ _ => rfl) (va_cons ve_str va_nil))) (vs_cons (vs_expr (ve_metM0 b.K mm_clear (ve_ixs b (vo_getitem Z hr (by decide)) (ve_var 5) ve_int (ve_ix b.K (ve_var 5) ve_int fun _ _ => rfl) fun _ _ => rfl))) (vs_cons (vs_expr (ve_metM0 b.K mm_reverse (ve_ixs b (vo_getitem Z hr (by decide)) (ve_var 5) ve_int (ve_ix b.K (ve_var 5) ve_int fun _ _ => rfl) fun _ _ => rfl))) (vs_cons (vs_expr (ve_metM b.K mm_append (ve_ixs b (vo_getitem Z hr (by decide)) (ve_var 5) ve_int (ve_ix b.K (ve_var 5) ve_int fun _ _ => rfl) fun _ _ => rfl) (va_cons (ve_tup (va_cons ve_str (va_cons ve_int (va_cons ve_int va_nil)))) va_nil))) (vs_cons (vs_if (vt_not (vt_val (ve_call ((ok__law_p3_fits Z).v hr (by decide)) b.gd b.tk rfl (va_cons (ve_var 6) (va_cons (ve_var 2) (va_cons (ve_var 3) (va_cons (ve_var 4) va_nil))))))) (vs_one (vs_ret ve_bl)) vs_nil) (vs_cons (vs_if (vt_not (vt_val (ve_call ((ok__law_p3_names_told Z).v hr (by decide)) b.gd b.tk rfl (va_cons (ve_call ((ok__law_p3_odd Z).v hr (by decide)) b.gd b.tk rfl (va_cons (ve_var 1) va_nil)) (va_cons (ve_bin (o_add false b.K) (ve_bin (o_add false b.K) (ve_var 2) (ve_var 3)) (ve_lc (o := false) (own := [("_law_row", 13)]) b sc.nd (ve_var 4) (blkOk_by (own := [("_law_row", 13)]) rfl) (cg_name (i := 13) (by decide)) (fun _ _ _ _ _ => pg_name sc.nd rfl (Or.inl rfl)) (fun _ _ _ _ _ => vts_nil) (fun _ _ _ _ _ => (ve_ixs b.blk (vo_getitem Z hr (by decide)) (ve_var 13) ve_int (ve_ix b.blk.K (ve_var 13) ve_int fun _ _ => rfl) fun _ _ => rfl)))) va_nil))))) (vs_one (vs_ret ve_bl)) vs_nil) (vs_cons (vs_set sc.nd rfl (Or.inl rfl) (ve_call ((ok__law_p3_another Z).v hr (by decide)) b.gd b.tk rfl (va_cons (ve_var 1) (va_cons (ve_var 2) (va_cons (ve_var 3) (va_cons (ve_var 4) va_nil)))))) (vs_cons (vs_set sc.nd rfl (Or.inl rfl) (ve_make b ((ok_Plant_xinitx Z).v hr (by decide)) rfl (gl_Plant Z) (va_cons (ve_ixs b (vo_getitem Z hr (by decide)) (ve_var 7) ve_int (ve_ix b.K (ve_var 7) ve_int fun _ _ => rfl) fun _ _ => rfl) (va_cons (ve_ixs b (vo_getitem Z hr (by decide)) (ve_var 7) ve_int (ve_ix b.K (ve_var 7) ve_int fun _ _ => rfl) fun _ _ => rfl) (va_cons (ve_ixs b (vo_getitem Z hr (by decide)) (ve_var 7) ve_int (ve_ix b.K (ve_var 7) ve_int fun _ _ => rfl) fun _ _ => rfl) va_nil))))) (vs_cons (vs_set sc.nd rfl (Or.inl rfl) (ve_and (ve_cmpW (o_eqs b (vo_eq Z hr (by decide)) (PD.nfOk Z.ok) (o_eq b.K b.un)) (ve_callB (c_sorted (g := PDx.gi K) false b.K) rfl (fr_sorted Z) bt_sorted (va_cons (ve_ixs b (vo_getitem Z hr (by decide)) (ve_var 7) ve_int (ve_ix b.K (ve_var 7) ve_int fun _ _ => rfl) fun _ _ => rfl) va_nil)) (ve_callB (c_sorted (g := PDx.gi K) false b.K) rfl (fr_sorted Z) bt_sorted (va_cons (ve_var 2) va_nil)) rfl) (ve_one (ve_cmpW (o_eqs b (vo_eq Z hr (by decide)) (PD.nfOk Z.ok) (o_eq b.K b.un)) (ve_callB (c_sorted (g := PDx.gi K) false b.K) rfl (fr_sorted Z) bt_sorted (va_cons (ve_ixs b (vo_getitem Z hr (by decide)) (ve_var 7) ve_int (ve_ix b.K (ve_var 7) ve_int fun _ _ => rfl) fun _ _ => rfl) va_nil)) (ve_callB (c_sorted (g := PDx.gi K) false b.K) rfl (fr_sorted Z) bt_sorted (va_cons (ve_var 3) va_nil)) rfl)))) (vs_cons (vs_set sc.nd rfl (Or.inl rfl) (ve_and (ve_var 9) (ve_one (ve_cmpW (o_eqs b (vo_eq Z hr (by decide)) (PD.nfOk Z.ok) (o_eq b.K b.un)) (ve_callTy (c_list false b.K) rfl (fr_list Z) bt_list (va_cons (ve_ixs b (vo_getitem Z hr (by decide)) (ve_var 7) ve_int (ve_ix b.K (ve_var 7) ve_int fun _ _ => rfl) fun _ _ => rfl) va_nil)) (ve_var 4) rfl)))) (vs_cons (vs_if (vt_cmpW (o_nes b (vo_eq Z hr (by decide)) (ne_ok Z) (PD.nfOk Z.ok) (o_ne b.K b.un)) (ve_callB (c_reprC b) rfl (fr_repr Z) bt_repr (va_cons (ve_lst (o := false) (va_cons (ve_cmpW (o_eqs b (vo_eq Z hr (by decide)) (PD.nfOk Z.ok) (o_eq b.K b.un)) (ve_var 6) (ve_var 8) rfl) (va_cons (ve_cmpW (o_eqs b (vo_eq Z hr (by decide)) (PD.nfOk Z.ok) (o_eq b.K b.un)) (ve_var 8) (ve_var 6) rfl) (va_cons (ve_cmpW (o_nes b (vo_eq Z hr (by decide)) (ne_ok Z) (PD.nfOk Z.ok) (o_ne b.K b.un)) (ve_var 6) (ve_var 8) rfl) (va_cons (ve_cmpW (o_eqs b (vo_eq Z hr (by decide)) (PD.nfOk Z.ok) (o_eq b.K b.un)) (ve_var 6) (ve_var 4) rfl) va_nil))))) va_nil)) (ve_callB (c_reprC b) rfl (fr_repr Z) bt_repr (va_cons (ve_lst (o := false) (va_cons (ve_var 9) (va_cons (ve_var 9) (va_cons (ve_not (ve_var 9)) (va_cons ve_bl va_nil))))) va_nil)) rfl) (vs_one (vs_ret ve_bl)) vs_nil) (vs_cons (vs_if (vt_not (vt_val (ve_call ((ok__law_p3_fits Z).v hr (by decide)) b.gd b.tk rfl (va_cons (ve_var 8) (va_cons (ve_callTy (c_list false b.K) rfl (fr_list Z) bt_list (va_cons (ve_ixs b (vo_getitem Z hr (by decide)) (ve_var 7) ve_int (ve_ix b.K (ve_var 7) ve_int fun _ _ => rfl) fun _ _ => rfl) va_nil)) (va_cons (ve_callTy (c_list false b.K) rfl (fr_list Z) bt_list (va_cons (ve_ixs b (vo_getitem Z hr (by decide)) (ve_var 7) ve_int (ve_ix b.K (ve_var 7) ve_int fun _ _ => rfl) fun _ _ => rfl) va_nil)) (va_cons (ve_callTy (c_list false b.K) rfl (fr_list Z) bt_list (va_cons (ve_ixs b (vo_getitem Z hr (by decide)) (ve_var 7) ve_int (ve_ix b.K (ve_var 7) ve_int fun _ _ => rfl) fun _ _ => rfl) va_nil)) va_nil))))))) (vs_one (vs_ret ve_bl)) vs_nil) (vs_cons (vs_forR1 b.ps b.calm rfl (fr_range Z) (va_cons ve_int va_nil) (vg_name sc.nd rfl (Or.inl rfl)) (vs_cons (vs_set sc.nd rfl (Or.inl rfl) ve_str) (vs_cons (vs_set sc.nd rfl (Or.inl rfl) (ve_lst (o := true) (va_cons (ve_callTy (c_list false b.K) rfl (fr_list Z) bt_list (va_cons (ve_var 2) va_nil)) (va_cons (ve_callTy (c_tuple b.K) rfl (fr_tuple Z) bt_tuple (va_cons (ve_var 3) va_nil)) (va_cons (ve_callTy (c_list false b.K) rfl (fr_list Z) bt_list (va_cons (ve_var 4) va_nil)) va_nil))))) (vs_cons (vs_if (vt_cmpW (o_eqs b (vo_eq Z hr (by decide)) (PD.nfOk Z.ok) (o_eq b.K b.un)) (ve_call ((ok__law_draw Z).v hr (by decide)) b.gd b.tk rfl (va_cons (ve_var 1) (va_cons ve_int va_nil))) ve_int rfl) (vs_cons (vs_setixO (ve_call ((ok__law_p3_spoilt_vessels Z).v hr (by decide)) b.gd b.tk rfl (va_cons (ve_var 1) (va_cons (ve_var 4) va_nil))) (pe_var (i := 12) rfl (Or.inl rfl)) ve_int) (vs_one (vs_set sc.nd rfl (Or.inl rfl) ve_str))) vs_nil) (vs_cons (vs_if (vt_cmpW (o_eqs b (vo_eq Z hr (by decide)) (PD.nfOk Z.ok) (o_eq b.K b.un)) (ve_call ((ok__law_draw Z).v hr (by decide)) b.gd b.tk rfl (va_cons (ve_var 1) (va_cons ve_int va_nil))) ve_int rfl) (vs_cons (vs_setixO (ve_call ((ok__law_p3_spoilt_names Z).v hr (by decide)) b.gd b.tk rfl (va_cons (ve_var 1) (va_cons (ve_var 3) (va_cons ve_int va_nil)))) (pe_var (i := 12) rfl (Or.inl rfl)) ve_int) (vs_one (vs_set sc.nd rfl (Or.inl rfl) ve_str))) vs_nil) (vs_cons (vs_if (vt_cmpW (o_eqs b (vo_eq Z hr (by decide)) (PD.nfOk Z.ok) (o_eq b.K b.un)) (ve_call ((ok__law_draw Z).v hr (by decide)) b.gd b.tk rfl (va_cons (ve_var 1) (va_cons ve_int va_nil))) ve_int rfl) (vs_cons (vs_setixO (ve_call ((ok__law_p3_spoilt_names Z).v hr (by decide)) b.gd b.tk rfl (va_cons (ve_var 1) (va_cons (ve_var 2) (va_cons ve_int va_nil)))) (pe_var (i := 12) rfl (Or.inl rfl)) ve_int) (vs_one (vs_set sc.nd rfl (Or.inl rfl) ve_str))) vs_nil) (vss_frz 12 (vs_one (vs_if (vt_cmpW (o_nes b (vo_eq Z hr (by decide)) (ne_ok Z) (PD.nfOk Z.ok) (o_ne b.K b.un)) (ve_callB (c_reprC b) rfl (fr_repr Z) bt_repr (va_cons (ve_call ((ok__law_p3_refused Z).v hr (by decide)) b.gd b.tk rfl (va_cons (ve_ixs b (vo_getitem Z hr (by decide)) (ve_var 12) ve_int (ve_ix b.K (ve_var 12) ve_int fun _ _ => rfl) fun _ _ => rfl) (va_cons (ve_ixs b (vo_getitem Z hr (by decide)) (ve_var 12) ve_int (ve_ix b.K (ve_var 12) ve_int fun _ _ => rfl) fun _ _ => rfl) (va_cons (ve_ixs b (vo_getitem Z hr (by decide)) (ve_var 12) ve_int (ve_ix b.K (ve_var 12) ve_int fun _ _ => rfl) fun _ _ => rfl) va_nil)))) va_nil)) (ve_callB (c_reprC b) rfl (fr_repr Z) bt_repr (va_cons (ve_var 11) va_nil)) rfl) (vs_one (vs_ret ve_bl)) vs_nil))))))))) (vs_one (vs_ret (ve_call ((ok__law_p3_fits Z).v hr (by decide)) b.gd b.tk rfl (va_cons (ve_var 6) (va_cons (ve_var 2) (va_cons (ve_var 3) (va_cons (ve_var 4) va_nil))))))))))))))))))))))))))))
end
end G02

set_option Elab.async false
set_option linter.all false
set_option maxRecDepth 100000
set_option maxHeartbeats 2000000
set_option exponentiation.threshold 2000
namespace G02
open PySem L2 Vi
theorem fdiv_pos {a g : Int} (hg : 0 < g) : a.fdiv g = a / g := Int.fdiv_eq_ediv_of_nonneg a (by omega)
theorem cDiv_of {i g : Int} (h0 : g ≠ 0) (h : g.natAbs.log2 < 8000) : cDiv i g = true := by
  unfold cDiv
  have : g.natAbs.log2 < 9000 := by omega
  simp [h0, this]
theorem abs_if (a : Int) : (if a < 0 then -a else a) = (a.natAbs : Int) := by
  split <;> omega
theorem log2_lt {a k : Nat} (h : a < 2 ^ k) (hk : 0 < k) : a.log2 < k := by
  by_cases h0 : a = 0
  · subst h0
    simpa using hk
  · exact (Nat.log2_lt h0).mpr h
theorem fIx_ref (n : Nat) (i : Int) (h : Hc) (xs : List D) (e : h[n]? = some (.lst xs)) : fIx (.d (.ref n)) (.d (.int i)) h = (match atI xs i with
  | some d => .ok (.d d) h
  | none => .stuck) := by
  have el : lst? h (.d (.ref n)) = some xs := by
    show (match h[n]?.map Cell.bare with
      | some (.lst xs) => some xs
      | _ => none) = _
    rw [e]
    rfl
  show (match lst? h (.d (.ref n)) with
    | some xs => (match atI xs i with
      | some d => R.ok (Vl.d d) h
      | none => .stuck)
    | none => _) = _
  rw [el]
abbrev bagC (t : Hc) (ns : List Int) (p v sd l c : Int) : Hc := .lst [.lst (ns.map D.int), .int p, .int v, .int sd, .int l, .int c] :: t
theorem v_bag (ns : List Int) : F__law_bag [.kl (ns.map D.int)] [] = .ok (.ref 0) (bagC [] ns 0 0 (ns.sum % 1000003) 0 0) := by
  refine (fnOf_eq _ _ _ _ _ rfl).trans ?_
  unfold m__law_bag
  simp [mRetC]
theorem cMul_of {i j : Int} (hi : i.natAbs < 2 ^ 1000) (hj : j.natAbs < 2 ^ 1000) : cMul i j = true := by
  have h1 := log2_lt hi (by omega)
  have h2 := log2_lt hj (by omega)
  unfold cMul
  exact decide_eq_true (by omega)
theorem cDivS {i j : Int} (h0 : j ≠ 0) (h : j.natAbs < 2 ^ 1000) : cDiv i j = true := cDiv_of h0 (by have := log2_lt h (by omega); omega)
theorem v_mixed {s t : Int} {h : Hc} (h1 : 0 ≤ s) (h2 : s < 2 ^ 70) (h3 : 0 ≤ t) (h4 : t < 2 ^ 70) : ∃ r, 0 ≤ r ∧ F__law_mixed [.int s, .int t] h = .ok (.int r) h := by
  have a1 : cMul (s + 1) 48271 = true := cMul_of (by omega) (by omega)
  have a2 : cMul (t + 1) 69621 = true := cMul_of (by omega) (by omega)
  have m1 : 0 ≤ ((s + 1) * 48271 + (t + 1) * 69621) % 2147483647 := Int.emod_nonneg _ (by omega)
  have m2 : ((s + 1) * 48271 + (t + 1) * 69621) % 2147483647 < 2147483647 := Int.emod_lt_of_pos _ (by omega)
  generalize hf : ((s + 1) * 48271 + (t + 1) * 69621) % 2147483647 = f at m1 m2
  have a3 : cMul f f = true := cMul_of (by omega) (by omega)
  have a4 : cMul f 16807 = true := cMul_of (by omega) (by omega)
  have a5 : cMul 7 t = true := cMul_of (by omega) (by omega)
  have a6 : cDiv ((f * f + f * 16807 + 7 * t) % 2147483629) 7 = true := cDivS (by omega) (by omega)
  have nn : 0 ≤ ((f * f + f * 16807 + 7 * t) % 2147483629) := Int.emod_nonneg _ (by omega)
  refine ⟨((f * f + f * 16807 + 7 * t) % 2147483629) / 7, by omega, ?_⟩
  refine (fnOf_eq _ _ _ _ _ rfl).trans ?_
  unfold m__law_mixed
  simp [a1, a2, hf, a3, a4, a5, a6, fdiv_pos]

/-- the parts of a draw -/
def tl1 : MS := mIfS (asB (m2 fGt (m2 fIx (mVar 0) (mC (.int 2))) (mC (.int 0)))) (mSeq (mSet 3 (m2 fMod (mA1 fIntOf (maCons (m2 fIx (mVar 0) (mC (.int 2))) maNil)) (mVar 1))) (mSeq (mSetIx (m2 fDiv (m2 fIx (mVar 0) (mC (.int 2))) (mVar 1)) (mVar 0) (mC (.int 2))) (mRet (mVar 3)))) mSkip
def tl2 : MS := mSeq (mIfS (asB (m2 fGt (m2 fIx (mVar 0) (mC (.int 4))) (mC (.int 0)))) (mSetIx (m2 fSub (m2 fIx (mVar 0) (mC (.int 4))) (mC (.int 1))) (mVar 0) (mC (.int 4))) mSkip) (mRet (m2 fMod (mA1 fIntOf (maCons (mA1 (fCallN 2 F__law_mixed []) (maCons (m2 fIx (mVar 0) (mC (.int 3))) (maCons (m2 fIx (mVar 0) (mC (.int 5))) maNil))) maNil)) (mVar 1)))
def hd2 : MS := mSeq (mSet 2 (m2 fIx (m2 fIx (mVar 0) (mC (.int 0))) (m2 fIx (mVar 0) (mC (.int 1))))) (mSeq (mSetIx (m2 (fAdd false) (m2 fIx (mVar 0) (mC (.int 1))) (mC (.int 1))) (mVar 0) (mC (.int 1))) (mIfS (asB (m2 fGe (mA1 fAbs (maCons (mVar 2) maNil)) (m2 fPow (mC (.int 10)) (mC (.int 18))))) (mSetIx (mA1 fAbs (maCons (mVar 2) maNil)) (mVar 0) (mC (.int 2))) (mSeq (mSetIx (m2 (fAdd false) (m2 fMul (mC (.int 2)) (mA1 fAbs (maCons (mVar 2) maNil))) (mA1 fIntOf (maCons (m2 fLt (mVar 2) (mC (.int 0))) maNil))) (mVar 0) (mC (.int 3))) (mSetIx (mC (.int 15)) (mVar 0) (mC (.int 4))))))
theorem draw_parts : m__law_draw = mSeq (mIfS (asB (m2 fLt (mVar 1) (mC (.int 2)))) (mRet (mC (.int 0))) mSkip) (mSeq (mSetIx (m2 (fAdd false) (m2 fIx (mVar 0) (mC (.int 5))) (mC (.int 1))) (mVar 0) (mC (.int 5))) (mSeq (mIfS (tAndM (asB (m2 (fEq false) (m2 fIx (mVar 0) (mC (.int 2))) (mC (.int 0)))) (tAndM (asB (m2 (fEq false) (m2 fIx (mVar 0) (mC (.int 4))) (mC (.int 0)))) (asB (m2 fLt (m2 fIx (mVar 0) (mC (.int 1))) (mA1 fLen (maCons (m2 fIx (mVar 0) (mC (.int 0))) maNil)))))) hd2 mSkip) (mSeq tl1 tl2))) := rfl
abbrev envD (many : Int) (a b : Option Sl) : Vi.Env := [some (.d (.ref 0)), some (.d (.int many)), a, b]
@[simp] theorem bix (t : Hc) (ns : List Int) (p v sd l c i : Int) : fIx (.d (.ref 0)) (.d (.int i)) (bagC t ns p v sd l c) = (match atI [.lst (ns.map D.int), .int p, .int v, .int sd, .int l, .int c] i with
  | some d => .ok (.d d) (bagC t ns p v sd l c)
  | none => .stuck) := fIx_ref 0 i _ _ rfl
theorem at6 (a b c d e f : D) : atI [a, b, c, d, e, f] 0 = some a ∧ atI [a, b, c, d, e, f] 1 = some b ∧ atI [a, b, c, d, e, f] 2 = some c ∧ atI [a, b, c, d, e, f] 3 = some d ∧ atI [a, b, c, d, e, f] 4 = some e ∧ atI [a, b, c, d, e, f] 5 = some f := by
  refine ⟨?_, ?_, ?_, ?_, ?_, ?_⟩ <;> simp [atI, ixN]
theorem ix6 : ixN 6 0 = some 0 ∧ ixN 6 1 = some 1 ∧ ixN 6 2 = some 2 ∧ ixN 6 3 = some 3 ∧ ixN 6 4 = some 4 ∧ ixN 6 5 = some 5 := by
  refine ⟨?_, ?_, ?_, ?_, ?_, ?_⟩ <;> simp [ixN]
/-- a bag that may be drawn from m times at least -/
def BG (t : Hc) (m : Int) (h : Hc) : Prop := ∃ (ns : List Int) (p v sd l c : Int), h = bagC t ns p v sd l c ∧ 0 ≤ p ∧ 0 ≤ v ∧ 0 ≤ sd ∧ sd < 2 ^ 66 ∧ 0 ≤ l ∧ 0 ≤ c ∧ c ≤ m
theorem v_tl2 (t : Hc) (ns : List Int) {p v sd l c many : Int} {a b : Option Sl} (h1 : 0 ≤ sd) (h2 : sd < 2 ^ 66) (h3 : 0 ≤ l) (h4 : 0 ≤ c) (h5 : c < 2 ^ 66) (hm : 2 ≤ many) :
    ∃ r l', 0 ≤ r ∧ r < many ∧ 0 ≤ l' ∧ tl2 (envD many a b) (bagC t ns p v sd l c) = .ret (.int r) (bagC t ns p v sd l' c) := by
  have go : ∀ l' : Int, ∃ r, 0 ≤ r ∧ r < many ∧ (mRet (m2 fMod (mA1 fIntOf (maCons (mA1 (fCallN 2 F__law_mixed []) (maCons (m2 fIx (mVar 0) (mC (.int 3))) (maCons (m2 fIx (mVar 0) (mC (.int 5))) maNil))) maNil)) (mVar 1))) (envD many a b) (bagC t ns p v sd l' c) = .ret (.int r) (bagC t ns p v sd l' c) := fun l' => by
    obtain ⟨r, _, e⟩ := v_mixed (s := sd) (t := c) (h := bagC t ns p v sd l' c) h1 (by omega) h4 (by omega)
    refine ⟨r % many, Int.emod_nonneg _ (by omega), Int.emod_lt_of_pos _ (by omega), ?_⟩
    have hp : 0 < many := by omega
    simp [at6, e, hp]
  by_cases hl : 0 < l
  · obtain ⟨r, r1, r2, e⟩ := go (l - 1)
    refine ⟨r, l - 1, r1, r2, by omega, ?_⟩
    unfold tl2
    rw [mSeq_eq]
    have e0 : (mIfS (asB (m2 fGt (m2 fIx (mVar 0) (mC (.int 4))) (mC (.int 0)))) (mSetIx (m2 fSub (m2 fIx (mVar 0) (mC (.int 4))) (mC (.int 1))) (mVar 0) (mC (.int 4))) mSkip) (envD many a b) (bagC t ns p v sd l c) = .nx (envD many a b) (bagC t ns p v sd (l - 1) c) := by
      simp [at6, ix6, hl]
    rw [e0]
    exact e
  · obtain ⟨r, r1, r2, e⟩ := go l
    refine ⟨r, l, r1, r2, h3, ?_⟩
    unfold tl2
    rw [mSeq_eq]
    have e0 : (mIfS (asB (m2 fGt (m2 fIx (mVar 0) (mC (.int 4))) (mC (.int 0)))) (mSetIx (m2 fSub (m2 fIx (mVar 0) (mC (.int 4))) (mC (.int 1))) (mVar 0) (mC (.int 4))) mSkip) (envD many a b) (bagC t ns p v sd l c) = .nx (envD many a b) (bagC t ns p v sd l c) := by
      simp [at6, ix6, hl]
    rw [e0]
    exact e
theorem v_tl (t : Hc) (ns : List Int) {p v sd l c many : Int} {a b : Option Sl} (hv : 0 ≤ v) (h1 : 0 ≤ sd) (h2 : sd < 2 ^ 66) (h3 : 0 ≤ l) (h4 : 0 ≤ c) (h5 : c < 2 ^ 66) (hm : 2 ≤ many) (hm2 : many < 2 ^ 66) :
    ∃ r v' l', 0 ≤ r ∧ r < many ∧ 0 ≤ v' ∧ 0 ≤ l' ∧ (mSeq tl1 tl2) (envD many a b) (bagC t ns p v sd l c) = .ret (.int r) (bagC t ns p v' sd l' c) := by
  rw [mSeq_eq]
  by_cases h0 : 0 < v
  · refine ⟨v % many, v / many, l, Int.emod_nonneg _ (by omega), Int.emod_lt_of_pos _ (by omega), Int.ediv_nonneg hv (by omega), h3, ?_⟩
    have hp : 0 < many := by omega
    have cd : cDiv v many = true := cDivS (by omega) (by omega)
    unfold tl1
    simp [at6, ix6, h0, hp, cd, fdiv_pos hp]
  · obtain ⟨r, l', r1, r2, r3, e⟩ := v_tl2 t ns (p := p) (v := v) (a := a) (b := b) h1 h2 h3 h4 h5 hm
    refine ⟨r, v, l', r1, r2, hv, r3, ?_⟩
    have e0 : tl1 (envD many a b) (bagC t ns p v sd l c) = .nx (envD many a b) (bagC t ns p v sd l c) := by
      unfold tl1
      simp [at6, ix6, h0]
    rw [e0]
    exact e

theorem atI_map (ns : List Int) {p : Int} (h0 : 0 ≤ p) (h1 : p < ns.length) : ∃ z, atI (ns.map D.int) p = some (.int z) := by
  have hl : p.toNat < ns.length := by omega
  refine ⟨ns[p.toNat], ?_⟩
  unfold atI ixN
  rw [if_pos h0, List.length_map, if_pos h1]
  show (ns.map D.int)[p.toNat]? = _
  rw [List.getElem?_map, List.getElem?_eq_getElem hl]
  rfl
theorem v_hd2 (t : Hc) (ns : List Int) {p sd c many : Int} {a b : Option Sl} (h0 : 0 ≤ p) (hp : p < ns.length) (h1 : 0 ≤ sd) (h2 : sd < 2 ^ 66) :
    ∃ a' v' sd' l', 0 ≤ v' ∧ 0 ≤ sd' ∧ sd' < 2 ^ 66 ∧ 0 ≤ l' ∧ hd2 (envD many a b) (bagC t ns p 0 sd 0 c) = .nx (envD many a' b) (bagC t ns (p + 1) v' sd' l' c) := by
  obtain ⟨z, ez⟩ := atI_map ns h0 hp
  have pw : cPow 10 18 = true := by decide
  by_cases hz : (1000000000000000000 : Int) ≤ (z.natAbs : Int)
  · refine ⟨some (.d (.int z)), z.natAbs, sd, 0, by omega, h1, h2, by omega, ?_⟩
    unfold hd2
    simp [at6, ix6, ez, pw, abs_if, hz]
  · have cm : cMul 2 (z.natAbs : Int) = true := cMul_of (by omega) (by omega)
    refine ⟨some (.d (.int z)), 0, 2 * (z.natAbs : Int) + (if z < 0 then 1 else 0), 15, by omega, by split <;> omega, by split <;> omega, by omega, ?_⟩
    unfold hd2
    simp [at6, ix6, ez, pw, abs_if, hz, cm]
/-- a draw -/
theorem v_draw {t : Hc} {m many : Int} {h : Hc} (g : BG t m h) (hm : m < 2 ^ 60) (h0 : 0 ≤ many) (h1 : many < 2 ^ 66) :
    ∃ r h', F__law_draw [.ref 0, .int many] h = .ok (.int r) h' ∧ BG t (m + 1) h' ∧ 0 ≤ r ∧ (2 ≤ many → r < many) ∧ (many < 2 → r = 0) := by
  obtain ⟨ns, p, v, sd, l, c, rfl, g1, g2, g3, g4, g5, g6, g7⟩ := g
  by_cases hs : many < 2
  · refine ⟨0, bagC t ns p v sd l c, ?_, ⟨ns, p, v, sd, l, c, rfl, g1, g2, g3, g4, g5, g6, by omega⟩, by omega, fun z => by omega, fun _ => rfl⟩
    refine (fnOf_eq _ _ _ _ _ rfl).trans ?_
    rw [draw_parts]
    simp [hs]
  · have fin : ∀ {p' v' sd' l' : Int} {a : Option Sl}, 0 ≤ p' → 0 ≤ v' → 0 ≤ sd' → sd' < 2 ^ 66 → 0 ≤ l' → (mIfS (tAndM (asB (m2 (fEq false) (m2 fIx (mVar 0) (mC (.int 2))) (mC (.int 0)))) (tAndM (asB (m2 (fEq false) (m2 fIx (mVar 0) (mC (.int 4))) (mC (.int 0)))) (asB (m2 fLt (m2 fIx (mVar 0) (mC (.int 1))) (mA1 fLen (maCons (m2 fIx (mVar 0) (mC (.int 0))) maNil)))))) hd2 mSkip) (envD many none none) (bagC t ns p v sd l (c + 1)) = .nx (envD many a none) (bagC t ns p' v' sd' l' (c + 1)) →
        ∃ r h', F__law_draw [.ref 0, .int many] (bagC t ns p v sd l c) = .ok (.int r) h' ∧ BG t (m + 1) h' ∧ 0 ≤ r ∧ (2 ≤ many → r < many) ∧ (many < 2 → r = 0) := fun {p' v' sd' l' a} k1 k2 k3 k4 k5 e => by
      obtain ⟨r, v2, l2, r1, r2, r3, r4, e2⟩ := v_tl t ns (p := p') (v := v') (sd := sd') (l := l') (c := c + 1) (many := many) (a := a) (b := none) k2 k3 k4 k5 (by omega) (by omega) (by omega) h1
      refine ⟨r, bagC t ns p' v2 sd' l2 (c + 1), ?_, ⟨ns, p', v2, sd', l2, c + 1, rfl, k1, r3, k3, k4, r4, by omega, by omega⟩, r1, fun _ => r2, fun z => absurd z hs⟩
      refine (fnOf_eq _ _ _ _ _ rfl).trans ?_
      rw [draw_parts, mSeq_eq]
      have e3 : (mIfS (asB (m2 fLt (mVar 1) (mC (.int 2)))) (mRet (mC (.int 0))) mSkip) (mkEnv 4 [.ref 0, .int many]) (bagC t ns p v sd l c) = .nx (envD many none none) (bagC t ns p v sd l c) := by simp [hs]
      rw [e3, RS.seq_nx, mSeq_eq]
      have e4 : (mSetIx (m2 (fAdd false) (m2 fIx (mVar 0) (mC (.int 5))) (mC (.int 1))) (mVar 0) (mC (.int 5))) (envD many none none) (bagC t ns p v sd l c) = .nx (envD many none none) (bagC t ns p v sd l (c + 1)) := by simp [at6, ix6]
      rw [e4, RS.seq_nx, mSeq_eq, e, RS.seq_nx, e2]
      rfl
    by_cases hv : v = 0
    · by_cases hl : l = 0
      · by_cases hp : p < ns.length
        · subst hv hl
          obtain ⟨a', v', sd', l', q1, q2, q3, q4, e⟩ := v_hd2 t ns (p := p) (sd := sd) (c := c + 1) (many := many) (a := none) (b := none) g1 hp g3 g4
          refine fin (p' := p + 1) (v' := v') (sd' := sd') (l' := l') (a := a') (by omega) q1 q2 q3 q4 ?_
          rw [← e]
          simp [at6, hp, fLen_lst]
        · exact fin (a := none) g1 g2 g3 g4 g5 (by simp [at6, hv, hl, hp, fLen_lst])
      · exact fin (a := none) g1 g2 g3 g4 g5 (by simp [at6, hv, hl])
    · exact fin (a := none) g1 g2 g3 g4 g5 (by simp [at6, hv])
end G02

set_option Elab.async false
set_option linter.all false
set_option maxRecDepth 100000
set_option maxHeartbeats 2000000
namespace G02
open PySem L2 Vi
/-- a comprehension with a test, its parts reckoned item by item -/
theorem comp_map (o : Bool) (i : Nat) (mt : MB) (me : ME) (f : D → D) (b : D → Bool) (env : Vi.Env) (h : Hc) : ∀ (xs acc : List D), (∀ x ∈ xs, mt (env.set i (some (.d x))) h = .ok (b x) h ∧ (b x = true → me (env.set i (some (.d x))) h = .ok (.d (f x)) h)) → acc.length + xs.length < 16000000 →
    compL o (gtN i) mt me xs acc env h = .ok (Vl.ofL o (acc ++ (xs.filter b).map f)) h := by
  intro xs
  induction xs with
  | nil =>
    intro acc _ _
    show R.ok (Vl.ofL o acc) h = _
    rw [List.filter_nil, List.map_nil, List.append_nil]
  | cons x r ih =>
    intro acc hx hl
    rw [List.length_cons] at hl
    obtain ⟨e1, e2⟩ := hx x (List.mem_cons_self ..)
    have hr := fun y hy => hx y (List.mem_cons_of_mem _ hy)
    show (match mt (env.set i (some (.d x))) h with
      | .ok b h1 => if b then (match me (env.set i (some (.d x))) h1 with
        | .ok (.d y) h2 => if acc.length < 16000000 then compL o (gtN i) mt me r (acc ++ [y]) env h2 else .stuck
        | _ => .stuck) else compL o (gtN i) mt me r acc env h1
      | _ => .stuck) = _
    rw [e1]
    cases hb : b x with
    | true =>
      have e2 := e2 hb
      dsimp only
      rw [if_pos rfl, e2]
      dsimp only
      rw [if_pos (by omega), ih _ hr (by rw [List.length_append, List.length_singleton]; omega), List.filter_cons_of_pos hb, List.map_cons, List.append_assoc]
      rfl
    | false =>
      dsimp only
      rw [if_neg Bool.false_ne_true, ih _ hr (by omega), List.filter_cons_of_neg (by rw [hb]; exact Bool.false_ne_true)]
theorem filter_yes {α : Type} (xs : List α) : xs.filter (fun _ => true) = xs := List.filter_eq_self.mpr fun _ _ => rfl
/-- .. without a test -/
theorem comp_all (o : Bool) (i : Nat) (me : ME) (f : D → D) (env : Vi.Env) (h : Hc) (xs : List D) (hx : ∀ x ∈ xs, me (env.set i (some (.d x))) h = .ok (.d (f x)) h) (hl : xs.length < 16000000) :
    compL o (gtN i) mYes me xs [] env h = .ok (Vl.ofL o (xs.map f)) h := by
  rw [comp_map o i mYes me f (fun _ => true) env h xs [] (fun x hm => ⟨rfl, fun _ => hx x hm⟩) (by simpa using hl), filter_yes]
  rfl

/-! ### names -/
abbrev letL : List Nat := (Str.ofString "abcdefghijklmnopqrstuvwxyz").cps.toList
abbrev sgnL : List Nat := (Str.ofString "abcdefghijklmnopqrstuvwxyz0123456789").cps.toList
abbrev resL : List PySem.Str := ["and", "or", "not", "free", "untouched", "least", "most", "of", "since", "until", "single", "recipe", "take", "move", "drain", "wash", "pack", "repeat", "when", "else", "end", "done", "yes", "no", "none"]
structure NameOk (x : PySem.Str) : Prop where
  n1 : 1 ≤ x.cps.size
  n8 : x.cps.size ≤ 8
  first : ∀ c, x.cps[0]? = some c → c ∈ letL
  all : ∀ c ∈ x.cps.toList, c ∈ sgnL
  res : x ∉ resL
theorem sub_let : ∀ c ∈ letL, hasSub "abcdefghijklmnopqrstuvwxyz" ⟨#[c]⟩ = true := by decide +kernel
theorem sub_sgn : ∀ c ∈ sgnL, hasSub "abcdefghijklmnopqrstuvwxyz0123456789" ⟨#[c]⟩ = true := by decide +kernel
theorem let_sgn : ∀ c ∈ letL, c ∈ sgnL := by decide +kernel
theorem d_res : d_RESERVED = .tup (resL.map D.str) := rfl
theorem vOfs_str : ∀ xs : List PySem.Str, vOfs (xs.map D.str) = some (xs.map L2.V.str)
  | [] => rfl
  | x :: r => by
    show (match vOf (.str x), vOfs (r.map D.str) with
      | some v, some vs => some (v :: vs)
      | _, _ => none) = _
    rw [vOfs_str r]
    rfl
theorem inV_str (x : PySem.Str) (xs : List PySem.Str) : inV (.str x) (xs.map L2.V.str) = decide (x ∈ xs) := by
  unfold inV
  rw [List.any_map]
  induction xs with
  | nil => rfl
  | cons y r ih =>
    rw [List.any_cons, ih]
    have e : eqV (.str y) (.str x) = decide (x = y) := by
      show (y == x) = _
      rw [Bool.eq_iff_iff, decide_eq_true_iff, beq_iff_eq]
      exact eq_comm
    show (eqV (.str y) (.str x) || _) = _
    rw [e, Bool.eq_iff_iff]
    simp
/-- a text in a tuple or list of texts -/
theorem in_txt (x : PySem.Str) (neg : Bool) (h : Hc) (y : Vl) (xs : List PySem.Str) (hy : seq? h y = some (xs.map D.str)) (hs : ∀ z, y ≠ .d (.str z)) : fIn neg (.d (.str x)) y h = .ok (.d (nB neg (decide (x ∈ xs)))) h := by
  have e : fIn neg (.d (.str x)) y h = fInS neg (.d (.str x)) y h := by
    unfold fIn
    split
    · next a b => exact absurd rfl (hs _)
    · rfl
  rw [e]
  unfold fInS
  simp only [hy, vOf, vOfs_str, inV_str]
theorem bools_map {α : Type} (f : α → Bool) : ∀ xs : List α, bools? (xs.map fun x => .bl (f x)) = some (xs.map f)
  | [] => rfl
  | x :: r => by
    show (bools? (r.map fun x => .bl (f x))).map (f x :: ·) = _
    rw [bools_map f r]
    rfl
theorem all_map {α : Type} (f : α → Bool) (xs : List α) (h : Hc) : fAll false [.d (.lst (xs.map fun x => .bl (f x)))] h = .ok (.d (.bl (xs.all f))) h := by
  show (match bools? (xs.map fun x => D.bl (f x)) with
    | some bs => R.ok (Vl.d (.bl (if false then bs.any id else bs.all id))) h
    | none => .stuck) = _
  rw [bools_map]
  show R.ok (Vl.d (.bl ((xs.map f).all id))) h = _
  rw [List.all_map]
  rfl
/-- is_name of a name -/
theorem v_name_ok {x : PySem.Str} (n : NameOk x) (h : Hc) : F_is_name [.str x] h = .ok (.bl true) h := by
  refine (fnOf_eq 2 1 m_is_name [.str x] h rfl).trans ?_
  unfold m_is_name
  have hl : x.length = x.cps.size := rfl
  obtain ⟨c, hc⟩ : ∃ c, x.cps[0]? = some c := ⟨_, Array.getElem?_eq_getElem (Nat.lt_of_lt_of_le Nat.zero_lt_one n.n1)⟩
  have e1 : fIsi g0 (.bt "str") (.d (.str x)) h = .ok (.d (.bl true)) h := rfl
  have e2 : fLen [.d (.str x)] h = .ok (.d (.int x.cps.size)) h := by
    show (if x.length ≤ 100000 then R.ok (Vl.d (.int x.length)) h else .stuck) = _
    rw [if_pos (by have := n.n8; omega)]
    rfl
  have e3 : fIx (.d (.str x)) (.d (.int 0)) h = .ok (.d (.str ⟨#[c]⟩)) h := by
    show (match atI x.cps.toList 0 with
      | some c => if x.length ≤ 100000 then R.ok (Vl.d (.str ⟨#[c]⟩)) h else .stuck
      | none => .stuck) = _
    have ea : atI x.cps.toList 0 = some c := by
      unfold atI ixN
      rw [if_pos (by omega), if_pos (by rw [Array.length_toList]; have := n.n1; omega)]
      show x.cps.toList[0]? = _
      rw [Array.getElem?_toList]
      exact hc
    rw [ea]
    exact if_pos (by have := n.n8; omega)
  have e4 : fIn true (.d (.str ⟨#[c]⟩)) (.d d_LETTERS) h = .ok (.d (.bl false)) h := by
    show R.ok (Vl.d (nB true (hasSub "abcdefghijklmnopqrstuvwxyz" ⟨#[c]⟩))) h = _
    rw [sub_let c (n.first c hc)]
    rfl
  have e5 : fIn false (.d (.str x)) (.d d_RESERVED) h = .ok (.d (.bl false)) h := by
    rw [in_txt x false h _ resL rfl (fun z e => by cases e), decide_eq_false n.res]
    rfl
  have e6 : mCompS false [1] (gtN 1) mYes (m2 (fIn false) (mVar 1) (mC d_SIGNS)) (mVar 0) [some (.d (.str x)), none] h = .ok (.d (.lst ((chD x).map fun _ => .bl true))) h := by
    show compL false (gtN 1) mYes (m2 (fIn false) (mVar 1) (mC d_SIGNS)) (chD x) [] [some (.d (.str x)), none] h = _
    refine comp_all false 1 _ (fun _ => .bl true) _ h (chD x) (fun z hz => ?_) (by unfold chD; rw [List.length_map, Array.length_toList]; have := n.n8; omega)
    obtain ⟨d, hd, rfl⟩ := List.mem_map.mp hz
    show R.ok (Vl.d (nB false (hasSub "abcdefghijklmnopqrstuvwxyz0123456789" ⟨#[d]⟩))) h = _
    rw [sub_sgn d (n.all d hd)]
    rfl
  have e7 : fAll false [.d (.lst ((chD x).map fun _ => .bl true))] h = .ok (.d (.bl true)) h := by
    rw [all_map (fun _ => true), List.all_eq_true.mpr fun _ _ => rfl]
  have i1 : (1 : Int) ≤ (x.cps.size : Int) := by have := n.n1; omega
  have i8 : (x.cps.size : Int) ≤ 8 := by have := n.n8; omega
  simp [e1, e2, e3, e4, e5, e6, e7, i1, i8]

/-! ### what is no name -/
/-- is_name tells b of it -/
def Nm (d : D) (b : Bool) : Prop := ∀ h, F_is_name [d] h = .ok (.bl b) h
theorem nm_t1 : Nm (.int 5) false := fun h => rfl
theorem nm_t2 : Nm (.str "") false := fun h => rfl
theorem nm_t3 : Nm (.str "A") false := fun h => by kernel_rfl
theorem nm_t4 : Nm (.str "a_b") false := fun h => by kernel_rfl
theorem nm_t5 : Nm (.str "abcdefghi") false := fun h => rfl
theorem nm_t6 : Nm (.str "1a") false := fun h => by kernel_rfl
theorem nm_t7 : Nm (.str "or") false := fun h => by kernel_rfl
theorem nm_t8 : Nm (.str "none") false := fun h => by kernel_rfl
theorem nm_t9 : Nm .non false := fun h => rfl
theorem nm_t10 : Nm (.tup [.str "a"]) false := fun h => rfl
theorem nm_t11 : Nm (.bl true) false := fun h => rfl
theorem nm_t12 : Nm (.str "a b") false := fun h => by kernel_rfl
theorem nm_t13 : Nm (.str "done") false := fun h => by kernel_rfl
theorem nm_t14 : Nm (.str "bA") false := fun h => by kernel_rfl
theorem nm_t15 : Nm (.str "ab-") false := fun h => by kernel_rfl
theorem nm_t16 : Nm (.str "xx ") false := fun h => by kernel_rfl
theorem words_list (h : Hc) : (resL.map fun x => F_is_name [.str x] h) = resL.map fun _ => .ok (.bl false) h := by kernel_rfl
theorem nm_words (x : PySem.Str) (hx : x ∈ resL) : Nm (.str x) false := fun h => by
  obtain ⟨i, hi, rfl⟩ := List.getElem_of_mem hx
  have e := congrArg (fun l => l[i]?) (words_list h)
  simp only [List.getElem?_map, List.getElem?_eq_getElem hi, Option.map_some] at e
  exact Option.some.inj e
end G02

set_option Elab.async false
set_option linter.all false
set_option maxRecDepth 100000
set_option maxHeartbeats 4000000
set_option exponentiation.threshold 2000
namespace G02
open PySem L2 Vi
theorem BG.up {t : Hc} {m n : Int} {h : Hc} (g : BG t m h) (hm : m ≤ n) : BG t n h := by
  obtain ⟨ns, p, v, sd, l, c, e, g1, g2, g3, g4, g5, g6, g7⟩ := g
  exact ⟨ns, p, v, sd, l, c, e, g1, g2, g3, g4, g5, g6, by omega⟩
theorem atI_get {α : Type} {xs : List α} {i : Int} (h0 : 0 ≤ i) (h1 : i < xs.length) : ∃ x, atI xs i = some x ∧ x ∈ xs := by
  have hl : i.toNat < xs.length := by omega
  refine ⟨xs[i.toNat], ?_, List.getElem_mem hl⟩
  unfold atI ixN
  rw [if_pos h0, if_pos h1]
  show xs[i.toNat]? = _
  exact List.getElem?_eq_getElem hl
theorem v_pick {t : Hc} {m : Int} {h : Hc} {xs : List D} (g : BG t m h) (hm : m < 2 ^ 60) (h0 : 0 < xs.length) (h1 : xs.length < 2 ^ 60) : ∃ x h', F__law_pick [.ref 0, .lst xs] h = .ok x h' ∧ BG t (m + 1) h' ∧ x ∈ xs := by
  obtain ⟨r, h2, e, g2, r0, r1, r2⟩ := v_draw (many := xs.length) g hm (by omega) (by omega)
  have r3 : r < xs.length := by
    by_cases h2 : (xs.length : Int) < 2
    · have := r2 h2
      omega
    · exact r1 (by omega)
  obtain ⟨x, ex, hx⟩ := atI_get r0 r3
  refine ⟨x, h2, ?_, g2, hx⟩
  refine (fnOf_eq 2 2 m__law_pick [.ref 0, .lst xs] h rfl).trans ?_
  unfold m__law_pick
  simp [e, ex]
/-- the beginning of a name -/
structure Pre (n : Nat) (x : PySem.Str) : Prop where
  n : x.cps.size = n
  first : ∀ c, x.cps[0]? = some c → c ∈ letL
  all : ∀ c ∈ x.cps.toList, c ∈ sgnL
theorem Pre.one {c : Nat} (h : c ∈ letL) : Pre 1 ⟨#[c]⟩ := ⟨rfl, fun d e => by
  have e : some c = some d := e
  cases e
  exact h, fun d hd => by
  have : d = c := by simpa using hd
  subst this
  exact let_sgn _ h⟩
theorem Pre.more {n : Nat} {x : PySem.Str} {c : Nat} (p : Pre n x) (hn : 1 ≤ n) (h : c ∈ sgnL) : Pre (n + 1) (x ++ ⟨#[c]⟩) := by
  have e : (x ++ (⟨#[c]⟩ : PySem.Str)).cps = x.cps ++ #[c] := rfl
  refine ⟨by rw [e, Array.size_append, p.n]; rfl, fun d hd => ?_, fun d hd => ?_⟩
  · rw [e, Array.getElem?_append_left (by rw [p.n]; exact hn)] at hd
    exact p.first d hd
  · rw [e, Array.toList_append, List.mem_append] at hd
    rcases hd with z | z
    · exact p.all d z
    · have : d = c := by simpa using z
      subst this
      exact h
theorem Pre.name {n : Nat} {x : PySem.Str} (p : Pre n x) (h1 : 1 ≤ n) (h8 : n ≤ 8) (hr : x ∉ resL) : NameOk x := ⟨by rw [p.n]; exact h1, by rw [p.n]; exact h8, p.first, p.all, hr⟩
abbrev bigW : PySem.Str := " and or not free untouched least most of since until single recipe take move drain wash pack repeat when else end done yes no none "
theorem res_big : ∀ x ∈ resL, hasSub bigW (" " ++ x ++ " ") = true := by decide +kernel
theorem lets_at : ∀ r ∈ List.range 26, atI sgnL (r : Nat) = atI letL (r : Nat) := by decide +kernel
theorem fIx_str (z : PySem.Str) (i : Int) (c : Nat) (h : Hc) (e : atI z.cps.toList i = some c) (hl : z.cps.size ≤ 100000) : fIx (.d (.str z)) (.d (.int i)) h = .ok (.d (.str ⟨#[c]⟩)) h := by
  show (match atI z.cps.toList i with
    | some c => if z.length ≤ 100000 then R.ok (Vl.d (.str ⟨#[c]⟩)) h else .stuck
    | none => .stuck) = _
  rw [e]
  exact if_pos hl
abbrev sgnS : PySem.Str := "abcdefghijklmnopqrstuvwxyz0123456789"
theorem fAdd_str (o : Bool) (a b : PySem.Str) (h : Hc) (hl : a.cps.size + b.cps.size ≤ 100000) : fAdd o (.d (.str a)) (.d (.str b)) h = .ok (.d (.str (a ++ b))) h := by
  show (if a.length + b.length ≤ 100000 then R.ok (Vl.d (.str (a ++ b))) h else .stuck) = _
  exact if_pos hl
def nmB : MS := mSet 3 (m2 (fAdd false) (mVar 3) (m2 fIx (mVar 2) (mA1 (fCallN 2 F__law_draw []) (maCons (mVar 0) (maCons (mC (.int 36)) maNil)))))
/-- the further signs -/
theorem nm_loop {t : Hc} {tk : D} : ∀ (xs : List D) (j : Nat) (m : Int) (x : PySem.Str) (kv : Option Sl) (h : Hc), BG t m h → m + xs.length < 2 ^ 60 → 1 ≤ j → j + xs.length ≤ 100 → Pre j x →
    ∃ x' kv' h', forL (gtN 4) nmB xs [some (.d (.ref 0)), some (.d tk), some (.d (.str sgnS)), some (.d (.str x)), kv, none, none] h = .nx [some (.d (.ref 0)), some (.d tk), some (.d (.str sgnS)), some (.d (.str x')), kv', none, none] h' ∧ BG t (m + xs.length) h' ∧ Pre (j + xs.length) x' := by
  intro xs
  induction xs with
  | nil =>
    intro j m x kv h g hm hj hs p
    exact ⟨x, kv, h, rfl, by simpa using g, p⟩
  | cons z xs ih =>
    intro j m x kv h g hm hj hs p
    simp only [List.length_cons] at hm hs ⊢
    obtain ⟨r, h2, e, g2, r1, r2, _⟩ := v_draw (many := 36) g (by omega) (by omega) (by omega)
    have r2 := r2 (by omega)
    obtain ⟨c, ec, hc⟩ := atI_get (xs := sgnL) r1 (show r < ((36 : Nat) : Int) from r2)
    obtain ⟨x', kv', h', e4, g4, p4⟩ := ih (j + 1) (m + 1) (x ++ ⟨#[c]⟩) (some (.d z)) h2 g2 (by omega) (by omega) (by omega) (p.more hj hc)
    refine ⟨x', kv', h', ?_, g4.up (by omega), by rw [show j + (xs.length + 1) = j + 1 + xs.length by omega]; exact p4⟩
    have ei := fIx_str sgnS r c h2 ec (by decide)
    have ea := fAdd_str false x ⟨#[c]⟩ h2 (by have e0 := p.n; have e1 : (⟨#[c]⟩ : PySem.Str).cps.size = 1 := rfl; omega)
    rw [forL_cons, ← e4]
    unfold nmB gtN
    simp [e, ei, ea]
/-- a spare name -/
def spare (k : Nat) : PySem.Str := "q" ++ Str.ofString (toString (k : Int))
theorem spare_ok : ∀ k ∈ List.range 30, (spare k).cps.size ≤ 8 ∧ 1 ≤ (spare k).cps.size ∧ (∀ c ∈ (spare k).cps.toList, c ∈ sgnL) ∧ (spare k).cps[0]? = some 113 ∧ spare k ∉ resL := by decide +kernel
theorem spare_name {k : Nat} (h : k < 30) : NameOk (spare k) := by
  obtain ⟨h1, h2, h3, h4, h5⟩ := spare_ok k (List.mem_range.mpr h)
  exact ⟨h2, h1, fun c e => by
    rw [h4] at e
    cases e
    decide +kernel, h3, h5⟩
theorem spare_inj : ∀ i ∈ List.range 30, ∀ j ∈ List.range 30, spare i = spare j → i = j := by decide +kernel
/-- among more numbers than are taken one is free -/
theorem spare_free {tk : List PySem.Str} (hl : tk.length < 29) : ∃ k, k < tk.length + 1 ∧ spare k ∉ tk := by
  apply Classical.byContradiction
  intro hn
  have all : ∀ k, k < tk.length + 1 → spare k ∈ tk := fun k hk => Classical.byContradiction fun z => hn ⟨k, hk, z⟩
  have sub : ((List.range (tk.length + 1)).map spare) ⊆ tk := fun x hx => by
    obtain ⟨k, hk, rfl⟩ := List.mem_map.mp hx
    exact all k (List.mem_range.mp hk)
  have nd : ((List.range (tk.length + 1)).map spare).Nodup := by
    refine List.pairwise_map.mpr (List.Pairwise.imp_of_mem (fun {a b} ha hb ne e => ne ?_) (List.nodup_range (n := tk.length + 1)))
    have := List.mem_range.mp ha
    have := List.mem_range.mp hb
    exact spare_inj a (List.mem_range.mpr (by omega)) b (List.mem_range.mpr (by omega)) e
  have := List.Nodup.length_le_of_subset nd sub
  rw [List.length_map, List.length_range] at this
  omega

def nmC : MB := tAndM (asB (m2 (fIn true) (mVar 3) (mVar 1))) (asB (m2 (fIn true) (m2 (fAdd false) (m2 (fAdd false) (mC (.str " ")) (mVar 3)) (mC (.str " "))) (m2 (fAdd false) (mVar 5) (mC (.str "repeat when else end done yes no none ")))))
def nmF : MS := mRet (m2 fIx (mComp false [6] (gtN 6) (asB (m2 (fIn true) (mVar 6) (mVar 1))) (mVar 6) (mCompR false [4] (gtN 4) mYes (m2 (fAdd false) (mC (.str "q")) (mA1 fStrOf (maCons (mVar 4) maNil))) (maCons (m2 (fAdd false) (mA1 fLen (maCons (mVar 1) maNil)) (mC (.int 1))) maNil))) (mC (.int 0)))
theorem name_parts : m__law_name = mSeq (mSet 2 (mC (.str sgnS))) (mSeq (mSet 3 (m2 fIx (mVar 2) (mA1 (fCallN 2 F__law_draw []) (maCons (mVar 0) (maCons (mC (.int 26)) maNil))))) (mSeq (mForR (gtN 4) (maCons (m2 fIx (mA1 (fLst false) (maCons (mC (.int 0)) (maCons (mC (.int 1)) (maCons (mC (.int 2)) (maCons (mC (.int 7)) maNil))))) (mA1 (fCallN 2 F__law_draw []) (maCons (mVar 0) (maCons (mC (.int 4)) maNil)))) maNil) nmB) (mSeq (mSet 5 (mC (.str " and or not free untouched least most of since until single recipe take move drain wash pack "))) (mSeq (mIfS nmC (mRet (mVar 3)) mSkip) nmF)))) := rfl
abbrev envN (tk : List PySem.Str) (x : PySem.Str) (kv w : Option Sl) : Vi.Env := [some (.d (.ref 0)), some (.d (.lst (tk.map D.str))), some (.d (.str sgnS)), some (.d (.str x)), kv, w, none]
/-- the spare one -/
theorem e_nmF {tk : List PySem.Str} (hl : tk.length < 29) (x : PySem.Str) (kv w : Option Sl) (h : Hc) : ∃ y, nmF (envN tk x kv w) h = .ret (.str y) h ∧ NameOk y ∧ y ∉ tk := by
  obtain ⟨k, hk, hf⟩ := spare_free hl
  have c1 : mCompR false [4] (gtN 4) mYes (m2 (fAdd false) (mC (.str "q")) (mA1 fStrOf (maCons (mVar 4) maNil))) (maCons (m2 (fAdd false) (mA1 fLen (maCons (mVar 1) maNil)) (mC (.int 1))) maNil) (envN tk x kv w) h = .ok (.d (.lst (((List.range (tk.length + 1)).map spare).map D.str))) h := by
    have ea : maCons (m2 (fAdd false) (mA1 fLen (maCons (mVar 1) maNil)) (mC (.int 1))) maNil (envN tk x kv w) h = .ok [.d (.int ((tk.length : Int) + 1))] h := by
      simp [fLen_lst]
    unfold mCompR
    rw [ea, R.bind_ok]
    dsimp only
    have cd : -(2 ^ 62) ≤ (tk.length : Int) + 1 ∧ (tk.length : Int) + 1 < 2 ^ 62 := by omega
    rw [if_pos cd, show ((tk.length : Int) + 1).toNat = tk.length + 1 by omega]
    rw [comp_all false 4 (m2 (fAdd false) (mC (.str "q")) (mA1 fStrOf (maCons (mVar 4) maNil))) (fun d => match d with
      | .int i => .str ("q" ++ Str.ofString (toString i))
      | d => d) (wipeE (envN tk x kv w) [4]) h (rangeD 0 (tk.length + 1)) ?_ (by rw [rangeD_len]; omega)]
    · unfold rangeD
      rw [List.map_map, List.map_map]
      refine congrArg (fun l => R.ok (Vl.d (.lst l)) h) (List.map_congr_left fun i _ => ?_)
      show D.str ("q" ++ Str.ofString (toString (0 + (i : Int)))) = .str (spare i)
      rw [Int.zero_add]
      rfl
    · intro d hd
      unfold rangeD at hd
      obtain ⟨i, hi, rfl⟩ := List.mem_map.mp hd
      have hi := List.mem_range.mp hi
      have e1 : fStrOf [.d (.int (0 + (i : Int)))] h = .ok (.d (.str (Str.ofString (toString (0 + (i : Int)))))) h := by
        show (if (0 + (i : Int)).natAbs.log2 < 1920 then R.ok (Vl.d (.str (toString (0 + (i : Int))))) h else .stuck) = _
        rw [if_pos (log2_lt (show (0 + (i : Int)).natAbs < 2 ^ 1920 from Nat.lt_of_lt_of_le (show (0 + (i : Int)).natAbs < 2 ^ 10 by omega) (Nat.pow_le_pow_right (by omega) (by omega))) (by omega))]
      have e2 : fAdd false (.d (.str "q")) (.d (.str (Str.ofString (toString (0 + (i : Int)))))) h = .ok (.d (.str ("q" ++ Str.ofString (toString (0 + (i : Int)))))) h := fAdd_str _ _ _ _ (by
        have := (spare_ok i (List.mem_range.mpr (by omega))).1
        have e3 : (spare i).cps.size = ("q" : PySem.Str).cps.size + (Str.ofString (toString ((i : Int)))).cps.size := Array.size_append ..
        rw [Int.zero_add]
        omega)
      show (m2 (fAdd false) (mC (.str "q")) (mA1 fStrOf (maCons (mVar 4) maNil))) ((wipeE (envN tk x kv w) [4]).set 4 (some (.d (.int (0 + (i : Int)))))) h = _
      show ((fStrOf [.d (.int (0 + (i : Int)))] h).bind fun y h2 => fAdd false (.d (.str "q")) y h2) = _
      rw [e1, R.bind_ok, e2]
  have c2 : mComp false [6] (gtN 6) (asB (m2 (fIn true) (mVar 6) (mVar 1))) (mVar 6) (mCompR false [4] (gtN 4) mYes (m2 (fAdd false) (mC (.str "q")) (mA1 fStrOf (maCons (mVar 4) maNil))) (maCons (m2 (fAdd false) (mA1 fLen (maCons (mVar 1) maNil)) (mC (.int 1))) maNil)) (envN tk x kv w) h = .ok (.d (.lst (((List.range (tk.length + 1)).map spare).filter (fun y => decide (y ∉ tk)) |>.map D.str))) h := by
    have c3 := comp_map false 6 (asB (m2 (fIn true) (mVar 6) (mVar 1))) (mVar 6) (fun d => d) (fun d => match d with
      | .str y => decide (y ∉ tk)
      | _ => false) (wipeE (envN tk x kv w) [6]) h (((List.range (tk.length + 1)).map spare).map D.str) [] ?_ (by rw [List.length_map, List.length_map, List.length_range]; simp only [List.length_nil]; omega)
    · unfold mComp
      rw [c1]
      show compL false (gtN 6) (asB (m2 (fIn true) (mVar 6) (mVar 1))) (mVar 6) (((List.range (tk.length + 1)).map spare).map D.str) [] (wipeE (envN tk x kv w) [6]) h = _
      rw [c3, List.nil_append, List.filter_map, List.map_id']
      rfl
    · intro d hd
      obtain ⟨y, hy, rfl⟩ := List.mem_map.mp hd
      refine ⟨?_, fun _ => rfl⟩
      have e1 := in_txt y true h (.d (.lst (tk.map D.str))) tk rfl (fun z e => by cases e)
      show (asB (m2 (fIn true) (mVar 6) (mVar 1))) ((wipeE (envN tk x kv w) [6]).set 6 (some (.d (.str y)))) h = _
      simp only [wipeE]
      simp [e1, nB]
  have ne : (((List.range (tk.length + 1)).map spare).filter (fun y => decide (y ∉ tk))) ≠ [] := fun e => by
    have := List.eq_nil_iff_forall_not_mem.mp e (spare k)
    exact this (List.mem_filter.mpr ⟨List.mem_map.mpr ⟨k, List.mem_range.mpr hk, rfl⟩, decide_eq_true hf⟩)
  obtain ⟨y, r, er⟩ := List.exists_cons_of_ne_nil ne
  have hy : y ∈ ((List.range (tk.length + 1)).map spare).filter (fun y => decide (y ∉ tk)) := by rw [er]; exact List.mem_cons_self ..
  obtain ⟨h1, h2⟩ := List.mem_filter.mp hy
  obtain ⟨i, hi, rfl⟩ := List.mem_map.mp h1
  refine ⟨_, ?_, spare_name (by have := List.mem_range.mp hi; omega), of_decide_eq_true h2⟩
  unfold nmF
  rw [er] at c2
  simp [c2, atI, ixN]
end G02

set_option Elab.async false
set_option linter.all false
set_option maxRecDepth 100000
set_option maxHeartbeats 4000000
set_option exponentiation.threshold 2000
namespace G02
open PySem L2 Vi
abbrev w1 : PySem.Str := " and or not free untouched least most of since until single recipe take move drain wash pack "
theorem big_eq : w1 ++ ("repeat when else end done yes no none " : PySem.Str) = bigW := by decide +kernel
theorem big_n : (" and or not free untouched least most of since until single recipe take move drain wash pack " : PySem.Str).cps.size + ("repeat when else end done yes no none " : PySem.Str).cps.size ≤ 100000 := by decide +kernel
theorem e_nmC {tk : List PySem.Str} {x : PySem.Str} {kv : Option Sl} {h : Hc} (hx : x.cps.size ≤ 8) : nmC (envN tk x kv (some (.d (.str w1)))) h = .ok (decide (x ∉ tk) && !hasSub bigW (" " ++ x ++ " ")) h := by
  have e1 := in_txt x true h (.d (.lst (tk.map D.str))) tk rfl (fun z e => by cases e)
  have n1 : (" " : PySem.Str).cps.size = 1 := rfl
  have n2 : (" " ++ x : PySem.Str).cps.size = 1 + x.cps.size := Array.size_append ..
  have e2 := fAdd_str false " " x h (by omega)
  have e3 := fAdd_str false (" " ++ x) " " h (by omega)
  have e4 := fAdd_str false w1 "repeat when else end done yes no none " h big_n
  rw [big_eq] at e4
  have e5 : fIn true (.d (.str (" " ++ x ++ " "))) (.d (.str bigW)) h = .ok (.d (.bl (!hasSub bigW (" " ++ x ++ " ")))) h := rfl
  unfold nmC
  by_cases hm : x ∈ tk
  · simp [e1, hm, nB]
  · simp [e1, hm, nB, e2, e3, e4, e5]
theorem lens4 {r : Int} (h0 : 0 ≤ r) (h1 : r < 4) : ∃ k : Nat, atI [D.int 0, .int 1, .int 2, .int 7] r = some (.int k) ∧ k ≤ 7 := by
  have : r = 0 ∨ r = 1 ∨ r = 2 ∨ r = 3 := by omega
  rcases this with rfl | rfl | rfl | rfl
  · exact ⟨0, by simp [atI, ixN], by omega⟩
  · exact ⟨1, by simp [atI, ixN], by omega⟩
  · exact ⟨2, by simp [atI, ixN], by omega⟩
  · exact ⟨7, by simp [atI, ixN], by omega⟩
theorem v_lname {t : Hc} {m : Int} {h : Hc} {tk : List PySem.Str} (g : BG t m h) (hm : m < 2 ^ 50) (hl : tk.length < 29) : ∃ y h', F__law_name [.ref 0, .lst (tk.map D.str)] h = .ok (.str y) h' ∧ BG t (m + 10) h' ∧ NameOk y ∧ y ∉ tk := by
  obtain ⟨r, h1, e1, g1, r0, r1, _⟩ := v_draw (many := 26) g (by omega) (by omega) (by omega)
  have r1 := r1 (by omega)
  obtain ⟨c, ec, hc⟩ := atI_get (xs := letL) r0 (show r < ((26 : Nat) : Int) from r1)
  have ec2 : atI sgnL r = some c := by
    have z := lets_at r.toNat (List.mem_range.mpr (by omega))
    rw [show ((r.toNat : Nat) : Int) = r by omega] at z
    rw [z, ec]
  obtain ⟨q, h2, e2, g2, q0, q1, _⟩ := v_draw (many := 4) g1 (by omega) (by omega) (by omega)
  obtain ⟨k, ek, hk⟩ := lens4 q0 (q1 (by omega))
  have lk : (rangeD 0 k).length = k := rangeD_len 0 k
  obtain ⟨x, kv, h3, e3, g3, p⟩ := nm_loop (tk := .lst (tk.map D.str)) (rangeD 0 k) 1 _ ⟨#[c]⟩ none h2 g2 (by omega) (by omega) (by omega) (Pre.one hc)
  rw [lk] at p g3
  have s1 : mSet 2 (mC (.str sgnS)) (mkEnv 7 [.ref 0, .lst (tk.map D.str)]) h = .nx [some (.d (.ref 0)), some (.d (.lst (tk.map D.str))), some (.d (.str sgnS)), none, none, none, none] h := rfl
  have i1 := fIx_str sgnS r c h1 ec2 (by decide)
  have s2 : mSet 3 (m2 fIx (mVar 2) (mA1 (fCallN 2 F__law_draw []) (maCons (mVar 0) (maCons (mC (.int 26)) maNil)))) [some (.d (.ref 0)), some (.d (.lst (tk.map D.str))), some (.d (.str sgnS)), none, none, none, none] h = .nx (envN tk ⟨#[c]⟩ none none) h1 := by
    simp [e1, i1]
  have s3 : mForR (gtN 4) (maCons (m2 fIx (mA1 (fLst false) (maCons (mC (.int 0)) (maCons (mC (.int 1)) (maCons (mC (.int 2)) (maCons (mC (.int 7)) maNil))))) (mA1 (fCallN 2 F__law_draw []) (maCons (mVar 0) (maCons (mC (.int 4)) maNil)))) maNil) nmB (envN tk ⟨#[c]⟩ none none) h1 = .nx (envN tk x kv none) h3 := by
    have ea : maCons (m2 fIx (mA1 (fLst false) (maCons (mC (.int 0)) (maCons (mC (.int 1)) (maCons (mC (.int 2)) (maCons (mC (.int 7)) maNil))))) (mA1 (fCallN 2 F__law_draw []) (maCons (mVar 0) (maCons (mC (.int 4)) maNil)))) maNil (envN tk ⟨#[c]⟩ none none) h1 = .ok [.d (.int k)] h2 := by
      simp [e2, ek]
    unfold mForR
    rw [ea, R.thenS_ok]
    dsimp only
    have cd : -(2 ^ 62) ≤ (k : Int) ∧ (k : Int) < 2 ^ 62 := by omega
    rw [if_pos cd, Int.toNat_natCast]
    exact e3
  have s4 : mSet 5 (mC (.str " and or not free untouched least most of since until single recipe take move drain wash pack ")) (envN tk x kv none) h3 = .nx (envN tk x kv (some (.d (.str w1)))) h3 := rfl
  have hx : x.cps.size ≤ 8 := by rw [p.n]; omega
  have s5 := e_nmC (tk := tk) (kv := kv) (h := h3) hx
  have go : F__law_name [.ref 0, .lst (tk.map D.str)] h = ((mSeq (mIfS nmC (mRet (mVar 3)) mSkip) nmF) (envN tk x kv (some (.d (.str w1)))) h3).fin := by
    refine (fnOf_eq 7 2 m__law_name _ h rfl).trans ?_
    rw [name_parts, mSeq_eq, s1, RS.seq_nx, mSeq_eq, s2, RS.seq_nx, mSeq_eq, s3, RS.seq_nx, mSeq_eq, s4, RS.seq_nx]
  rw [go]
  by_cases hb : (decide (x ∉ tk) && !hasSub bigW (" " ++ x ++ " ")) = true
  · obtain ⟨b1, b2⟩ := Bool.and_eq_true_iff.mp hb
    refine ⟨x, h3, ?_, g3.up (by omega), p.name (by omega) (by omega) fun hr => ?_, of_decide_eq_true b1⟩
    · rw [hb] at s5
      rw [mSeq_eq, mIfS_eq, s5, R.thenS_ok, pick_t]
      rfl
    · rw [res_big x hr] at b2
      cases b2
  · obtain ⟨y, ey, ny, hy⟩ := e_nmF hl x kv (some (.d (.str w1))) h3
    refine ⟨y, h3, ?_, g3.up (by omega), ny, hy⟩
    rw [Bool.eq_false_iff.mpr hb] at s5
    rw [mSeq_eq, mIfS_eq, s5, R.thenS_ok, pick_f]
    rw [show mSkip (envN tk x kv (some (.d (.str w1)))) h3 = .nx (envN tk x kv (some (.d (.str w1)))) h3 from rfl, RS.seq_nx, ey]
    rfl
/-! ### rows of names -/
structure Names (xs : List PySem.Str) : Prop where
  ok : ∀ x ∈ xs, NameOk x
  nodup : xs.Nodup
def nsB : MS := mAppend 3 (mA1 (fCallN 2 F__law_name []) (maCons (mVar 0) (maCons (m2 (fAdd false) (mVar 2) (mVar 3)) maNil)))
theorem ns_loop {t : Hc} {tk : List PySem.Str} {n : D} : ∀ (zs : List D) (m : Int) (xs : List PySem.Str) (kv : Option Sl) (h : Hc), BG t m h → m + 10 * zs.length < 2 ^ 50 → tk.length + xs.length + zs.length < 29 → Names xs → (∀ x ∈ xs, x ∉ tk) →
    ∃ xs' kv' h', forL (gtN 4) nsB zs [some (.d (.ref 0)), some (.d n), some (.d (.lst (tk.map D.str))), some (.ol (xs.map D.str)), kv] h = .nx [some (.d (.ref 0)), some (.d n), some (.d (.lst (tk.map D.str))), some (.ol (xs'.map D.str)), kv'] h' ∧ BG t (m + 10 * zs.length) h' ∧ Names xs' ∧ (∀ x ∈ xs', x ∉ tk) ∧ xs'.length = xs.length + zs.length := by
  intro zs
  induction zs with
  | nil =>
    intro m xs kv h g hm hl n1 n2
    exact ⟨xs, kv, h, rfl, by simpa using g, n1, n2, by simp⟩
  | cons z zs ih =>
    intro m xs kv h g hm hl n1 n2
    simp only [List.length_cons] at hm hl ⊢
    obtain ⟨y, h1, e1, g1, ny, hy⟩ := v_lname (tk := tk ++ xs) g (by omega) (by rw [List.length_append]; omega)
    have hy1 : y ∉ tk := fun z => hy (List.mem_append_left _ z)
    have hy2 : y ∉ xs := fun z => hy (List.mem_append_right _ z)
    obtain ⟨xs', kv', h', e4, g4, q1, q2, q3⟩ := ih (m + 10) (xs ++ [y]) (some (.d z)) h1 g1 (by omega) (by rw [List.length_append, List.length_singleton]; omega)
      ⟨fun x hx => by
        rcases List.mem_append.mp hx with hx | hx
        · exact n1.ok x hx
        · rw [List.mem_singleton.mp hx]; exact ny, List.nodup_append.mpr ⟨n1.nodup, by simp, fun a ha b hb => by
        rw [List.mem_singleton.mp hb]
        exact fun e => hy2 (e ▸ ha)⟩⟩ (fun x hx => by
        rcases List.mem_append.mp hx with hx | hx
        · exact n2 x hx
        · rw [List.mem_singleton.mp hx]; exact hy1)
    refine ⟨xs', kv', h', ?_, g4.up (by omega), q1, q2, by rw [q3, List.length_append, List.length_singleton]; omega⟩
    rw [List.map_append] at e1
    have ea : fAdd false (.d (.lst (tk.map D.str))) (.bl (xs.map D.str)) h = .ok (.d (.lst (tk.map D.str ++ xs.map D.str))) h := by
      show (if (tk.map D.str).length + (xs.map D.str).length ≤ 100000 then R.ok (Vl.ofL false (tk.map D.str ++ xs.map D.str)) h else .stuck) = _
      rw [if_pos (by rw [List.length_map, List.length_map]; omega)]
      rfl
    rw [forL_cons, ← e4]
    unfold nsB gtN
    have hs : xs.length < 100000 := by omega
    simp [ea, e1, mAppend, hs]
theorem v_lnames {t : Hc} {m : Int} {h : Hc} {tk : List PySem.Str} {n : Nat} (g : BG t m h) (hm : m < 2 ^ 49) (hl : tk.length + n < 29) : ∃ xs h', F__law_names [.ref 0, .int n, .lst (tk.map D.str)] h = .ok (.lst (xs.map D.str)) h' ∧ BG t (m + 300) h' ∧ Names xs ∧ (∀ x ∈ xs, x ∉ tk) ∧ xs.length = n := by
  have ln : (rangeD 0 n).length = n := rangeD_len 0 n
  obtain ⟨xs, kv, h1, e1, g1, q1, q2, q3⟩ := ns_loop (tk := tk) (n := .int n) (rangeD 0 n) m [] none h g (by omega) (by rw [ln]; simpa using hl) ⟨by simp, List.nodup_nil⟩ (by simp)
  rw [ln] at q3 g1
  refine ⟨xs, h1, ?_, g1.up (by omega), q1, q2, by simpa using q3⟩
  refine (fnOf_eq 5 3 m__law_names _ h rfl).trans ?_
  have p : m__law_names = mSeq (mSet 3 (mA1 (fLst true) maNil)) (mSeq (mForR (gtN 4) (maCons (mVar 1) maNil) nsB) (mFrz 3 (mRet (mVar 3)))) := rfl
  have s2 : mForR (gtN 4) (maCons (mVar 1) maNil) nsB [some (.d (.ref 0)), some (.d (.int n)), some (.d (.lst (tk.map D.str))), some (.ol []), none] h = .nx [some (.d (.ref 0)), some (.d (.int n)), some (.d (.lst (tk.map D.str))), some (.ol (xs.map D.str)), kv] h1 := by
    have ea : maCons (mVar 1) maNil [some (.d (.ref 0)), some (.d (.int n)), some (.d (.lst (tk.map D.str))), some (.ol []), none] h = .ok [.d (.int n)] h := rfl
    unfold mForR
    rw [ea, R.thenS_ok]
    dsimp only
    have cd : -(2 ^ 62) ≤ (n : Int) ∧ (n : Int) < 2 ^ 62 := by omega
    rw [if_pos cd, Int.toNat_natCast]
    exact e1
  rw [p, mSeq_eq, show mSet 3 (mA1 (fLst true) maNil) (mkEnv 5 [.ref 0, .int n, .lst (tk.map D.str)]) h = .nx [some (.d (.ref 0)), some (.d (.int n)), some (.d (.lst (tk.map D.str))), some (.ol []), none] h from rfl, RS.seq_nx, mSeq_eq, s2, RS.seq_nx]
  rfl
end G02

set_option Elab.async false
set_option linter.all false
set_option maxRecDepth 100000
set_option maxHeartbeats 4000000
set_option exponentiation.threshold 2000
namespace G02
open PySem L2 Vi
abbrev Ve : Type := PySem.Str × Int × Int
abbrev vD (v : Ve) : D := .tup [.str v.1, .int v.2.1, .int v.2.2]
structure VeOk (v : Ve) : Prop where
  name : NameOk v.1
  s1 : 1 ≤ v.2.1
  s2 : v.2.1 ≤ 10000
  k1 : 0 ≤ v.2.2
  k2 : v.2.2 ≤ v.2.1 - 1
structure Ves (vs : List Ve) : Prop where
  ok : ∀ v ∈ vs, VeOk v
  nodup : (vs.map (·.1)).Nodup
def vsS : MS := mSet 4 (mA1 (fCallN 2 F__law_pick []) (maCons (mVar 0) (maCons (mA1 (fLst false) (maCons (mC (.int 1)) (maCons (mC (.int 2)) (maCons (m2 (fAdd false) (mC (.int 1)) (mA1 (fCallN 2 F__law_draw []) (maCons (mVar 0) (maCons (mC (.int 60)) maNil)))) (maCons (m2 (fAdd false) (mC (.int 1)) (mA1 (fCallN 2 F__law_draw []) (maCons (mVar 0) (maCons (mC (.int 10000)) maNil)))) (maCons (mC (.int 10000)) maNil)))))) maNil)))
def vsA : MS := mAppend 2 (mA1 fTup (maCons (mVar 3) (maCons (mVar 4) (maCons (mA1 (fCallN 2 F__law_pick []) (maCons (mVar 0) (maCons (mA1 (fLst false) (maCons (mC (.int 0)) (maCons (m2 fSub (mVar 4) (mC (.int 1))) (maCons (mA1 (fCallN 2 F__law_draw []) (maCons (mVar 0) (maCons (mVar 4) maNil))) maNil)))) maNil))) maNil))))
abbrev envV (n : D) (vs : List Ve) (a b : Option Sl) : Vi.Env := [some (.d (.ref 0)), some (.d n), some (.ol (vs.map vD)), a, b]
theorem vs_turn {t : Hc} {m : Int} {h : Hc} {n : D} {vs : List Ve} {x : PySem.Str} {b : Option Sl} (g : BG t m h) (hm : m < 2 ^ 50) (hx : NameOk x) (hl : vs.length < 100) :
    ∃ s k h', (mSeq vsS vsA) (envV n vs (some (.d (.str x))) b) h = .nx (envV n (vs ++ [(x, s, k)]) (some (.d (.str x))) (some (.d (.int s)))) h' ∧ BG t (m + 10) h' ∧ VeOk (x, s, k) := by
  obtain ⟨r1, h1, e1, g1, a1, b1, _⟩ := v_draw (many := 60) g (by omega) (by omega) (by omega)
  obtain ⟨r2, h2, e2, g2, a2, b2, _⟩ := v_draw (many := 10000) g1 (by omega) (by omega) (by omega)
  have b1 := b1 (by omega)
  have b2 := b2 (by omega)
  obtain ⟨y, h3, e3, g3, hy⟩ := v_pick (xs := [D.int 1, .int 2, .int (1 + r1), .int (1 + r2), .int 10000]) g2 (by omega) (by simp) (by simp)
  obtain ⟨s, rfl, s1, s2⟩ : ∃ s, y = .int s ∧ 1 ≤ s ∧ s ≤ 10000 := by
    simp only [List.mem_cons, List.not_mem_nil, or_false] at hy
    rcases hy with rfl | rfl | rfl | rfl | rfl
    · exact ⟨_, rfl, by omega, by omega⟩
    · exact ⟨_, rfl, by omega, by omega⟩
    · exact ⟨_, rfl, by omega, by omega⟩
    · exact ⟨_, rfl, by omega, by omega⟩
    · exact ⟨_, rfl, by omega, by omega⟩
  obtain ⟨r4, h4, e4, g4, a4, b4, c4⟩ := v_draw (many := s) g3 (by omega) (by omega) (by omega)
  have b4 : r4 ≤ s - 1 := by
    by_cases z : 2 ≤ s
    · have := b4 z; omega
    · have := c4 (by omega); omega
  obtain ⟨y, h5, e5, g5, hy⟩ := v_pick (xs := [D.int 0, .int (s - 1), .int r4]) g4 (by omega) (by simp) (by simp)
  obtain ⟨k, rfl, k1, k2⟩ : ∃ k, y = .int k ∧ 0 ≤ k ∧ k ≤ s - 1 := by
    simp only [List.mem_cons, List.not_mem_nil, or_false] at hy
    rcases hy with rfl | rfl | rfl
    · exact ⟨_, rfl, by omega, by omega⟩
    · exact ⟨_, rfl, by omega, by omega⟩
    · exact ⟨_, rfl, by omega, by omega⟩
  refine ⟨s, k, h5, ?_, g5.up (by omega), ⟨hx, s1, s2, k1, k2⟩⟩
  have w1 : vsS (envV n vs (some (.d (.str x))) b) h = .nx (envV n vs (some (.d (.str x))) (some (.d (.int s)))) h3 := by
    unfold vsS
    simp [e1, e2, e3]
  have w2 : vsA (envV n vs (some (.d (.str x))) (some (.d (.int s)))) h3 = .nx (envV n (vs ++ [(x, s, k)]) (some (.d (.str x))) (some (.d (.int s)))) h5 := by
    have hs : vs.length < 100000 := by omega
    unfold vsA
    simp [e4, e5, mAppend, hs]
  rw [mSeq_eq, w1, RS.seq_nx, w2]
theorem vs_loop {t : Hc} {n : D} : ∀ (xs : List PySem.Str) (m : Int) (vs : List Ve) (a b : Option Sl) (h : Hc), BG t m h → m + 10 * xs.length < 2 ^ 50 → vs.length + xs.length < 100 → (∀ x ∈ xs, NameOk x) → (∀ v ∈ vs, VeOk v) →
    ∃ vs' a' b' h', forL (gtN 3) (mSeq vsS vsA) (xs.map D.str) (envV n vs a b) h = .nx (envV n vs' a' b') h' ∧ BG t (m + 10 * xs.length) h' ∧ (∀ v ∈ vs', VeOk v) ∧ vs'.map (·.1) = vs.map (·.1) ++ xs := by
  intro xs
  induction xs with
  | nil =>
    intro m vs a b h g hm hl h1 h2
    exact ⟨vs, a, b, h, rfl, by simpa using g, h2, by simp⟩
  | cons x xs ih =>
    intro m vs a b h g hm hl h1 h2
    simp only [List.length_cons] at hm hl ⊢
    obtain ⟨s, k, h3, e3, g3, ok⟩ := vs_turn (n := n) (vs := vs) (b := b) g (by omega) (h1 x (List.mem_cons_self ..)) (by omega)
    obtain ⟨vs', a', b', h4, e4, g4, q1, q2⟩ := ih (m + 10) (vs ++ [(x, s, k)]) (some (.d (.str x))) (some (.d (.int s))) h3 g3 (by omega) (by rw [List.length_append, List.length_singleton]; omega) (fun y hy => h1 y (List.mem_cons_of_mem _ hy)) (fun v hv => by
      rcases List.mem_append.mp hv with hv | hv
      · exact h2 v hv
      · rw [List.mem_singleton.mp hv]; exact ok)
    refine ⟨vs', a', b', h4, ?_, g4.up (by omega), q1, by rw [q2]; simp⟩
    rw [List.map_cons, forL_cons]
    show ((mSeq vsS vsA) (envV n vs (some (.d (.str x))) b) h).again _ = _
    rw [e3, RS.again_nx, e4]
theorem v_vessels {t : Hc} {m : Int} {h : Hc} {n : Nat} (g : BG t m h) (hm : m < 2 ^ 48) (hl : n < 29) : ∃ vs h', F__law_p3_vessels [.ref 0, .int n] h = .ok (.lst (vs.map vD)) h' ∧ BG t (m + 600) h' ∧ Ves vs ∧ vs.length = n := by
  obtain ⟨xs, h1, e1, g1, q1, _, q3⟩ := v_lnames (tk := []) (n := n) g (by omega) (by simpa using hl)
  obtain ⟨vs, a, b, h2, e2, g2, q4, q5⟩ := vs_loop (n := .int n) xs (m + 300) [] none none h1 g1 (by omega) (by simp; omega) q1.ok (by simp)
  rw [List.map_nil, List.nil_append] at q5
  refine ⟨vs, h2, ?_, g2.up (by omega), ⟨q4, by rw [q5]; exact q1.nodup⟩, by have := congrArg List.length q5; rw [List.length_map] at this; omega⟩
  refine (fnOf_eq 5 2 m__law_p3_vessels _ h rfl).trans ?_
  have p : m__law_p3_vessels = mSeq (mSet 2 (mA1 (fLst true) maNil)) (mSeq (mFor (gtN 3) (mA1 (fCallN 3 F__law_names []) (maCons (mVar 0) (maCons (mVar 1) (maCons (mA1 (fLst false) maNil) maNil)))) (mSeq vsS vsA)) (mFrz 2 (mRet (mVar 2)))) := rfl
  have s2 : mFor (gtN 3) (mA1 (fCallN 3 F__law_names []) (maCons (mVar 0) (maCons (mVar 1) (maCons (mA1 (fLst false) maNil) maNil)))) (mSeq vsS vsA) (envV (.int n) [] none none) h = .nx (envV (.int n) vs a b) h2 := by
    have ea : mA1 (fCallN 3 F__law_names []) (maCons (mVar 0) (maCons (mVar 1) (maCons (mA1 (fLst false) maNil) maNil))) (envV (.int n) [] none none) h = .ok (.d (.lst (xs.map D.str))) h1 := by
      have e1 : F__law_names [.ref 0, .int n, .lst []] h = .ok (.lst (xs.map D.str)) h1 := e1
      simp [e1]
    unfold mFor
    rw [ea, R.thenS_ok]
    exact e2
  rw [p, mSeq_eq, show mSet 2 (mA1 (fLst true) maNil) (mkEnv 5 [.ref 0, .int n]) h = .nx (envV (.int n) [] none none) h from rfl, RS.seq_nx, mSeq_eq, s2, RS.seq_nx]
  rfl
end G02

set_option Elab.async false
set_option linter.all false
set_option maxRecDepth 100000
set_option maxHeartbeats 4000000
set_option exponentiation.threshold 2000
namespace G02
open PySem L2 Vi
/-- a list or a tuple, wherever it stands -/
structure SeqOk (h : Hc) (d : D) (xs : List D) : Prop where
  isi : fIsi2 g0 (.bt "list") (.bt "tuple") (.d d) h = .ok (.d (.bl true)) h
  len : fLen [.d d] h = .ok (.d (.int xs.length)) h
  seqC : ∃ b, seqC? h (.d d) = some (b, xs)
  seq : seq? h (.d d) = some xs
  tupC : fTuple [.d d] h = .ok (.d (.tup xs)) h
theorem SeqOk.lst (h : Hc) (xs : List D) : SeqOk h (.lst xs) xs := ⟨rfl, rfl, ⟨_, rfl⟩, rfl, rfl⟩
theorem SeqOk.tup (h : Hc) (xs : List D) : SeqOk h (.tup xs) xs := ⟨rfl, rfl, ⟨_, rfl⟩, rfl, rfl⟩
theorem SeqOk.cell {h : Hc} {n : Nat} {xs : List D} (e : h[n]? = some (.frz (.lst xs))) : SeqOk h (.ref n) xs := by
  have el : lst? h (.d (.ref n)) = some xs := by
    show (match h[n]?.map Cell.bare with
      | some (.lst xs) => some xs
      | _ => none) = _
    rw [e]
    rfl
  have ty : Vl.ty g0 h (.d (.ref n)) = some (.bt "list") := by
    show h[n]?.bind (Cell.ty g0) = _
    rw [e]
    rfl
  refine ⟨?_, ?_, ⟨true, ?_⟩, ?_, ?_⟩
  · unfold fIsi2
    rw [ty]
    rfl
  · simp only [fLen, el]
  · show (match h[n]? with
      | some (.frz c) => (match c.bare with
        | .lst xs => some (true, xs)
        | _ => none)
      | _ => none) = _
    rw [e]
    rfl
  · unfold seq?
    rw [el]
  · simp only [fTuple, el]
/-! ### each text once -/
theorem nd_len : ∀ (xs acc : List PySem.Str), (xs.foldl ndS acc).length ≤ acc.length + xs.length ∧ ((xs.foldl ndS acc).length = acc.length + xs.length ↔ (xs.Nodup ∧ ∀ x ∈ xs, x ∉ acc))
  | [], acc => ⟨by simp, by simp⟩
  | x :: r, acc => by
    obtain ⟨h1, h2⟩ := nd_len r (ndS acc x)
    have hl := ndS_len acc x
    rw [List.foldl_cons, List.length_cons]
    by_cases hx : x ∈ acc
    · rw [if_pos (decide_eq_true hx)] at hl
      refine ⟨by omega, fun e => by omega, fun e => absurd hx (e.2 x (List.mem_cons_self ..))⟩
    · rw [if_neg (by rw [decide_eq_false hx]; exact Bool.false_ne_true)] at hl
      refine ⟨by omega, fun e => ?_, fun e => ?_⟩
      · obtain ⟨n1, n2⟩ := h2.mp (by omega)
        have n3 : ∀ y ∈ r, y ∉ acc ∧ y ≠ x := fun y hy => by
          have z := n2 y hy
          have z2 := ndS_mem acc x y
          rw [decide_eq_false z] at z2
          refine ⟨fun w => ?_, fun w => ?_⟩
          · rw [decide_eq_true w] at z2
            cases z2
          · rw [decide_eq_true w, Bool.or_true] at z2
            cases z2
        refine ⟨List.nodup_cons.mpr ⟨fun w => (n3 x w).2 rfl, n1⟩, fun y hy => ?_⟩
        rcases List.mem_cons.mp hy with rfl | hy
        · exact hx
        · exact (n3 y hy).1
      · obtain ⟨n1, n2⟩ := e
        obtain ⟨n3, n4⟩ := List.nodup_cons.mp n1
        have := h2.mpr ⟨n4, fun y hy z => by
          have z2 := ndS_mem acc x y
          rw [decide_eq_true z] at z2
          have a1 := n2 y (List.mem_cons_of_mem _ hy)
          have a2 : y ≠ x := fun w => n3 (w ▸ hy)
          rw [decide_eq_false a1, decide_eq_false a2] at z2
          cases z2⟩
        omega
theorem nd_eq (xs : List PySem.Str) : decide (((nd xs).length : Int) = xs.length) = decide xs.Nodup := by
  have z := (nd_len xs []).2
  rw [Bool.eq_iff_iff, decide_eq_true_iff, decide_eq_true_iff]
  refine ⟨fun e => (z.mp ?_).1, fun e => ?_⟩
  · show (nd xs).length = _
    simp only [List.length_nil]
    omega
  · have : (nd xs).length = ([] : List PySem.Str).length + xs.length := z.mpr ⟨e, by simp⟩
    simp only [List.length_nil] at this
    omega
theorem strs_map : ∀ xs : List PySem.Str, strs? (xs.map D.str) = some xs
  | [] => rfl
  | x :: r => by
    show (strs? (r.map D.str)).map (x :: ·) = _
    rw [strs_map r]
    rfl
/-! ### are_names -/
section
variable {h : Hc} {d : D} {xs : List D} {a b : Int}
abbrev envR (d : D) (a b : Int) : Vi.Env := [some (.d d), some (.d (.int a)), some (.d (.int b)), none]
def anT : MS := mIfS (tNotM (asB (mA1 (fAll false) (maCons (mComp false [3] (gtN 3) mYes (mA1 (fCallN 1 F_is_name []) (maCons (mVar 3) maNil)) (mVar 0)) maNil)))) (mRet (mC (.bl false))) mSkip
theorem e_anT (s : SeqOk h d xs) (hl : xs.length < 1000) (f : D → Bool) (hf : ∀ x ∈ xs, Nm x (f x)) : anT (envR d a b) h = if xs.all f then .nx (envR d a b) h else .ret (.bl false) h := by
  obtain ⟨bb, sc⟩ := s.seqC
  have e6 : mComp false [3] (gtN 3) mYes (mA1 (fCallN 1 F_is_name []) (maCons (mVar 3) maNil)) (mVar 0) (envR d a b) h = .ok (.d (.lst (xs.map fun x => .bl (f x)))) h := by
    unfold mComp
    rw [show mVar 0 (envR d a b) h = .ok (.d d) h from rfl, R.bind_ok, sc]
    show compL false (gtN 3) mYes (mA1 (fCallN 1 F_is_name []) (maCons (mVar 3) maNil)) xs [] (wipeE (envR d a b) [3]) h = _
    refine comp_all false 3 _ (fun x => .bl (f x)) _ h xs (fun z hz => ?_) (by omega)
    have e := hf z hz h
    show ((F_is_name [z] h).bind fun d h' => R.ok (Vl.d d) h') = _
    rw [e]
    rfl
  have e7 := all_map f xs h
  unfold anT
  cases hb : xs.all f with
  | true =>
    rw [hb] at e7
    simp [e6, e7]
  | false =>
    rw [hb] at e7
    simp [e6, e7]
theorem v_names_len (s : SeqOk h d xs) (hb : ¬ (a ≤ xs.length ∧ (xs.length : Int) ≤ b)) : F_are_names [d, .int a, .int b] h = .ok (.bl false) h := by
  refine (fnOf_eq 4 3 m_are_names _ h rfl).trans ?_
  have e1 := s.isi
  have e2 := s.len
  unfold m_are_names
  by_cases h1 : a ≤ (xs.length : Int)
  · have h2 : ¬ (xs.length : Int) ≤ b := fun z => hb ⟨h1, z⟩
    simp [e1, e2, h1, h2]
  · simp [e1, e2, h1]
theorem names_go (s : SeqOk h d xs) (h1 : a ≤ xs.length) (h2 : (xs.length : Int) ≤ b) : F_are_names [d, .int a, .int b] h = ((mSeq anT (mRet (m2 (fEq false) (m1 fLenSet (mVar 0)) (mA1 fLen (maCons (mVar 0) maNil))))) (envR d a b) h).fin := by
  refine (fnOf_eq 4 3 m_are_names _ h rfl).trans ?_
  have e1 := s.isi
  have e2 := s.len
  unfold m_are_names
  rw [mSeq_eq]
  have e3 : mIfS (tOrM (tNotM (asB (m1 (fIsi2 g0 (.bt "list") (.bt "tuple")) (mVar 0)))) (tNotM (asB (mChain fLe fLe (mVar 1) (mA1 fLen (maCons (mVar 0) maNil)) (mVar 2))))) (mRet (mC (.bl false))) mSkip (mkEnv 4 [d, .int a, .int b]) h = .nx (envR d a b) h := by
    simp [e1, e2, h1, h2]
  rw [e3, RS.seq_nx]
  rfl
theorem pick_b {P : D → Bool → Prop} (one : ∀ x, P x true → ¬ P x false) {xs : List D} (hf : ∀ x ∈ xs, ∃ b, P x b) : ∃ f : D → Bool, ∀ x ∈ xs, P x (f x) := by
  classical
  refine ⟨fun x => decide (P x true), fun x hm => ?_⟩
  obtain ⟨b, hb⟩ := hf x hm
  show P x (decide (P x true))
  cases b with
  | true => rw [decide_eq_true hb]; exact hb
  | false => rw [decide_eq_false fun z => one x z hb]; exact hb
theorem nm_one (x : D) (h1 : Nm x true) (h2 : Nm x false) : False := by
  have e := h1 []
  rw [h2 []] at e
  cases e
/-- some item is no name -/
theorem v_names_bad (s : SeqOk h d xs) (hl : xs.length < 1000) (hf : ∀ x ∈ xs, ∃ b, Nm x b) (hx : ∃ x ∈ xs, Nm x false) : F_are_names [d, .int a, .int b] h = .ok (.bl false) h := by
  by_cases hb : a ≤ (xs.length : Int) ∧ (xs.length : Int) ≤ b
  · rw [names_go s hb.1 hb.2]
    obtain ⟨f, hf⟩ := pick_b nm_one hf
    have ef : xs.all f = false := by
      obtain ⟨x, hm, hn⟩ := hx
      have e := hf x hm h
      rw [hn h] at e
      cases hb : f x with
      | true =>
        rw [hb] at e
        cases e
      | false =>
        rw [Bool.eq_false_iff]
        intro z
        have := List.all_eq_true.mp z x hm
        rw [hb] at this
        cases this
    rw [mSeq_eq, e_anT s hl f hf, ef]
    rfl
  · exact v_names_len s hb
/-- all items are names -/
theorem v_names_all {ns : List PySem.Str} (s : SeqOk h d (ns.map D.str)) (hn : ∀ x ∈ ns, NameOk x) (h1 : a ≤ ns.length) (h2 : (ns.length : Int) ≤ b) (hl : ns.length < 1000) : F_are_names [d, .int a, .int b] h = .ok (.bl (decide ns.Nodup)) h := by
  have el : (ns.map D.str).length = ns.length := List.length_map ..
  rw [names_go s (by rw [el]; exact h1) (by rw [el]; exact h2), mSeq_eq, e_anT s (by rw [el]; exact hl) (fun _ => true) (fun x hx => by
    obtain ⟨y, hy, rfl⟩ := List.mem_map.mp hx
    exact fun h => v_name_ok (hn y hy) h), List.all_eq_true.mpr fun _ _ => rfl, if_pos rfl, RS.seq_nx]
  have e1 : fLenSet (.d d) h = .ok (.d (.int (nd ns).length)) h := by
    show (match seq? h (.d d) with
      | some ys => (match strs? ys with
        | some xs => if xs.length ≤ 4000 then R.ok (Vl.d (.int (nd xs).length)) h else .stuck
        | none => .stuck)
      | none => .stuck) = _
    rw [s.seq]
    dsimp only
    rw [strs_map]
    dsimp only
    rw [if_pos (by omega)]
  have e2 := s.len
  rw [el] at e2
  have e3 := nd_eq ns
  simp [e1, e2, e3]
end
end G02

set_option Elab.async false
set_option linter.all false
set_option maxRecDepth 100000
set_option maxHeartbeats 4000000
set_option exponentiation.threshold 2000
namespace G02
open PySem L2 Vi
/-! ### vessels -/
theorem v_within (i a b : Int) (h : Hc) : F_is_whole_within [.int i, .int a, .int b] h = .ok (.bl (decide (a ≤ i) && decide (i ≤ b))) h := by
  refine (fnOf_eq 3 3 m_is_whole_within _ h rfl).trans ?_
  have e1 : F_is_whole [.int i] h = .ok (.bl true) h := rfl
  unfold m_is_whole_within
  by_cases h1 : a ≤ i <;> simp [e1, h1]
/-- not a whole number within these -/
def Nw (d : D) : Prop := ∀ (a b : Int) (h : Hc), F_is_whole_within [d, .int a, .int b] h = .ok (.bl false) h
theorem nw_bl (b : Bool) : Nw (.bl b) := fun _ _ _ => rfl
theorem nw_non : Nw .non := fun _ _ _ => rfl
theorem nw_str (x : PySem.Str) : Nw (.str x) := fun _ _ _ => rfl
theorem nw_tup (xs : List D) : Nw (.tup xs) := fun _ _ _ => rfl
def Vs (d : D) (b : Bool) : Prop := ∀ h, F_is_vessel [d] h = .ok (.bl b) h
theorem vs_one (x : D) (h1 : Vs x true) (h2 : Vs x false) : False := by
  have e := h1 []
  rw [h2 []] at e
  cases e
theorem vs_lst (xs : List D) : Vs (.lst xs) false := fun h => rfl
theorem vs_str (x : PySem.Str) : Vs (.str x) false := fun h => rfl
theorem vs_non : Vs .non false := fun h => rfl
theorem vs_t0 : Vs (.tup []) false := fun h => by kernel_rfl
theorem vs_t2 (a b : D) : Vs (.tup [a, b]) false := fun h => by kernel_rfl
theorem vs_t4 (a b c d : D) : Vs (.tup [a, b, c, d]) false := fun h => by kernel_rfl
def veT : ME := mAnd (mA1 (fCallN 1 F_is_name []) (maCons (mVar 1) maNil)) (mAnd (mA1 (fCallN 3 F_is_whole_within []) (maCons (mVar 2) (maCons (mC (.int 1)) (maCons (mC d_GREATEST_SIZE) maNil)))) (mA1 (fCallN 3 F_is_whole_within []) (maCons (mVar 3) (maCons (mC (.int 0)) (maCons (m2 fSub (mVar 2) (mC (.int 1))) maNil)))))
theorem ve_go (x s k : D) (h : Hc) : F_is_vessel [.tup [x, s, k]] h = (mRet veT [some (.d (.tup [x, s, k])), some (.d x), some (.d s), some (.d k)] h).fin := by
  refine (fnOf_eq 4 1 m_is_vessel _ h rfl).trans ?_
  unfold m_is_vessel
  rw [mSeq_eq]
  have e3 : mIfS (tOrM (tNotM (asB (m1 (fIsi g0 (.bt "tuple")) (mVar 0)))) (asB (m2 (fEq true) (mA1 fLen (maCons (mVar 0) maNil)) (mC (.int 3))))) (mRet (mC (.bl false))) mSkip (mkEnv 4 [.tup [x, s, k]]) h = .nx [some (.d (.tup [x, s, k])), none, none, none] h := by
    have e1 : fIsi g0 (.bt "tuple") (.d (.tup [x, s, k])) h = .ok (.d (.bl true)) h := rfl
    simp [e1]
  rw [e3, RS.seq_nx]
  rfl
theorem vs_x {x s k : D} (hx : Nm x false) : Vs (.tup [x, s, k]) false := fun h => by
  rw [ve_go]
  unfold veT
  simp [hx h]
theorem vs_s {x s k : D} (hx : Nm x true) (hs : ∀ h, F_is_whole_within [s, .int 1, .int 10000] h = .ok (.bl false) h) : Vs (.tup [x, s, k]) false := fun h => by
  rw [ve_go]
  unfold veT
  simp [hx h, hs h]
theorem vs_k {x k : D} {s : Int} {b : Bool} (hx : Nm x true) (h1 : 1 ≤ s) (h2 : s ≤ 10000) (hk : ∀ h, F_is_whole_within [k, .int 0, .int (s - 1)] h = .ok (.bl b) h) : Vs (.tup [x, .int s, k]) b := fun h => by
  rw [ve_go]
  have e := v_within s 1 10000 h
  unfold veT
  simp [hx h, hk h, e, h1, h2]
theorem nm_ok {x : PySem.Str} (n : NameOk x) : Nm (.str x) true := fun h => v_name_ok n h
theorem vs_ok {v : Ve} (n : VeOk v) : Vs (vD v) true := vs_k (nm_ok n.name) n.s1 n.s2 fun h => by
  rw [v_within, decide_eq_true n.k1, decide_eq_true n.k2]
  rfl
end G02

set_option Elab.async false
set_option linter.all false
set_option maxRecDepth 100000
set_option maxHeartbeats 4000000
set_option exponentiation.threshold 2000
namespace G02
open PySem L2 Vi
/-! ### are_vessels -/
section
variable {h : Hc} {d : D} {xs : List D}
def avT : MS := mIfS (tOrM (tNotM (asB (m1 (fIsi2 g0 (.bt "list") (.bt "tuple")) (mVar 0)))) (tNotM (asB (mA1 (fAll false) (maCons (mComp false [1] (gtN 1) mYes (mA1 (fCallN 1 F_is_vessel []) (maCons (mVar 1) maNil)) (mVar 0)) maNil))))) (mRet (mC (.bl false))) mSkip
def avR : MS := mRet (mA1 (fCallN 3 F_are_names []) (maCons (mComp false [1] (gtN 1) mYes (m2 fIx (mVar 1) (mC (.int 0))) (mVar 0)) (maCons (mC (.int 1)) (maCons (mC d_MOST_VESSELS) maNil))))
theorem e_avT (s : SeqOk h d xs) (hl : xs.length < 1000) (f : D → Bool) (hf : ∀ x ∈ xs, Vs x (f x)) : avT [some (.d d), none] h = if xs.all f then .nx [some (.d d), none] h else .ret (.bl false) h := by
  obtain ⟨bb, sc⟩ := s.seqC
  have e1 := s.isi
  have e6 : mComp false [1] (gtN 1) mYes (mA1 (fCallN 1 F_is_vessel []) (maCons (mVar 1) maNil)) (mVar 0) [some (.d d), none] h = .ok (.d (.lst (xs.map fun x => .bl (f x)))) h := by
    unfold mComp
    rw [show mVar 0 [some (.d d), none] h = .ok (.d d) h from rfl, R.bind_ok, sc]
    show compL false (gtN 1) mYes (mA1 (fCallN 1 F_is_vessel []) (maCons (mVar 1) maNil)) xs [] (wipeE [some (.d d), none] [1]) h = _
    refine comp_all false 1 _ (fun x => .bl (f x)) _ h xs (fun z hz => ?_) (by omega)
    have e := hf z hz h
    show ((F_is_vessel [z] h).bind fun d h' => R.ok (Vl.d d) h') = _
    rw [e]
    rfl
  have e7 := all_map f xs h
  unfold avT
  cases hb : xs.all f with
  | true =>
    rw [hb] at e7
    simp [e1, e6, e7]
  | false =>
    rw [hb] at e7
    simp [e1, e6, e7]
theorem av_go : F_are_vessels [d] h = ((mSeq avT avR) [some (.d d), none] h).fin := (fnOf_eq 2 1 m_are_vessels _ h rfl).trans rfl
theorem v_ves_bad (s : SeqOk h d xs) (hl : xs.length < 1000) (hf : ∀ x ∈ xs, ∃ b, Vs x b) (hx : ∃ x ∈ xs, Vs x false) : F_are_vessels [d] h = .ok (.bl false) h := by
  obtain ⟨f, hf⟩ := pick_b vs_one hf
  have ef : xs.all f = false := by
    obtain ⟨x, hm, hn⟩ := hx
    cases hb : f x with
    | true => exact (vs_one x (hb ▸ hf x hm) hn).elim
    | false =>
      rw [Bool.eq_false_iff]
      intro z
      have := List.all_eq_true.mp z x hm
      rw [hb] at this
      cases this
  rw [av_go, mSeq_eq, e_avT s hl f hf, ef]
  rfl
theorem v_ves_all {vs : List Ve} (s : SeqOk h d (vs.map vD)) (hv : ∀ v ∈ vs, VeOk v) (hl : vs.length < 1000) : F_are_vessels [d] h = .ok (.bl (decide (1 ≤ vs.length) && decide (vs.length ≤ 6) && decide ((vs.map (·.1)).Nodup))) h := by
  obtain ⟨bb, sc⟩ := s.seqC
  have el : (vs.map vD).length = vs.length := List.length_map ..
  rw [av_go, mSeq_eq, e_avT s (by rw [el]; exact hl) (fun _ => true) (fun x hx => by
    obtain ⟨v, hm, rfl⟩ := List.mem_map.mp hx
    exact vs_ok (hv v hm)), List.all_eq_true.mpr fun _ _ => rfl, if_pos rfl, RS.seq_nx]
  have e6 : mComp false [1] (gtN 1) mYes (m2 fIx (mVar 1) (mC (.int 0))) (mVar 0) [some (.d d), none] h = .ok (.d (.lst ((vs.map (·.1)).map D.str))) h := by
    unfold mComp
    rw [show mVar 0 [some (.d d), none] h = .ok (.d d) h from rfl, R.bind_ok, sc]
    show compL false (gtN 1) mYes (m2 fIx (mVar 1) (mC (.int 0))) (vs.map vD) [] (wipeE [some (.d d), none] [1]) h = _
    rw [comp_all false 1 (m2 fIx (mVar 1) (mC (.int 0))) (fun x => match x with
      | .tup (y :: _) => y
      | y => y) _ h (vs.map vD) (fun z hz => by
        obtain ⟨v, hm, rfl⟩ := List.mem_map.mp hz
        rfl) (by rw [el]; omega), List.map_map, List.map_map]
    rfl
  have e7 : F_are_names [.lst ((vs.map (·.1)).map D.str), .int 1, .int 6] h = .ok (.bl (decide (1 ≤ vs.length) && decide (vs.length ≤ 6) && decide ((vs.map (·.1)).Nodup))) h := by
    have en : (vs.map (·.1)).length = vs.length := List.length_map ..
    by_cases hb : 1 ≤ vs.length ∧ vs.length ≤ 6
    · rw [v_names_all (SeqOk.lst h _) (fun x hx => by
        obtain ⟨v, hm, rfl⟩ := List.mem_map.mp hx
        exact (hv v hm).name) (by rw [en]; omega) (by rw [en]; omega) (by rw [en]; omega), decide_eq_true hb.1, decide_eq_true hb.2]
      rfl
    · rw [v_names_len (SeqOk.lst h _) (by rw [List.length_map, en]; omega)]
      have : (decide (1 ≤ vs.length) && decide (vs.length ≤ 6)) = false := by
        rw [← Bool.decide_and]
        exact decide_eq_false hb
      rw [this]
      rfl
  have e8 : mA1 (fCallN 3 F_are_names []) (maCons (mComp false [1] (gtN 1) mYes (m2 fIx (mVar 1) (mC (.int 0))) (mVar 0)) (maCons (mC (.int 1)) (maCons (mC d_MOST_VESSELS) maNil))) [some (.d d), none] h = .ok (.d (.bl (decide (1 ≤ vs.length) && decide (vs.length ≤ 6) && decide ((vs.map (·.1)).Nodup)))) h := by
    unfold mA1 maCons
    rw [e6]
    show ((F_are_names [.lst ((vs.map (·.1)).map D.str), .int 1, .int 6] h).bind fun d h' => R.ok (Vl.d d) h') = _
    rw [e7]
    rfl
  unfold avR mRet
  rw [e8]
  rfl
end
/-! ### a plant -/
def srt (xs : List PySem.Str) : List D := (sortL kLt (xs.map Sum.inr)).map dKey
theorem keys_str : ∀ xs : List PySem.Str, keys? (xs.map D.str) = some (xs.map Sum.inr)
  | [] => rfl
  | x :: r => by
    show (match key? (.str x), keys? (r.map D.str) with
      | some k, some ks => some (k :: ks)
      | _, _ => none) = _
    rw [keys_str r]
    rfl
theorem same_str : ∀ xs : List PySem.Str, sameKinds (xs.map Sum.inr) = true
  | [] => rfl
  | x :: r => by
    show (r.map Sum.inr).all (fun j => kKind j == kKind (.inr x)) = true
    rw [List.all_map]
    exact List.all_eq_true.mpr fun _ _ => rfl
theorem sort_str (kc : List D → Bool) (xs : List PySem.Str) : sortD? kc (xs.map D.str) = some (srt xs) := by
  unfold sortD?
  rw [keys_str]
  dsimp only
  rw [if_pos (same_str xs)]
  rfl
theorem v_sorted {h : Hc} {d : D} {xs : List PySem.Str} (s : SeqOk h d (xs.map D.str)) : fSorted g0.kc false [.d d] h = .ok (.d (.lst (srt xs))) h := by
  unfold fSorted
  dsimp only
  rw [s.seq]
  dsimp only
  rw [sort_str]
  rfl
abbrev plF (fx tx : List PySem.Str) (vs : List Ve) : List (PySem.Str × D) := [("farms", .tup (srt fx)), ("traits", .tup (srt tx)), ("vessels", .tup (vs.map vD)), ("vessel_names", .tup ((vs.map (·.1)).map D.str))]
abbrev plant (fx tx : List PySem.Str) (vs : List Ve) : D := .obj 4 (plF fx tx vs)
abbrev badP (w : PySem.Str) : D := .obj 1 (mkE "part" "class_name" "BadPlant" [.str w])
section
variable {h : Hc} {f t v : D}
abbrev envI (fs : List (PySem.Str × D)) (f t v : D) : Vi.Env := [some (.oi 4 fs), some (.d f), some (.d t), some (.d v), none]
def pi1 : MS := mIfS (tNotM (asB (mA1 (fCallN 3 F_are_names []) (maCons (mVar 1) (maCons (mC (.int 1)) (maCons (mC d_MOST_FARMS) maNil)))))) (mRaise 1 1 (mkE "part" "class_name" "BadPlant") (maCons (mC (.str "farms")) maNil)) mSkip
def pi2 : MS := mIfS (tNotM (asB (mA1 (fCallN 3 F_are_names []) (maCons (mVar 2) (maCons (mC (.int 0)) (maCons (mC d_MOST_TRAITS) maNil)))))) (mRaise 1 1 (mkE "part" "class_name" "BadPlant") (maCons (mC (.str "traits")) maNil)) mSkip
def pi3 : MS := mIfS (tNotM (asB (mA1 (fCallN 1 F_are_vessels []) (maCons (mVar 3) maNil)))) (mRaise 1 1 (mkE "part" "class_name" "BadPlant") (maCons (mC (.str "vessels")) maNil)) mSkip
def pi4 : MS := mSeq (mSetFld g0 0 "farms" (mA1 fTuple (maCons (mA1 (fSorted g0.kc false) (maCons (mVar 1) maNil)) maNil))) (mSeq (mSetFld g0 0 "traits" (mA1 fTuple (maCons (mA1 (fSorted g0.kc false) (maCons (mVar 2) maNil)) maNil))) (mSeq (mSetFld g0 0 "vessels" (mA1 fTuple (maCons (mVar 3) maNil))) (mSetFld g0 0 "vessel_names" (mA1 fTuple (maCons (mComp false [4] (gtN 4) mYes (m2 fIx (mVar 4) (mC (.int 0))) (mVar 3)) maNil)))))
theorem init_parts : m_Plant_xinitx = mSeq pi1 (mSeq pi2 (mSeq pi3 pi4)) := rfl
theorem e_pi1 (e : F_are_names [f, .int 1, .int 4] h = .ok (.bl true) h) : pi1 (envI [] f t v) h = .nx (envI [] f t v) h := by unfold pi1; simp [e]
theorem e_pi1b (e : F_are_names [f, .int 1, .int 4] h = .ok (.bl false) h) : pi1 (envI [] f t v) h = .exc (envI [] f t v) (badP "farms") h := by unfold pi1; simp [e, mRaise]
theorem e_pi2 (e : F_are_names [t, .int 0, .int 4] h = .ok (.bl true) h) : pi2 (envI [] f t v) h = .nx (envI [] f t v) h := by unfold pi2; simp [e]
theorem e_pi2b (e : F_are_names [t, .int 0, .int 4] h = .ok (.bl false) h) : pi2 (envI [] f t v) h = .exc (envI [] f t v) (badP "traits") h := by unfold pi2; simp [e, mRaise]
theorem e_pi3 (e : F_are_vessels [v] h = .ok (.bl true) h) : pi3 (envI [] f t v) h = .nx (envI [] f t v) h := by unfold pi3; simp [e]
theorem e_pi3b (e : F_are_vessels [v] h = .ok (.bl false) h) : pi3 (envI [] f t v) h = .exc (envI [] f t v) (badP "vessels") h := by unfold pi3; simp [e, mRaise]
theorem pl_go : FI_Plant_xinitx [f, t, v] h = (match (mSeq pi1 (mSeq pi2 (mSeq pi3 pi4))) (envI [] f t v) h with
  | .nx (some (.oi c' fs) :: _) h => if c' = 4 then .ok fs h else .stuck
  | .exc _ x h => .exc x h
  | _ => .stuck) := rfl
theorem v_plant_f (e : F_are_names [f, .int 1, .int 4] h = .ok (.bl false) h) : FI_Plant_xinitx [f, t, v] h = .exc (badP "farms") h := by
  rw [pl_go, mSeq_eq, e_pi1b e]
  rfl
theorem v_plant_t (e1 : F_are_names [f, .int 1, .int 4] h = .ok (.bl true) h) (e : F_are_names [t, .int 0, .int 4] h = .ok (.bl false) h) : FI_Plant_xinitx [f, t, v] h = .exc (badP "traits") h := by
  rw [pl_go, mSeq_eq, e_pi1 e1, RS.seq_nx, mSeq_eq, e_pi2b e]
  rfl
theorem v_plant_v (e1 : F_are_names [f, .int 1, .int 4] h = .ok (.bl true) h) (e2 : F_are_names [t, .int 0, .int 4] h = .ok (.bl true) h) (e : F_are_vessels [v] h = .ok (.bl false) h) : FI_Plant_xinitx [f, t, v] h = .exc (badP "vessels") h := by
  rw [pl_go, mSeq_eq, e_pi1 e1, RS.seq_nx, mSeq_eq, e_pi2 e2, RS.seq_nx, mSeq_eq, e_pi3b e]
  rfl
/-- parts that are as they should be -/
structure Parts (h : Hc) (f t v : D) (fx tx : List PySem.Str) (vs : List Ve) : Prop where
  sf : SeqOk h f (fx.map D.str)
  st : SeqOk h t (tx.map D.str)
  sv : SeqOk h v (vs.map vD)
structure Good3 (fx tx : List PySem.Str) (vs : List Ve) : Prop where
  nf : Names fx
  f1 : 1 ≤ fx.length
  f4 : fx.length ≤ 4
  nt : Names tx
  t4 : tx.length ≤ 4
  nv : Ves vs
  v1 : 1 ≤ vs.length
  v6 : vs.length ≤ 6
variable {fx tx : List PySem.Str} {vs : List Ve}
theorem an_f (s : SeqOk h f (fx.map D.str)) (n : Names fx) (h1 : 1 ≤ fx.length) (h4 : fx.length ≤ 4) : F_are_names [f, .int 1, .int 4] h = .ok (.bl true) h := by
  rw [v_names_all s n.ok (by omega) (by omega) (by omega), decide_eq_true n.nodup]
theorem an_t (s : SeqOk h t (tx.map D.str)) (n : Names tx) (h4 : tx.length ≤ 4) : F_are_names [t, .int 0, .int 4] h = .ok (.bl true) h := by
  rw [v_names_all s n.ok (by omega) (by omega) (by omega), decide_eq_true n.nodup]
theorem av_v (s : SeqOk h v (vs.map vD)) (n : Ves vs) (h1 : 1 ≤ vs.length) (h6 : vs.length ≤ 6) : F_are_vessels [v] h = .ok (.bl true) h := by
  rw [v_ves_all s n.ok (by omega), decide_eq_true n.nodup, decide_eq_true h1, decide_eq_true h6]
  rfl
theorem v_plant (p : Parts h f t v fx tx vs) (g : Good3 fx tx vs) : FI_Plant_xinitx [f, t, v] h = .ok (plF fx tx vs) h := by
  obtain ⟨bb, sc⟩ := p.sv.seqC
  rw [pl_go, mSeq_eq, e_pi1 (an_f p.sf g.nf g.f1 g.f4), RS.seq_nx, mSeq_eq, e_pi2 (an_t p.st g.nt g.t4), RS.seq_nx, mSeq_eq, e_pi3 (av_v p.sv g.nv g.v1 g.v6), RS.seq_nx]
  have s1 := v_sorted p.sf
  have s2 := v_sorted p.st
  have s3 := p.sv.tupC
  have e6 : ∀ fs, mComp false [4] (gtN 4) mYes (m2 fIx (mVar 4) (mC (.int 0))) (mVar 3) (envI fs f t v) h = .ok (.d (.lst ((vs.map (·.1)).map D.str))) h := fun fs => by
    unfold mComp
    rw [show mVar 3 (envI fs f t v) h = .ok (.d v) h from rfl, R.bind_ok, sc]
    show compL false (gtN 4) mYes (m2 fIx (mVar 4) (mC (.int 0))) (vs.map vD) [] (wipeE (envI fs f t v) [4]) h = _
    rw [comp_all false 4 (m2 fIx (mVar 4) (mC (.int 0))) (fun x => match x with
      | .tup (y :: _) => y
      | y => y) _ h (vs.map vD) (fun z hz => by
        obtain ⟨v, hm, rfl⟩ := List.mem_map.mp hz
        rfl) (by rw [List.length_map]; have := g.v6; omega), List.map_map, List.map_map]
    rfl
  have w1 : mSetFld g0 0 "farms" (mA1 fTuple (maCons (mA1 (fSorted g0.kc false) (maCons (mVar 1) maNil)) maNil)) (envI [] f t v) h = .nx (envI [("farms", .tup (srt fx))] f t v) h := by
    have e : (mA1 fTuple (maCons (mA1 (fSorted g0.kc false) (maCons (mVar 1) maNil)) maNil)) (envI [] f t v) h = .ok (.d (.tup (srt fx))) h := by
      show ((((fSorted g0.kc false [.d f] h).bind fun x h1 => R.ok [x] h1)).bind fun xs h2 => fTuple xs h2) = _
      rw [s1]
      rfl
    unfold mSetFld
    rw [e]
    rfl
  have w2 : mSetFld g0 0 "traits" (mA1 fTuple (maCons (mA1 (fSorted g0.kc false) (maCons (mVar 2) maNil)) maNil)) (envI [("farms", .tup (srt fx))] f t v) h = .nx (envI [("farms", .tup (srt fx)), ("traits", .tup (srt tx))] f t v) h := by
    have e : (mA1 fTuple (maCons (mA1 (fSorted g0.kc false) (maCons (mVar 2) maNil)) maNil)) (envI [("farms", .tup (srt fx))] f t v) h = .ok (.d (.tup (srt tx))) h := by
      show ((((fSorted g0.kc false [.d t] h).bind fun x h1 => R.ok [x] h1)).bind fun xs h2 => fTuple xs h2) = _
      rw [s2]
      rfl
    unfold mSetFld
    rw [e]
    rfl
  have w3 : mSetFld g0 0 "vessels" (mA1 fTuple (maCons (mVar 3) maNil)) (envI [("farms", .tup (srt fx)), ("traits", .tup (srt tx))] f t v) h = .nx (envI [("farms", .tup (srt fx)), ("traits", .tup (srt tx)), ("vessels", .tup (vs.map vD))] f t v) h := by
    have e : (mA1 fTuple (maCons (mVar 3) maNil)) (envI [("farms", .tup (srt fx)), ("traits", .tup (srt tx))] f t v) h = .ok (.d (.tup (vs.map vD))) h := s3
    unfold mSetFld
    rw [e]
    rfl
  have w4 : mSetFld g0 0 "vessel_names" (mA1 fTuple (maCons (mComp false [4] (gtN 4) mYes (m2 fIx (mVar 4) (mC (.int 0))) (mVar 3)) maNil)) (envI [("farms", .tup (srt fx)), ("traits", .tup (srt tx)), ("vessels", .tup (vs.map vD))] f t v) h = .nx (envI (plF fx tx vs) f t v) h := by
    have e : (mA1 fTuple (maCons (mComp false [4] (gtN 4) mYes (m2 fIx (mVar 4) (mC (.int 0))) (mVar 3)) maNil)) (envI [("farms", .tup (srt fx)), ("traits", .tup (srt tx)), ("vessels", .tup (vs.map vD))] f t v) h = .ok (.d (.tup ((vs.map (·.1)).map D.str))) h := by
      have e6 := e6 [("farms", .tup (srt fx)), ("traits", .tup (srt tx)), ("vessels", .tup (vs.map vD))]
      unfold mA1 maCons
      rw [e6]
      rfl
    unfold mSetFld
    rw [e]
    rfl
  unfold pi4
  rw [mSeq_eq, w1, RS.seq_nx, mSeq_eq, w2, RS.seq_nx, mSeq_eq, w3, RS.seq_nx, w4]
  rfl
end
end G02

set_option Elab.async false
set_option linter.all false
set_option maxRecDepth 100000
set_option maxHeartbeats 4000000
set_option exponentiation.threshold 2000
namespace G02
open PySem L2 Vi
section
variable {h : Hc} {fx tx : List PySem.Str} {vs : List Ve} {x : PySem.Str}
abbrev nms (vs : List Ve) : List PySem.Str := vs.map (·.1)
theorem eq_txt (neg : Bool) (a b : PySem.Str) (h : Hc) : fEq neg (.d (.str a)) (.d (.str b)) h = .ok (.d (.bl (if neg then !decide (a = b) else decide (a = b)))) h := rfl
/-! ### plant[x] -/
def giB : MS := mIfS (asB (m2 (fEq false) (mVar 2) (mVar 1))) (mRet (mA1 fTup (maCons (mVar 3) (maCons (mVar 4) maNil)))) mSkip
abbrev giT : TgF := gtT 3 (gtCons (gtN 2) (gtCons (gtN 3) (gtCons (gtN 4) gtNil)))
abbrev envX (p : D) (x : PySem.Str) (a b c : Option Sl) : Vi.Env := [some (.d p), some (.d (.str x)), a, b, c]
theorem gi_turn (p : D) (v : Ve) (r : List D) (a b c : Option Sl) : forL giT giB (vD v :: r) (envX p x a b c) h = if v.1 = x then .ret (.tup [.int v.2.1, .int v.2.2]) h else forL giT giB r (envX p x (some (.d (.str v.1))) (some (.d (.int v.2.1))) (some (.d (.int v.2.2)))) h := by
  have e1 := eq_txt false v.1 x h
  rw [forL_cons]
  have et : giT (vD v) (envX p x a b c) = some (envX p x (some (.d (.str v.1))) (some (.d (.int v.2.1))) (some (.d (.int v.2.2)))) := rfl
  rw [et]
  dsimp only
  by_cases hv : v.1 = x
  · rw [if_pos hv]
    rw [decide_eq_true hv] at e1
    have e2 : giB (envX p x (some (.d (.str v.1))) (some (.d (.int v.2.1))) (some (.d (.int v.2.2)))) h = .ret (.tup [.int v.2.1, .int v.2.2]) h := by
      unfold giB
      simp [e1]
    rw [e2]
    rfl
  · rw [if_neg hv]
    rw [decide_eq_false hv] at e1
    have e2 : giB (envX p x (some (.d (.str v.1))) (some (.d (.int v.2.1))) (some (.d (.int v.2.2)))) h = .nx (envX p x (some (.d (.str v.1))) (some (.d (.int v.2.1))) (some (.d (.int v.2.2)))) h := by
      unfold giB
      simp [e1]
    rw [e2]
    rfl
theorem gi_in (p : D) {v : Ve} : ∀ (ws : List Ve) (a b c : Option Sl), v ∈ ws → (nms ws).Nodup → v.1 = x → forL giT giB (ws.map vD) (envX p x a b c) h = .ret (.tup [.int v.2.1, .int v.2.2]) h
  | w :: r, a, b, c, hv, hn, hx => by
    rw [List.map_cons, gi_turn]
    obtain ⟨n1, n2⟩ := List.nodup_cons.mp (show (w.1 :: nms r).Nodup from hn)
    rcases List.mem_cons.mp hv with rfl | hv
    · rw [if_pos hx]
    · rw [if_neg (fun e => n1 (by rw [e, ← hx]; exact List.mem_map.mpr ⟨v, hv, rfl⟩))]
      exact gi_in p r _ _ _ hv n2 hx
theorem gi_out (p : D) : ∀ (ws : List Ve) (a b c : Option Sl), x ∉ nms ws → ∃ a' b' c', forL giT giB (ws.map vD) (envX p x a b c) h = .nx (envX p x a' b' c') h
  | [], a, b, c, _ => ⟨a, b, c, rfl⟩
  | w :: r, a, b, c, hx => by
    rw [List.map_cons, gi_turn, if_neg (fun e => hx (by rw [← e]; exact List.mem_cons_self ..))]
    exact gi_out p r _ _ _ fun z => hx (List.mem_cons_of_mem _ z)
abbrev noT (x : PySem.Str) : D := .obj 3 (mkE "name" "class_name" "NoThing" [.str x])
theorem gi_go : F_Plant_xgetitemx [plant fx tx vs, .str x] h = ((forL giT giB (vs.map vD) (envX (plant fx tx vs) x none none none) h).seq (mRaise 3 1 (mkE "name" "class_name" "NoThing") (maCons (mVar 1) maNil))).fin := by
  refine (fnOf_eq 5 2 m_Plant_xgetitemx _ h rfl).trans ?_
  unfold m_Plant_xgetitemx
  rw [mSeq_eq]
  rfl
theorem v_get_in {v : Ve} (hv : v ∈ vs) (hn : (nms vs).Nodup) : F_Plant_xgetitemx [plant fx tx vs, .str v.1] h = .ok (.tup [.int v.2.1, .int v.2.2]) h := by
  rw [gi_go, gi_in (v := v) _ vs none none none hv hn rfl]
  rfl
theorem v_get_out (hx : x ∉ nms vs) : F_Plant_xgetitemx [plant fx tx vs, .str x] h = .exc (noT x) h := by
  obtain ⟨a, b, c, e⟩ := gi_out (h := h) (plant fx tx vs) vs none none none hx
  rw [gi_go, e, RS.seq_nx]
  rfl
theorem v_has : F_Plant_xcontainsx [plant fx tx vs, .str x] h = .ok (.bl (decide (x ∈ nms vs))) h := by
  refine (fnOf_eq 2 2 m_Plant_xcontainsx _ h rfl).trans ?_
  have e := in_txt x false h (.d (.tup ((nms vs).map D.str))) (nms vs) rfl (fun z e => by cases e)
  unfold m_Plant_xcontainsx
  have e2 : m2 (fIn false) (mVar 1) (m1 (fFld g0 "vessel_names") (mVar 0)) (mkEnv 2 [plant fx tx vs, .str x]) h = .ok (.d (.bl (decide (x ∈ nms vs)))) h := e
  unfold mRet
  rw [e2]
  rfl
theorem v_plen : F_Plant_xlenx [plant fx tx vs] h = .ok (.int vs.length) h := by
  have e : F_Plant_xlenx [plant fx tx vs] h = .ok (.int ((nms vs).map D.str).length) h := rfl
  rw [e, List.length_map, List.length_map]
/-! ### the pair told -/
theorem v_pair_in {v : Ve} (hv : v ∈ vs) (hn : (nms vs).Nodup) : F__law_p3_pair [plant fx tx vs, .str v.1] h = .ok (.lst [.tup [.int v.2.1, .int v.2.2]]) h := by
  refine (fnOf_eq 3 2 m__law_p3_pair _ h rfl).trans ?_
  have e := v_get_in (fx := fx) (tx := tx) (h := h) hv hn
  have e2 : mRet (mA1 (fLst false) (maCons (m2 (fIxs T_getitem fIx) (mVar 0) (mVar 1)) maNil)) (mkEnv 3 [plant fx tx vs, .str v.1]) h = .ret (.lst [.tup [.int v.2.1, .int v.2.2]]) h := by
    show ((((((F_Plant_xgetitemx [plant fx tx vs, .str v.1] h).bind fun d h' => R.ok (Vl.d d) h').bind fun x h1 => R.ok [x] h1)).bind fun xs h2 => fLst false xs h2)).thenS _ _ = _
    rw [e]
    rfl
  unfold m__law_p3_pair mTry
  rw [e2]
  rfl
theorem v_pair_out (hx : x ∉ nms vs) : F__law_p3_pair [plant fx tx vs, .str x] h = .ok (.lst [.str "none", .str x]) h := by
  refine (fnOf_eq 3 2 m__law_p3_pair _ h rfl).trans ?_
  have e := v_get_out (fx := fx) (tx := tx) (h := h) hx
  have e2 : mRet (mA1 (fLst false) (maCons (m2 (fIxs T_getitem fIx) (mVar 0) (mVar 1)) maNil)) (mkEnv 3 [plant fx tx vs, .str x]) h = .exc (mkEnv 3 [plant fx tx vs, .str x]) (noT x) h := by
    show ((((((F_Plant_xgetitemx [plant fx tx vs, .str x] h).bind fun d h' => R.ok (Vl.d d) h').bind fun x h1 => R.ok [x] h1)).bind fun xs h2 => fLst false xs h2)).thenS _ _ = _
    rw [e]
    rfl
  unfold m__law_p3_pair mTry
  rw [e2]
  rfl
end
end G02

set_option Elab.async false
set_option linter.all false
set_option maxRecDepth 100000
set_option maxHeartbeats 4000000
set_option exponentiation.threshold 2000
namespace G02
open PySem L2 Vi
/-! ### what may be shown -/
abbrev Bt (k : Nat) (i : Int) : Prop := i.natAbs < 2 ^ k
structure Okd (d : PyData) (w k : Nat) : Prop where
  s : d.showable = true
  l : d.leavesShort 902 = true
  w : d.weight ≤ w
  k : d.depth ≤ k
theorem Okd.int {i : Int} (h : Bt 900 i) : Okd (.int i) 900 0 := by
  have h1 := log2_lt h (by omega)
  refine ⟨?_, ?_, ?_, by simp [PyData.depth]⟩
  · simp only [PyData.showable]
    exact decide_eq_true (by omega)
  · simp only [PyData.leavesShort, PyData.shown]
    have := int_text_length_le (k := 900) (by omega) h1
    refine decide_eq_true ?_
    show (Str.ofString (toString i)).length ≤ 902
    rw [PySem.ofString_length]
    omega
  · simp only [PyData.weight]
    split <;> omega
theorem Okd.bool (b : Bool) : Okd (.bool b) 0 0 := ⟨rfl, rfl, by simp [PyData.weight], by simp [PyData.depth]⟩
theorem Okd.str {x : PySem.Str} {n : Nat} (h1 : x.cps.size ≤ n) (h2 : ∀ c ∈ x.cps.toList, c < 16 ^ 8) : Okd (.str x) n 0 := by
  refine ⟨rfl, ?_, by simpa [PyData.weight] using h1, by simp [PyData.depth]⟩
  simp only [PyData.leavesShort]
  exact List.all_eq_true.mpr fun c hc => decide_eq_true (h2 c hc)
structure Okds (ds : List PyData) (w k : Nat) : Prop where
  s : PyData.showableAll ds = true
  l : PyData.leavesShortAll 902 ds = true
  w : PyData.weightAll ds ≤ w
  k : PyData.depthAll ds ≤ k
theorem Okds.nil {k : Nat} : Okds [] 0 k := ⟨rfl, rfl, by simp [PyData.weightAll], by simp [PyData.depthAll]⟩
theorem Okds.cons {d : PyData} {ds : List PyData} {v w j k : Nat} (a : Okd d v j) (b : Okds ds w k) (hj : j ≤ k) : Okds (d :: ds) (v + 1 + w) k := by
  refine ⟨?_, ?_, ?_, ?_⟩
  · simp [PyData.showableAll, a.s, b.s]
  · simp [PyData.leavesShortAll, a.l, b.l]
  · have := a.w
    have := b.w
    simp only [PyData.weightAll]
    omega
  · have := a.k
    have := b.k
    simp only [PyData.depthAll]
    omega
theorem Okds.tup {ds : List PyData} {w k : Nat} (b : Okds ds w k) : Okd (.tuple ds) w (k + 1) := ⟨by simpa [PyData.showable] using b.s, by simpa [PyData.leavesShort] using b.l, by simpa [PyData.weight] using b.w, by simpa [PyData.depth] using b.k⟩
theorem Okds.lst {ds : List PyData} {w k : Nat} (b : Okds ds w k) : Okd (.list ds) w (k + 1) := ⟨by simpa [PyData.showable] using b.s, by simpa [PyData.leavesShort] using b.l, by simpa [PyData.weight] using b.w, by simpa [PyData.depth] using b.k⟩
theorem Okd.shw {d : PyData} {w k : Nat} (o : Okd d w k) (hw : w ≤ 18000) (hk : k ≤ 60) : shwB d = true := by
  have e := PyData.shown_le 902 (by omega) d o.l
  have : d.shown.length ≤ sizeLine := by
    rw [sizeLine_eq]
    have : (902 + 2) * d.weight ≤ 904 * 18000 := Nat.mul_le_mul_left _ (Nat.le_trans o.w hw)
    omega
  unfold shwB
  rw [o.s, decide_eq_true (Nat.le_trans o.k hk), decide_eq_true this]
  rfl
theorem Okds.all {α : Type} (f : α → D) {w k : Nat} : ∀ xs : List α, (∀ x ∈ xs, Okd (toP (f x)) w k) → Okds (toPs (xs.map f)) ((w + 1) * xs.length) k
  | [], _ => ⟨rfl, rfl, by simp [toPs, PyData.weightAll], by simp [toPs, PyData.depthAll]⟩
  | x :: r, h => by
    have z := Okds.cons (h x (List.mem_cons_self ..)) (Okds.all f r fun y hy => h y (List.mem_cons_of_mem _ hy)) (Nat.le_refl k)
    rw [List.length_cons, Nat.mul_succ, Nat.add_comm]
    exact z
theorem dats_all {α : Type} (f : α → D) : ∀ xs : List α, (∀ x ∈ xs, dat (f x) = true) → dats (xs.map f) = true
  | [], _ => rfl
  | x :: r, h => by
    show (dat (f x) && dats (r.map f)) = true
    rw [h x (List.mem_cons_self ..), dats_all f r fun y hy => h y (List.mem_cons_of_mem _ hy)]
    rfl
theorem sgn_small : ∀ c ∈ sgnL, c < 16 ^ 8 := by decide +kernel
theorem okd_name {x : PySem.Str} (n : NameOk x) : Okd (toP (.str x)) 10 0 := Okd.str (Nat.le_trans n.n8 (by omega)) fun c hc => sgn_small c (n.all c hc)
theorem okd_ve {v : Ve} (n : VeOk v) : Okd (toP (vD v)) 2000 1 := by
  have b1 : Bt 900 v.2.1 := Nat.lt_of_lt_of_le (show v.2.1.natAbs < 2 ^ 20 by have := n.s1; have := n.s2; omega) (Nat.pow_le_pow_right (by omega) (by omega))
  have b2 : Bt 900 v.2.2 := Nat.lt_of_lt_of_le (show v.2.2.natAbs < 2 ^ 20 by have := n.s1; have := n.s2; have := n.k1; have := n.k2; omega) (Nat.pow_le_pow_right (by omega) (by omega))
  have o := (Okds.cons (okd_name n.name) (Okds.cons (Okd.int b1) (Okds.cons (Okd.int b2) (Okds.nil (k := 0)) (by omega)) (by omega)) (by omega)).tup
  exact ⟨o.s, o.l, Nat.le_trans o.w (by omega), o.k⟩
theorem srt_mem {xs : List PySem.Str} {d : D} (h : d ∈ srt xs) : ∃ x ∈ xs, d = .str x := by
  obtain ⟨k, hk, rfl⟩ := List.mem_map.mp h
  have hk := (sortL_perm (lt := kLt) (xs.map Sum.inr)).mem_iff.mp hk
  obtain ⟨x, hx, rfl⟩ := List.mem_map.mp hk
  exact ⟨x, hx, rfl⟩
theorem srt_len (xs : List PySem.Str) : (srt xs).length = xs.length := by
  unfold srt
  rw [List.length_map, (sortL_perm (lt := kLt) (xs.map Sum.inr)).length_eq, List.length_map]
theorem okds_srt {xs : List PySem.Str} (n : ∀ x ∈ xs, NameOk x) : Okds (toPs (srt xs)) (11 * xs.length) 0 := by
  have z := Okds.all (fun d : D => d) (srt xs) (w := 10) (k := 0) fun d hd => by
    obtain ⟨x, hx, rfl⟩ := srt_mem hd
    exact okd_name (n x hx)
  rw [List.map_id', srt_len] at z
  exact z
theorem repr_of {t : D} (h1 : dat t = true) (h2 : shwB (toP t) = true) (h : Hc) : fRepr [.d t] h = .ok (.d (.str (toP t).shown)) h := by
  have e : fRepr [.d t] h = (match (if dat t then some t else none) with
    | some d => if shwB (toP d) then R.ok (Vl.d (.str (toP d).shown)) h else .stuck
    | none => .stuck) := rfl
  rw [e, h1, if_pos rfl]
  dsimp only
  rw [if_pos h2]
theorem nes_txt (a : PySem.Str) (h : Hc) : fNes g0 T_eq nfB (fEq true) (.d (.str a)) (.d (.str a)) h = .ok (.d (.bl false)) h := by
  show fEq true (.d (.str a)) (.d (.str a)) h = _
  rw [eq_txt, decide_eq_true rfl]
  rfl
end G02

set_option Elab.async false
set_option linter.all false
set_option maxRecDepth 100000
set_option maxHeartbeats 4000000
set_option exponentiation.threshold 2000
namespace G02
open PySem L2 Vi
section
variable {h : Hc} {fx tx : List PySem.Str} {vs : List Ve}
abbrev L3 (fx : List PySem.Str) : D := .lst (fx.map D.str)
abbrev V3 (vs : List Ve) : D := .lst (vs.map vD)
abbrev told (fx tx : List PySem.Str) (vs : List Ve) : D := .lst [.tup (srt fx), .tup (srt tx), .tup (vs.map vD), .int vs.length, .lst ((nms vs).map D.str), .lst ((nms vs).map D.str)]
theorem repr_told (g : Good3 fx tx vs) (h : Hc) : fRepr [.d (told fx tx vs)] h = .ok (.d (.str (toP (told fx tx vs)).shown)) h := by
  have nn : ∀ x ∈ nms vs, NameOk x := fun x hx => by
    obtain ⟨v, hv, rfl⟩ := List.mem_map.mp hx
    exact (g.nv.ok v hv).name
  have ln : (nms vs).length = vs.length := List.length_map ..
  have o1 := (okds_srt g.nf.ok).tup
  have o2 := (okds_srt g.nt.ok).tup
  have o3 := (Okds.all vD vs (w := 2000) (k := 1) fun v hv => okd_ve (g.nv.ok v hv)).tup
  have o4 : Okd (toP (.int (vs.length : Int))) 900 0 := Okd.int (Nat.lt_of_lt_of_le (show (vs.length : Int).natAbs < 2 ^ 20 by have := g.v6; omega) (Nat.pow_le_pow_right (by omega) (by omega)))
  have o5 := (Okds.all D.str (nms vs) (w := 10) (k := 0) fun x hx => okd_name (nn x hx)).lst
  have f1 := g.f4
  have f2 := g.t4
  have f3 := g.v6
  have oo := (Okds.cons (k := 2) o1 (Okds.cons (k := 2) o2 (Okds.cons (k := 2) o3 (Okds.cons (k := 2) o4 (Okds.cons (k := 2) o5 (Okds.cons (k := 2) o5 (Okds.nil (k := 2)) (by omega)) (by omega)) (by omega)) (by omega)) (by omega)) (by omega)).lst
  have hw : 11 * fx.length + 1 + (11 * tx.length + 1 + ((2000 + 1) * vs.length + 1 + (900 + 1 + ((10 + 1) * (nms vs).length + 1 + ((10 + 1) * (nms vs).length + 1 + 0))))) ≤ 18000 := by omega
  have hd : dat (told fx tx vs) = true := by
    have d1 : ∀ xs : List PySem.Str, dats (srt xs) = true := fun xs => by
      have z := dats_all (fun d : D => d) (srt xs) fun d hd => by
        obtain ⟨x, _, rfl⟩ := srt_mem hd
        rfl
      rwa [List.map_id'] at z
    have d2 : dats (vs.map vD) = true := dats_all _ _ fun _ _ => rfl
    have d3 : dats ((nms vs).map D.str) = true := dats_all _ _ fun _ _ => rfl
    show (dats (srt fx) && (dats (srt tx) && (dats (vs.map vD) && (true && (dats ((nms vs).map D.str) && (dats ((nms vs).map D.str) && true)))))) = true
    rw [d1, d1, d2, d3]
    rfl
  exact repr_of hd (oo.shw hw (by omega)) h
/-- what a loop of fits asks: the pair is as it is due -/
theorem repr_in {v : Ve} (n : VeOk v) (h : Hc) : fRepr [.d (.lst [.bl true, .lst [.tup [.int v.2.1, .int v.2.2]]])] h = .ok (.d (.str (toP (.lst [.bl true, .lst [.tup [.int v.2.1, .int v.2.2]]])).shown)) h := by
  have b1 : Bt 900 v.2.1 := Nat.lt_of_lt_of_le (show v.2.1.natAbs < 2 ^ 20 by have := n.s1; have := n.s2; omega) (Nat.pow_le_pow_right (by omega) (by omega))
  have b2 : Bt 900 v.2.2 := Nat.lt_of_lt_of_le (show v.2.2.natAbs < 2 ^ 20 by have := n.s1; have := n.s2; have := n.k1; have := n.k2; omega) (Nat.pow_le_pow_right (by omega) (by omega))
  have o := (Okds.cons (k := 0) (Okd.int b1) (Okds.cons (Okd.int b2) (Okds.nil (k := 0)) (by omega)) (by omega)).tup
  have o2 := (Okds.cons (k := 2) (Okd.bool true) (Okds.cons (k := 2) (Okds.cons (k := 1) o (Okds.nil (k := 1)) (by omega)).lst (Okds.nil (k := 2)) (by omega)) (by omega)).lst
  exact repr_of (t := .lst [.bl true, .lst [.tup [.int v.2.1, .int v.2.2]]]) rfl (o2.shw (by omega) (by omega)) h
theorem repr_out {x : PySem.Str} (o1 : Okd (toP (.str x)) 10 0) (h : Hc) : fRepr [.d (.lst [.bl false, .lst [.str "none", .str x]])] h = .ok (.d (.str (toP (.lst [.bl false, .lst [.str "none", .str x]])).shown)) h := by
  have o0 : Okd (toP (.str "none")) 10 0 := Okd.str (by decide) (by decide +kernel)
  have o2 := (Okds.cons (k := 1) (Okd.bool false) (Okds.cons (k := 1) (Okds.cons (k := 0) o0 (Okds.cons o1 (Okds.nil (k := 0)) (by omega)) (by omega)).lst (Okds.nil (k := 1)) (by omega)) (by omega)).lst
  exact repr_of (t := .lst [.bl false, .lst [.str "none", .str x]]) rfl (o2.shw (by omega) (by omega)) h
theorem mA1_eq (F : List Vl → Hc → R Vl) (m : MA) (env : Vi.Env) (h : Hc) : mA1 F m env h = (m env h).bind fun xs h1 => F xs h1 := rfl
theorem maCons_eq (a : ME) (b : MA) (env : Vi.Env) (h : Hc) : maCons a b env h = (a env h).bind fun x h1 => (b env h1).bind fun xs h2 => .ok (x :: xs) h2 := rfl
theorem m2_eq (F : Vl → Vl → Hc → R Vl) (a b : ME) (env : Vi.Env) (h : Hc) : m2 F a b env h = (a env h).bind fun x h1 => (b env h1).bind fun y h2 => F x y h2 := rfl
theorem asB_eq (m : ME) (env : Vi.Env) (h : Hc) (b : Bool) (h' : Hc) (e : m env h = .ok (.d (.bl b)) h') : asB m env h = .ok b h' := by
  unfold asB
  rw [e]
  rfl
/-- two lists, each known, are told alike -/
theorem nes_same {a b : ME} {env : Vi.Env} {h : Hc} {d : D} (e1 : a env h = .ok (.d d) h) (e2 : b env h = .ok (.d d) h) (er : fRepr [.d d] h = .ok (.d (.str (toP d).shown)) h) : asB (m2 (fNes g0 T_eq nfB (fEq true)) (mA1 fRepr (maCons a maNil)) (mA1 fRepr (maCons b maNil))) env h = .ok false h := by
  have w1 : mA1 fRepr (maCons a maNil) env h = .ok (.d (.str (toP d).shown)) h := by
    rw [mA1_eq, maCons_eq, e1, R.bind_ok]
    show fRepr [.d d] h = _
    rw [er]
  have w2 : mA1 fRepr (maCons b maNil) env h = .ok (.d (.str (toP d).shown)) h := by
    rw [mA1_eq, maCons_eq, e2, R.bind_ok]
    show fRepr [.d d] h = _
    rw [er]
  refine asB_eq _ _ _ false h ?_
  rw [m2_eq, w1, R.bind_ok, w2, R.bind_ok, nes_txt]
abbrev envF (fx tx : List PySem.Str) (vs : List Ve) (fd td : D) (a b c d e : Option Sl) : Vi.Env := [some (.d (plant fx tx vs)), some (.d fd), some (.d td), some (.d (V3 vs)), a, b, c, d, e]
def f1B : MS := mIfS (asB (m2 (fNes g0 T_eq nfB (fEq true)) (mA1 fRepr (maCons (mA1 (fLst false) (maCons (m2 (fIns false T_contains (fIn false)) (m2 (fIxs T_getitem fIx) (mVar 7) (mC (.int 0))) (mVar 0)) (maCons (mA1 (fCallN 2 F__law_p3_pair []) (maCons (mVar 0) (maCons (m2 (fIxs T_getitem fIx) (mVar 7) (mC (.int 0))) maNil))) maNil))) maNil)) (mA1 fRepr (maCons (mA1 (fLst false) (maCons (mC (.bl true)) (maCons (mA1 (fLst false) (maCons (mA1 fTup (maCons (m2 (fIxs T_getitem fIx) (mVar 7) (mC (.int 1))) (maCons (m2 (fIxs T_getitem fIx) (mVar 7) (mC (.int 2))) maNil))) maNil)) maNil))) maNil)))) (mRet (mC (.bl false))) mSkip
def f2B : MS := mIfS (tAndM (asB (m2 (fIns true T_contains (fIn true)) (mVar 8) (mVar 4))) (asB (m2 (fNes g0 T_eq nfB (fEq true)) (mA1 fRepr (maCons (mA1 (fLst false) (maCons (m2 (fIns false T_contains (fIn false)) (mVar 8) (mVar 0)) (maCons (mA1 (fCallN 2 F__law_p3_pair []) (maCons (mVar 0) (maCons (mVar 8) maNil))) maNil))) maNil)) (mA1 fRepr (maCons (mA1 (fLst false) (maCons (mC (.bl false)) (maCons (mA1 (fLst false) (maCons (mC (.str "none")) (maCons (mVar 8) maNil))) maNil))) maNil))))) (mRet (mC (.bl false))) mSkip
variable {fd td : D} {a b c d e : Option Sl}
theorem f1_turn {v : Ve} (hv : v ∈ vs) (hn : (nms vs).Nodup) (n : VeOk v) : f1B (envF fx tx vs fd td a b c (some (.d (vD v))) e) h = .nx (envF fx tx vs fd td a b c (some (.d (vD v))) e) h := by
  have e1 := v_has (h := h) (fx := fx) (tx := tx) (vs := vs) (x := v.1)
  rw [decide_eq_true (show v.1 ∈ nms vs from List.mem_map.mpr ⟨v, hv, rfl⟩)] at e1
  have e2 := v_pair_in (h := h) (fx := fx) (tx := tx) hv hn
  have e3 := repr_in n h
  have l1 : mA1 (fLst false) (maCons (m2 (fIns false T_contains (fIn false)) (m2 (fIxs T_getitem fIx) (mVar 7) (mC (.int 0))) (mVar 0)) (maCons (mA1 (fCallN 2 F__law_p3_pair []) (maCons (mVar 0) (maCons (m2 (fIxs T_getitem fIx) (mVar 7) (mC (.int 0))) maNil))) maNil)) (envF fx tx vs fd td a b c (some (.d (vD v))) e) h = .ok (.d (.lst [.bl true, .lst [.tup [.int v.2.1, .int v.2.2]]])) h := by
    have m1 : m2 (fIns false T_contains (fIn false)) (m2 (fIxs T_getitem fIx) (mVar 7) (mC (.int 0))) (mVar 0) (envF fx tx vs fd td a b c (some (.d (vD v))) e) h = .ok (.d (.bl true)) h := by
      show ((F_Plant_xcontainsx [plant fx tx vs, .str v.1] h).bind fun d h' => match d with
        | .bl b => R.ok (Vl.d (nB false b)) h'
        | _ => .stuck) = _
      rw [e1]
      rfl
    have m3 : mA1 (fCallN 2 F__law_p3_pair []) (maCons (mVar 0) (maCons (m2 (fIxs T_getitem fIx) (mVar 7) (mC (.int 0))) maNil)) (envF fx tx vs fd td a b c (some (.d (vD v))) e) h = .ok (.d (.lst [.tup [.int v.2.1, .int v.2.2]])) h := by
      show ((F__law_p3_pair [plant fx tx vs, .str v.1] h).bind fun d h' => R.ok (Vl.d d) h') = _
      rw [e2]
      rfl
    rw [mA1_eq, maCons_eq, m1, R.bind_ok, maCons_eq, m3]
    rfl
  unfold f1B
  rw [mIfS_eq, nes_same l1 rfl e3]
  rfl
theorem f2_turn {x : PySem.Str} (o : Okd (toP (.str x)) 10 0) : f2B (envF fx tx vs fd td (some (.d (.lst ((nms vs).map D.str)))) b c d (some (.d (.str x)))) h = .nx (envF fx tx vs fd td (some (.d (.lst ((nms vs).map D.str)))) b c d (some (.d (.str x)))) h := by
  have e1 := v_has (h := h) (fx := fx) (tx := tx) (vs := vs) (x := x)
  have e0 : asB (m2 (fIns true T_contains (fIn true)) (mVar 8) (mVar 4)) (envF fx tx vs fd td (some (.d (.lst ((nms vs).map D.str)))) b c d (some (.d (.str x)))) h = .ok (!decide (x ∈ nms vs)) h := by
    refine asB_eq _ _ _ _ h ?_
    exact in_txt x true h (.d (.lst ((nms vs).map D.str))) (nms vs) rfl (fun z e => by cases e)
  unfold f2B
  by_cases hx : x ∈ nms vs
  · rw [decide_eq_true hx] at e0
    rw [mIfS_eq, tAndM_eq, e0]
    rfl
  · rw [decide_eq_false hx] at e0 e1
    have e2 := v_pair_out (h := h) (fx := fx) (tx := tx) hx
    have e3 := repr_out o h
    have l1 : mA1 (fLst false) (maCons (m2 (fIns false T_contains (fIn false)) (mVar 8) (mVar 0)) (maCons (mA1 (fCallN 2 F__law_p3_pair []) (maCons (mVar 0) (maCons (mVar 8) maNil))) maNil)) (envF fx tx vs fd td (some (.d (.lst ((nms vs).map D.str)))) b c d (some (.d (.str x)))) h = .ok (.d (.lst [.bl false, .lst [.str "none", .str x]])) h := by
      have m1 : m2 (fIns false T_contains (fIn false)) (mVar 8) (mVar 0) (envF fx tx vs fd td (some (.d (.lst ((nms vs).map D.str)))) b c d (some (.d (.str x)))) h = .ok (.d (.bl false)) h := by
        show ((F_Plant_xcontainsx [plant fx tx vs, .str x] h).bind fun d h' => match d with
          | .bl b => R.ok (Vl.d (nB false b)) h'
          | _ => .stuck) = _
        rw [e1]
        rfl
      have m3 : mA1 (fCallN 2 F__law_p3_pair []) (maCons (mVar 0) (maCons (mVar 8) maNil)) (envF fx tx vs fd td (some (.d (.lst ((nms vs).map D.str)))) b c d (some (.d (.str x)))) h = .ok (.d (.lst [.str "none", .str x])) h := by
        show ((F__law_p3_pair [plant fx tx vs, .str x] h).bind fun d h' => R.ok (Vl.d d) h') = _
        rw [e2]
        rfl
      rw [mA1_eq, maCons_eq, m1, R.bind_ok, maCons_eq, m3]
      rfl
    rw [mIfS_eq, tAndM_eq, e0, R.bind_ok]
    show (asB _ _ _).thenS _ _ = _
    rw [nes_same l1 rfl e3]
    rfl
/-- the loops -/
theorem f1_loop (hn : (nms vs).Nodup) (ok : ∀ v ∈ vs, VeOk v) : ∀ (ws : List Ve) (d : Option Sl), (∀ v ∈ ws, v ∈ vs) → ∃ d', forL (gtN 7) f1B (ws.map vD) (envF fx tx vs fd td a b c d e) h = .nx (envF fx tx vs fd td a b c d' e) h
  | [], d, _ => ⟨d, rfl⟩
  | w :: r, d, hw => by
    obtain ⟨d', e1⟩ := f1_loop hn ok r (some (.d (vD w))) fun v hv => hw v (List.mem_cons_of_mem _ hv)
    refine ⟨d', ?_⟩
    rw [List.map_cons, forL_cons]
    show (f1B (envF fx tx vs fd td a b c (some (.d (vD w))) e) h).again _ = _
    rw [f1_turn (hw w (List.mem_cons_self ..)) hn (ok w (hw w (List.mem_cons_self ..))), RS.again_nx, e1]
theorem f2_loop : ∀ (ws : List PySem.Str) (e : Option Sl), (∀ x ∈ ws, Okd (toP (.str x)) 10 0) → ∃ e', forL (gtN 8) f2B (ws.map D.str) (envF fx tx vs fd td (some (.d (.lst ((nms vs).map D.str)))) b c d e) h = .nx (envF fx tx vs fd td (some (.d (.lst ((nms vs).map D.str)))) b c d e') h
  | [], e, _ => ⟨e, rfl⟩
  | w :: r, e, hw => by
    obtain ⟨e', e1⟩ := f2_loop r (some (.d (.str w))) fun v hv => hw v (List.mem_cons_of_mem _ hv)
    refine ⟨e', ?_⟩
    rw [List.map_cons, forL_cons]
    show (f2B (envF fx tx vs fd td (some (.d (.lst ((nms vs).map D.str)))) b c d (some (.d (.str w)))) h).again _ = _
    rw [f2_turn (hw w (List.mem_cons_self ..)), RS.again_nx, e1]
end
end G02

set_option Elab.async false
set_option linter.all false
set_option maxRecDepth 100000
set_option maxHeartbeats 4000000
set_option exponentiation.threshold 2000
namespace G02
open PySem L2 Vi
section
variable {h : Hc} {fx tx : List PySem.Str} {vs : List Ve}
abbrev zzs : List PySem.Str := ["zz9zz9"]
def fs1 : ME := mComp false [7] (gtN 7) mYes (m2 (fIxs T_getitem fIx) (mVar 7) (mC (.int 0))) (mVar 3)
def fs2 : ME := mA1 (fLst false) (maCons (m1 (fFld g0 "farms") (mVar 0)) (maCons (m1 (fFld g0 "traits") (mVar 0)) (maCons (m1 (fFld g0 "vessels") (mVar 0)) (maCons (mA1 (fLens T_len) (maCons (mVar 0) maNil)) (maCons (mA1 (fListO false TI_iter T_len) (maCons (mVar 0) maNil)) (maCons (mCompO false [8] TI_iter (gtN 8) mYes (mVar 8) (mVar 0)) maNil))))))
def fs3 : ME := mA1 (fLst false) (maCons (mA1 fTuple (maCons (mA1 (fSorted g0.kc false) (maCons (mVar 1) maNil)) maNil)) (maCons (mA1 fTuple (maCons (mA1 (fSorted g0.kc false) (maCons (mVar 2) maNil)) maNil)) (maCons (mA1 fTuple (maCons (mVar 3) maNil)) (maCons (mA1 (fLens T_len) (maCons (mVar 4) maNil)) (maCons (mVar 4) (maCons (mVar 4) maNil))))))
def fs4 : MS := mIfS (asB (m2 (fNes g0 T_eq nfB (fEq true)) (mA1 fRepr (maCons (mVar 5) maNil)) (mA1 fRepr (maCons (mVar 6) maNil)))) (mRet (mC (.bl false))) mSkip
def fs5 : MS := mFor (gtN 7) (mVar 3) f1B
def fs6 : MS := mFor (gtN 8) (m2 (fAdd false) (m2 (fAdd false) (mVar 1) (mVar 2)) (mA1 (fLst false) (maCons (mC (.str "zz9zz9")) maNil))) f2B
theorem fits_parts : m__law_p3_fits = mSeq (mSet 4 fs1) (mSeq (mSet 5 fs2) (mSeq (mSet 6 fs3) (mSeq fs4 (mSeq fs5 (mSeq fs6 (mRet (mC (.bl true)))))))) := rfl
theorem e_fs1 (hl : vs.length < 1000) : fs1 (envF fx tx vs (L3 fx) (L3 tx) none none none none none) h = .ok (.d (.lst ((nms vs).map D.str))) h := by
  show compL false (gtN 7) mYes (m2 (fIxs T_getitem fIx) (mVar 7) (mC (.int 0))) (vs.map vD) [] (wipeE (envF fx tx vs (L3 fx) (L3 tx) none none none none none) [7]) h = _
  rw [comp_all false 7 (m2 (fIxs T_getitem fIx) (mVar 7) (mC (.int 0))) (fun x => match x with
      | .tup (y :: _) => y
      | y => y) _ h (vs.map vD) (fun z hz => by
        obtain ⟨v, hm, rfl⟩ := List.mem_map.mp hz
        rfl) (by rw [List.length_map]; omega), List.map_map, List.map_map]
  rfl
theorem e_lens (h : Hc) : fLens T_len [.d (plant fx tx vs)] h = .ok (.d (.int vs.length)) h ∨ 2 ^ 62 ≤ (vs.length : Int) := by
  by_cases hb : (vs.length : Int) < 2 ^ 62
  · left
    show ((F_Plant_xlenx [plant fx tx vs] h).bind fun d h' => match d with
      | .int i => if 0 ≤ i ∧ i < 2 ^ 62 then R.ok (Vl.d (.int i)) h' else .stuck
      | _ => .stuck) = _
    rw [v_plen, R.bind_ok]
    dsimp only
    rw [if_pos ⟨by omega, hb⟩]
  · right
    omega
theorem e_fs2 (hl : vs.length < 1000) (s4 : Option Sl) : fs2 (envF fx tx vs (L3 fx) (L3 tx) s4 none none none none) h = .ok (.d (told fx tx vs)) h := by
  have a1 : fLens T_len [.d (plant fx tx vs)] h = .ok (.d (.int vs.length)) h := (e_lens h).resolve_right (by omega)
  have a2 : fListO false TI_iter T_len [.d (plant fx tx vs)] h = .ok (.d (.lst ((nms vs).map D.str))) h := by
    show (match F_Plant_xlenx [plant fx tx vs] h with
      | .ok (.int k) h2 => if 0 ≤ k ∧ k ≤ 100000 ∧ ((nms vs).map D.str).length ≤ 100000 then R.ok (Vl.ofL false ((nms vs).map D.str)) h2 else .stuck
      | _ => .stuck) = _
    rw [v_plen]
    dsimp only
    rw [if_pos ⟨by omega, by omega, by rw [List.length_map, List.length_map]; omega⟩]
    rfl
  have a3 : mCompO false [8] TI_iter (gtN 8) mYes (mVar 8) (mVar 0) (envF fx tx vs (L3 fx) (L3 tx) s4 none none none none) h = .ok (.d (.lst ((nms vs).map D.str))) h := by
    show compL false (gtN 8) mYes (mVar 8) ((nms vs).map D.str) [] (wipeE (envF fx tx vs (L3 fx) (L3 tx) s4 none none none none) [8]) h = _
    rw [comp_all false 8 (mVar 8) (fun x => x) _ h ((nms vs).map D.str) (fun z hz => rfl) (by rw [List.length_map, List.length_map]; omega), List.map_id']
    rfl
  have b1 : mA1 (fLens T_len) (maCons (mVar 0) maNil) (envF fx tx vs (L3 fx) (L3 tx) s4 none none none none) h = .ok (.d (.int vs.length)) h := by
    rw [mA1_eq, maCons_eq, show mVar 0 (envF fx tx vs (L3 fx) (L3 tx) s4 none none none none) h = .ok (.d (plant fx tx vs)) h from rfl, R.bind_ok, show maNil (envF fx tx vs (L3 fx) (L3 tx) s4 none none none none) h = .ok [] h from rfl, R.bind_ok, R.bind_ok, a1]
  have b2 : mA1 (fListO false TI_iter T_len) (maCons (mVar 0) maNil) (envF fx tx vs (L3 fx) (L3 tx) s4 none none none none) h = .ok (.d (.lst ((nms vs).map D.str))) h := by
    rw [mA1_eq, maCons_eq, show mVar 0 (envF fx tx vs (L3 fx) (L3 tx) s4 none none none none) h = .ok (.d (plant fx tx vs)) h from rfl, R.bind_ok, show maNil (envF fx tx vs (L3 fx) (L3 tx) s4 none none none none) h = .ok [] h from rfl, R.bind_ok, R.bind_ok, a2]
  unfold fs2
  rw [mA1_eq, maCons_eq, show m1 (fFld g0 "farms") (mVar 0) (envF fx tx vs (L3 fx) (L3 tx) s4 none none none none) h = .ok (.d (.tup (srt fx))) h from rfl, R.bind_ok, maCons_eq, show m1 (fFld g0 "traits") (mVar 0) (envF fx tx vs (L3 fx) (L3 tx) s4 none none none none) h = .ok (.d (.tup (srt tx))) h from rfl, R.bind_ok, maCons_eq, show m1 (fFld g0 "vessels") (mVar 0) (envF fx tx vs (L3 fx) (L3 tx) s4 none none none none) h = .ok (.d (.tup (vs.map vD))) h from rfl, R.bind_ok, maCons_eq, b1, R.bind_ok, maCons_eq, b2, R.bind_ok, maCons_eq, a3]
  rfl
theorem e_fs3 (hl : vs.length < 1000) (s5 : Option Sl) : fs3 (envF fx tx vs (L3 fx) (L3 tx) (some (.d (.lst ((nms vs).map D.str)))) s5 none none none) h = .ok (.d (told fx tx vs)) h := by
  have s1 := v_sorted (SeqOk.lst h (fx.map D.str))
  have s2 := v_sorted (SeqOk.lst h (tx.map D.str))
  have b1 : mA1 fTuple (maCons (mA1 (fSorted g0.kc false) (maCons (mVar 1) maNil)) maNil) (envF fx tx vs (L3 fx) (L3 tx) (some (.d (.lst ((nms vs).map D.str)))) s5 none none none) h = .ok (.d (.tup (srt fx))) h := by
    show ((((fSorted g0.kc false [.d (L3 fx)] h).bind fun x h1 => R.ok [x] h1)).bind fun xs h2 => fTuple xs h2) = _
    rw [s1]
    rfl
  have b2 : mA1 fTuple (maCons (mA1 (fSorted g0.kc false) (maCons (mVar 2) maNil)) maNil) (envF fx tx vs (L3 fx) (L3 tx) (some (.d (.lst ((nms vs).map D.str)))) s5 none none none) h = .ok (.d (.tup (srt tx))) h := by
    show ((((fSorted g0.kc false [.d (L3 tx)] h).bind fun x h1 => R.ok [x] h1)).bind fun xs h2 => fTuple xs h2) = _
    rw [s2]
    rfl
  have b3 : mA1 (fLens T_len) (maCons (mVar 4) maNil) (envF fx tx vs (L3 fx) (L3 tx) (some (.d (.lst ((nms vs).map D.str)))) s5 none none none) h = .ok (.d (.int vs.length)) h := by
    have : mA1 (fLens T_len) (maCons (mVar 4) maNil) (envF fx tx vs (L3 fx) (L3 tx) (some (.d (.lst ((nms vs).map D.str)))) s5 none none none) h = .ok (.d (.int ((nms vs).map D.str).length)) h := rfl
    rw [this, List.length_map, List.length_map]
  unfold fs3
  rw [mA1_eq, maCons_eq, b1, R.bind_ok, maCons_eq, b2, R.bind_ok, maCons_eq, show mA1 fTuple (maCons (mVar 3) maNil) (envF fx tx vs (L3 fx) (L3 tx) (some (.d (.lst ((nms vs).map D.str)))) s5 none none none) h = .ok (.d (.tup (vs.map vD))) h from rfl, R.bind_ok, maCons_eq, b3]
  rfl
theorem zz_okd : Okd (toP (.str "zz9zz9")) 10 0 := Okd.str (by decide) (by decide +kernel)
/-- the plant fits its parts -/
theorem v_fits (g : Good3 fx tx vs) (h : Hc) : F__law_p3_fits [plant fx tx vs, L3 fx, L3 tx, V3 vs] h = .ok (.bl true) h := by
  refine (fnOf_eq 9 4 m__law_p3_fits _ h rfl).trans ?_
  have hl : vs.length < 1000 := by have := g.v6; omega
  rw [fits_parts, mSeq_eq, show mSet 4 fs1 (mkEnv 9 [plant fx tx vs, L3 fx, L3 tx, V3 vs]) h = .nx (envF fx tx vs (L3 fx) (L3 tx) (some (.d (.lst ((nms vs).map D.str)))) none none none none) h by
    unfold mSet
    rw [show fs1 (mkEnv 9 [plant fx tx vs, L3 fx, L3 tx, V3 vs]) h = _ from e_fs1 hl]
    rfl, RS.seq_nx]
  rw [mSeq_eq, show mSet 5 fs2 (envF fx tx vs (L3 fx) (L3 tx) (some (.d (.lst ((nms vs).map D.str)))) none none none none) h = .nx (envF fx tx vs (L3 fx) (L3 tx) (some (.d (.lst ((nms vs).map D.str)))) (some (.d (told fx tx vs))) none none none) h by
    unfold mSet
    rw [e_fs2 hl]
    rfl, RS.seq_nx]
  rw [mSeq_eq, show mSet 6 fs3 (envF fx tx vs (L3 fx) (L3 tx) (some (.d (.lst ((nms vs).map D.str)))) (some (.d (told fx tx vs))) none none none) h = .nx (envF fx tx vs (L3 fx) (L3 tx) (some (.d (.lst ((nms vs).map D.str)))) (some (.d (told fx tx vs))) (some (.d (told fx tx vs))) none none) h by
    unfold mSet
    rw [e_fs3 hl]
    rfl, RS.seq_nx]
  have w4 : fs4 (envF fx tx vs (L3 fx) (L3 tx) (some (.d (.lst ((nms vs).map D.str)))) (some (.d (told fx tx vs))) (some (.d (told fx tx vs))) none none) h = .nx (envF fx tx vs (L3 fx) (L3 tx) (some (.d (.lst ((nms vs).map D.str)))) (some (.d (told fx tx vs))) (some (.d (told fx tx vs))) none none) h := by
    unfold fs4
    rw [mIfS_eq, nes_same (d := told fx tx vs) rfl rfl (repr_told g h)]
    rfl
  rw [mSeq_eq, w4, RS.seq_nx]
  obtain ⟨d', w5⟩ := f1_loop (h := h) (fx := fx) (tx := tx) (vs := vs) (fd := L3 fx) (td := L3 tx) (a := some (.d (.lst ((nms vs).map D.str)))) (b := some (.d (told fx tx vs))) (c := some (.d (told fx tx vs))) (e := none) g.nv.nodup g.nv.ok vs none fun _ hv => hv
  have w5' : fs5 (envF fx tx vs (L3 fx) (L3 tx) (some (.d (.lst ((nms vs).map D.str)))) (some (.d (told fx tx vs))) (some (.d (told fx tx vs))) none none) h = .nx (envF fx tx vs (L3 fx) (L3 tx) (some (.d (.lst ((nms vs).map D.str)))) (some (.d (told fx tx vs))) (some (.d (told fx tx vs))) d' none) h := w5
  rw [mSeq_eq, w5', RS.seq_nx]
  obtain ⟨e', w6⟩ := f2_loop (h := h) (fx := fx) (tx := tx) (vs := vs) (fd := L3 fx) (td := L3 tx) (b := some (.d (told fx tx vs))) (c := some (.d (told fx tx vs))) (d := d') (fx ++ tx ++ zzs) none fun x hx => by
    rcases List.mem_append.mp hx with hx | hx
    · rcases List.mem_append.mp hx with hx | hx
      · exact okd_name (g.nf.ok x hx)
      · exact okd_name (g.nt.ok x hx)
    · rw [List.mem_singleton.mp (show x ∈ [("zz9zz9" : PySem.Str)] from hx)]
      exact zz_okd
  have w6' : fs6 (envF fx tx vs (L3 fx) (L3 tx) (some (.d (.lst ((nms vs).map D.str)))) (some (.d (told fx tx vs))) (some (.d (told fx tx vs))) d' none) h = .nx (envF fx tx vs (L3 fx) (L3 tx) (some (.d (.lst ((nms vs).map D.str)))) (some (.d (told fx tx vs))) (some (.d (told fx tx vs))) d' e') h := by
    have a1 : fAdd false (.d (L3 fx)) (.d (L3 tx)) h = .ok (.d (.lst (fx.map D.str ++ tx.map D.str))) h := by
      show (if (fx.map D.str).length + (tx.map D.str).length ≤ 100000 then R.ok (Vl.ofL false (fx.map D.str ++ tx.map D.str)) h else .stuck) = _
      rw [if_pos (by rw [List.length_map, List.length_map]; have := g.f4; have := g.t4; omega)]
      rfl
    have a2 : fAdd false (.d (.lst (fx.map D.str ++ tx.map D.str))) (.d (.lst [.str "zz9zz9"])) h = .ok (.d (.lst ((fx ++ tx ++ zzs).map D.str))) h := by
      show (if (fx.map D.str ++ tx.map D.str).length + 1 ≤ 100000 then R.ok (Vl.ofL false (fx.map D.str ++ tx.map D.str ++ [.str "zz9zz9"])) h else .stuck) = _
      rw [if_pos (by rw [List.length_append, List.length_map, List.length_map]; have := g.f4; have := g.t4; omega), List.map_append, List.map_append]
      rfl
    have a3 : m2 (fAdd false) (m2 (fAdd false) (mVar 1) (mVar 2)) (mA1 (fLst false) (maCons (mC (.str "zz9zz9")) maNil)) (envF fx tx vs (L3 fx) (L3 tx) (some (.d (.lst ((nms vs).map D.str)))) (some (.d (told fx tx vs))) (some (.d (told fx tx vs))) d' none) h = .ok (.d (.lst ((fx ++ tx ++ zzs).map D.str))) h := by
      show ((fAdd false (.d (L3 fx)) (.d (L3 tx)) h).bind fun x h1 => fAdd false x (.d (.lst [.str "zz9zz9"])) h1) = _
      rw [a1, R.bind_ok, a2]
    unfold fs6 mFor
    rw [a3, R.thenS_ok]
    exact w6
  rw [mSeq_eq, w6', RS.seq_nx]
  rfl
end
end G02

set_option Elab.async false
set_option linter.all false
set_option maxRecDepth 100000
set_option maxHeartbeats 4000000
set_option exponentiation.threshold 2000
namespace G02
open PySem L2 Vi
abbrev oddL : List D := [.int 5, .str "", .str "A", .str "a_b", .str "abcdefghi", .str "1a", .str "or", .str "none", .non, .tup [.str "a"], .bl true, .str "a b", .str "done", .str "bA", .str "ab-", .str "xx "]
theorem odd_nm (o : D) (ho : o ∈ oddL) : Nm o false := by
  simp only [oddL, List.mem_cons, List.not_mem_nil, or_false] at ho
  rcases ho with rfl | rfl | rfl | rfl | rfl | rfl | rfl | rfl | rfl | rfl | rfl | rfl | rfl | rfl | rfl | rfl
  · exact nm_t1
  · exact nm_t2
  · exact nm_t3
  · exact nm_t4
  · exact nm_t5
  · exact nm_t6
  · exact nm_t7
  · exact nm_t8
  · exact nm_t9
  · exact nm_t10
  · exact nm_t11
  · exact nm_t12
  · exact nm_t13
  · exact nm_t14
  · exact nm_t15
  · exact nm_t16
theorem v_odd {t : Hc} {m : Int} {h : Hc} (g : BG t m h) (hm : m < 2 ^ 60) : ∃ o h', F__law_p3_odd [.ref 0] h = .ok o h' ∧ BG t (m + 1) h' ∧ Nm o false := by
  obtain ⟨o, h1, e1, g1, ho⟩ := v_pick (xs := oddL) g hm (by decide) (by decide)
  refine ⟨o, h1, ?_, g1, odd_nm o ho⟩
  refine (fnOf_eq 2 1 m__law_p3_odd _ h rfl).trans ?_
  unfold m__law_p3_odd
  rw [mSeq_eq]
  show ((((F__law_pick [.ref 0, .lst oddL] h).bind fun d h' => R.ok (Vl.d d) h')).thenS _ _).fin = _
  rw [e1]
  rfl
/-! ### is_name of the words and the names -/
abbrev wordS : PySem.Str := ("and or not free untouched least most of since until single recipe take move drain wash pack" : PySem.Str) ++ (" repeat when else end done yes no none" : PySem.Str)
theorem split_words : Txt.split wordS " " = resL := by decide +kernel
theorem word_n : wordS.cps.size ≤ 1000 := by decide +kernel
theorem word_n2 : ("and or not free untouched least most of since until single recipe take move drain wash pack" : PySem.Str).cps.size + (" repeat when else end done yes no none" : PySem.Str).cps.size ≤ 100000 := by decide +kernel
theorem res_shw : shwB (toP d_RESERVED) = true := by decide +kernel
theorem nt_comp0 (h : Hc) (env : Vi.Env) : compL false (gtN 3) (asB (mA1 (fCallN 1 F_is_name []) (maCons (mVar 3) maNil))) (mVar 3) (resL.map D.str) [] (env ++ [none, none]) h = .ok (.d (.lst [])) h ∨ env.length ≠ 3 := by
  by_cases hl : env.length = 3
  · left
    rw [comp_map false 3 _ (mVar 3) (fun x => x) (fun _ => false) _ h (resL.map D.str) [] (fun z hz => ?_) (by decide)]
    · rw [List.filter_eq_nil_iff.mpr (fun _ _ => Bool.false_ne_true)]
      rfl
    · obtain ⟨x, hx, rfl⟩ := List.mem_map.mp hz
      refine ⟨?_, fun e => by cases e⟩
      refine asB_eq _ _ _ false h ?_
      have e := nm_words x hx h
      match env, hl with
      | [a, b, c], _ =>
        show ((F_is_name [.str x] h).bind fun d h' => R.ok (Vl.d d) h') = _
        rw [e]
        rfl
  · exact .inr hl
theorem bools_okd {n : Nat} (b : Bool) (xs : List PySem.Str) (hn : xs.length ≤ n) : Okds (toPs (xs.map fun _ => D.bl b)) n 0 := by
  have z := Okds.all (fun _ : PySem.Str => D.bl b) xs (w := 0) (k := 0) fun _ _ => Okd.bool b
  exact ⟨z.s, z.l, Nat.le_trans z.w (by omega), z.k⟩
theorem v_names_told {o : D} {xs : List PySem.Str} (ho : Nm o false) (hx : ∀ x ∈ xs, NameOk x) (hl : xs.length ≤ 100) (h : Hc) : F__law_p3_names_told [o, .lst (xs.map D.str)] h = .ok (.bl true) h := by
  refine (fnOf_eq 5 2 m__law_p3_names_told _ h rfl).trans ?_
  have p : m__law_p3_names_told = mSeq (mSet 2 (mC (.str "and or not free untouched least most of since until single recipe take move drain wash pack"))) (mSeq (mSet 2 (mStr1 (fSplit false) (m2 (fAdd false) (mVar 2) (mC (.str " repeat when else end done yes no none"))) (mC (.str " ")))) (mSeq (mIfS (tOrM (asB (m2 (fEq true) (mA1 fRepr (maCons (mC d_RESERVED) maNil)) (mA1 fRepr (maCons (mA1 fTuple (maCons (mVar 2) maNil)) maNil)))) (asB (m2 fGt (mA1 fLen (maCons (mComp false [3] (gtN 3) (asB (mA1 (fCallN 1 F_is_name []) (maCons (mVar 3) maNil))) (mVar 3) (mVar 2)) maNil)) (mC (.int 0))))) (mRet (mC (.bl false))) mSkip) (mRet (m2 (fEq false) (mA1 fRepr (maCons (m2 (fAdd false) (mA1 (fLst false) (maCons (mA1 (fCallN 1 F_is_name []) (maCons (mVar 0) maNil)) maNil)) (mComp false [4] (gtN 4) mYes (mA1 (fCallN 1 F_is_name []) (maCons (mVar 4) maNil)) (mVar 1))) maNil)) (mA1 fRepr (maCons (m2 (fAdd false) (mA1 (fLst false) (maCons (mC (.bl false)) maNil)) (mComp false [4] (gtN 4) mYes (mC (.bl true)) (mVar 1))) maNil)))))) := rfl
  have s2 : mSet 2 (mStr1 (fSplit false) (m2 (fAdd false) (mVar 2) (mC (.str " repeat when else end done yes no none"))) (mC (.str " "))) [some (.d o), some (.d (.lst (xs.map D.str))), some (.d (.str "and or not free untouched least most of since until single recipe take move drain wash pack")), none, none] h = .nx [some (.d o), some (.d (.lst (xs.map D.str))), some (.d (.lst (resL.map D.str))), none, none] h := by
    have e1 := fAdd_str false "and or not free untouched least most of since until single recipe take move drain wash pack" " repeat when else end done yes no none" h word_n2
    have e2 : fSplit false wordS (.d (.str " ")) h = .ok (.d (.lst (resL.map D.str))) h := by
      unfold fSplit
      dsimp only
      have c : (" " : PySem.Str).length ≠ 0 ∧ wordS.length + 2 ≤ sizeLine := ⟨by decide, by
        have := word_n
        show wordS.cps.size + 2 ≤ sizeLine
        rw [sizeLine_eq]
        omega⟩
      rw [if_pos c, split_words]
      rfl
    have e3 : mStr1 (fSplit false) (m2 (fAdd false) (mVar 2) (mC (.str " repeat when else end done yes no none"))) (mC (.str " ")) [some (.d o), some (.d (.lst (xs.map D.str))), some (.d (.str "and or not free untouched least most of since until single recipe take move drain wash pack")), none, none] h = .ok (.d (.lst (resL.map D.str))) h := by
      unfold mStr1
      rw [m2_eq]
      show (((fAdd false (.d (.str "and or not free untouched least most of since until single recipe take move drain wash pack")) (.d (.str " repeat when else end done yes no none")) h)).bind _) = _
      rw [e1, R.bind_ok]
      exact e2
    unfold mSet
    rw [e3]
    rfl
  have r1 : fRepr [.d d_RESERVED] h = .ok (.d (.str (toP d_RESERVED).shown)) h := repr_of rfl res_shw h
  have b1 : asB (m2 (fEq true) (mA1 fRepr (maCons (mC d_RESERVED) maNil)) (mA1 fRepr (maCons (mA1 fTuple (maCons (mVar 2) maNil)) maNil))) [some (.d o), some (.d (.lst (xs.map D.str))), some (.d (.lst (resL.map D.str))), none, none] h = .ok false h := by
    refine asB_eq _ _ _ false h ?_
    have w1 : mA1 fRepr (maCons (mC d_RESERVED) maNil) [some (.d o), some (.d (.lst (xs.map D.str))), some (.d (.lst (resL.map D.str))), none, none] h = .ok (.d (.str (toP d_RESERVED).shown)) h := by
      rw [mA1_eq, maCons_eq]
      show fRepr [.d d_RESERVED] h = _
      rw [r1]
    have w2 : mA1 fRepr (maCons (mA1 fTuple (maCons (mVar 2) maNil)) maNil) [some (.d o), some (.d (.lst (xs.map D.str))), some (.d (.lst (resL.map D.str))), none, none] h = .ok (.d (.str (toP d_RESERVED).shown)) h := by
      rw [mA1_eq, maCons_eq]
      show fRepr [.d d_RESERVED] h = _
      rw [r1]
    rw [m2_eq, w1, R.bind_ok, w2, R.bind_ok, eq_txt, decide_eq_true rfl]
    rfl
  have b2 : asB (m2 fGt (mA1 fLen (maCons (mComp false [3] (gtN 3) (asB (mA1 (fCallN 1 F_is_name []) (maCons (mVar 3) maNil))) (mVar 3) (mVar 2)) maNil)) (mC (.int 0))) [some (.d o), some (.d (.lst (xs.map D.str))), some (.d (.lst (resL.map D.str))), none, none] h = .ok false h := by
    refine asB_eq _ _ _ false h ?_
    have c := (nt_comp0 h [some (.d o), some (.d (.lst (xs.map D.str))), some (.d (.lst (resL.map D.str)))]).resolve_right (fun z => z rfl)
    have c2 : mComp false [3] (gtN 3) (asB (mA1 (fCallN 1 F_is_name []) (maCons (mVar 3) maNil))) (mVar 3) (mVar 2) [some (.d o), some (.d (.lst (xs.map D.str))), some (.d (.lst (resL.map D.str))), none, none] h = .ok (.d (.lst [])) h := c
    rw [m2_eq, mA1_eq, maCons_eq, c2]
    rfl
  have c3 : mComp false [4] (gtN 4) mYes (mA1 (fCallN 1 F_is_name []) (maCons (mVar 4) maNil)) (mVar 1) [some (.d o), some (.d (.lst (xs.map D.str))), some (.d (.lst (resL.map D.str))), none, none] h = .ok (.d (.lst (xs.map fun _ => .bl true))) h := by
    show compL false (gtN 4) mYes (mA1 (fCallN 1 F_is_name []) (maCons (mVar 4) maNil)) (xs.map D.str) [] (wipeE [some (.d o), some (.d (.lst (xs.map D.str))), some (.d (.lst (resL.map D.str))), none, none] [4]) h = _
    rw [comp_all false 4 _ (fun _ => .bl true) _ h (xs.map D.str) (fun z hz => ?_) (by rw [List.length_map]; omega), List.map_map]
    · rfl
    · obtain ⟨x, hm, rfl⟩ := List.mem_map.mp hz
      have e := v_name_ok (hx x hm) h
      show ((F_is_name [.str x] h).bind fun d h' => R.ok (Vl.d d) h') = _
      rw [e]
      rfl
  have c4 : mComp false [4] (gtN 4) mYes (mC (.bl true)) (mVar 1) [some (.d o), some (.d (.lst (xs.map D.str))), some (.d (.lst (resL.map D.str))), none, none] h = .ok (.d (.lst (xs.map fun _ => .bl true))) h := by
    show compL false (gtN 4) mYes (mC (.bl true)) (xs.map D.str) [] (wipeE [some (.d o), some (.d (.lst (xs.map D.str))), some (.d (.lst (resL.map D.str))), none, none] [4]) h = _
    rw [comp_all false 4 _ (fun _ => .bl true) _ h (xs.map D.str) (fun z hz => rfl) (by rw [List.length_map]; omega), List.map_map]
    rfl
  have aa : fAdd false (.d (.lst [.bl false])) (.d (.lst (xs.map fun _ => .bl true))) h = .ok (.d (.lst (.bl false :: xs.map fun _ => .bl true))) h := by
    show (if 1 + (xs.map fun _ => D.bl true).length ≤ 100000 then R.ok (Vl.ofL false ([.bl false] ++ xs.map fun _ => D.bl true)) h else .stuck) = _
    rw [if_pos (by rw [List.length_map]; omega)]
    rfl
  have rr : fRepr [.d (.lst (.bl false :: xs.map fun _ => .bl true))] h = .ok (.d (.str (toP (.lst (.bl false :: xs.map fun _ => .bl true))).shown)) h := by
    have o2 := (Okds.cons (k := 0) (Okd.bool false) (bools_okd true xs hl) (by omega)).lst
    refine repr_of (t := .lst (.bl false :: xs.map fun _ => .bl true)) ?_ (o2.shw (by omega) (by omega)) h
    show (true && dats (xs.map fun _ => D.bl true)) = true
    rw [dats_all (fun _ : PySem.Str => D.bl true) xs fun _ _ => rfl]
    rfl
  have l1 : m2 (fAdd false) (mA1 (fLst false) (maCons (mA1 (fCallN 1 F_is_name []) (maCons (mVar 0) maNil)) maNil)) (mComp false [4] (gtN 4) mYes (mA1 (fCallN 1 F_is_name []) (maCons (mVar 4) maNil)) (mVar 1)) [some (.d o), some (.d (.lst (xs.map D.str))), some (.d (.lst (resL.map D.str))), none, none] h = .ok (.d (.lst (.bl false :: xs.map fun _ => .bl true))) h := by
    have e0 : mA1 (fLst false) (maCons (mA1 (fCallN 1 F_is_name []) (maCons (mVar 0) maNil)) maNil) [some (.d o), some (.d (.lst (xs.map D.str))), some (.d (.lst (resL.map D.str))), none, none] h = .ok (.d (.lst [.bl false])) h := by
      show ((((((F_is_name [o] h).bind fun d h' => R.ok (Vl.d d) h')).bind fun x h1 => R.ok [x] h1)).bind fun xs h2 => fLst false xs h2) = _
      rw [ho h]
      rfl
    rw [m2_eq, e0, R.bind_ok, c3, R.bind_ok, aa]
  have l2 : m2 (fAdd false) (mA1 (fLst false) (maCons (mC (.bl false)) maNil)) (mComp false [4] (gtN 4) mYes (mC (.bl true)) (mVar 1)) [some (.d o), some (.d (.lst (xs.map D.str))), some (.d (.lst (resL.map D.str))), none, none] h = .ok (.d (.lst (.bl false :: xs.map fun _ => .bl true))) h := by
    have e0 : mA1 (fLst false) (maCons (mC (.bl false)) maNil) [some (.d o), some (.d (.lst (xs.map D.str))), some (.d (.lst (resL.map D.str))), none, none] h = .ok (.d (.lst [.bl false])) h := rfl
    rw [m2_eq, e0, R.bind_ok, c4, R.bind_ok, aa]
  rw [p, mSeq_eq, show mSet 2 (mC (.str "and or not free untouched least most of since until single recipe take move drain wash pack")) (mkEnv 5 [o, .lst (xs.map D.str)]) h = .nx [some (.d o), some (.d (.lst (xs.map D.str))), some (.d (.str "and or not free untouched least most of since until single recipe take move drain wash pack")), none, none] h from rfl, RS.seq_nx, mSeq_eq, s2, RS.seq_nx, mSeq_eq, mIfS_eq, tOrM_eq, b1, R.bind_ok, pick_f, b2, R.thenS_ok, pick_f]
  show (mRet _ [some (.d o), some (.d (.lst (xs.map D.str))), some (.d (.lst (resL.map D.str))), none, none] h).fin = _
  unfold mRet
  rw [m2_eq, mA1_eq, maCons_eq, l1, R.bind_ok]
  show ((((fRepr [.d (.lst (.bl false :: xs.map fun _ => .bl true))] h).bind _)).thenS _ _).fin = _
  rw [rr, R.bind_ok, mA1_eq, maCons_eq, l2, R.bind_ok]
  show ((((fRepr [.d (.lst (.bl false :: xs.map fun _ => .bl true))] h).bind _)).thenS _ _).fin = _
  rw [rr, R.bind_ok, eq_txt, decide_eq_true rfl]
  rfl
end G02

set_option Elab.async false
set_option linter.all false
set_option maxRecDepth 100000
set_option maxHeartbeats 4000000
set_option exponentiation.threshold 2000
namespace G02
open PySem L2 Vi
/-! ### slices and displays -/
theorem sl_to (xs : List D) {p : Int} (h0 : 0 ≤ p) (h1 : p ≤ xs.length) (h : Hc) : fSl false (.d (.lst xs)) none (some p) h = .ok (.d (.lst (xs.take p.toNat))) h := by
  have e1 : HT.sIx xs.length xs.length (some p) = p.toNat := by
    have z : p = ((p.toNat : Nat) : Int) := by omega
    rw [z, HT.sIx_nat, Int.toNat_natCast]
    omega
  have e2 : cutL xs none (some p) = xs.take p.toNat := by
    unfold cutL
    rw [e1, HT.sIx_none, Nat.sub_zero, List.drop_zero]
  show R.ok (Vl.ofL false (cutL xs none (some p))) h = _
  rw [e2]
  rfl
theorem sl_from (xs : List D) {p : Int} (h0 : 0 ≤ p) (h : Hc) : fSl false (.d (.lst xs)) (some p) none h = .ok (.d (.lst (xs.drop p.toNat))) h := by
  have e1 : HT.sIx xs.length 0 (some p) = min p.toNat xs.length := by
    have z : p = ((p.toNat : Nat) : Int) := by omega
    rw [z, HT.sIx_nat, Int.toNat_natCast]
  have e2 : cutL xs (some p) none = xs.drop p.toNat := by
    unfold cutL
    rw [e1, HT.sIx_none, List.take_of_length_le (by rw [List.length_drop]; omega)]
    by_cases hp : p.toNat ≤ xs.length
    · rw [Nat.min_eq_left hp]
    · rw [Nat.min_eq_right (by omega), List.drop_of_length_le (Nat.le_refl _), List.drop_of_length_le (by omega)]
  show R.ok (Vl.ofL false (cutL xs (some p) none)) h = _
  rw [e2]
  rfl
theorem add_l (a b : List D) (h : Hc) (hl : a.length + b.length ≤ 100000) : fAdd false (.d (.lst a)) (.d (.lst b)) h = .ok (.d (.lst (a ++ b))) h := by
  show (if a.length + b.length ≤ 100000 then R.ok (Vl.ofL false (a ++ b)) h else .stuck) = _
  rw [if_pos hl]
  rfl
theorem mSl_eq (o : Bool) (m : ME) (lo hi : MO) (env : Vi.Env) (h : Hc) : mSl o m lo hi env h = (m env h).bind fun x h1 => (lo env h1).bind fun l h2 => (hi env h2).bind fun u h3 => fSl o x l u h3 := rfl
theorem moS_eq (m : ME) (env : Vi.Env) (h : Hc) {i : Int} {h' : Hc} (e : m env h = .ok (.d (.int i)) h') : moS m env h = .ok (some i) h' := by
  unfold moS
  rw [e]
  rfl
/-- a list with an item put in, or in place of others -/
theorem e_ins {env : Vi.Env} {i k : Nat} {K M : ME} {xs : List D} {y : D} {p b : Int} {h h' : Hc} (hv : ∀ h, mVar i env h = .ok (.d (.lst xs)) h) (hk : ∀ h, mVar k env h = .ok (.d (.int p)) h) (hM : M env h = .ok (.d y) h') (hK : K env h' = .ok (.d (.int b)) h') (h0 : 0 ≤ p) (h1 : p ≤ xs.length) (h2 : 0 ≤ b) (hl : xs.length < 1000) :
    m2 (fAdd false) (m2 (fAdd false) (mSl false (mVar i) moN (moS (mVar k))) (mA1 (fLst false) (maCons M maNil))) (mSl false (mVar i) (moS K) moN) env h = .ok (.d (.lst (xs.take p.toNat ++ [y] ++ xs.drop b.toNat))) h' := by
  have a1 : mSl false (mVar i) moN (moS (mVar k)) env h = .ok (.d (.lst (xs.take p.toNat))) h := by
    rw [mSl_eq, hv, R.bind_ok]
    show ((moS (mVar k) env h).bind fun u h3 => fSl false (.d (.lst xs)) none u h3) = _
    rw [moS_eq _ _ _ (hk h), R.bind_ok, sl_to xs h0 h1]
  have a2 : mA1 (fLst false) (maCons M maNil) env h = .ok (.d (.lst [y])) h' := by
    rw [mA1_eq, maCons_eq, hM]
    rfl
  have a3 : mSl false (mVar i) (moS K) moN env h' = .ok (.d (.lst (xs.drop b.toNat))) h' := by
    rw [mSl_eq, hv, R.bind_ok, moS_eq _ _ _ hK, R.bind_ok]
    show fSl false (.d (.lst xs)) (some b) none h' = _
    rw [sl_from xs h2]
  have l1 : (xs.take p.toNat).length ≤ xs.length := by rw [List.length_take]; omega
  have l2 : (xs.drop b.toNat).length ≤ xs.length := by rw [List.length_drop]; omega
  rw [m2_eq, m2_eq, a1, R.bind_ok, a2, R.bind_ok, add_l _ _ _ (by simp only [List.length_cons, List.length_nil]; omega), R.bind_ok, a3, R.bind_ok, add_l _ _ _ (by simp only [List.length_append, List.length_cons, List.length_nil]; omega)]
/-! ### refused -/
theorem v_ref_ok {f t v : D} {fs : List (PySem.Str × D)} {h : Hc} (e : FI_Plant_xinitx [f, t, v] h = .ok fs h) : F__law_p3_refused [f, t, v] h = .ok (.str "") h := by
  refine (fnOf_eq 5 3 m__law_p3_refused _ h rfl).trans ?_
  unfold m__law_p3_refused
  rw [mSeq_eq]
  have w : mDrop (mA1 (fMake 4 3 FI_Plant_xinitx []) (maCons (mVar 0) (maCons (mVar 1) (maCons (mVar 2) maNil)))) (mkEnv 5 [f, t, v]) h = .nx (mkEnv 5 [f, t, v]) h := by
    show (((FI_Plant_xinitx [f, t, v] h).bind fun fs h' => R.ok (Vl.d (.obj 4 fs)) h').thenS _ _) = _
    rw [e]
    rfl
  unfold mTry
  rw [w]
  rfl
theorem v_ref_bad {f t v : D} {x : PySem.Str} {h : Hc} (e : FI_Plant_xinitx [f, t, v] h = .exc (badP x) h) : F__law_p3_refused [f, t, v] h = .ok (.str x) h := by
  refine (fnOf_eq 5 3 m__law_p3_refused _ h rfl).trans ?_
  unfold m__law_p3_refused
  rw [mSeq_eq]
  have w : mDrop (mA1 (fMake 4 3 FI_Plant_xinitx []) (maCons (mVar 0) (maCons (mVar 1) (maCons (mVar 2) maNil)))) (mkEnv 5 [f, t, v]) h = .exc (mkEnv 5 [f, t, v]) (badP x) h := by
    show (((FI_Plant_xinitx [f, t, v] h).bind fun fs h' => R.ok (Vl.d (.obj 4 fs)) h').thenS _ _) = _
    rw [e]
    rfl
  unfold mTry
  rw [w]
  rfl
end G02

set_option Elab.async false
set_option linter.all false
set_option maxRecDepth 100000
set_option maxHeartbeats 4000000
set_option exponentiation.threshold 2000
namespace G02
open PySem L2 Vi
def NoN (fl : Int) (d : D) : Prop := ∀ h, F_are_names [d, .int fl, .int 4] h = .ok (.bl false) h
theorem ins_nodup {α : Type} (xs : List α) (p : Nat) {y : α} (hy : y ∈ xs) : ¬ (xs.take p ++ [y] ++ xs.drop p).Nodup := by
  intro n
  have e : List.Perm (xs.take p ++ [y] ++ xs.drop p) (y :: xs) := by
    have z := List.perm_middle (a := y) (l₁ := xs.take p) (l₂ := xs.drop p)
    rw [List.take_append_drop] at z
    simpa using z
  have n2 := e.nodup_iff.mp n
  exact (List.nodup_cons.mp n2).1 hy
theorem non_dup {fl : Int} {xs : List PySem.Str} (hx : ∀ x ∈ xs, NameOk x) (hl : xs.length < 900) (hd : ¬ xs.Nodup) : NoN fl (L3 xs) := fun h => by
  by_cases hb : fl ≤ (xs.length : Int) ∧ (xs.length : Int) ≤ 4
  · rw [v_names_all (SeqOk.lst h _) hx hb.1 hb.2 (by omega), decide_eq_false hd]
  · exact v_names_len (SeqOk.lst h _) (by rw [List.length_map]; exact hb)
theorem non_bad {fl : Int} {xs : List D} (hl : xs.length < 1000) (hf : ∀ x ∈ xs, ∃ b, Nm x b) (hx : ∃ x ∈ xs, Nm x false) : NoN fl (.lst xs) := fun h => v_names_bad (SeqOk.lst h _) hl hf hx
theorem non_len {fl : Int} {xs : List D} (hb : ¬ (fl ≤ xs.length ∧ (xs.length : Int) ≤ 4)) : NoN fl (.lst xs) := fun h => v_names_len (SeqOk.lst h _) hb
abbrev oddN : List D := [.str "ab", .str "", .non, .int 7, .bl true]
theorem non_odd {fl : Int} {d : D} (hd : d ∈ oddN) : NoN fl d := by
  simp only [oddN, List.mem_cons, List.not_mem_nil, or_false] at hd
  rcases hd with rfl | rfl | rfl | rfl | rfl <;> exact fun h => rfl
def sn0 : MS := mIfS (asB (m2 (fEq false) (mVar 3) (mC (.int 0)))) (mRet (m2 (fAdd false) (m2 (fAdd false) (mSl false (mVar 1) moN (moS (mVar 4))) (mA1 (fLst false) (maCons (mA1 (fCallN 1 F__law_p3_odd []) (maCons (mVar 0) maNil)) maNil))) (mSl false (mVar 1) (moS (m2 (fAdd false) (mVar 4) (mC (.int 1)))) moN))) mSkip
def sn1C : MB := tAndM (asB (m2 (fEq false) (mVar 3) (mC (.int 1)))) (asB (m2 fGt (mA1 fLen (maCons (mVar 1) maNil)) (mC (.int 0))))
def sn1R : MS := mRet (m2 (fAdd false) (m2 (fAdd false) (mSl false (mVar 1) moN (moS (mVar 4))) (mA1 (fLst false) (maCons (mA1 (fCallN 2 F__law_pick []) (maCons (mVar 0) (maCons (mVar 1) maNil))) maNil))) (mSl false (mVar 1) (moS (mVar 4)) moN))
def sn1 : MS := mIfS sn1C sn1R mSkip
def sn2 : MS := mIfS (tAndM (asB (m2 (fEq false) (mVar 3) (mC (.int 2)))) (asB (m2 (fEq false) (mVar 2) (mC (.int 1))))) (mRet (mA1 (fLst false) maNil)) mSkip
def sn3 : MS := mIfS (asB (m2 (fEq false) (mVar 3) (mC (.int 3)))) (mRet (mA1 (fCallN 2 F__law_pick []) (maCons (mVar 0) (maCons (mA1 (fLst false) (maCons (mC (.str "ab")) (maCons (mC (.str "")) (maCons (mC .non) (maCons (mC (.int 7)) (maCons (mC (.bl true)) maNil)))))) maNil)))) mSkip
def sn4 : MS := mRet (mA1 (fCallN 3 F__law_names []) (maCons (mVar 0) (maCons (mC (.int 5)) (maCons (mA1 (fLst false) maNil) maNil))))
def snT : MS := mSeq sn0 (mSeq sn1 (mSeq sn2 (mSeq sn3 sn4)))
theorem sn_parts : m__law_p3_spoilt_names = mSeq (mSet 3 (mA1 (fCallN 2 F__law_draw []) (maCons (mVar 0) (maCons (mC (.int 5)) maNil)))) (mSeq (mSet 4 (mA1 (fCallN 2 F__law_draw []) (maCons (mVar 0) (maCons (m2 (fAdd false) (mA1 fLen (maCons (mVar 1) maNil)) (mC (.int 1))) maNil)))) snT) := rfl
abbrev envS (xs : List PySem.Str) (fl r p : Int) : Vi.Env := [some (.d (.ref 0)), some (.d (L3 xs)), some (.d (.int fl)), some (.d (.int r)), some (.d (.int p))]
section
variable {t : Hc} {m fl p : Int} {h : Hc} {xs : List PySem.Str}
theorem mem_take {α : Type} {x : α} {xs : List α} {n : Nat} (h : x ∈ xs.take n) : x ∈ xs := List.mem_of_mem_take h
theorem sn_five (g : BG t m h) (hm : m < 2 ^ 48) (r : Int) : ∃ d h', sn4 (envS xs fl r p) h = .ret d h' ∧ BG t (m + 400) h' ∧ NoN fl d := by
  obtain ⟨ys, h1, e, g1, n, _, ly⟩ := v_lnames (tk := []) (n := 5) g (by omega) (by decide)
  refine ⟨L3 ys, h1, ?_, g1.up (by omega), non_len (by rw [List.length_map]; omega)⟩
  have e : F__law_names [.ref 0, .int 5, .lst []] h = .ok (.lst (ys.map D.str)) h1 := e
  show ((((F__law_names [.ref 0, .int 5, .lst []] h).bind fun d h' => R.ok (Vl.d d) h')).thenS _ _) = _
  rw [e]
  rfl
theorem sn_way0 (g : BG t m h) (hm : m < 2 ^ 48) (hx : ∀ x ∈ xs, NameOk x) (hl : xs.length ≤ 6) (h0 : 0 ≤ p) (h1 : p ≤ xs.length) : ∃ d h', snT (envS xs fl 0 p) h = .ret d h' ∧ BG t (m + 400) h' ∧ NoN fl d := by
  obtain ⟨o, h2, eo, g2, no⟩ := v_odd g (by omega)
  have e := e_ins (env := envS xs fl 0 p) (i := 1) (k := 4) (K := m2 (fAdd false) (mVar 4) (mC (.int 1))) (M := mA1 (fCallN 1 F__law_p3_odd []) (maCons (mVar 0) maNil)) (xs := xs.map D.str) (y := o) (p := p) (b := p + 1) (h := h) (h' := h2) (fun _ => rfl) (fun _ => rfl) (by
    show ((F__law_p3_odd [.ref 0] h).bind fun d h' => R.ok (Vl.d d) h') = _
    rw [eo]
    rfl) rfl h0 (by rw [List.length_map]; exact h1) (by omega) (by rw [List.length_map]; omega)
  refine ⟨_, h2, ?_, g2.up (by omega), non_bad (xs := (xs.map D.str).take p.toNat ++ [o] ++ (xs.map D.str).drop (p + 1).toNat) ?_ (fun z hz => ?_) ⟨o, by simp, no⟩⟩
  · unfold snT
    rw [mSeq_eq]
    have w : sn0 (envS xs fl 0 p) h = .ret (.lst ((xs.map D.str).take p.toNat ++ [o] ++ (xs.map D.str).drop (p + 1).toNat)) h2 := by
      unfold sn0
      rw [mIfS_eq, show asB (m2 (fEq false) (mVar 3) (mC (.int 0))) (envS xs fl 0 p) h = .ok true h from rfl]
      show mRet _ (envS xs fl 0 p) h = _
      unfold mRet
      rw [e]
      rfl
    rw [w]
    rfl
  · simp only [List.length_append, List.length_take, List.length_drop, List.length_map, List.length_cons, List.length_nil]
    omega
  · have nn : ∀ z ∈ xs.map D.str, ∃ b, Nm z b := fun z hz => by
      obtain ⟨x, hm, rfl⟩ := List.mem_map.mp hz
      exact ⟨true, nm_ok (hx x hm)⟩
    rcases List.mem_append.mp hz with hz | hz
    · rcases List.mem_append.mp hz with hz | hz
      · exact nn z (List.mem_of_mem_take hz)
      · rw [List.mem_singleton.mp hz]
        exact ⟨false, no⟩
    · exact nn z (List.mem_of_mem_drop hz)
theorem sn1_skip {r : Int} (hr : r ≠ 1 ∨ xs = []) : sn1 (envS xs fl r p) h = .nx (envS xs fl r p) h := by
  have e : sn1C (envS xs fl r p) h = .ok false h := by
    unfold sn1C
    rw [tAndM_eq]
    by_cases h1 : r = 1
    · subst h1
      rcases hr with hr | rfl
      · exact absurd rfl hr
      · rfl
    · have : asB (m2 (fEq false) (mVar 3) (mC (.int 1))) (envS xs fl r p) h = .ok (decide (r = 1)) h := rfl
      rw [this, decide_eq_false h1]
      rfl
  unfold sn1
  rw [mIfS_eq, e]
  rfl
theorem sn_way1 (g : BG t m h) (hm : m < 2 ^ 48) (hx : ∀ x ∈ xs, NameOk x) (hl : xs.length ≤ 6) (h0 : 0 ≤ p) (h1 : p ≤ xs.length) : ∃ d h', snT (envS xs fl 1 p) h = .ret d h' ∧ BG t (m + 400) h' ∧ NoN fl d := by
  have w0 : sn0 (envS xs fl 1 p) h = .nx (envS xs fl 1 p) h := rfl
  unfold snT
  rw [mSeq_eq, w0, RS.seq_nx]
  cases hxs : xs with
  | nil =>
    obtain ⟨d, h', e, g', q⟩ := sn_five (xs := []) (fl := fl) (p := p) g hm 1
    refine ⟨d, h', ?_, g', q⟩
    rw [mSeq_eq, sn1_skip (.inr rfl), RS.seq_nx, mSeq_eq, show sn2 (envS [] fl 1 p) h = .nx (envS [] fl 1 p) h from rfl, RS.seq_nx, mSeq_eq, show sn3 (envS [] fl 1 p) h = .nx (envS [] fl 1 p) h from rfl, RS.seq_nx, e]
  | cons x0 xr =>
    rw [← hxs]
    have lx : 0 < xs.length := by rw [hxs]; exact Nat.succ_pos _
    obtain ⟨o, h2, eo, g2, ho⟩ := v_pick (xs := xs.map D.str) g (by omega) (by rw [List.length_map]; exact lx) (by rw [List.length_map]; omega)
    obtain ⟨y, hy, rfl⟩ := List.mem_map.mp ho
    have e := e_ins (env := envS xs fl 1 p) (i := 1) (k := 4) (K := mVar 4) (M := mA1 (fCallN 2 F__law_pick []) (maCons (mVar 0) (maCons (mVar 1) maNil))) (xs := xs.map D.str) (y := .str y) (p := p) (b := p) (h := h) (h' := h2) (fun _ => rfl) (fun _ => rfl) (by
      show ((F__law_pick [.ref 0, .lst (xs.map D.str)] h).bind fun d h' => R.ok (Vl.d d) h') = _
      rw [eo]
      rfl) rfl h0 (by rw [List.length_map]; exact h1) h0 (by rw [List.length_map]; omega)
    have el : (xs.map D.str).take p.toNat ++ [D.str y] ++ (xs.map D.str).drop p.toNat = (xs.take p.toNat ++ [y] ++ xs.drop p.toNat).map D.str := by
      simp
    rw [el] at e
    refine ⟨L3 (xs.take p.toNat ++ [y] ++ xs.drop p.toNat), h2, ?_, g2.up (by omega), non_dup (fun z hz => ?_) ?_ (ins_nodup xs _ hy)⟩
    · rw [mSeq_eq]
      have w : sn1 (envS xs fl 1 p) h = .ret (L3 (xs.take p.toNat ++ [y] ++ xs.drop p.toNat)) h2 := by
        have c : sn1C (envS xs fl 1 p) h = .ok true h := by
          unfold sn1C
          rw [tAndM_eq, show asB (m2 (fEq false) (mVar 3) (mC (.int 1))) (envS xs fl 1 p) h = .ok true h from rfl]
          show asB (m2 fGt (mA1 fLen (maCons (mVar 1) maNil)) (mC (.int 0))) (envS xs fl 1 p) h = _
          have : asB (m2 fGt (mA1 fLen (maCons (mVar 1) maNil)) (mC (.int 0))) (envS xs fl 1 p) h = .ok (decide ((0 : Int) < ((xs.map D.str).length : Int))) h := rfl
          rw [this, List.length_map, decide_eq_true (by omega)]
        unfold sn1
        rw [mIfS_eq, c]
        show sn1R (envS xs fl 1 p) h = _
        unfold sn1R mRet
        rw [e]
        rfl
      rw [w]
      rfl
    · rcases List.mem_append.mp hz with hz | hz
      · rcases List.mem_append.mp hz with hz | hz
        · exact hx z (List.mem_of_mem_take hz)
        · rw [List.mem_singleton.mp hz]
          exact hx y hy
      · exact hx z (List.mem_of_mem_drop hz)
    · simp only [List.length_append, List.length_take, List.length_drop, List.length_cons, List.length_nil]
      omega
theorem sn_way2 (g : BG t m h) (hm : m < 2 ^ 48) (hf : fl = 0 ∨ fl = 1) : ∃ d h', snT (envS xs fl 2 p) h = .ret d h' ∧ BG t (m + 400) h' ∧ NoN fl d := by
  have w0 : sn0 (envS xs fl 2 p) h = .nx (envS xs fl 2 p) h := rfl
  unfold snT
  rw [mSeq_eq, w0, RS.seq_nx, mSeq_eq, sn1_skip (.inl (by decide)), RS.seq_nx]
  rcases hf with rfl | rfl
  · obtain ⟨d, h', e, g', q⟩ := sn_five (xs := xs) (fl := 0) (p := p) g hm 2
    refine ⟨d, h', ?_, g', q⟩
    rw [mSeq_eq, show sn2 (envS xs 0 2 p) h = .nx (envS xs 0 2 p) h from rfl, RS.seq_nx, mSeq_eq, show sn3 (envS xs 0 2 p) h = .nx (envS xs 0 2 p) h from rfl, RS.seq_nx, e]
  · refine ⟨.lst [], h, ?_, g.up (by omega), non_len (by decide)⟩
    rw [mSeq_eq, show sn2 (envS xs 1 2 p) h = .ret (.lst []) h from rfl]
    rfl
theorem sn_way3 (g : BG t m h) (hm : m < 2 ^ 48) : ∃ d h', snT (envS xs fl 3 p) h = .ret d h' ∧ BG t (m + 400) h' ∧ NoN fl d := by
  have w0 : sn0 (envS xs fl 3 p) h = .nx (envS xs fl 3 p) h := rfl
  unfold snT
  rw [mSeq_eq, w0, RS.seq_nx, mSeq_eq, sn1_skip (.inl (by decide)), RS.seq_nx, mSeq_eq, show sn2 (envS xs fl 3 p) h = .nx (envS xs fl 3 p) h from rfl, RS.seq_nx, mSeq_eq]
  obtain ⟨o, h2, eo, g2, ho⟩ := v_pick (xs := oddN) g (by omega) (by decide) (by decide)
  refine ⟨o, h2, ?_, g2.up (by omega), non_odd ho⟩
  have w : sn3 (envS xs fl 3 p) h = .ret o h2 := by
    unfold sn3
    rw [mIfS_eq, show asB (m2 (fEq false) (mVar 3) (mC (.int 3))) (envS xs fl 3 p) h = .ok true h from rfl]
    show ((((F__law_pick [.ref 0, .lst oddN] h).bind fun d h' => R.ok (Vl.d d) h')).thenS _ _) = _
    rw [eo]
    rfl
  rw [w]
  rfl
theorem sn_way4 (g : BG t m h) (hm : m < 2 ^ 48) : ∃ d h', snT (envS xs fl 4 p) h = .ret d h' ∧ BG t (m + 400) h' ∧ NoN fl d := by
  have w0 : sn0 (envS xs fl 4 p) h = .nx (envS xs fl 4 p) h := rfl
  unfold snT
  rw [mSeq_eq, w0, RS.seq_nx, mSeq_eq, sn1_skip (.inl (by decide)), RS.seq_nx, mSeq_eq, show sn2 (envS xs fl 4 p) h = .nx (envS xs fl 4 p) h from rfl, RS.seq_nx, mSeq_eq, show sn3 (envS xs fl 4 p) h = .nx (envS xs fl 4 p) h from rfl, RS.seq_nx]
  exact sn_five g hm 4
end
/-- spoilt names: no row of names -/
theorem v_spoilt_names {t : Hc} {m fl : Int} {h : Hc} {xs : List PySem.Str} (g : BG t m h) (hm : m < 2 ^ 47) (hx : ∀ x ∈ xs, NameOk x) (hl : xs.length ≤ 6) (hf : fl = 0 ∨ fl = 1) : ∃ d h', F__law_p3_spoilt_names [.ref 0, L3 xs, .int fl] h = .ok d h' ∧ BG t (m + 500) h' ∧ NoN fl d := by
  obtain ⟨r, h1, e1, g1, r0, r1, _⟩ := v_draw (many := 5) g (by omega) (by omega) (by omega)
  have r1 := r1 (by omega)
  obtain ⟨p, h2, e2, g2, p0, p1, p2⟩ := v_draw (many := (xs.length : Int) + 1) g1 (by omega) (by omega) (by omega)
  have hp : p ≤ xs.length := by
    by_cases hz : (2 : Int) ≤ (xs.length : Int) + 1
    · have := p1 hz
      omega
    · rw [p2 (by omega)]
      omega
  have go : ∃ d h', snT (envS xs fl r p) h2 = .ret d h' ∧ BG t (m + 1 + 1 + 400) h' ∧ NoN fl d := by
    have : r = 0 ∨ r = 1 ∨ r = 2 ∨ r = 3 ∨ r = 4 := by omega
    rcases this with rfl | rfl | rfl | rfl | rfl
    · exact sn_way0 g2 (by omega) hx hl p0 hp
    · exact sn_way1 g2 (by omega) hx hl p0 hp
    · exact sn_way2 g2 (by omega) hf
    · exact sn_way3 g2 (by omega)
    · exact sn_way4 g2 (by omega)
  obtain ⟨d, h3, e3, g3, q⟩ := go
  refine ⟨d, h3, ?_, g3.up (by omega), q⟩
  refine (fnOf_eq 5 3 m__law_p3_spoilt_names _ h rfl).trans ?_
  have w1 : mSet 3 (mA1 (fCallN 2 F__law_draw []) (maCons (mVar 0) (maCons (mC (.int 5)) maNil))) (mkEnv 5 [.ref 0, L3 xs, .int fl]) h = .nx [some (.d (.ref 0)), some (.d (L3 xs)), some (.d (.int fl)), some (.d (.int r)), none] h1 := by
    show ((((F__law_draw [.ref 0, .int 5] h).bind fun d h' => R.ok (Vl.d d) h')).thenS _ _) = _
    rw [e1]
    rfl
  have w2 : mSet 4 (mA1 (fCallN 2 F__law_draw []) (maCons (mVar 0) (maCons (m2 (fAdd false) (mA1 fLen (maCons (mVar 1) maNil)) (mC (.int 1))) maNil))) [some (.d (.ref 0)), some (.d (L3 xs)), some (.d (.int fl)), some (.d (.int r)), none] h1 = .nx (envS xs fl r p) h2 := by
    have e2 : F__law_draw [.ref 0, .int (((xs.map D.str).length : Int) + 1)] h1 = .ok (.int p) h2 := by rw [List.length_map]; exact e2
    show ((((F__law_draw [.ref 0, .int (((xs.map D.str).length : Int) + 1)] h1).bind fun d h' => R.ok (Vl.d d) h')).thenS _ _) = _
    rw [e2]
    rfl
  rw [sn_parts, mSeq_eq, w1, RS.seq_nx, mSeq_eq, w2, RS.seq_nx, e3]
  rfl
end G02

set_option Elab.async false
set_option linter.all false
set_option maxRecDepth 100000
set_option maxHeartbeats 4000000
set_option exponentiation.threshold 2000
namespace G02
open PySem L2 Vi
def sv0 : MS := (mSet 2 (mA1 (fCallN 2 F__law_draw []) (maCons (mVar 0) (maCons (mC (.int 8)) maNil))))
def sv1 : MS := (mSet 3 (mA1 (fCallN 2 F__law_draw []) (maCons (mVar 0) (maCons (mA1 fLen (maCons (mVar 1) maNil)) maNil))))
def sv2 : MS := (mSet 4 (m2 fIx (m2 fIx (mVar 1) (mVar 3)) (mC (.int 0))))
def sv3 : MS := (mSet 5 (m2 fIx (m2 fIx (mVar 1) (mVar 3)) (mC (.int 1))))
def sv4 : MS := (mSet 6 (mA1 fTup (maCons (mVar 4) (maCons (mVar 5) (maCons (mVar 5) maNil)))))
def sv5 : MS := (mIfS (asB (m2 (fEq false) (mVar 2) (mC (.int 0)))) (mSet 6 (mA1 fTup (maCons (mA1 (fCallN 1 F__law_p3_odd []) (maCons (mVar 0) maNil)) (maCons (mVar 5) (maCons (m2 fIx (m2 fIx (mVar 1) (mVar 3)) (mC (.int 2))) maNil))))) mSkip)
def sv6 : MS := (mIfS (asB (m2 (fEq false) (mVar 2) (mC (.int 1)))) (mSet 6 (mA1 fTup (maCons (mVar 4) (maCons (mA1 (fCallN 2 F__law_pick []) (maCons (mVar 0) (maCons (mA1 (fLst false) (maCons (mC (.int 0)) (maCons (m1 fNeg (mC (.int 1))) (maCons (mC (.int 10001)) (maCons (mC (.bl true)) (maCons (mC .non) (maCons (mC (.str "5")) (maCons (mA1 fTup (maCons (mC (.int 5)) maNil)) maNil)))))))) maNil))) (maCons (mC (.int 0)) maNil))))) mSkip)
def sv7 : MS := (mIfS (asB (m2 (fEq false) (mVar 2) (mC (.int 2)))) (mSet 6 (mA1 fTup (maCons (mVar 4) (maCons (mVar 5) (maCons (mA1 (fCallN 2 F__law_pick []) (maCons (mVar 0) (maCons (mA1 (fLst false) (maCons (mVar 5) (maCons (m2 (fAdd false) (mVar 5) (mC (.int 1))) (maCons (m1 fNeg (mC (.int 1))) (maCons (mC .non) (maCons (mC (.bl false)) (maCons (mC (.str "0")) (maCons (m2 fPow (mC (.int 10)) (mC (.int 20))) maNil)))))))) maNil))) maNil))))) mSkip)
def sv8 : MS := (mIfS (asB (m2 (fEq false) (mVar 2) (mC (.int 3)))) (mSeq (mSet 7 (m2 fIx (m2 fIx (mVar 1) (mVar 3)) (mC (.int 2)))) (mSet 6 (mA1 (fCallN 2 F__law_pick []) (maCons (mVar 0) (maCons (mA1 (fLst false) (maCons (mA1 (fLst false) (maCons (mVar 4) (maCons (mVar 5) (maCons (mVar 7) maNil)))) (maCons (mA1 fTup (maCons (mVar 4) (maCons (mVar 5) maNil))) (maCons (mA1 fTup (maCons (mVar 4) (maCons (mVar 5) (maCons (mVar 7) (maCons (mC (.int 0)) maNil))))) (maCons (mVar 4) (maCons (mC .non) (maCons (mA1 fTup maNil) maNil))))))) maNil))))) mSkip)
def sv9 : MS := (mIfS (asB (m2 (fEq false) (mVar 2) (mC (.int 4)))) (mRet (m2 (fAdd false) (m2 (fAdd false) (mSl false (mVar 1) moN (moS (mVar 3))) (mA1 (fLst false) (maCons (mA1 fTup (maCons (mVar 4) (maCons (mC (.int 7)) (maCons (mC (.int 3)) maNil)))) maNil))) (mSl false (mVar 1) (moS (mVar 3)) moN))) mSkip)
def sv10 : MS := (mIfS (asB (m2 (fEq false) (mVar 2) (mC (.int 5)))) (mRet (mComp false [8] (gtN 8) mYes (mA1 fTup (maCons (mVar 8) (maCons (mC (.int 9)) (maCons (mC (.int 2)) maNil)))) (mA1 (fCallN 3 F__law_names []) (maCons (mVar 0) (maCons (mC (.int 7)) (maCons (mA1 (fLst false) maNil) maNil)))))) mSkip)
def sv11 : MS := (mIfS (asB (m2 (fEq false) (mVar 2) (mC (.int 6)))) (mRet (mA1 (fCallN 2 F__law_pick []) (maCons (mVar 0) (maCons (mA1 (fLst false) (maCons (mA1 (fLst false) maNil) (maCons (mA1 fTup maNil) (maCons (mC .non) (maCons (mC (.str "v")) (maCons (mC (.int 8)) maNil)))))) maNil)))) mSkip)
def sv12 : MS := (mRet (m2 (fAdd false) (m2 (fAdd false) (mSl false (mVar 1) moN (moS (mVar 3))) (mA1 (fLst false) (maCons (mVar 6) maNil))) (mSl false (mVar 1) (moS (m2 (fAdd false) (mVar 3) (mC (.int 1)))) moN)))
def svT : MS := mSeq sv5 (mSeq sv6 (mSeq sv7 (mSeq sv8 (mSeq sv9 (mSeq sv10 (mSeq sv11 sv12))))))
theorem sv_go : m__law_p3_spoilt_vessels = mSeq sv0 (mSeq sv1 (mSeq sv2 (mSeq sv3 (mSeq sv4 svT)))) := rfl
def NoV (d : D) : Prop := ∀ h, F_are_vessels [d] h = .ok (.bl false) h
abbrev envW (vs : List Ve) (w p : Int) (v : Ve) (y : D) (o7 : Option Sl) : Vi.Env := [some (.d (.ref 0)), some (.d (V3 vs)), some (.d (.int w)), some (.d (.int p)), some (.d (.str v.1)), some (.d (.int v.2.1)), some (.d y), o7, none]
section
variable {t : Hc} {m p w : Int} {h h' : Hc} {vs : List Ve} {v : Ve} {y : D} {o7 : Option Sl}
theorem nov_bad {xs : List D} (hl : xs.length < 1000) (hf : ∀ x ∈ xs, ∃ b, Vs x b) (hx : ∃ x ∈ xs, Vs x false) : NoV (.lst xs) := fun h => v_ves_bad (SeqOk.lst h _) hl hf hx
theorem sv_fin (ok : ∀ v ∈ vs, VeOk v) (hl : vs.length ≤ 6) (h0 : 0 ≤ p) (h1 : p ≤ vs.length) (hy : Vs y false) : ∃ d, sv12 (envW vs w p v y o7) h = .ret d h ∧ NoV d := by
  have e := e_ins (env := envW vs w p v y o7) (i := 1) (k := 3) (K := m2 (fAdd false) (mVar 3) (mC (.int 1))) (M := mVar 6) (xs := vs.map vD) (y := y) (p := p) (b := p + 1) (h := h) (h' := h) (fun _ => rfl) (fun _ => rfl) rfl rfl h0 (by rw [List.length_map]; exact h1) (by omega) (by rw [List.length_map]; omega)
  refine ⟨_, ?_, nov_bad (xs := (vs.map vD).take p.toNat ++ [y] ++ (vs.map vD).drop (p + 1).toNat) ?_ (fun z hz => ?_) ⟨y, by simp, hy⟩⟩
  · unfold sv12 mRet
    rw [e]
    rfl
  · simp only [List.length_append, List.length_take, List.length_drop, List.length_map, List.length_cons, List.length_nil]
    omega
  · have nn : ∀ z ∈ vs.map vD, ∃ b, Vs z b := fun z hz => by
      obtain ⟨x, hm, rfl⟩ := List.mem_map.mp hz
      exact ⟨true, vs_ok (ok x hm)⟩
    rcases List.mem_append.mp hz with hz | hz
    · rcases List.mem_append.mp hz with hz | hz
      · exact nn z (List.mem_of_mem_take hz)
      · rw [List.mem_singleton.mp hz]
        exact ⟨false, hy⟩
    · exact nn z (List.mem_of_mem_drop hz)
theorem e_at {i k : Nat} {j : Int} {d : D} {env : Vi.Env} (hi : mVar i env h = .ok (.d (V3 vs)) h) (hk : mVar k env h = .ok (.d (.int p)) h) (ha : atI (vs.map vD) p = some (vD v)) (hj : fIx (.d (vD v)) (.d (.int j)) h = .ok (.d d) h) : m2 fIx (m2 fIx (mVar i) (mVar k)) (mC (.int j)) env h = .ok (.d d) h := by
  have z : fIx (.d (.lst (vs.map vD))) (.d (.int p)) h = .ok (.d (vD v)) h := by
    rw [fIx_lst, ha]
  rw [m2_eq, m2_eq, hi, R.bind_ok, hk, R.bind_ok, z, R.bind_ok]
  show fIx (.d (vD v)) (.d (.int j)) h = _
  rw [hj]
/-- what a drawn row is good for -/
structure At (vs : List Ve) (p : Int) (v : Ve) : Prop where
  ok : ∀ v ∈ vs, VeOk v
  l : vs.length ≤ 6
  n : (vs.map (·.1)).Nodup
  p0 : 0 ≤ p
  p1 : p < vs.length
  a : atI (vs.map vD) p = some (vD v)
  m : v ∈ vs
theorem s5_n (hw : w ≠ 0) : sv5 (envW vs w p v y o7) h = .nx (envW vs w p v y o7) h := by
  unfold sv5
  rw [mIfS_eq, show asB (m2 (fEq false) (mVar 2) (mC (.int 0))) (envW vs w p v y o7) h = .ok (decide (w = 0)) h from rfl, decide_eq_false hw]
  rfl
theorem s6_n (hw : w ≠ 1) : sv6 (envW vs w p v y o7) h = .nx (envW vs w p v y o7) h := by
  unfold sv6
  rw [mIfS_eq, show asB (m2 (fEq false) (mVar 2) (mC (.int 1))) (envW vs w p v y o7) h = .ok (decide (w = 1)) h from rfl, decide_eq_false hw]
  rfl
theorem s7_n (hw : w ≠ 2) : sv7 (envW vs w p v y o7) h = .nx (envW vs w p v y o7) h := by
  unfold sv7
  rw [mIfS_eq, show asB (m2 (fEq false) (mVar 2) (mC (.int 2))) (envW vs w p v y o7) h = .ok (decide (w = 2)) h from rfl, decide_eq_false hw]
  rfl
theorem s8_n (hw : w ≠ 3) : sv8 (envW vs w p v y o7) h = .nx (envW vs w p v y o7) h := by
  unfold sv8
  rw [mIfS_eq, show asB (m2 (fEq false) (mVar 2) (mC (.int 3))) (envW vs w p v y o7) h = .ok (decide (w = 3)) h from rfl, decide_eq_false hw]
  rfl
theorem s9_n (hw : w ≠ 4) : sv9 (envW vs w p v y o7) h = .nx (envW vs w p v y o7) h := by
  unfold sv9
  rw [mIfS_eq, show asB (m2 (fEq false) (mVar 2) (mC (.int 4))) (envW vs w p v y o7) h = .ok (decide (w = 4)) h from rfl, decide_eq_false hw]
  rfl
theorem s10_n (hw : w ≠ 5) : sv10 (envW vs w p v y o7) h = .nx (envW vs w p v y o7) h := by
  unfold sv10
  rw [mIfS_eq, show asB (m2 (fEq false) (mVar 2) (mC (.int 5))) (envW vs w p v y o7) h = .ok (decide (w = 5)) h from rfl, decide_eq_false hw]
  rfl
theorem s11_n (hw : w ≠ 6) : sv11 (envW vs w p v y o7) h = .nx (envW vs w p v y o7) h := by
  unfold sv11
  rw [mIfS_eq, show asB (m2 (fEq false) (mVar 2) (mC (.int 6))) (envW vs w p v y o7) h = .ok (decide (w = 6)) h from rfl, decide_eq_false hw]
  rfl
/-- the row is put in its place -/
theorem sv_row (A : At vs p v) (hw : w ≠ 4 ∧ w ≠ 5 ∧ w ≠ 6) (hy : Vs y false) : ∃ d, (mSeq sv9 (mSeq sv10 (mSeq sv11 sv12))) (envW vs w p v y o7) h = .ret d h ∧ NoV d := by
  obtain ⟨d, e, q⟩ := sv_fin (vs := vs) (p := p) (w := w) (v := v) (y := y) (o7 := o7) (h := h) A.ok A.l A.p0 (Int.le_of_lt A.p1) hy
  refine ⟨d, ?_, q⟩
  rw [mSeq_eq, s9_n hw.1, RS.seq_nx, mSeq_eq, s10_n hw.2.1, RS.seq_nx, mSeq_eq, s11_n hw.2.2, RS.seq_nx, e]
theorem sv_way7 (A : At vs p v) (g : BG t m h) : ∃ d h', svT (envW vs 7 p v (.tup [.str v.1, .int v.2.1, .int v.2.1]) none) h = .ret d h' ∧ BG t (m + 400) h' ∧ NoV d := by
  have V := A.ok v A.m
  obtain ⟨d, e, q⟩ := sv_row (w := 7) (o7 := none) (h := h) (y := .tup [.str v.1, .int v.2.1, .int v.2.1]) A ⟨by decide, by decide, by decide⟩ (vs_k (nm_ok V.name) V.s1 V.s2 fun h => by
    rw [v_within, decide_eq_false (show ¬ v.2.1 ≤ v.2.1 - 1 by omega), Bool.and_false])
  refine ⟨d, h, ?_, g.up (by omega), q⟩
  unfold svT
  rw [mSeq_eq, s5_n (by decide), RS.seq_nx, mSeq_eq, s6_n (by decide), RS.seq_nx, mSeq_eq, s7_n (by decide), RS.seq_nx, mSeq_eq, s8_n (by decide), RS.seq_nx, e]
theorem sv_way0 (A : At vs p v) (g : BG t m h) (hm : m < 2 ^ 48) : ∃ d h', svT (envW vs 0 p v y none) h = .ret d h' ∧ BG t (m + 400) h' ∧ NoV d := by
  obtain ⟨o, h2, eo, g2, no⟩ := v_odd g (by omega)
  obtain ⟨d, e, q⟩ := sv_row (w := 0) (o7 := none) (h := h2) (y := .tup [o, .int v.2.1, .int v.2.2]) A ⟨by decide, by decide, by decide⟩ (vs_x no)
  refine ⟨d, h2, ?_, g2.up (by omega), q⟩
  have w5 : sv5 (envW vs 0 p v y none) h = .nx (envW vs 0 p v (.tup [o, .int v.2.1, .int v.2.2]) none) h2 := by
    have b1 : mA1 (fCallN 1 F__law_p3_odd []) (maCons (mVar 0) maNil) (envW vs 0 p v y none) h = .ok (.d o) h2 := by
      show ((F__law_p3_odd [.ref 0] h).bind fun d h' => R.ok (Vl.d d) h') = _
      rw [eo]
      rfl
    have b2 : m2 fIx (m2 fIx (mVar 1) (mVar 3)) (mC (.int 2)) (envW vs 0 p v y none) h2 = .ok (.d (.int v.2.2)) h2 := e_at (h := h2) (vs := vs) (p := p) (v := v) rfl rfl A.a rfl
    unfold sv5
    rw [mIfS_eq, show asB (m2 (fEq false) (mVar 2) (mC (.int 0))) (envW vs 0 p v y none) h = .ok true h from rfl]
    show mSet 6 _ (envW vs 0 p v y none) h = _
    unfold mSet
    rw [mA1_eq, maCons_eq, b1, R.bind_ok, maCons_eq, show mVar 5 (envW vs 0 p v y none) h2 = .ok (.d (.int v.2.1)) h2 from rfl, R.bind_ok, maCons_eq, b2]
    rfl
  unfold svT
  rw [mSeq_eq, w5, RS.seq_nx, mSeq_eq, s6_n (by decide), RS.seq_nx, mSeq_eq, s7_n (by decide), RS.seq_nx, mSeq_eq, s8_n (by decide), RS.seq_nx, e]
abbrev oddS : List D := [.int 0, .int (-1), .int 10001, .bl true, .non, .str "5", .tup [.int 5]]
theorem odd_s {s : D} (hs : s ∈ oddS) (h : Hc) : F_is_whole_within [s, .int 1, .int 10000] h = .ok (.bl false) h := by
  simp only [oddS, List.mem_cons, List.not_mem_nil, or_false] at hs
  rcases hs with rfl | rfl | rfl | rfl | rfl | rfl | rfl
  · rw [v_within]; rfl
  · rw [v_within]; rfl
  · rw [v_within]; rfl
  · exact nw_bl _ _ _ _
  · exact nw_non _ _ _
  · exact nw_str _ _ _ _
  · exact nw_tup _ _ _ _
theorem sv_way1 (A : At vs p v) (g : BG t m h) (hm : m < 2 ^ 48) : ∃ d h', svT (envW vs 1 p v y none) h = .ret d h' ∧ BG t (m + 400) h' ∧ NoV d := by
  have V := A.ok v A.m
  obtain ⟨o, h2, eo, g2, ho⟩ := v_pick (xs := oddS) g (by omega) (by decide) (by decide)
  obtain ⟨d, e, q⟩ := sv_row (w := 1) (o7 := none) (h := h2) (y := .tup [.str v.1, o, .int 0]) A ⟨by decide, by decide, by decide⟩ (vs_s (nm_ok V.name) (odd_s ho))
  refine ⟨d, h2, ?_, g2.up (by omega), q⟩
  have w6 : sv6 (envW vs 1 p v y none) h = .nx (envW vs 1 p v (.tup [.str v.1, o, .int 0]) none) h2 := by
    have b1 : mA1 (fCallN 2 F__law_pick []) (maCons (mVar 0) (maCons (mA1 (fLst false) (maCons (mC (.int 0)) (maCons (m1 fNeg (mC (.int 1))) (maCons (mC (.int 10001)) (maCons (mC (.bl true)) (maCons (mC .non) (maCons (mC (.str "5")) (maCons (mA1 fTup (maCons (mC (.int 5)) maNil)) maNil)))))))) maNil)) (envW vs 1 p v y none) h = .ok (.d o) h2 := by
      show ((F__law_pick [.ref 0, .lst oddS] h).bind fun d h' => R.ok (Vl.d d) h') = _
      rw [eo]
      rfl
    unfold sv6
    rw [mIfS_eq, show asB (m2 (fEq false) (mVar 2) (mC (.int 1))) (envW vs 1 p v y none) h = .ok true h from rfl]
    show mSet 6 _ (envW vs 1 p v y none) h = _
    unfold mSet
    rw [mA1_eq, maCons_eq, show mVar 4 (envW vs 1 p v y none) h = .ok (.d (.str v.1)) h from rfl, R.bind_ok, maCons_eq, b1]
    rfl
  unfold svT
  rw [mSeq_eq, s5_n (by decide), RS.seq_nx, mSeq_eq, w6, RS.seq_nx, mSeq_eq, s7_n (by decide), RS.seq_nx, mSeq_eq, s8_n (by decide), RS.seq_nx, e]
abbrev oddK (s : Int) : List D := [.int s, .int (s + 1), .int (-1), .non, .bl false, .str "0", .int 100000000000000000000]
theorem odd_k {s : Int} (h1 : 1 ≤ s) (h2 : s ≤ 10000) {k : D} (hk : k ∈ oddK s) (h : Hc) : F_is_whole_within [k, .int 0, .int (s - 1)] h = .ok (.bl false) h := by
  simp only [oddK, List.mem_cons, List.not_mem_nil, or_false] at hk
  rcases hk with rfl | rfl | rfl | rfl | rfl | rfl | rfl
  · rw [v_within, decide_eq_false (show ¬ s ≤ s - 1 by omega), Bool.and_false]
  · rw [v_within, decide_eq_false (show ¬ s + 1 ≤ s - 1 by omega), Bool.and_false]
  · rw [v_within]; rfl
  · exact nw_non _ _ _
  · exact nw_bl _ _ _ _
  · exact nw_str _ _ _ _
  · rw [v_within, decide_eq_false (show ¬ (100000000000000000000 : Int) ≤ s - 1 by omega), Bool.and_false]
theorem sv_way2 (A : At vs p v) (g : BG t m h) (hm : m < 2 ^ 48) : ∃ d h', svT (envW vs 2 p v y none) h = .ret d h' ∧ BG t (m + 400) h' ∧ NoV d := by
  have V := A.ok v A.m
  obtain ⟨o, h2, eo, g2, ho⟩ := v_pick (xs := oddK v.2.1) g (by omega) (show 0 < 7 by decide) (show 7 < 2 ^ 60 by decide)
  obtain ⟨d, e, q⟩ := sv_row (w := 2) (o7 := none) (h := h2) (y := .tup [.str v.1, .int v.2.1, o]) A ⟨by decide, by decide, by decide⟩ (vs_k (nm_ok V.name) V.s1 V.s2 (odd_k V.s1 V.s2 ho))
  refine ⟨d, h2, ?_, g2.up (by omega), q⟩
  have w7 : sv7 (envW vs 2 p v y none) h = .nx (envW vs 2 p v (.tup [.str v.1, .int v.2.1, o]) none) h2 := by
    have b0 : maCons (mVar 5) (maCons (m2 (fAdd false) (mVar 5) (mC (.int 1))) (maCons (m1 fNeg (mC (.int 1))) (maCons (mC .non) (maCons (mC (.bl false)) (maCons (mC (.str "0")) (maCons (m2 fPow (mC (.int 10)) (mC (.int 20))) maNil)))))) (envW vs 2 p v y none) h = .ok ((oddK v.2.1).map Vl.d) h := by
      have c : cPow 10 20 = true := by decide +kernel
      simp [c]
    have b1 : mA1 (fCallN 2 F__law_pick []) (maCons (mVar 0) (maCons (mA1 (fLst false) (maCons (mVar 5) (maCons (m2 (fAdd false) (mVar 5) (mC (.int 1))) (maCons (m1 fNeg (mC (.int 1))) (maCons (mC .non) (maCons (mC (.bl false)) (maCons (mC (.str "0")) (maCons (m2 fPow (mC (.int 10)) (mC (.int 20))) maNil)))))))) maNil)) (envW vs 2 p v y none) h = .ok (.d o) h2 := by
      rw [mA1_eq, maCons_eq, show mVar 0 (envW vs 2 p v y none) h = .ok (.d (.ref 0)) h from rfl, R.bind_ok, maCons_eq, mA1_eq, b0]
      show ((F__law_pick [.ref 0, .lst (oddK v.2.1)] h).bind fun d h' => R.ok (Vl.d d) h') = _
      rw [eo]
      rfl
    unfold sv7
    rw [mIfS_eq, show asB (m2 (fEq false) (mVar 2) (mC (.int 2))) (envW vs 2 p v y none) h = .ok true h from rfl]
    show mSet 6 _ (envW vs 2 p v y none) h = _
    unfold mSet
    rw [mA1_eq, maCons_eq, show mVar 4 (envW vs 2 p v y none) h = .ok (.d (.str v.1)) h from rfl, R.bind_ok, maCons_eq, show mVar 5 (envW vs 2 p v y none) h = .ok (.d (.int v.2.1)) h from rfl, R.bind_ok, maCons_eq, b1]
    rfl
  unfold svT
  rw [mSeq_eq, s5_n (by decide), RS.seq_nx, mSeq_eq, s6_n (by decide), RS.seq_nx, mSeq_eq, w7, RS.seq_nx, mSeq_eq, s8_n (by decide), RS.seq_nx, e]
abbrev oddR (v : Ve) : List D := [.lst [.str v.1, .int v.2.1, .int v.2.2], .tup [.str v.1, .int v.2.1], .tup [.str v.1, .int v.2.1, .int v.2.2, .int 0], .str v.1, .non, .tup []]
theorem odd_r {k : D} (hk : k ∈ oddR v) : Vs k false := by
  simp only [oddR, List.mem_cons, List.not_mem_nil, or_false] at hk
  rcases hk with rfl | rfl | rfl | rfl | rfl | rfl
  · exact vs_lst _
  · exact vs_t2 _ _
  · exact vs_t4 _ _ _ _
  · exact vs_str _
  · exact vs_non
  · exact vs_t0
theorem sv_way3 (A : At vs p v) (g : BG t m h) (hm : m < 2 ^ 48) : ∃ d h', svT (envW vs 3 p v y none) h = .ret d h' ∧ BG t (m + 400) h' ∧ NoV d := by
  have V := A.ok v A.m
  obtain ⟨o, h2, eo, g2, ho⟩ := v_pick (xs := oddR v) g (by omega) (show 0 < 6 by decide) (show 6 < 2 ^ 60 by decide)
  obtain ⟨d, e, q⟩ := sv_row (w := 3) (o7 := some (.d (.int v.2.2))) (h := h2) (y := o) A ⟨by decide, by decide, by decide⟩ (odd_r ho)
  refine ⟨d, h2, ?_, g2.up (by omega), q⟩
  have w8 : sv8 (envW vs 3 p v y none) h = .nx (envW vs 3 p v o (some (.d (.int v.2.2)))) h2 := by
    have b0 : mSet 7 (m2 fIx (m2 fIx (mVar 1) (mVar 3)) (mC (.int 2))) (envW vs 3 p v y none) h = .nx (envW vs 3 p v y (some (.d (.int v.2.2)))) h := by
      unfold mSet
      rw [e_at (h := h) (vs := vs) (p := p) (v := v) (d := .int v.2.2) rfl rfl A.a rfl]
      rfl
    unfold sv8
    rw [mIfS_eq, show asB (m2 (fEq false) (mVar 2) (mC (.int 3))) (envW vs 3 p v y none) h = .ok true h from rfl]
    show (mSeq _ _) (envW vs 3 p v y none) h = _
    rw [mSeq_eq, b0, RS.seq_nx]
    show ((((F__law_pick [.ref 0, .lst (oddR v)] h).bind fun d h' => R.ok (Vl.d d) h')).thenS _ _) = _
    rw [eo]
    rfl
  unfold svT
  rw [mSeq_eq, s5_n (by decide), RS.seq_nx, mSeq_eq, s6_n (by decide), RS.seq_nx, mSeq_eq, s7_n (by decide), RS.seq_nx, mSeq_eq, w8, RS.seq_nx, e]
theorem sv_way4 (A : At vs p v) (g : BG t m h) : ∃ d h', svT (envW vs 4 p v y none) h = .ret d h' ∧ BG t (m + 400) h' ∧ NoV d := by
  have V := A.ok v A.m
  have e := e_ins (env := envW vs 4 p v y none) (i := 1) (k := 3) (K := mVar 3) (M := mA1 fTup (maCons (mVar 4) (maCons (mC (.int 7)) (maCons (mC (.int 3)) maNil)))) (xs := vs.map vD) (y := vD (v.1, 7, 3)) (p := p) (b := p) (h := h) (h' := h) (fun _ => rfl) (fun _ => rfl) rfl rfl A.p0 (by rw [List.length_map]; exact Int.le_of_lt A.p1) A.p0 (by rw [List.length_map]; have := A.l; omega)
  have el : (vs.map vD).take p.toNat ++ [vD (v.1, 7, 3)] ++ (vs.map vD).drop p.toNat = (vs.take p.toNat ++ [(v.1, 7, 3)] ++ vs.drop p.toNat).map vD := by
    simp
  rw [el] at e
  refine ⟨V3 (vs.take p.toNat ++ [(v.1, 7, 3)] ++ vs.drop p.toNat), h, ?_, g.up (by omega), fun h => ?_⟩
  · unfold svT
    rw [mSeq_eq, s5_n (by decide), RS.seq_nx, mSeq_eq, s6_n (by decide), RS.seq_nx, mSeq_eq, s7_n (by decide), RS.seq_nx, mSeq_eq, s8_n (by decide), RS.seq_nx, mSeq_eq]
    have w : sv9 (envW vs 4 p v y none) h = .ret (V3 (vs.take p.toNat ++ [(v.1, 7, 3)] ++ vs.drop p.toNat)) h := by
      unfold sv9
      rw [mIfS_eq, show asB (m2 (fEq false) (mVar 2) (mC (.int 4))) (envW vs 4 p v y none) h = .ok true h from rfl]
      show mRet _ (envW vs 4 p v y none) h = _
      unfold mRet
      rw [e]
      rfl
    rw [w]
    rfl
  · have hn : ¬ ((vs.take p.toNat ++ [((v.1, 7, 3) : Ve)] ++ vs.drop p.toNat).map fun x : Ve => x.1).Nodup := by
      have z := ins_nodup (vs.map (·.1)) p.toNat (y := v.1) (List.mem_map.mpr ⟨v, A.m, rfl⟩)
      simpa using z
    have vo : ∀ z ∈ vs.take p.toNat ++ [((v.1, 7, 3) : Ve)] ++ vs.drop p.toNat, VeOk z := fun z hz => by
      rcases List.mem_append.mp hz with hz | hz
      · rcases List.mem_append.mp hz with hz | hz
        · exact A.ok z (List.mem_of_mem_take hz)
        · rw [List.mem_singleton.mp hz]
          exact ⟨V.name, show (1 : Int) ≤ 7 by decide, show (7 : Int) ≤ 10000 by decide, show (0 : Int) ≤ 3 by decide, show (3 : Int) ≤ 7 - 1 by decide⟩
      · exact A.ok z (List.mem_of_mem_drop hz)
    have lz : (vs.take p.toNat ++ [((v.1, 7, 3) : Ve)] ++ vs.drop p.toNat).length < 1000 := by
      have := A.l
      simp only [List.length_append, List.length_take, List.length_drop, List.length_cons, List.length_nil]
      omega
    rw [v_ves_all (SeqOk.lst h _) vo lz, decide_eq_false hn, Bool.and_false]
theorem sv_way5 (A : At vs p v) (g : BG t m h) (hm : m < 2 ^ 48) : ∃ d h', svT (envW vs 5 p v y none) h = .ret d h' ∧ BG t (m + 400) h' ∧ NoV d := by
  obtain ⟨ys, h1, e, g1, n, _, ly⟩ := v_lnames (tk := []) (n := 7) g (by omega) (by decide)
  have e : F__law_names [.ref 0, .int 7, .lst []] h = .ok (.lst (ys.map D.str)) h1 := e
  refine ⟨V3 (ys.map fun x => ((x, 9, 2) : Ve)), h1, ?_, g1.up (by omega), fun h => ?_⟩
  · unfold svT
    rw [mSeq_eq, s5_n (by decide), RS.seq_nx, mSeq_eq, s6_n (by decide), RS.seq_nx, mSeq_eq, s7_n (by decide), RS.seq_nx, mSeq_eq, s8_n (by decide), RS.seq_nx, mSeq_eq, s9_n (by decide), RS.seq_nx, mSeq_eq]
    have w : sv10 (envW vs 5 p v y none) h = .ret (V3 (ys.map fun x => ((x, 9, 2) : Ve))) h1 := by
      have b0 : mA1 (fCallN 3 F__law_names []) (maCons (mVar 0) (maCons (mC (.int 7)) (maCons (mA1 (fLst false) maNil) maNil))) (envW vs 5 p v y none) h = .ok (.d (.lst (ys.map D.str))) h1 := by
        show ((F__law_names [.ref 0, .int 7, .lst []] h).bind fun d h' => R.ok (Vl.d d) h') = _
        rw [e]
        rfl
      have b1 : mComp false [8] (gtN 8) mYes (mA1 fTup (maCons (mVar 8) (maCons (mC (.int 9)) (maCons (mC (.int 2)) maNil)))) (mA1 (fCallN 3 F__law_names []) (maCons (mVar 0) (maCons (mC (.int 7)) (maCons (mA1 (fLst false) maNil) maNil)))) (envW vs 5 p v y none) h = .ok (.d (V3 (ys.map fun x => ((x, 9, 2) : Ve)))) h1 := by
        unfold mComp
        rw [b0, R.bind_ok]
        show compL false (gtN 8) mYes (mA1 fTup (maCons (mVar 8) (maCons (mC (.int 9)) (maCons (mC (.int 2)) maNil)))) (ys.map D.str) [] (wipeE (envW vs 5 p v y none) [8]) h1 = _
        rw [comp_all false 8 (mA1 fTup (maCons (mVar 8) (maCons (mC (.int 9)) (maCons (mC (.int 2)) maNil)))) (fun x => .tup [x, .int 9, .int 2]) _ h1 (ys.map D.str) (fun z hz => rfl) (by rw [List.length_map]; omega), List.map_map]
        show R.ok (Vl.d (.lst _)) h1 = R.ok (Vl.d (.lst ((ys.map fun x => ((x, 9, 2) : Ve)).map vD))) h1
        rw [List.map_map]
        rfl
      unfold sv10
      rw [mIfS_eq, show asB (m2 (fEq false) (mVar 2) (mC (.int 5))) (envW vs 5 p v y none) h = .ok true h from rfl]
      show mRet _ (envW vs 5 p v y none) h = _
      unfold mRet
      rw [b1]
      rfl
    rw [w]
    rfl
  · have lz : (ys.map fun x => ((x, 9, 2) : Ve)).length = 7 := by rw [List.length_map]; exact ly
    have vo : ∀ z ∈ (ys.map fun x => ((x, 9, 2) : Ve)), VeOk z := fun z hz => by
      obtain ⟨x, hx, rfl⟩ := List.mem_map.mp hz
      exact ⟨n.ok x hx, show (1 : Int) ≤ 9 by decide, show (9 : Int) ≤ 10000 by decide, show (0 : Int) ≤ 2 by decide, show (2 : Int) ≤ 9 - 1 by decide⟩
    rw [v_ves_all (SeqOk.lst h _) vo (by omega), lz]
    rfl
abbrev oddV : List D := [.lst [], .tup [], .non, .str "v", .int 8]
theorem odd_v {d : D} (hd : d ∈ oddV) : NoV d := by
  simp only [oddV, List.mem_cons, List.not_mem_nil, or_false] at hd
  rcases hd with rfl | rfl | rfl | rfl | rfl
  · exact fun h => v_ves_all (vs := []) (SeqOk.lst h _) (fun _ z => nomatch z) (by decide)
  · exact fun h => v_ves_all (vs := []) (SeqOk.tup h _) (fun _ z => nomatch z) (by decide)
  · exact fun h => rfl
  · exact fun h => rfl
  · exact fun h => rfl
theorem sv_way6 (A : At vs p v) (g : BG t m h) (hm : m < 2 ^ 48) : ∃ d h', svT (envW vs 6 p v y none) h = .ret d h' ∧ BG t (m + 400) h' ∧ NoV d := by
  obtain ⟨o, h2, eo, g2, ho⟩ := v_pick (xs := oddV) g (by omega) (by decide) (by decide)
  refine ⟨o, h2, ?_, g2.up (by omega), odd_v ho⟩
  unfold svT
  rw [mSeq_eq, s5_n (by decide), RS.seq_nx, mSeq_eq, s6_n (by decide), RS.seq_nx, mSeq_eq, s7_n (by decide), RS.seq_nx, mSeq_eq, s8_n (by decide), RS.seq_nx, mSeq_eq, s9_n (by decide), RS.seq_nx, mSeq_eq, s10_n (by decide), RS.seq_nx, mSeq_eq]
  have w : sv11 (envW vs 6 p v y none) h = .ret o h2 := by
    unfold sv11
    rw [mIfS_eq, show asB (m2 (fEq false) (mVar 2) (mC (.int 6))) (envW vs 6 p v y none) h = .ok true h from rfl]
    show ((((F__law_pick [.ref 0, .lst oddV] h).bind fun d h' => R.ok (Vl.d d) h')).thenS _ _) = _
    rw [eo]
    rfl
  rw [w]
  rfl
end
/-- spoilt vessels: no row of vessels -/
theorem v_spoilt_vessels {t : Hc} {m : Int} {h : Hc} {vs : List Ve} (g : BG t m h) (hm : m < 2 ^ 47) (hx : Ves vs) (h1 : 1 ≤ vs.length) (hl : vs.length ≤ 6) : ∃ d h', F__law_p3_spoilt_vessels [.ref 0, V3 vs] h = .ok d h' ∧ BG t (m + 500) h' ∧ NoV d := by
  obtain ⟨r, ha, e1, g1, r0, r1, _⟩ := v_draw (many := 8) g (by omega) (by omega) (by omega)
  have r1 := r1 (by omega)
  obtain ⟨p, hb, e2, g2, p0, p1, p2⟩ := v_draw (many := (vs.length : Int)) g1 (by omega) (by omega) (by omega)
  have hp : p < vs.length := by
    by_cases hz : (2 : Int) ≤ (vs.length : Int)
    · exact p1 hz
    · rw [p2 (by omega)]
      omega
  obtain ⟨y, ey, hy⟩ := atI_get (xs := vs.map vD) p0 (by rw [List.length_map]; exact hp)
  obtain ⟨v, hv, rfl⟩ := List.mem_map.mp hy
  have A : At vs p v := ⟨hx.ok, hl, hx.nodup, p0, hp, ey, hv⟩
  have go : ∃ d h', svT (envW vs r p v (.tup [.str v.1, .int v.2.1, .int v.2.1]) none) hb = .ret d h' ∧ BG t (m + 1 + 1 + 400) h' ∧ NoV d := by
    have : r = 0 ∨ r = 1 ∨ r = 2 ∨ r = 3 ∨ r = 4 ∨ r = 5 ∨ r = 6 ∨ r = 7 := by omega
    rcases this with rfl | rfl | rfl | rfl | rfl | rfl | rfl | rfl
    · exact sv_way0 A g2 (by omega)
    · exact sv_way1 A g2 (by omega)
    · exact sv_way2 A g2 (by omega)
    · exact sv_way3 A g2 (by omega)
    · exact sv_way4 A g2
    · exact sv_way5 A g2 (by omega)
    · exact sv_way6 A g2 (by omega)
    · exact sv_way7 A g2
  obtain ⟨d, hc, e3, g3, q⟩ := go
  refine ⟨d, hc, ?_, g3.up (by omega), q⟩
  refine (fnOf_eq 9 2 m__law_p3_spoilt_vessels _ h rfl).trans ?_
  have w1 : sv0 (mkEnv 9 [.ref 0, V3 vs]) h = .nx [some (.d (.ref 0)), some (.d (V3 vs)), some (.d (.int r)), none, none, none, none, none, none] ha := by
    show ((((F__law_draw [.ref 0, .int 8] h).bind fun d h' => R.ok (Vl.d d) h')).thenS _ _) = _
    rw [e1]
    rfl
  have w2 : sv1 [some (.d (.ref 0)), some (.d (V3 vs)), some (.d (.int r)), none, none, none, none, none, none] ha = .nx [some (.d (.ref 0)), some (.d (V3 vs)), some (.d (.int r)), some (.d (.int p)), none, none, none, none, none] hb := by
    have e2 : F__law_draw [.ref 0, .int ((vs.map vD).length : Int)] ha = .ok (.int p) hb := by rw [List.length_map]; exact e2
    show ((((F__law_draw [.ref 0, .int ((vs.map vD).length : Int)] ha).bind fun d h' => R.ok (Vl.d d) h')).thenS _ _) = _
    rw [e2]
    rfl
  have w3 : sv2 [some (.d (.ref 0)), some (.d (V3 vs)), some (.d (.int r)), some (.d (.int p)), none, none, none, none, none] hb = .nx [some (.d (.ref 0)), some (.d (V3 vs)), some (.d (.int r)), some (.d (.int p)), some (.d (.str v.1)), none, none, none, none] hb := by
    unfold sv2 mSet
    rw [e_at (h := hb) (vs := vs) (p := p) (v := v) (d := .str v.1) rfl rfl A.a rfl]
    rfl
  have w4 : sv3 [some (.d (.ref 0)), some (.d (V3 vs)), some (.d (.int r)), some (.d (.int p)), some (.d (.str v.1)), none, none, none, none] hb = .nx [some (.d (.ref 0)), some (.d (V3 vs)), some (.d (.int r)), some (.d (.int p)), some (.d (.str v.1)), some (.d (.int v.2.1)), none, none, none] hb := by
    unfold sv3 mSet
    rw [e_at (h := hb) (vs := vs) (p := p) (v := v) (d := .int v.2.1) rfl rfl A.a rfl]
    rfl
  have w5 : sv4 [some (.d (.ref 0)), some (.d (V3 vs)), some (.d (.int r)), some (.d (.int p)), some (.d (.str v.1)), some (.d (.int v.2.1)), none, none, none] hb = .nx (envW vs r p v (.tup [.str v.1, .int v.2.1, .int v.2.1]) none) hb := rfl
  rw [sv_go, mSeq_eq, w1, RS.seq_nx, mSeq_eq, w2, RS.seq_nx, mSeq_eq, w3, RS.seq_nx, mSeq_eq, w4, RS.seq_nx, mSeq_eq, w5, RS.seq_nx, e3]
  rfl
end G02

set_option Elab.async false
set_option linter.all false
set_option maxRecDepth 100000
set_option maxHeartbeats 4000000
set_option exponentiation.threshold 2000
namespace G02
open PySem L2 Vi
def an0 : MS := (mSet 4 (mA1 (fCallN 2 F__law_draw []) (maCons (mVar 0) (maCons (mC (.int 6)) maNil))))
def an1 : MS := (mSet 5 (mA1 (fLst true) (maCons (m1 (fRev false) (mVar 1)) (maCons (mA1 fTuple (maCons (m1 (fRev false) (mVar 2)) maNil)) (maCons (mA1 (fList false) (maCons (mVar 3) maNil)) maNil)))))
def an2 : MS := (mIfS (asB (m2 (fEq false) (mVar 4) (mC (.int 1)))) (mSetIxO 5 (m2 (fAdd false) (mA1 (fLst false) (maCons (mA1 (fCallN 2 F__law_name []) (maCons (mVar 0) (maCons (mVar 1) maNil))) maNil)) (mSl false (mVar 1) (moS (mC (.int 1))) moN)) (mC (.int 0))) mSkip)
def an3 : MS := (mIfS (asB (m2 (fEq false) (mVar 4) (mC (.int 2)))) (mSetIxO 5 (mSl false (mVar 2) (moS (mC (.int 1))) moN) (mC (.int 1))) mSkip)
def an4 : MS := (mIfS (asB (m2 (fEq false) (mVar 4) (mC (.int 3)))) (mSetIxO 5 (mA1 fTuple (maCons (m1 (fRev false) (mVar 3)) maNil)) (mC (.int 2))) mSkip)
def an5 : MS := (mIfS (asB (m2 (fEq false) (mVar 4) (mC (.int 4)))) (mSetIxO 5 (m2 (fAdd false) (mA1 (fLst false) (maCons (mA1 fTup (maCons (m2 fIx (m2 fIx (mVar 3) (mC (.int 0))) (mC (.int 0))) (maCons (mC (.int 10000)) (maCons (m2 (fAdd false) (mC (.int 1)) (mA1 (fCallN 2 F__law_draw []) (maCons (mVar 0) (maCons (mC (.int 9999)) maNil)))) maNil)))) maNil)) (mSl false (mVar 3) (moS (mC (.int 1))) moN)) (mC (.int 2))) mSkip)
def an6 : MS := (mIfS (asB (m2 (fEq false) (mVar 4) (mC (.int 5)))) (mSetIxO 5 (mSl false (mVar 3) moN (moS (mC (.int 1)))) (mC (.int 2))) mSkip)
def an7 : MS := (mFrz 5 (mRet (mVar 5)))
def anT' : MS := mSeq an2 (mSeq an3 (mSeq an4 (mSeq an5 (mSeq an6 an7))))
theorem an_go : m__law_p3_another = mSeq an0 (mSeq an1 anT') := rfl
def isSeq (d : D) (xs : List D) : Prop := d = .lst xs ∨ d = .tup xs
theorem isSeq.ok {d : D} {xs : List D} (s : isSeq d xs) (h : Hc) : SeqOk h d xs := by
  rcases s with rfl | rfl
  · exact SeqOk.lst h _
  · exact SeqOk.tup h _
theorem isSeq.list {d : D} {xs : List D} (s : isSeq d xs) (h : Hc) : fList false [.d d] h = .ok (.d (.lst xs)) h := by
  rcases s with rfl | rfl
  · rfl
  · rfl
/-- another plant's parts -/
structure Oth (a b c : D) (fx tx : List PySem.Str) (vs : List Ve) : Prop where
  sf : isSeq a (fx.map D.str)
  st : isSeq b (tx.map D.str)
  sv : isSeq c (vs.map vD)
  g : Good3 fx tx vs
theorem Oth.parts {a b c : D} {fx tx : List PySem.Str} {vs : List Ve} (o : Oth a b c fx tx vs) (h : Hc) : Parts h a b c fx tx vs := ⟨o.sf.ok h, o.st.ok h, o.sv.ok h⟩
abbrev envA (fx tx : List PySem.Str) (vs : List Ve) (w : Int) (a b c : D) : Vi.Env := [some (.d (.ref 0)), some (.d (L3 fx)), some (.d (L3 tx)), some (.d (V3 vs)), some (.d (.int w)), some (.ol [a, b, c])]
theorem e_setO {i : Nat} {env : Vi.Env} {xs : List D} {e : ME} {d : D} {k : Int} {j : Nat} {h h' : Hc} (h5 : env[i]? = some (some (.ol xs))) (he : e env h = .ok (.d d) h') (hj : ixN xs.length k = some j) : mSetIxO i e (mC (.int k)) env h = .nx (env.set i (some (.ol (xs.set j d)))) h' := by
  unfold mSetIxO
  rw [h5]
  dsimp only
  rw [he]
  show fSetIxO i env xs (.d d) (.d (.int k)) h' = _
  unfold fSetIxO
  dsimp only
  rw [hj]
section
variable {t : Hc} {m w : Int} {h h' : Hc} {fx tx : List PySem.Str} {vs : List Ve} {a b c : D}
theorem a2_n (hw : w ≠ 1) : an2 (envA fx tx vs w a b c) h = .nx (envA fx tx vs w a b c) h := by
  unfold an2
  rw [mIfS_eq, show asB (m2 (fEq false) (mVar 4) (mC (.int 1))) (envA fx tx vs w a b c) h = .ok (decide (w = 1)) h from rfl, decide_eq_false hw]
  rfl
theorem a3_n (hw : w ≠ 2) : an3 (envA fx tx vs w a b c) h = .nx (envA fx tx vs w a b c) h := by
  unfold an3
  rw [mIfS_eq, show asB (m2 (fEq false) (mVar 4) (mC (.int 2))) (envA fx tx vs w a b c) h = .ok (decide (w = 2)) h from rfl, decide_eq_false hw]
  rfl
theorem a4_n (hw : w ≠ 3) : an4 (envA fx tx vs w a b c) h = .nx (envA fx tx vs w a b c) h := by
  unfold an4
  rw [mIfS_eq, show asB (m2 (fEq false) (mVar 4) (mC (.int 3))) (envA fx tx vs w a b c) h = .ok (decide (w = 3)) h from rfl, decide_eq_false hw]
  rfl
theorem a5_n (hw : w ≠ 4) : an5 (envA fx tx vs w a b c) h = .nx (envA fx tx vs w a b c) h := by
  unfold an5
  rw [mIfS_eq, show asB (m2 (fEq false) (mVar 4) (mC (.int 4))) (envA fx tx vs w a b c) h = .ok (decide (w = 4)) h from rfl, decide_eq_false hw]
  rfl
theorem a6_n (hw : w ≠ 5) : an6 (envA fx tx vs w a b c) h = .nx (envA fx tx vs w a b c) h := by
  unfold an6
  rw [mIfS_eq, show asB (m2 (fEq false) (mVar 4) (mC (.int 5))) (envA fx tx vs w a b c) h = .ok (decide (w = 5)) h from rfl, decide_eq_false hw]
  rfl
theorem a7_e : an7 (envA fx tx vs w a b c) h = .ret (.lst [a, b, c]) h := rfl
theorem names_drop (n : Names fx) (k : Nat) : Names (fx.drop k) := ⟨fun x hx => n.ok x (List.mem_of_mem_drop hx), n.nodup.sublist (List.drop_sublist k fx)⟩
theorem an_way1 (G : Good3 fx tx vs) (g : BG t m h) (hm : m < 2 ^ 48) : ∃ h' a' fx', anT' (envA fx tx vs 1 (L3 fx.reverse) b c) h = .ret (.lst [a', b, c]) h' ∧ BG t (m + 40) h' ∧ isSeq a' (fx'.map D.str) ∧ Names fx' ∧ 1 ≤ fx'.length ∧ fx'.length ≤ 4 := by
  obtain ⟨y, h2, e, g2, ny, hy⟩ := v_lname (tk := fx) g (by omega) (by have := G.f4; omega)
  have ld : (fx.drop 1).length ≤ 3 := by rw [List.length_drop]; have := G.f4; omega
  refine ⟨h2, L3 (y :: fx.drop 1), y :: fx.drop 1, ?_, g2.up (by omega), .inl rfl, ⟨fun x hx => ?_, List.nodup_cons.mpr ⟨fun z => hy (List.mem_of_mem_drop z), (names_drop G.nf 1).nodup⟩⟩, by simp, by simp only [List.length_cons]; omega⟩
  · have e1 : m2 (fAdd false) (mA1 (fLst false) (maCons (mA1 (fCallN 2 F__law_name []) (maCons (mVar 0) (maCons (mVar 1) maNil))) maNil)) (mSl false (mVar 1) (moS (mC (.int 1))) moN) (envA fx tx vs 1 (L3 fx.reverse) b c) h = .ok (.d (L3 (y :: fx.drop 1))) h2 := by
      have b1 : mA1 (fLst false) (maCons (mA1 (fCallN 2 F__law_name []) (maCons (mVar 0) (maCons (mVar 1) maNil))) maNil) (envA fx tx vs 1 (L3 fx.reverse) b c) h = .ok (.d (.lst [.str y])) h2 := by
        show ((((((F__law_name [.ref 0, L3 fx] h).bind fun d h' => R.ok (Vl.d d) h')).bind fun x h1 => R.ok [x] h1)).bind fun xs h2 => fLst false xs h2) = _
        rw [e]
        rfl
      have b2 : mSl false (mVar 1) (moS (mC (.int 1))) moN (envA fx tx vs 1 (L3 fx.reverse) b c) h2 = .ok (.d (.lst ((fx.map D.str).drop 1))) h2 := sl_from (fx.map D.str) (p := 1) (by decide) h2
      rw [m2_eq, b1, R.bind_ok, b2, R.bind_ok, add_l _ _ _ (by simp only [List.length_cons, List.length_nil, List.length_drop, List.length_map]; have := G.f4; omega), ← List.map_drop]
      rfl
    have w2 : an2 (envA fx tx vs 1 (L3 fx.reverse) b c) h = .nx (envA fx tx vs 1 (L3 (y :: fx.drop 1)) b c) h2 := by
      unfold an2
      rw [mIfS_eq, show asB (m2 (fEq false) (mVar 4) (mC (.int 1))) (envA fx tx vs 1 (L3 fx.reverse) b c) h = .ok true h from rfl]
      show mSetIxO 5 _ (mC (.int 0)) (envA fx tx vs 1 (L3 fx.reverse) b c) h = _
      rw [e_setO (xs := [L3 fx.reverse, b, c]) (j := 0) rfl e1 rfl]
      rfl
    unfold anT'
    rw [mSeq_eq, w2, RS.seq_nx, mSeq_eq, a3_n (by decide), RS.seq_nx, mSeq_eq, a4_n (by decide), RS.seq_nx, mSeq_eq, a5_n (by decide), RS.seq_nx, mSeq_eq, a6_n (by decide), RS.seq_nx, a7_e]
  · rcases List.mem_cons.mp hx with rfl | hx
    · exact ny
    · exact G.nf.ok x (List.mem_of_mem_drop hx)
theorem an_way2 : anT' (envA fx tx vs 2 a b c) h = .ret (.lst [a, L3 (tx.drop 1), c]) h := by
  have w3 : an3 (envA fx tx vs 2 a b c) h = .nx (envA fx tx vs 2 a (L3 (tx.drop 1)) c) h := by
    have b2 : mSl false (mVar 2) (moS (mC (.int 1))) moN (envA fx tx vs 2 a b c) h = .ok (.d (L3 (tx.drop 1))) h := by
      show _ = R.ok (Vl.d (.lst ((tx.drop 1).map D.str))) h
      rw [List.map_drop]
      exact sl_from (tx.map D.str) (p := 1) (by decide) h
    unfold an3
    rw [mIfS_eq, show asB (m2 (fEq false) (mVar 4) (mC (.int 2))) (envA fx tx vs 2 a b c) h = .ok true h from rfl, R.thenS_ok, pick_t]
    rw [e_setO (xs := [a, b, c]) (j := 1) rfl b2 rfl]
    rfl
  unfold anT'
  rw [mSeq_eq, a2_n (by decide), RS.seq_nx, mSeq_eq, w3, RS.seq_nx, mSeq_eq, a4_n (by decide), RS.seq_nx, mSeq_eq, a5_n (by decide), RS.seq_nx, mSeq_eq, a6_n (by decide), RS.seq_nx, a7_e]
theorem an_way3 : anT' (envA fx tx vs 3 a b c) h = .ret (.lst [a, b, .tup (vs.reverse.map vD)]) h := by
  have w4 : an4 (envA fx tx vs 3 a b c) h = .nx (envA fx tx vs 3 a b (.tup (vs.reverse.map vD))) h := by
    have b2 : mA1 fTuple (maCons (m1 (fRev false) (mVar 3)) maNil) (envA fx tx vs 3 a b c) h = .ok (.d (.tup (vs.reverse.map vD))) h := by
      rw [List.map_reverse]
      rfl
    unfold an4
    rw [mIfS_eq, show asB (m2 (fEq false) (mVar 4) (mC (.int 3))) (envA fx tx vs 3 a b c) h = .ok true h from rfl, R.thenS_ok, pick_t]
    rw [e_setO (xs := [a, b, c]) (j := 2) rfl b2 rfl]
    rfl
  unfold anT'
  rw [mSeq_eq, a2_n (by decide), RS.seq_nx, mSeq_eq, a3_n (by decide), RS.seq_nx, mSeq_eq, w4, RS.seq_nx, mSeq_eq, a5_n (by decide), RS.seq_nx, mSeq_eq, a6_n (by decide), RS.seq_nx, a7_e]
theorem at0 {α : Type} (x : α) (xs : List α) : atI (x :: xs) 0 = some x := by
  unfold atI ixN
  rw [if_pos (by decide), if_pos (by rw [List.length_cons]; omega)]
  rfl
theorem an_way4 (G : Good3 fx tx vs) (g : BG t m h) (hm : m < 2 ^ 48) : ∃ h' vs', anT' (envA fx tx vs 4 a b c) h = .ret (.lst [a, b, V3 vs']) h' ∧ BG t (m + 40) h' ∧ Ves vs' ∧ 1 ≤ vs'.length ∧ vs'.length ≤ 6 := by
  obtain ⟨r, h2, e, g2, r0, r1, _⟩ := v_draw (many := 9999) g (by omega) (by omega) (by omega)
  have r1 := r1 (by omega)
  match vs, G with
  | [], G => exact absurd G.v1 (by decide)
  | v :: vr, G =>
    have V := G.nv.ok v (List.mem_cons_self ..)
    refine ⟨h2, (v.1, 10000, 1 + r) :: vr, ?_, g2.up (by omega), ⟨fun z hz => ?_, G.nv.nodup⟩, by simp, G.v6⟩
    · have e1 : m2 (fAdd false) (mA1 (fLst false) (maCons (mA1 fTup (maCons (m2 fIx (m2 fIx (mVar 3) (mC (.int 0))) (mC (.int 0))) (maCons (mC (.int 10000)) (maCons (m2 (fAdd false) (mC (.int 1)) (mA1 (fCallN 2 F__law_draw []) (maCons (mVar 0) (maCons (mC (.int 9999)) maNil)))) maNil)))) maNil)) (mSl false (mVar 3) (moS (mC (.int 1))) moN) (envA fx tx (v :: vr) 4 a b c) h = .ok (.d (V3 ((v.1, 10000, 1 + r) :: vr))) h2 := by
        have c1 : m2 fIx (m2 fIx (mVar 3) (mC (.int 0))) (mC (.int 0)) (envA fx tx (v :: vr) 4 a b c) h = .ok (.d (.str v.1)) h := by
          have z : fIx (.d (.lst (vD v :: vr.map vD))) (.d (.int 0)) h = .ok (.d (vD v)) h := by
            rw [fIx_lst, at0]
          rw [m2_eq, m2_eq]
          show (((fIx (.d (.lst (vD v :: vr.map vD))) (.d (.int 0)) h)).bind _) = _
          rw [z]
          rfl
        have c2 : m2 (fAdd false) (mC (.int 1)) (mA1 (fCallN 2 F__law_draw []) (maCons (mVar 0) (maCons (mC (.int 9999)) maNil))) (envA fx tx (v :: vr) 4 a b c) h = .ok (.d (.int (1 + r))) h2 := by
          show (((F__law_draw [.ref 0, .int 9999] h).bind fun d h' => R.ok (Vl.d d) h').bind fun y h2 => fAdd false (.d (.int 1)) y h2) = _
          rw [e]
          rfl
        have b1 : mA1 (fLst false) (maCons (mA1 fTup (maCons (m2 fIx (m2 fIx (mVar 3) (mC (.int 0))) (mC (.int 0))) (maCons (mC (.int 10000)) (maCons (m2 (fAdd false) (mC (.int 1)) (mA1 (fCallN 2 F__law_draw []) (maCons (mVar 0) (maCons (mC (.int 9999)) maNil)))) maNil)))) maNil) (envA fx tx (v :: vr) 4 a b c) h = .ok (.d (.lst [vD (v.1, 10000, 1 + r)])) h2 := by
          rw [mA1_eq, maCons_eq, mA1_eq, maCons_eq, c1, R.bind_ok, maCons_eq, show mC (.int 10000) (envA fx tx (v :: vr) 4 a b c) h = .ok (.d (.int 10000)) h from rfl, R.bind_ok, maCons_eq, c2]
          rfl
        have b2 : mSl false (mVar 3) (moS (mC (.int 1))) moN (envA fx tx (v :: vr) 4 a b c) h2 = .ok (.d (.lst (((v :: vr).map vD).drop 1))) h2 := sl_from ((v :: vr).map vD) (p := 1) (by decide) h2
        have lv := G.v6
        rw [m2_eq, b1, R.bind_ok, b2, R.bind_ok, add_l _ _ _ (by simp only [List.length_cons, List.length_nil, List.length_drop, List.length_map] at lv ⊢; omega)]
        rfl
      have w5 : an5 (envA fx tx (v :: vr) 4 a b c) h = .nx (envA fx tx (v :: vr) 4 a b (V3 ((v.1, 10000, 1 + r) :: vr))) h2 := by
        unfold an5
        rw [mIfS_eq, show asB (m2 (fEq false) (mVar 4) (mC (.int 4))) (envA fx tx (v :: vr) 4 a b c) h = .ok true h from rfl]
        show mSetIxO 5 _ (mC (.int 2)) (envA fx tx (v :: vr) 4 a b c) h = _
        rw [e_setO (xs := [a, b, c]) (j := 2) rfl e1 rfl]
        rfl
      unfold anT'
      rw [mSeq_eq, a2_n (by decide), RS.seq_nx, mSeq_eq, a3_n (by decide), RS.seq_nx, mSeq_eq, a4_n (by decide), RS.seq_nx, mSeq_eq, w5, RS.seq_nx, mSeq_eq, a6_n (by decide), RS.seq_nx, a7_e]
    · rcases List.mem_cons.mp hz with rfl | hz
      · exact ⟨V.name, show (1 : Int) ≤ 10000 by decide, show (10000 : Int) ≤ 10000 by decide, show (0 : Int) ≤ 1 + r by omega, show (1 + r : Int) ≤ 10000 - 1 by omega⟩
      · exact G.nv.ok z (List.mem_cons_of_mem _ hz)
theorem an_way5 (hv : 1 ≤ vs.length) : anT' (envA fx tx vs 5 a b c) h = .ret (.lst [a, b, V3 (vs.take 1)]) h := by
  have w6 : an6 (envA fx tx vs 5 a b c) h = .nx (envA fx tx vs 5 a b (V3 (vs.take 1))) h := by
    have b2 : mSl false (mVar 3) moN (moS (mC (.int 1))) (envA fx tx vs 5 a b c) h = .ok (.d (V3 (vs.take 1))) h := by
      show _ = R.ok (Vl.d (.lst ((vs.take 1).map vD))) h
      rw [List.map_take]
      exact sl_to (vs.map vD) (p := 1) (by decide) (by rw [List.length_map]; omega) h
    unfold an6
    rw [mIfS_eq, show asB (m2 (fEq false) (mVar 4) (mC (.int 5))) (envA fx tx vs 5 a b c) h = .ok true h from rfl, R.thenS_ok, pick_t]
    rw [e_setO (xs := [a, b, c]) (j := 2) rfl b2 rfl]
    rfl
  unfold anT'
  rw [mSeq_eq, a2_n (by decide), RS.seq_nx, mSeq_eq, a3_n (by decide), RS.seq_nx, mSeq_eq, a4_n (by decide), RS.seq_nx, mSeq_eq, a5_n (by decide), RS.seq_nx, mSeq_eq, w6, RS.seq_nx, a7_e]
theorem an_way0 : anT' (envA fx tx vs 0 a b c) h = .ret (.lst [a, b, c]) h := by
  unfold anT'
  rw [mSeq_eq, a2_n (by decide), RS.seq_nx, mSeq_eq, a3_n (by decide), RS.seq_nx, mSeq_eq, a4_n (by decide), RS.seq_nx, mSeq_eq, a5_n (by decide), RS.seq_nx, mSeq_eq, a6_n (by decide), RS.seq_nx, a7_e]
end
theorem Names.rev {xs : List PySem.Str} (n : Names xs) : Names xs.reverse := ⟨fun x hx => n.ok x (List.mem_reverse.mp hx), (List.reverse_perm xs).nodup_iff.mpr n.nodup⟩
/-- another plant's parts are drawn -/
theorem v_another {t : Hc} {m : Int} {h : Hc} {fx tx : List PySem.Str} {vs : List Ve} (g : BG t m h) (hm : m < 2 ^ 47) (G : Good3 fx tx vs) : ∃ a b c fx' tx' vs' h', F__law_p3_another [.ref 0, L3 fx, L3 tx, V3 vs] h = .ok (.lst [a, b, c]) h' ∧ BG t (m + 50) h' ∧ Oth a b c fx' tx' vs' := by
  obtain ⟨r, h1, e1, g1, r0, r1, _⟩ := v_draw (many := 6) g (by omega) (by omega) (by omega)
  have r1 := r1 (by omega)
  have sa : isSeq (L3 fx.reverse) (fx.reverse.map D.str) := .inl rfl
  have sb : isSeq (.tup (tx.reverse.map D.str)) (tx.reverse.map D.str) := .inr rfl
  have sc : isSeq (V3 vs) (vs.map vD) := .inl rfl
  have ga : Names fx.reverse ∧ 1 ≤ fx.reverse.length ∧ fx.reverse.length ≤ 4 := ⟨G.nf.rev, by rw [List.length_reverse]; exact G.f1, by rw [List.length_reverse]; exact G.f4⟩
  have gb : Names tx.reverse ∧ tx.reverse.length ≤ 4 := ⟨G.nt.rev, by rw [List.length_reverse]; exact G.t4⟩
  have go : ∃ a b c fx' tx' vs' h', anT' (envA fx tx vs r (L3 fx.reverse) (.tup (tx.reverse.map D.str)) (V3 vs)) h1 = .ret (.lst [a, b, c]) h' ∧ BG t (m + 1 + 40) h' ∧ Oth a b c fx' tx' vs' := by
    have : r = 0 ∨ r = 1 ∨ r = 2 ∨ r = 3 ∨ r = 4 ∨ r = 5 := by omega
    rcases this with rfl | rfl | rfl | rfl | rfl | rfl
    · exact ⟨_, _, _, _, _, _, h1, an_way0, g1.up (by omega), sa, sb, sc, ga.1, ga.2.1, ga.2.2, gb.1, gb.2, G.nv, G.v1, G.v6⟩
    · obtain ⟨h', a', fx', e, g', s, n, n1, n4⟩ := an_way1 (b := .tup (tx.reverse.map D.str)) (c := V3 vs) G g1 (by omega)
      exact ⟨_, _, _, _, _, _, h', e, g', s, sb, sc, n, n1, n4, gb.1, gb.2, G.nv, G.v1, G.v6⟩
    · exact ⟨_, _, _, _, _, _, h1, an_way2, g1.up (by omega), sa, .inl rfl, sc, ga.1, ga.2.1, ga.2.2, names_drop G.nt 1, by rw [List.length_drop]; have := G.t4; omega, G.nv, G.v1, G.v6⟩
    · refine ⟨_, _, _, _, _, vs.reverse, h1, an_way3, g1.up (by omega), sa, sb, .inr rfl, ga.1, ga.2.1, ga.2.2, gb.1, gb.2, ⟨fun v hv => G.nv.ok v (List.mem_reverse.mp hv), ?_⟩, by rw [List.length_reverse]; exact G.v1, by rw [List.length_reverse]; exact G.v6⟩
      rw [List.map_reverse]
      exact (List.reverse_perm _).nodup_iff.mpr G.nv.nodup
    · obtain ⟨h', vs', e, g', n, n1, n6⟩ := an_way4 (a := L3 fx.reverse) (b := .tup (tx.reverse.map D.str)) (c := V3 vs) G g1 (by omega)
      exact ⟨_, _, _, _, _, _, h', e, g', sa, sb, .inl rfl, ga.1, ga.2.1, ga.2.2, gb.1, gb.2, n, n1, n6⟩
    · refine ⟨_, _, _, _, _, vs.take 1, h1, an_way5 G.v1, g1.up (by omega), sa, sb, .inl rfl, ga.1, ga.2.1, ga.2.2, gb.1, gb.2, ⟨fun v hv => G.nv.ok v (List.mem_of_mem_take hv), ?_⟩, by rw [List.length_take]; have := G.v1; omega, by rw [List.length_take]; omega⟩
      rw [List.map_take]
      exact G.nv.nodup.sublist (List.take_sublist 1 _)
  obtain ⟨a, b, c, fx', tx', vs', h2, e2, g2, o⟩ := go
  refine ⟨a, b, c, fx', tx', vs', h2, ?_, g2.up (by omega), o⟩
  refine (fnOf_eq 6 4 m__law_p3_another _ h rfl).trans ?_
  have w0 : an0 (mkEnv 6 [.ref 0, L3 fx, L3 tx, V3 vs]) h = .nx [some (.d (.ref 0)), some (.d (L3 fx)), some (.d (L3 tx)), some (.d (V3 vs)), some (.d (.int r)), none] h1 := by
    show ((((F__law_draw [.ref 0, .int 6] h).bind fun d h' => R.ok (Vl.d d) h')).thenS _ _) = _
    rw [e1]
    rfl
  have w1 : an1 [some (.d (.ref 0)), some (.d (L3 fx)), some (.d (L3 tx)), some (.d (V3 vs)), some (.d (.int r)), none] h1 = .nx (envA fx tx vs r (L3 fx.reverse) (.tup (tx.reverse.map D.str)) (V3 vs)) h1 := by
    show _ = RS.nx [some (.d (.ref 0)), some (.d (L3 fx)), some (.d (L3 tx)), some (.d (V3 vs)), some (.d (.int r)), some (.ol [.lst (fx.reverse.map D.str), .tup (tx.reverse.map D.str), V3 vs])] h1
    rw [List.map_reverse, List.map_reverse]
    rfl
  rw [an_go, mSeq_eq, w0, RS.seq_nx, mSeq_eq, w1, RS.seq_nx, e2]
  rfl
end G02

set_option Elab.async false
set_option linter.all false
set_option maxRecDepth 100000
set_option maxHeartbeats 4000000
set_option exponentiation.threshold 2000
namespace G02
open PySem L2 Vi
/-! ### two plants alike -/
structure Sq (xs : List D) : Prop where
  d : dats xs = true
  l : PyData.canLayAll0 (toPs xs) = true
  k : PyData.depthAll (toPs xs) ≤ 3
def eqL (xs ys : List D) : Bool := PyData.eqvAll (toPs xs) (toPs ys)
theorem eqL_comm (xs ys : List D) : eqL xs ys = eqL ys xs := PySem.W.eqvAll_comm _ _
theorem sq_shp {xs : List D} (s : Sq xs) : shp (.lst xs) = true ∧ shp (.tup xs) = true := by
  have := s.k
  refine ⟨?_, ?_⟩
  · show (PyData.canLay0 (.list (toPs xs)) && decide (PyData.depth (.list (toPs xs)) ≤ 64)) = true
    rw [show PyData.canLay0 (.list (toPs xs)) = true by simpa [PyData.canLay0] using s.l]
    exact decide_eq_true (by simp only [PyData.depth]; omega)
  · show (PyData.canLay0 (.tuple (toPs xs)) && decide (PyData.depth (.tuple (toPs xs)) ≤ 64)) = true
    rw [show PyData.canLay0 (.tuple (toPs xs)) = true by simpa [PyData.canLay0] using s.l]
    exact decide_eq_true (by simp only [PyData.depth]; omega)
theorem eq_lst {xs ys : List D} (a : Sq xs) (b : Sq ys) (h : Hc) : fEq false (.d (.lst xs)) (.d (.lst ys)) h = .ok (.d (.bl (eqL xs ys))) h := by
  have e : fEq false (.d (.lst xs)) (.d (.lst ys)) h = (match (if dats xs then some (D.lst xs) else none), (if dats ys then some (D.lst ys) else none) with
    | some d, some e => if shp d && shp e then .ok (.d (.bl (eqD d e))) h else .stuck
    | _, _ => .stuck) := rfl
  rw [e, a.d, b.d, if_pos rfl, if_pos rfl]
  dsimp only
  rw [(sq_shp a).1, (sq_shp b).1]
  show R.ok (Vl.d (.bl (PyData.eqv (.list (toPs xs)) (.list (toPs ys))))) h = _
  rw [show PyData.eqv (.list (toPs xs)) (.list (toPs ys)) = eqL xs ys by simp only [PyData.eqv, eqL]]
theorem eq_tup {xs ys : List D} (a : Sq xs) (b : Sq ys) (h : Hc) : fEq false (.d (.tup xs)) (.d (.tup ys)) h = .ok (.d (.bl (eqL xs ys))) h := by
  have e : fEq false (.d (.tup xs)) (.d (.tup ys)) h = (match (if dats xs then some (D.tup xs) else none), (if dats ys then some (D.tup ys) else none) with
    | some d, some e => if shp d && shp e then .ok (.d (.bl (eqD d e))) h else .stuck
    | _, _ => .stuck) := rfl
  rw [e, a.d, b.d, if_pos rfl, if_pos rfl]
  dsimp only
  rw [(sq_shp a).2, (sq_shp b).2]
  show R.ok (Vl.d (.bl (PyData.eqv (.tuple (toPs xs)) (.tuple (toPs ys))))) h = _
  rw [show PyData.eqv (.tuple (toPs xs)) (.tuple (toPs ys)) = eqL xs ys by simp only [PyData.eqv, eqL]]
theorem sgn_cp : ∀ c ∈ sgnL, c < 0x110000 := by decide +kernel
theorem name_lay {x : PySem.Str} (n : NameOk x) : PyData.strOk x = true := by
  unfold PyData.strOk
  rw [← Array.all_toList]
  exact List.all_eq_true.mpr fun c hc => decide_eq_true (sgn_cp c (n.all c hc))
theorem lay_all {α : Type} (f : α → D) : ∀ xs : List α, (∀ x ∈ xs, PyData.canLay0 (toP (f x)) = true) → PyData.canLayAll0 (toPs (xs.map f)) = true
  | [], _ => by simp [toPs, PyData.canLayAll0]
  | x :: r, h => by
    show PyData.canLayAll0 (toP (f x) :: toPs (r.map f)) = true
    simp only [PyData.canLayAll0]
    rw [h x (List.mem_cons_self ..), lay_all f r fun y hy => h y (List.mem_cons_of_mem _ hy)]
    rfl
theorem sq_srt {xs : List PySem.Str} (n : ∀ x ∈ xs, NameOk x) : Sq (srt xs) := by
  have hd := dats_all (fun d : D => d) (srt xs) fun d hd => by
    obtain ⟨x, _, rfl⟩ := srt_mem hd
    rfl
  have hl := lay_all (fun d : D => d) (srt xs) fun d hd => by
    obtain ⟨x, hx, rfl⟩ := srt_mem hd
    show PyData.canLay0 (.str x) = true
    simp only [PyData.canLay0]
    exact name_lay (n x hx)
  rw [List.map_id'] at hd hl
  exact ⟨hd, hl, Nat.le_trans (okds_srt n).k (by omega)⟩
theorem sq_ves {vs : List Ve} (n : ∀ v ∈ vs, VeOk v) : Sq (vs.map vD) := by
  refine ⟨dats_all _ _ fun _ _ => rfl, lay_all vD vs fun v hv => ?_, Nat.le_trans (Okds.all vD vs (w := 2000) (k := 1) fun v hv => okd_ve (n v hv)).k (by omega)⟩
  show PyData.canLay0 (.tuple [.str v.1, .int v.2.1, .int v.2.2]) = true
  simp only [PyData.canLay0, PyData.canLayAll0]
  rw [name_lay (n v hv).name]
  rfl
section
variable {h : Hc} {fx tx fy ty : List PySem.Str} {vs ws : List Ve}
def alike (fx tx : List PySem.Str) (vs : List Ve) (fy ty : List PySem.Str) (ws : List Ve) : Bool := eqL (srt fx) (srt fy) && eqL (srt tx) (srt ty) && eqL (vs.map vD) (ws.map vD)
theorem alike_comm : alike fx tx vs fy ty ws = alike fy ty ws fx tx vs := by
  unfold alike
  rw [eqL_comm (srt fx), eqL_comm (srt tx), eqL_comm (vs.map vD)]
theorem and_t {a b : ME} {env : Vi.Env} (e : a env h = .ok (.d (.bl true)) h) : mAnd a b env h = b env h := by
  unfold mAnd
  rw [e]
  rfl
theorem and_f {a b : ME} {env : Vi.Env} (e : a env h = .ok (.d (.bl false)) h) : mAnd a b env h = .ok (.d (.bl false)) h := by
  unfold mAnd
  rw [e]
  rfl
theorem ret_of {m : ME} {env : Vi.Env} {d : D} {h' : Hc} (e : m env h = .ok (.d d) h') : mRet m env h = .ret d h' := by
  unfold mRet
  rw [e]
  rfl
theorem and_b {a b : ME} {env : Vi.Env} {x y : Bool} (e1 : a env h = .ok (.d (.bl x)) h) (e2 : b env h = .ok (.d (.bl y)) h) : mAnd a b env h = .ok (.d (.bl (x && y))) h := by
  cases x with
  | true => rw [and_t e1, e2]; rfl
  | false => rw [and_f e1]; rfl
theorem v_peq (g : Good3 fx tx vs) (g2 : Good3 fy ty ws) : F_Plant_xeqx [plant fx tx vs, plant fy ty ws] h = .ok (.bl (alike fx tx vs fy ty ws)) h := by
  refine (fnOf_eq 2 2 m_Plant_xeqx _ h rfl).trans ?_
  have e1 := eq_tup (sq_srt g.nf.ok) (sq_srt g2.nf.ok) h
  have e2 := eq_tup (sq_srt g.nt.ok) (sq_srt g2.nt.ok) h
  have e3 := eq_tup (sq_ves g.nv.ok) (sq_ves g2.nv.ok) h
  have p : m_Plant_xeqx (mkEnv 2 [plant fx tx vs, plant fy ty ws]) h = .ret (.bl (true && (eqL (srt fx) (srt fy) && (eqL (srt tx) (srt ty) && eqL (vs.map vD) (ws.map vD))))) h := by
    unfold m_Plant_xeqx
    refine ret_of (and_b rfl (and_b ?_ (and_b ?_ ?_)))
    · exact e1
    · exact e2
    · exact e3
  rw [p, Bool.true_and, ← Bool.and_assoc]
  rfl
theorem v_eqs (g : Good3 fx tx vs) (g2 : Good3 fy ty ws) : fEqs g0 T_eq nfB (fEq false) (.d (plant fx tx vs)) (.d (plant fy ty ws)) h = .ok (.d (.bl (alike fx tx vs fy ty ws))) h := by
  show (if nfB 4 (.own 4) then (F_Plant_xeqx [plant fx tx vs, plant fy ty ws] h).bind fun d h' => R.ok (Vl.d d) h' else .stuck) = _
  rw [if_pos (by decide), v_peq g g2]
  rfl
theorem v_nes (g : Good3 fx tx vs) (g2 : Good3 fy ty ws) : fNes g0 T_eq nfB (fEq true) (.d (plant fx tx vs)) (.d (plant fy ty ws)) h = .ok (.d (.bl (!alike fx tx vs fy ty ws))) h := by
  show (if nfB 4 (.own 4) then (F_Plant_xeqx [plant fx tx vs, plant fy ty ws] h).bind fun d h' => (match d with
        | .bl k => R.ok (Vl.d (.bl (!k))) h'
        | _ => .stuck) else .stuck) = _
  rw [if_pos (by decide), v_peq g g2]
  rfl
theorem v_eqs_l (xs : List D) : fEqs g0 T_eq nfB (fEq false) (.d (plant fx tx vs)) (.d (.lst xs)) h = .ok (.d (.bl false)) h := by
  show (if nfB 4 (.bt "list") then (F_Plant_xeqx [plant fx tx vs, .lst xs] h).bind fun d h' => R.ok (Vl.d d) h' else .stuck) = _
  rw [if_pos (by decide)]
  rfl
theorem eqs_lst {xs ys : List D} (a : Sq xs) (b : Sq ys) : fEqs g0 T_eq nfB (fEq false) (.d (.lst xs)) (.d (.lst ys)) h = .ok (.d (.bl (eqL xs ys))) h := eq_lst a b h
end
end G02

set_option Elab.async false
set_option linter.all false
set_option maxRecDepth 100000
set_option maxHeartbeats 4000000
set_option exponentiation.threshold 2000
namespace G02
open PySem L2 Vi
def lb0 : MS := (mSet 11 (mC (.str "")))
def lb1 : MS := (mSet 12 (mA1 (fLst true) (maCons (mA1 (fList false) (maCons (mVar 2) maNil)) (maCons (mA1 fTuple (maCons (mVar 3) maNil)) (maCons (mA1 (fList false) (maCons (mVar 4) maNil)) maNil)))))
def lb2 : MS := (mIfS (asB (m2 (fEqs g0 T_eq nfB (fEq false)) (mA1 (fCallN 2 F__law_draw []) (maCons (mVar 1) (maCons (mC (.int 3)) maNil))) (mC (.int 1)))) (mSeq (mSetIxO 12 (mA1 (fCallN 2 F__law_p3_spoilt_vessels []) (maCons (mVar 1) (maCons (mVar 4) maNil))) (mC (.int 2))) (mSet 11 (mC (.str "vessels")))) mSkip)
def lb3 : MS := (mIfS (asB (m2 (fEqs g0 T_eq nfB (fEq false)) (mA1 (fCallN 2 F__law_draw []) (maCons (mVar 1) (maCons (mC (.int 3)) maNil))) (mC (.int 1)))) (mSeq (mSetIxO 12 (mA1 (fCallN 3 F__law_p3_spoilt_names []) (maCons (mVar 1) (maCons (mVar 3) (maCons (mC (.int 0)) maNil)))) (mC (.int 1))) (mSet 11 (mC (.str "traits")))) mSkip)
def lb4 : MS := (mIfS (asB (m2 (fEqs g0 T_eq nfB (fEq false)) (mA1 (fCallN 2 F__law_draw []) (maCons (mVar 1) (maCons (mC (.int 3)) maNil))) (mC (.int 1)))) (mSeq (mSetIxO 12 (mA1 (fCallN 3 F__law_p3_spoilt_names []) (maCons (mVar 1) (maCons (mVar 2) (maCons (mC (.int 1)) maNil)))) (mC (.int 0))) (mSet 11 (mC (.str "farms")))) mSkip)
def lb5 : MS := (mFrz 12 (mIfS (asB (m2 (fNes g0 T_eq nfB (fEq true)) (mA1 fReprC (maCons (mA1 (fCallN 3 F__law_p3_refused []) (maCons (m2 (fIxs T_getitem fIx) (mVar 12) (mC (.int 0))) (maCons (m2 (fIxs T_getitem fIx) (mVar 12) (mC (.int 1))) (maCons (m2 (fIxs T_getitem fIx) (mVar 12) (mC (.int 2))) maNil)))) maNil)) (mA1 fReprC (maCons (mVar 11) maNil)))) (mRet (mC (.bl false))) mSkip))
def lbB : MS := mSeq lb0 (mSeq lb1 (mSeq lb2 (mSeq lb3 (mSeq lb4 lb5))))
def lw0 : MS := (mSet 1 (mA1 (fCallN 1 F__law_bag []) (maCons (mVar 0) maNil)))
def lw1 : MS := (mSet 2 (mA1 (fCallN 3 F__law_names []) (maCons (mVar 1) (maCons (m2 (fAdd false) (mC (.int 1)) (mA1 (fCallN 2 F__law_draw []) (maCons (mVar 1) (maCons (mC (.int 4)) maNil)))) (maCons (mA1 (fLst false) maNil) maNil)))))
def lw2 : MS := (mSet 3 (mA1 (fCallN 3 F__law_names []) (maCons (mVar 1) (maCons (mA1 (fCallN 2 F__law_draw []) (maCons (mVar 1) (maCons (mC (.int 5)) maNil))) (maCons (mA1 (fLst false) maNil) maNil)))))
def lw3 : MS := (mSet 4 (mA1 (fCallN 2 F__law_p3_vessels []) (maCons (mVar 1) (maCons (m2 (fAdd false) (mC (.int 1)) (mA1 (fCallN 2 F__law_draw []) (maCons (mVar 1) (maCons (mC (.int 6)) maNil)))) maNil))))
def lw4 : MS := (mSet 5 (mA1 (fLst false) (maCons (mA1 fListC (maCons (mVar 2) maNil)) (maCons (mA1 fListC (maCons (mVar 3) maNil)) (maCons (mA1 fListC (maCons (mVar 4) maNil)) maNil)))))
def lw5 : MS := (mFrzd (mSet 6 (mA1 (fMake 4 3 FI_Plant_xinitx []) (maCons (m2 (fIxs T_getitem fIx) (mVar 5) (mC (.int 0))) (maCons (m2 (fIxs T_getitem fIx) (mVar 5) (mC (.int 1))) (maCons (m2 (fIxs T_getitem fIx) (mVar 5) (mC (.int 2))) maNil))))))
def lw6 : MS := (mIfS (asB (m2 (fNes g0 T_eq nfB (fEq true)) (mA1 fReprC (maCons (mVar 5) maNil)) (mA1 fReprC (maCons (mA1 (fLst false) (maCons (mVar 2) (maCons (mVar 3) (maCons (mVar 4) maNil)))) maNil)))) (mRet (mC (.bl false))) mSkip)
def lw7 : MS := (mDrop (mMetM lmAppend (m2 (fIxs T_getitem fIx) (mVar 5) (mC (.int 0))) (maCons (mC (.str "late")) maNil)))
def lw8 : MS := (mDrop (mMetM lmClear (m2 (fIxs T_getitem fIx) (mVar 5) (mC (.int 1))) maNil))
def lw9 : MS := (mDrop (mMetM lmReverse (m2 (fIxs T_getitem fIx) (mVar 5) (mC (.int 2))) maNil))
def lw10 : MS := (mDrop (mMetM lmAppend (m2 (fIxs T_getitem fIx) (mVar 5) (mC (.int 2))) (maCons (mA1 fTup (maCons (mC (.str "late")) (maCons (mC (.int 3)) (maCons (mC (.int 1)) maNil)))) maNil)))
def lw11 : MS := (mIfS (tNotM (asB (mA1 (fCallN 4 F__law_p3_fits []) (maCons (mVar 6) (maCons (mVar 2) (maCons (mVar 3) (maCons (mVar 4) maNil))))))) (mRet (mC (.bl false))) mSkip)
def lw12 : MS := (mIfS (tNotM (asB (mA1 (fCallN 2 F__law_p3_names_told []) (maCons (mA1 (fCallN 1 F__law_p3_odd []) (maCons (mVar 1) maNil)) (maCons (m2 (fAdd false) (m2 (fAdd false) (mVar 2) (mVar 3)) (mComp false [13] (gtN 13) mYes (m2 (fIxs T_getitem fIx) (mVar 13) (mC (.int 0))) (mVar 4))) maNil))))) (mRet (mC (.bl false))) mSkip)
def lw13 : MS := (mSet 7 (mA1 (fCallN 4 F__law_p3_another []) (maCons (mVar 1) (maCons (mVar 2) (maCons (mVar 3) (maCons (mVar 4) maNil))))))
def lw14 : MS := (mSet 8 (mA1 (fMake 4 3 FI_Plant_xinitx []) (maCons (m2 (fIxs T_getitem fIx) (mVar 7) (mC (.int 0))) (maCons (m2 (fIxs T_getitem fIx) (mVar 7) (mC (.int 1))) (maCons (m2 (fIxs T_getitem fIx) (mVar 7) (mC (.int 2))) maNil)))))
def lw15 : MS := (mSet 9 (mAnd (m2 (fEqs g0 T_eq nfB (fEq false)) (mA1 (fSorted g0.kc false) (maCons (m2 (fIxs T_getitem fIx) (mVar 7) (mC (.int 0))) maNil)) (mA1 (fSorted g0.kc false) (maCons (mVar 2) maNil))) (m2 (fEqs g0 T_eq nfB (fEq false)) (mA1 (fSorted g0.kc false) (maCons (m2 (fIxs T_getitem fIx) (mVar 7) (mC (.int 1))) maNil)) (mA1 (fSorted g0.kc false) (maCons (mVar 3) maNil)))))
def lw16 : MS := (mSet 9 (mAnd (mVar 9) (m2 (fEqs g0 T_eq nfB (fEq false)) (mA1 (fList false) (maCons (m2 (fIxs T_getitem fIx) (mVar 7) (mC (.int 2))) maNil)) (mVar 4))))
def lw17 : MS := (mIfS (asB (m2 (fNes g0 T_eq nfB (fEq true)) (mA1 fReprC (maCons (mA1 (fLst false) (maCons (m2 (fEqs g0 T_eq nfB (fEq false)) (mVar 6) (mVar 8)) (maCons (m2 (fEqs g0 T_eq nfB (fEq false)) (mVar 8) (mVar 6)) (maCons (m2 (fNes g0 T_eq nfB (fEq true)) (mVar 6) (mVar 8)) (maCons (m2 (fEqs g0 T_eq nfB (fEq false)) (mVar 6) (mVar 4)) maNil))))) maNil)) (mA1 fReprC (maCons (mA1 (fLst false) (maCons (mVar 9) (maCons (mVar 9) (maCons (mNot (mVar 9)) (maCons (mC (.bl false)) maNil))))) maNil)))) (mRet (mC (.bl false))) mSkip)
def lw18 : MS := (mIfS (tNotM (asB (mA1 (fCallN 4 F__law_p3_fits []) (maCons (mVar 8) (maCons (mA1 (fList false) (maCons (m2 (fIxs T_getitem fIx) (mVar 7) (mC (.int 0))) maNil)) (maCons (mA1 (fList false) (maCons (m2 (fIxs T_getitem fIx) (mVar 7) (mC (.int 1))) maNil)) (maCons (mA1 (fList false) (maCons (m2 (fIxs T_getitem fIx) (mVar 7) (mC (.int 2))) maNil)) maNil))))))) (mRet (mC (.bl false))) mSkip)
def lw19 : MS := (mForR (gtN 10) (maCons (mC (.int 2)) maNil) lbB)
def lw20 : MS := (mRet (mA1 (fCallN 4 F__law_p3_fits []) (maCons (mVar 6) (maCons (mVar 2) (maCons (mVar 3) (maCons (mVar 4) maNil))))))
theorem lw_parts : m_law = mSeq lw0 (mSeq lw1 (mSeq lw2 (mSeq lw3 (mSeq lw4 (mSeq lw5 (mSeq lw6 (mSeq lw7 (mSeq lw8 (mSeq lw9 (mSeq lw10 (mSeq lw11 (mSeq lw12 (mSeq lw13 (mSeq lw14 (mSeq lw15 (mSeq lw16 (mSeq lw17 (mSeq lw18 (mSeq lw19 lw20))))))))))))))))))) := rfl
abbrev envL (s : D) (fx tx : List PySem.Str) (vs : List Ve) (o5 o6 o7 o8 o9 o10 o11 o12 o13 : Option Sl) : Vi.Env := [some (.d s), some (.d (.ref 0)), some (.d (L3 fx)), some (.d (L3 tx)), some (.d (V3 vs)), o5, o6, o7, o8, o9, o10, o11, o12, o13]
theorem nesC {a b : ME} {env : Vi.Env} {h : Hc} {d e : D} {x : PySem.Str} (e1 : a env h = .ok (.d d) h) (e2 : b env h = .ok (.d e) h) (r1 : fReprC [.d d] h = .ok (.d (.str x)) h) (r2 : fReprC [.d e] h = .ok (.d (.str x)) h) : asB (m2 (fNes g0 T_eq nfB (fEq true)) (mA1 fReprC (maCons a maNil)) (mA1 fReprC (maCons b maNil))) env h = .ok false h := by
  have w1 : mA1 fReprC (maCons a maNil) env h = .ok (.d (.str x)) h := by
    rw [mA1_eq, maCons_eq, e1, R.bind_ok]
    show fReprC [.d d] h = _
    rw [r1]
  have w2 : mA1 fReprC (maCons b maNil) env h = .ok (.d (.str x)) h := by
    rw [mA1_eq, maCons_eq, e2, R.bind_ok]
    show fReprC [.d e] h = _
    rw [r2]
  refine asB_eq _ _ _ false h ?_
  rw [m2_eq, w1, R.bind_ok, w2, R.bind_ok, nes_txt]
/-! ### what is refused -/
def S2 (vs : List Ve) (v : D) (w : PySem.Str) : Prop := (v = V3 vs ∧ w = "") ∨ (NoV v ∧ w = "vessels")
def S3 (tx : List PySem.Str) (vs : List Ve) (t v : D) (w : PySem.Str) : Prop := (t = .tup (tx.map D.str) ∧ S2 vs v w) ∨ (NoN 0 t ∧ w = "traits")
def S4 (fx tx : List PySem.Str) (vs : List Ve) (f t v : D) (w : PySem.Str) : Prop := (f = L3 fx ∧ S3 tx vs t v w) ∨ (NoN 1 f ∧ w = "farms")
section
variable {fx tx : List PySem.Str} {vs : List Ve}
theorem s4_ref {f t v : D} {w : PySem.Str} (G : Good3 fx tx vs) (q : S4 fx tx vs f t v w) (h : Hc) : F__law_p3_refused [f, t, v] h = .ok (.str w) h := by
  rcases q with ⟨rfl, q⟩ | ⟨n, rfl⟩
  · have e1 := an_f (SeqOk.lst h (fx.map D.str)) G.nf G.f1 G.f4
    rcases q with ⟨rfl, q⟩ | ⟨n, rfl⟩
    · have e2 := an_t (SeqOk.tup h (tx.map D.str)) G.nt G.t4
      rcases q with ⟨rfl, rfl⟩ | ⟨n, rfl⟩
      · exact v_ref_ok (v_plant ⟨SeqOk.lst h _, SeqOk.tup h _, SeqOk.lst h _⟩ G)
      · exact v_ref_bad (v_plant_v e1 e2 (n h))
    · exact v_ref_bad (v_plant_t e1 (n h))
  · exact v_ref_bad (v_plant_f (n h))
theorem s4_txt {f t v : D} {w : PySem.Str} (q : S4 fx tx vs f t v w) : Okd (toP (.str w)) 10 0 := by
  have : w = "" ∨ w = "vessels" ∨ w = "traits" ∨ w = "farms" := by
    rcases q with ⟨_, ⟨_, ⟨_, q⟩ | ⟨_, q⟩⟩ | ⟨_, q⟩⟩ | ⟨_, q⟩ <;> simp [q]
  rcases this with rfl | rfl | rfl | rfl <;> exact Okd.str (by decide) (by decide +kernel)
end
/-! ### a turn -/
section
variable {c : Hc} {m : Int} {h : Hc} {s : D} {fx tx : List PySem.Str} {vs : List Ve} {o5 o6 o7 o8 o9 o10 o11 o12 o13 : Option Sl}
theorem e_coin {env : Vi.Env} {r : Int} {h' : Hc} (hv : ∀ h, mVar 1 env h = .ok (.d (.ref 0)) h) (e : F__law_draw [.ref 0, .int 3] h = .ok (.int r) h') : asB (m2 (fEqs g0 T_eq nfB (fEq false)) (mA1 (fCallN 2 F__law_draw []) (maCons (mVar 1) (maCons (mC (.int 3)) maNil))) (mC (.int 1))) env h = .ok (decide (r = 1)) h' := by
  refine asB_eq _ _ _ _ h' ?_
  have b1 : mA1 (fCallN 2 F__law_draw []) (maCons (mVar 1) (maCons (mC (.int 3)) maNil)) env h = .ok (.d (.int r)) h' := by
    rw [mA1_eq, maCons_eq, hv, R.bind_ok]
    show ((F__law_draw [.ref 0, .int 3] h).bind fun d h' => R.ok (Vl.d d) h') = _
    rw [e]
    rfl
  rw [m2_eq, b1, R.bind_ok]
  rfl
abbrev envB (s : D) (fx tx : List PySem.Str) (vs : List Ve) (o5 o6 o7 o8 o9 o10 : Option Sl) (w : PySem.Str) (f t v : D) (o13 : Option Sl) : Vi.Env := envL s fx tx vs o5 o6 o7 o8 o9 o10 (some (.d (.str w))) (some (.ol [f, t, v])) o13
theorem e_lb2 (G : Good3 fx tx vs) (g : BG c m h) (hm : m < 2 ^ 46) {f t : D} : ∃ v w h', lb2 (envB s fx tx vs o5 o6 o7 o8 o9 o10 "" f t (V3 vs) o13) h = .nx (envB s fx tx vs o5 o6 o7 o8 o9 o10 w f t v o13) h' ∧ BG c (m + 501) h' ∧ S2 vs v w := by
  obtain ⟨r, h1, e1, g1, _, _, _⟩ := v_draw (many := 3) g (by omega) (by omega) (by omega)
  have ec := e_coin (env := envB s fx tx vs o5 o6 o7 o8 o9 o10 "" f t (V3 vs) o13) (fun _ => rfl) e1
  by_cases hr : r = 1
  · obtain ⟨d, h2, e2, g2, q⟩ := v_spoilt_vessels (vs := vs) g1 (by omega) G.nv G.v1 G.v6
    refine ⟨d, "vessels", h2, ?_, g2.up (by omega), .inr ⟨q, rfl⟩⟩
    have b1 : mA1 (fCallN 2 F__law_p3_spoilt_vessels []) (maCons (mVar 1) (maCons (mVar 4) maNil)) (envB s fx tx vs o5 o6 o7 o8 o9 o10 "" f t (V3 vs) o13) h1 = .ok (.d d) h2 := by
      show ((F__law_p3_spoilt_vessels [.ref 0, V3 vs] h1).bind fun d h' => R.ok (Vl.d d) h') = _
      rw [e2]
      rfl
    unfold lb2
    rw [mIfS_eq, ec, decide_eq_true hr, R.thenS_ok, pick_t, mSeq_eq, e_setO (xs := [f, t, V3 vs]) (j := 2) rfl b1 rfl]
    rfl
  · refine ⟨V3 vs, "", h1, ?_, g1.up (by omega), .inl ⟨rfl, rfl⟩⟩
    unfold lb2
    rw [mIfS_eq, ec, decide_eq_false hr]
    rfl
theorem e_lb3 (G : Good3 fx tx vs) (g : BG c m h) (hm : m < 2 ^ 46) {f v : D} {w : PySem.Str} (q2 : S2 vs v w) : ∃ t w' h', lb3 (envB s fx tx vs o5 o6 o7 o8 o9 o10 w f (.tup (tx.map D.str)) v o13) h = .nx (envB s fx tx vs o5 o6 o7 o8 o9 o10 w' f t v o13) h' ∧ BG c (m + 501) h' ∧ S3 tx vs t v w' := by
  obtain ⟨r, h1, e1, g1, _, _, _⟩ := v_draw (many := 3) g (by omega) (by omega) (by omega)
  have ec := e_coin (env := envB s fx tx vs o5 o6 o7 o8 o9 o10 w f (.tup (tx.map D.str)) v o13) (fun _ => rfl) e1
  by_cases hr : r = 1
  · obtain ⟨d, h2, e2, g2, q⟩ := v_spoilt_names (xs := tx) (fl := 0) g1 (by omega) G.nt.ok (by have := G.t4; omega) (.inl rfl)
    refine ⟨d, "traits", h2, ?_, g2.up (by omega), .inr ⟨q, rfl⟩⟩
    have b1 : mA1 (fCallN 3 F__law_p3_spoilt_names []) (maCons (mVar 1) (maCons (mVar 3) (maCons (mC (.int 0)) maNil))) (envB s fx tx vs o5 o6 o7 o8 o9 o10 w f (.tup (tx.map D.str)) v o13) h1 = .ok (.d d) h2 := by
      show ((F__law_p3_spoilt_names [.ref 0, L3 tx, .int 0] h1).bind fun d h' => R.ok (Vl.d d) h') = _
      rw [e2]
      rfl
    unfold lb3
    rw [mIfS_eq, ec, decide_eq_true hr, R.thenS_ok, pick_t, mSeq_eq, e_setO (xs := [f, .tup (tx.map D.str), v]) (j := 1) rfl b1 rfl]
    rfl
  · refine ⟨_, w, h1, ?_, g1.up (by omega), .inl ⟨rfl, q2⟩⟩
    unfold lb3
    rw [mIfS_eq, ec, decide_eq_false hr]
    rfl
theorem e_lb4 (G : Good3 fx tx vs) (g : BG c m h) (hm : m < 2 ^ 46) {t v : D} {w : PySem.Str} (q3 : S3 tx vs t v w) : ∃ f w' h', lb4 (envB s fx tx vs o5 o6 o7 o8 o9 o10 w (L3 fx) t v o13) h = .nx (envB s fx tx vs o5 o6 o7 o8 o9 o10 w' f t v o13) h' ∧ BG c (m + 501) h' ∧ S4 fx tx vs f t v w' := by
  obtain ⟨r, h1, e1, g1, _, _, _⟩ := v_draw (many := 3) g (by omega) (by omega) (by omega)
  have ec := e_coin (env := envB s fx tx vs o5 o6 o7 o8 o9 o10 w (L3 fx) t v o13) (fun _ => rfl) e1
  by_cases hr : r = 1
  · obtain ⟨d, h2, e2, g2, q⟩ := v_spoilt_names (xs := fx) (fl := 1) g1 (by omega) G.nf.ok (by have := G.f4; omega) (.inr rfl)
    refine ⟨d, "farms", h2, ?_, g2.up (by omega), .inr ⟨q, rfl⟩⟩
    have b1 : mA1 (fCallN 3 F__law_p3_spoilt_names []) (maCons (mVar 1) (maCons (mVar 2) (maCons (mC (.int 1)) maNil))) (envB s fx tx vs o5 o6 o7 o8 o9 o10 w (L3 fx) t v o13) h1 = .ok (.d d) h2 := by
      show ((F__law_p3_spoilt_names [.ref 0, L3 fx, .int 1] h1).bind fun d h' => R.ok (Vl.d d) h') = _
      rw [e2]
      rfl
    unfold lb4
    rw [mIfS_eq, ec, decide_eq_true hr, R.thenS_ok, pick_t, mSeq_eq, e_setO (xs := [L3 fx, t, v]) (j := 0) rfl b1 rfl]
    rfl
  · refine ⟨_, w, h1, ?_, g1.up (by omega), .inl ⟨rfl, q3⟩⟩
    unfold lb4
    rw [mIfS_eq, ec, decide_eq_false hr]
    rfl
theorem e_lb5 (G : Good3 fx tx vs) {f t v : D} {w : PySem.Str} (q : S4 fx tx vs f t v w) : lb5 (envB s fx tx vs o5 o6 o7 o8 o9 o10 w f t v o13) h = .nx (envL s fx tx vs o5 o6 o7 o8 o9 o10 (some (.d (.str w))) (some (.d (.lst [f, t, v]))) o13) h := by
  have e := s4_ref G q h
  have er : fReprC [.d (.str w)] h = .ok (.d (.str (toP (.str w)).shown)) h := repr_of (t := .str w) rfl ((s4_txt q).shw (by omega) (by omega)) h
  have b1 : mA1 (fCallN 3 F__law_p3_refused []) (maCons (m2 (fIxs T_getitem fIx) (mVar 12) (mC (.int 0))) (maCons (m2 (fIxs T_getitem fIx) (mVar 12) (mC (.int 1))) (maCons (m2 (fIxs T_getitem fIx) (mVar 12) (mC (.int 2))) maNil))) (envL s fx tx vs o5 o6 o7 o8 o9 o10 (some (.d (.str w))) (some (.d (.lst [f, t, v]))) o13) h = .ok (.d (.str w)) h := by
    show ((F__law_p3_refused [f, t, v] h).bind fun d h' => R.ok (Vl.d d) h') = _
    rw [e]
    rfl
  unfold lb5
  show mIfS _ _ _ (envL s fx tx vs o5 o6 o7 o8 o9 o10 (some (.d (.str w))) (some (.d (.lst [f, t, v]))) o13) h = _
  rw [mIfS_eq, nesC b1 rfl er er]
  rfl
theorem e_turn (G : Good3 fx tx vs) (g : BG c m h) (hm : m < 2 ^ 45) : ∃ o11' o12' h', lbB (envL s fx tx vs o5 o6 o7 o8 o9 o10 o11 o12 o13) h = .nx (envL s fx tx vs o5 o6 o7 o8 o9 o10 o11' o12' o13) h' ∧ BG c (m + 2000) h' := by
  obtain ⟨v, w2, h2, e2, g2, q2⟩ := e_lb2 (s := s) (o5 := o5) (o6 := o6) (o7 := o7) (o8 := o8) (o9 := o9) (o10 := o10) (o13 := o13) (f := L3 fx) (t := .tup (tx.map D.str)) G g (by omega)
  obtain ⟨t, w3, h3, e3, g3, q3⟩ := e_lb3 (s := s) (o5 := o5) (o6 := o6) (o7 := o7) (o8 := o8) (o9 := o9) (o10 := o10) (o13 := o13) (f := L3 fx) G g2 (by omega) q2
  obtain ⟨f, w4, h4, e4, g4, q4⟩ := e_lb4 (s := s) (o5 := o5) (o6 := o6) (o7 := o7) (o8 := o8) (o9 := o9) (o10 := o10) (o13 := o13) G g3 (by omega) q3
  refine ⟨some (.d (.str w4)), some (.d (.lst [f, t, v])), h4, ?_, g4.up (by omega)⟩
  unfold lbB
  rw [mSeq_eq, show lb0 (envL s fx tx vs o5 o6 o7 o8 o9 o10 o11 o12 o13) h = .nx (envL s fx tx vs o5 o6 o7 o8 o9 o10 (some (.d (.str ""))) o12 o13) h from rfl, RS.seq_nx, mSeq_eq, show lb1 (envL s fx tx vs o5 o6 o7 o8 o9 o10 (some (.d (.str ""))) o12 o13) h = .nx (envB s fx tx vs o5 o6 o7 o8 o9 o10 "" (L3 fx) (.tup (tx.map D.str)) (V3 vs) o13) h from rfl, RS.seq_nx, mSeq_eq, e2, RS.seq_nx, mSeq_eq, e3, RS.seq_nx, mSeq_eq, e4, RS.seq_nx, e_lb5 G q4]
theorem e_lw19 (G : Good3 fx tx vs) (g : BG c m h) (hm : m < 2 ^ 44) : ∃ o10' o11' o12' h', lw19 (envL s fx tx vs o5 o6 o7 o8 o9 o10 o11 o12 o13) h = .nx (envL s fx tx vs o5 o6 o7 o8 o9 o10' o11' o12' o13) h' ∧ BG c (m + 5000) h' := by
  obtain ⟨p11, p12, h1, e1, g1⟩ := e_turn (s := s) (o5 := o5) (o6 := o6) (o7 := o7) (o8 := o8) (o9 := o9) (o10 := some (.d (.int 0))) (o11 := o11) (o12 := o12) (o13 := o13) G g (by omega)
  obtain ⟨r11, r12, h2, e2, g2⟩ := e_turn (s := s) (o5 := o5) (o6 := o6) (o7 := o7) (o8 := o8) (o9 := o9) (o10 := some (.d (.int 1))) (o11 := p11) (o12 := p12) (o13 := o13) G g1 (by omega)
  refine ⟨some (.d (.int 1)), r11, r12, h2, ?_, g2.up (by omega)⟩
  have ea : maCons (mC (.int 2)) maNil (envL s fx tx vs o5 o6 o7 o8 o9 o10 o11 o12 o13) h = .ok [.d (.int 2)] h := rfl
  unfold lw19 mForR
  rw [ea, R.thenS_ok]
  dsimp only
  have cd : -(2 ^ 62) ≤ (2 : Int) ∧ (2 : Int) < 2 ^ 62 := by omega
  rw [if_pos cd, show rangeD 0 (2 : Int).toNat = [.int 0, .int 1] from rfl, forL_cons]
  show ((lbB (envL s fx tx vs o5 o6 o7 o8 o9 (some (.d (.int 0))) o11 o12 o13) h).again _) = _
  rw [e1]
  show forL (gtN 10) lbB [.int 1] (envL s fx tx vs o5 o6 o7 o8 o9 (some (.d (.int 0))) p11 p12 o13) h1 = _
  rw [forL_cons]
  show ((lbB (envL s fx tx vs o5 o6 o7 o8 o9 (some (.d (.int 1))) p11 p12 o13) h1).again _) = _
  rw [e2]
  rfl
end
end G02

set_option Elab.async false
set_option linter.all false
set_option maxRecDepth 100000
set_option maxHeartbeats 4000000
set_option exponentiation.threshold 2000
namespace G02
open PySem L2 Vi
abbrev envK (s : D) (o2 o3 o4 o5 o6 o7 o8 o9 : Option Sl) : Vi.Env := [some (.d s), some (.d (.ref 0)), o2, o3, o4, o5, o6, o7, o8, o9, none, none, none, none]
section
variable {c : Hc} {m : Int} {h : Hc} {s : D} {fx tx : List PySem.Str} {vs : List Ve} {o5 o6 o7 o8 o9 o10 o11 o12 o13 : Option Sl}
theorem e_lw1 (g : BG c m h) (hm : m < 2 ^ 40) : ∃ fx h', lw1 (envK s none none none none none none none none) h = .nx (envK s (some (.d (L3 fx))) none none none none none none none) h' ∧ BG c (m + 301) h' ∧ Names fx ∧ 1 ≤ fx.length ∧ fx.length ≤ 4 := by
  obtain ⟨r, h1, e1, g1, r0, r1, _⟩ := v_draw (many := 4) g (by omega) (by omega) (by omega)
  have r1 := r1 (by omega)
  obtain ⟨xs, h2, e2, g2, n, _, ln⟩ := v_lnames (tk := []) (n := (1 + r).toNat) g1 (by omega) (by simp only [List.length_nil]; omega)
  have e2 : F__law_names [.ref 0, .int (1 + r), .lst []] h1 = .ok (.lst (xs.map D.str)) h2 := by
    have z : (((1 + r).toNat : Nat) : Int) = 1 + r := by omega
    rw [← z]
    exact e2
  refine ⟨xs, h2, ?_, g2.up (by omega), n, by omega, by omega⟩
  unfold lw1 mSet
  have b1 : mA1 (fCallN 2 F__law_draw []) (maCons (mVar 1) (maCons (mC (.int 4)) maNil)) (envK s none none none none none none none none) h = .ok (.d (.int r)) h1 := by
    show ((F__law_draw [.ref 0, .int 4] h).bind fun d h' => R.ok (Vl.d d) h') = _
    rw [e1]
    rfl
  have b2 : m2 (fAdd false) (mC (.int 1)) (mA1 (fCallN 2 F__law_draw []) (maCons (mVar 1) (maCons (mC (.int 4)) maNil))) (envK s none none none none none none none none) h = .ok (.d (.int (1 + r))) h1 := by
    rw [m2_eq, show mC (.int 1) (envK s none none none none none none none none) h = .ok (.d (.int 1)) h from rfl, R.bind_ok, b1]
    rfl
  rw [mA1_eq, maCons_eq, show mVar 1 (envK s none none none none none none none none) h = .ok (.d (.ref 0)) h from rfl, R.bind_ok, maCons_eq, b2, R.bind_ok]
  show (((F__law_names [.ref 0, .int (1 + r), .lst []] h1).bind fun d h' => R.ok (Vl.d d) h').thenS _ _) = _
  rw [e2]
  rfl
theorem e_lw2 (g : BG c m h) (hm : m < 2 ^ 40) {o2 : Option Sl} : ∃ tx h', lw2 (envK s o2 none none none none none none none) h = .nx (envK s o2 (some (.d (L3 tx))) none none none none none none) h' ∧ BG c (m + 301) h' ∧ Names tx ∧ tx.length ≤ 4 := by
  obtain ⟨r, h1, e1, g1, r0, r1, _⟩ := v_draw (many := 5) g (by omega) (by omega) (by omega)
  have r1 := r1 (by omega)
  obtain ⟨xs, h2, e2, g2, n, _, ln⟩ := v_lnames (tk := []) (n := r.toNat) g1 (by omega) (by simp only [List.length_nil]; omega)
  have e2 : F__law_names [.ref 0, .int r, .lst []] h1 = .ok (.lst (xs.map D.str)) h2 := by
    have z : ((r.toNat : Nat) : Int) = r := by omega
    rw [← z]
    exact e2
  refine ⟨xs, h2, ?_, g2.up (by omega), n, by omega⟩
  unfold lw2 mSet
  have b1 : mA1 (fCallN 2 F__law_draw []) (maCons (mVar 1) (maCons (mC (.int 5)) maNil)) (envK s o2 none none none none none none none) h = .ok (.d (.int r)) h1 := by
    show ((F__law_draw [.ref 0, .int 5] h).bind fun d h' => R.ok (Vl.d d) h') = _
    rw [e1]
    rfl
  rw [mA1_eq, maCons_eq, show mVar 1 (envK s o2 none none none none none none none) h = .ok (.d (.ref 0)) h from rfl, R.bind_ok, maCons_eq, b1, R.bind_ok]
  show (((F__law_names [.ref 0, .int r, .lst []] h1).bind fun d h' => R.ok (Vl.d d) h').thenS _ _) = _
  rw [e2]
  rfl
theorem e_lw3 (g : BG c m h) (hm : m < 2 ^ 40) {o2 o3 : Option Sl} : ∃ vs h', lw3 (envK s o2 o3 none none none none none none) h = .nx (envK s o2 o3 (some (.d (V3 vs))) none none none none none) h' ∧ BG c (m + 601) h' ∧ Ves vs ∧ 1 ≤ vs.length ∧ vs.length ≤ 6 := by
  obtain ⟨r, h1, e1, g1, r0, r1, _⟩ := v_draw (many := 6) g (by omega) (by omega) (by omega)
  have r1 := r1 (by omega)
  obtain ⟨vs, h2, e2, g2, n, ln⟩ := v_vessels (n := (1 + r).toNat) g1 (by omega) (by omega)
  have e2 : F__law_p3_vessels [.ref 0, .int (1 + r)] h1 = .ok (.lst (vs.map vD)) h2 := by
    have z : (((1 + r).toNat : Nat) : Int) = 1 + r := by omega
    rw [← z]
    exact e2
  refine ⟨vs, h2, ?_, g2.up (by omega), n, by omega, by omega⟩
  unfold lw3 mSet
  have b1 : mA1 (fCallN 2 F__law_draw []) (maCons (mVar 1) (maCons (mC (.int 6)) maNil)) (envK s o2 o3 none none none none none none) h = .ok (.d (.int r)) h1 := by
    show ((F__law_draw [.ref 0, .int 6] h).bind fun d h' => R.ok (Vl.d d) h') = _
    rw [e1]
    rfl
  have b2 : m2 (fAdd false) (mC (.int 1)) (mA1 (fCallN 2 F__law_draw []) (maCons (mVar 1) (maCons (mC (.int 6)) maNil))) (envK s o2 o3 none none none none none none) h = .ok (.d (.int (1 + r))) h1 := by
    rw [m2_eq, show mC (.int 1) (envK s o2 o3 none none none none none none) h = .ok (.d (.int 1)) h from rfl, R.bind_ok, b1]
    rfl
  rw [mA1_eq, maCons_eq, show mVar 1 (envK s o2 o3 none none none none none none) h = .ok (.d (.ref 0)) h from rfl, R.bind_ok, maCons_eq, b2, R.bind_ok]
  show (((F__law_p3_vessels [.ref 0, .int (1 + r)] h1).bind fun d h' => R.ok (Vl.d d) h').thenS _ _) = _
  rw [e2]
  rfl
abbrev refs3 : D := .lst [.ref 1, .ref 2, .ref 3]
abbrev env4 (s : D) (fx tx : List PySem.Str) (vs : List Ve) (o5 o6 o7 o8 o9 : Option Sl) : Vi.Env := envL s fx tx vs o5 o6 o7 o8 o9 none none none none
/-- what was handed in stands in cells -/
theorem e_lw4 (g : BG [] m h) : ∃ h', lw4 (env4 s fx tx vs none none none none none) h = .nx (env4 s fx tx vs (some (.d refs3)) none none none none) h' ∧ BG [.lst (fx.map D.str), .lst (tx.map D.str), .lst (vs.map vD)] m h' := by
  obtain ⟨ns, p, v, sd, l, k, rfl, g1⟩ := g
  exact ⟨bagC [.lst (fx.map D.str), .lst (tx.map D.str), .lst (vs.map vD)] ns p v sd l k, rfl, ns, p, v, sd, l, k, rfl, g1⟩
abbrev cells (fx tx : List PySem.Str) (vs : List Ve) : Hc := [.lst (fx.map D.str), .lst (tx.map D.str), .lst (vs.map vD)]
theorem e_lw5 (G : Good3 fx tx vs) (g : BG (cells fx tx vs) m h) : lw5 (env4 s fx tx vs (some (.d refs3)) none none none none) h = .nx (env4 s fx tx vs (some (.d refs3)) (some (.d (plant fx tx vs))) none none none) h := by
  obtain ⟨ns, p, v, sd, l, k, rfl, g1⟩ := g
  have P : Parts (frzAll (bagC (cells fx tx vs) ns p v sd l k)) (.ref 1) (.ref 2) (.ref 3) fx tx vs := ⟨SeqOk.cell rfl, SeqOk.cell rfl, SeqOk.cell rfl⟩
  have e := v_plant P G
  unfold lw5 mFrzd
  have b : mSet 6 (mA1 (fMake 4 3 FI_Plant_xinitx []) (maCons (m2 (fIxs T_getitem fIx) (mVar 5) (mC (.int 0))) (maCons (m2 (fIxs T_getitem fIx) (mVar 5) (mC (.int 1))) (maCons (m2 (fIxs T_getitem fIx) (mVar 5) (mC (.int 2))) maNil)))) (env4 s fx tx vs (some (.d refs3)) none none none none) (frzAll (bagC (cells fx tx vs) ns p v sd l k)) = .nx (env4 s fx tx vs (some (.d refs3)) (some (.d (plant fx tx vs))) none none none) (frzAll (bagC (cells fx tx vs) ns p v sd l k)) := by
    show (((FI_Plant_xinitx [.ref 1, .ref 2, .ref 3] (frzAll (bagC (cells fx tx vs) ns p v sd l k))).bind fun fs h' => R.ok (Vl.d (.obj 4 fs)) h').thenS _ _) = _
    rw [e]
    rfl
  rw [b]
  rfl
abbrev told3 (fx tx : List PySem.Str) (vs : List Ve) : D := .lst [L3 fx, L3 tx, V3 vs]
theorem dats_str (xs : List PySem.Str) : dats (xs.map D.str) = true := dats_all _ _ fun _ _ => rfl
theorem dats_ve (vs : List Ve) : dats (vs.map vD) = true := dats_all _ _ fun _ _ => rfl
theorem repr_told3 (G : Good3 fx tx vs) (h : Hc) : fRepr [.d (told3 fx tx vs)] h = .ok (.d (.str (toP (told3 fx tx vs)).shown)) h := by
  have o1 := (Okds.all D.str fx (w := 10) (k := 0) fun x hx => okd_name (G.nf.ok x hx)).lst
  have o2 := (Okds.all D.str tx (w := 10) (k := 0) fun x hx => okd_name (G.nt.ok x hx)).lst
  have o3 := (Okds.all vD vs (w := 2000) (k := 1) fun v hv => okd_ve (G.nv.ok v hv)).lst
  have oo := (Okds.cons (k := 2) o1 (Okds.cons (k := 2) o2 (Okds.cons (k := 2) o3 (Okds.nil (k := 2)) (by omega)) (by omega)) (by omega)).lst
  have f1 := G.f4
  have f2 := G.t4
  have f3 := G.v6
  have hw : (10 + 1) * fx.length + 1 + ((10 + 1) * tx.length + 1 + ((2000 + 1) * vs.length + 1 + 0)) ≤ 18000 := by omega
  refine repr_of (t := told3 fx tx vs) ?_ (oo.shw hw (by omega)) h
  show (dats (fx.map D.str) && (dats (tx.map D.str) && (dats (vs.map vD) && true))) = true
  rw [dats_str, dats_str, dats_ve]
  rfl
theorem e_lw6 (G : Good3 fx tx vs) (g : BG (cells fx tx vs) m h) : lw6 (env4 s fx tx vs (some (.d refs3)) o6 none none none) h = .nx (env4 s fx tx vs (some (.d refs3)) o6 none none none) h := by
  obtain ⟨ns, p, v, sd, l, k, rfl, g1⟩ := g
  have e := repr_told3 G (bagC (cells fx tx vs) ns p v sd l k)
  have r1 : fReprC [.d refs3] (bagC (cells fx tx vs) ns p v sd l k) = .ok (.d (.str (toP (told3 fx tx vs)).shown)) (bagC (cells fx tx vs) ns p v sd l k) := e
  have r2 : fReprC [.d (told3 fx tx vs)] (bagC (cells fx tx vs) ns p v sd l k) = .ok (.d (.str (toP (told3 fx tx vs)).shown)) (bagC (cells fx tx vs) ns p v sd l k) := e
  unfold lw6
  rw [mIfS_eq, nesC (d := refs3) (e := told3 fx tx vs) rfl rfl r1 r2]
  rfl
/-- what was handed in is changed -/
theorem e_lw7 {a b d : List D} (g : BG [.lst a, .lst b, .lst d] m h) (hl : a.length < 1000) : ∃ h', lw7 (env4 s fx tx vs (some (.d refs3)) o6 o7 o8 o9) h = .nx (env4 s fx tx vs (some (.d refs3)) o6 o7 o8 o9) h' ∧ BG [.lst (a ++ [.str "late"]), .lst b, .lst d] m h' := by
  obtain ⟨ns, p, v, sd, l, k, rfl, g1⟩ := g
  refine ⟨bagC [.lst (a ++ [.str "late"]), .lst b, .lst d] ns p v sd l k, ?_, ns, p, v, sd, l, k, rfl, g1⟩
  have c : lmAppend a [.str "late"] = some (a ++ [.str "late"], .non) := by
    unfold lmAppend
    dsimp only
    rw [if_pos (by omega)]
  show ((match lmAppend a [.str "late"] with
    | some (xs', d') => R.ok (Vl.d d') ((bagC [.lst a, .lst b, .lst d] ns p v sd l k).set 1 (.lst xs'))
    | none => .stuck).thenS _ _) = _
  rw [c]
  rfl
theorem e_lw8 {a b d : List D} (g : BG [.lst a, .lst b, .lst d] m h) : ∃ h', lw8 (env4 s fx tx vs (some (.d refs3)) o6 o7 o8 o9) h = .nx (env4 s fx tx vs (some (.d refs3)) o6 o7 o8 o9) h' ∧ BG [.lst a, .lst [], .lst d] m h' := by
  obtain ⟨ns, p, v, sd, l, k, rfl, g1⟩ := g
  exact ⟨bagC [.lst a, .lst [], .lst d] ns p v sd l k, rfl, ns, p, v, sd, l, k, rfl, g1⟩
theorem e_lw9 {a b d : List D} (g : BG [.lst a, .lst b, .lst d] m h) : ∃ h', lw9 (env4 s fx tx vs (some (.d refs3)) o6 o7 o8 o9) h = .nx (env4 s fx tx vs (some (.d refs3)) o6 o7 o8 o9) h' ∧ BG [.lst a, .lst b, .lst d.reverse] m h' := by
  obtain ⟨ns, p, v, sd, l, k, rfl, g1⟩ := g
  exact ⟨bagC [.lst a, .lst b, .lst d.reverse] ns p v sd l k, rfl, ns, p, v, sd, l, k, rfl, g1⟩
theorem e_lw10 {a b d : List D} (g : BG [.lst a, .lst b, .lst d] m h) (hl : d.length < 1000) : ∃ h', lw10 (env4 s fx tx vs (some (.d refs3)) o6 o7 o8 o9) h = .nx (env4 s fx tx vs (some (.d refs3)) o6 o7 o8 o9) h' ∧ BG [.lst a, .lst b, .lst (d ++ [.tup [.str "late", .int 3, .int 1]])] m h' := by
  obtain ⟨ns, p, v, sd, l, k, rfl, g1⟩ := g
  refine ⟨bagC [.lst a, .lst b, .lst (d ++ [.tup [.str "late", .int 3, .int 1]])] ns p v sd l k, ?_, ns, p, v, sd, l, k, rfl, g1⟩
  have c : lmAppend d [.tup [.str "late", .int 3, .int 1]] = some (d ++ [.tup [.str "late", .int 3, .int 1]], .non) := by
    unfold lmAppend
    dsimp only
    rw [if_pos (by omega)]
  show ((match lmAppend d [.tup [.str "late", .int 3, .int 1]] with
    | some (xs', d') => R.ok (Vl.d d') ((bagC [.lst a, .lst b, .lst d] ns p v sd l k).set 3 (.lst xs'))
    | none => .stuck).thenS _ _) = _
  rw [c]
  rfl
theorem e_lw11 (G : Good3 fx tx vs) : lw11 (env4 s fx tx vs o5 (some (.d (plant fx tx vs))) o7 o8 o9) h = .nx (env4 s fx tx vs o5 (some (.d (plant fx tx vs))) o7 o8 o9) h := by
  have b : asB (mA1 (fCallN 4 F__law_p3_fits []) (maCons (mVar 6) (maCons (mVar 2) (maCons (mVar 3) (maCons (mVar 4) maNil))))) (env4 s fx tx vs o5 (some (.d (plant fx tx vs))) o7 o8 o9) h = .ok true h := by
    refine asB_eq _ _ _ true h ?_
    show ((F__law_p3_fits [plant fx tx vs, L3 fx, L3 tx, V3 vs] h).bind fun d h' => R.ok (Vl.d d) h') = _
    rw [v_fits G h]
    rfl
  unfold lw11
  rw [mIfS_eq]
  show ((((asB _ _ h).bind fun b h1 => R.ok (!b) h1)).thenS _ _) = _
  rw [b]
  rfl
end
end G02

set_option Elab.async false
set_option linter.all false
set_option maxRecDepth 100000
set_option maxHeartbeats 4000000
set_option exponentiation.threshold 2000
namespace G02
open PySem L2 Vi
section
variable {c : Hc} {m : Int} {h : Hc} {s : D} {fx tx : List PySem.Str} {vs : List Ve} {o5 o6 o7 o8 o9 o10 o11 o12 o13 : Option Sl}
def allN (fx tx : List PySem.Str) (vs : List Ve) : List PySem.Str := fx ++ tx ++ nms vs
theorem allN_ok (G : Good3 fx tx vs) : (∀ x ∈ allN fx tx vs, NameOk x) ∧ (allN fx tx vs).length ≤ 100 := by
  have f1 := G.f4
  have f2 := G.t4
  have f3 := G.v6
  have lv : (nms vs).length = vs.length := List.length_map ..
  refine ⟨fun x hx => ?_, ?_⟩
  · unfold allN at hx
    rcases List.mem_append.mp hx with hx | hx
    · rcases List.mem_append.mp hx with hx | hx
      · exact G.nf.ok x hx
      · exact G.nt.ok x hx
    · obtain ⟨v, hv, rfl⟩ := List.mem_map.mp hx
      exact (G.nv.ok v hv).name
  · unfold allN
    rw [List.length_append, List.length_append]
    omega
theorem lw12_list (G : Good3 fx tx vs) : m2 (fAdd false) (m2 (fAdd false) (mVar 2) (mVar 3)) (mComp false [13] (gtN 13) mYes (m2 (fIxs T_getitem fIx) (mVar 13) (mC (.int 0))) (mVar 4)) (env4 s fx tx vs o5 o6 o7 o8 o9) h = .ok (.d (.lst ((allN fx tx vs).map D.str))) h := by
  have f1 := G.f4
  have f2 := G.t4
  have f3 := G.v6
  have b2 : m2 (fAdd false) (mVar 2) (mVar 3) (env4 s fx tx vs o5 o6 o7 o8 o9) h = .ok (.d (.lst (fx.map D.str ++ tx.map D.str))) h := by
    show fAdd false (.d (.lst (fx.map D.str))) (.d (.lst (tx.map D.str))) h = _
    rw [add_l _ _ _ (by rw [List.length_map, List.length_map]; omega)]
  have b3 : mComp false [13] (gtN 13) mYes (m2 (fIxs T_getitem fIx) (mVar 13) (mC (.int 0))) (mVar 4) (env4 s fx tx vs o5 o6 o7 o8 o9) h = .ok (.d (.lst ((nms vs).map D.str))) h := by
    show compL false (gtN 13) mYes (m2 (fIxs T_getitem fIx) (mVar 13) (mC (.int 0))) (vs.map vD) [] (wipeE (env4 s fx tx vs o5 o6 o7 o8 o9) [13]) h = _
    rw [comp_all false 13 (m2 (fIxs T_getitem fIx) (mVar 13) (mC (.int 0))) (fun x => match x with
        | .tup (y :: _) => y
        | y => y) _ h (vs.map vD) (fun z hz => by
          obtain ⟨v, hm, rfl⟩ := List.mem_map.mp hz
          rfl) (by rw [List.length_map]; omega), List.map_map, List.map_map]
    rfl
  rw [m2_eq, b2, R.bind_ok, b3, R.bind_ok, add_l _ _ _ (by rw [List.length_append, List.length_map, List.length_map, List.length_map, List.length_map]; omega)]
  unfold allN
  rw [List.map_append, List.map_append]
theorem call2 {F : Fn} {env : Vi.Env} {a b : ME} {x y d : D} {h h1 h2 h3 : Hc} (ea : a env h = .ok (.d x) h1) (eb : b env h1 = .ok (.d y) h2) (e : F [x, y] h2 = .ok d h3) : mA1 (fCallN 2 F []) (maCons a (maCons b maNil)) env h = .ok (.d d) h3 := by
  rw [mA1_eq, maCons_eq, ea, R.bind_ok, maCons_eq, eb, R.bind_ok]
  show ((F [x, y] h2).bind fun d h' => R.ok (Vl.d d) h') = _
  rw [e]
  rfl
theorem ifnot {m1 : ME} {env : Vi.Env} {a : MS} {h h' : Hc} (e : m1 env h = .ok (.d (.bl true)) h') : mIfS (tNotM (asB m1)) a mSkip env h = .nx env h' := by
  have b := asB_eq _ _ _ true h' e
  rw [mIfS_eq]
  unfold tNotM
  rw [b]
  rfl
theorem e_lw12 (G : Good3 fx tx vs) (g : BG c m h) (hm : m < 2 ^ 40) : ∃ h', lw12 (env4 s fx tx vs o5 o6 o7 o8 o9) h = .nx (env4 s fx tx vs o5 o6 o7 o8 o9) h' ∧ BG c (m + 1) h' := by
  obtain ⟨o, h1, e1, g1, no⟩ := v_odd g (by omega)
  refine ⟨h1, ?_, g1⟩
  obtain ⟨k1, k2⟩ := allN_ok G
  have t := v_names_told (o := o) (xs := allN fx tx vs) no k1 k2 h1
  have b1 : mA1 (fCallN 1 F__law_p3_odd []) (maCons (mVar 1) maNil) (env4 s fx tx vs o5 o6 o7 o8 o9) h = .ok (.d o) h1 := by
    show ((F__law_p3_odd [.ref 0] h).bind fun d h' => R.ok (Vl.d d) h') = _
    rw [e1]
    rfl
  unfold lw12
  exact ifnot (call2 b1 (lw12_list G) t)
end
end G02

set_option Elab.async false
set_option linter.all false
set_option maxRecDepth 100000
set_option maxHeartbeats 4000000
set_option exponentiation.threshold 2000
namespace G02
open PySem L2 Vi
section
variable {k : Hc} {m : Int} {h : Hc} {s : D} {fx tx fy ty : List PySem.Str} {vs ws : List Ve} {a b c : D} {o5 o6 o7 o8 o9 o10 o11 o12 o13 : Option Sl}
theorem call4 {F : Fn} {env : Vi.Env} {m1 m2 m3 m4 : ME} {x y z u d : D} {h h' : Hc} (e1 : m1 env h = .ok (.d x) h) (e2 : m2 env h = .ok (.d y) h) (e3 : m3 env h = .ok (.d z) h) (e4 : m4 env h = .ok (.d u) h) (e : F [x, y, z, u] h = .ok d h') : mA1 (fCallN 4 F []) (maCons m1 (maCons m2 (maCons m3 (maCons m4 maNil)))) env h = .ok (.d d) h' := by
  rw [mA1_eq, maCons_eq, e1, R.bind_ok, maCons_eq, e2, R.bind_ok, maCons_eq, e3, R.bind_ok, maCons_eq, e4, R.bind_ok]
  show ((F [x, y, z, u] h).bind fun d h' => R.ok (Vl.d d) h') = _
  rw [e]
  rfl
theorem set_of {i : Nat} {e : ME} {env : Vi.Env} {d : D} {h h' : Hc} (q : e env h = .ok (.d d) h') : mSet i e env h = .nx (env.set i (some (.d d))) h' := by
  unfold mSet
  rw [q]
  rfl
theorem e_lw13 (G : Good3 fx tx vs) (g : BG k m h) (hm : m < 2 ^ 40) : ∃ a b c fy ty ws h', lw13 (env4 s fx tx vs o5 o6 none o8 o9) h = .nx (env4 s fx tx vs o5 o6 (some (.d (.lst [a, b, c]))) o8 o9) h' ∧ BG k (m + 50) h' ∧ Oth a b c fy ty ws := by
  obtain ⟨a, b, c, fy, ty, ws, h', e, g', o⟩ := v_another g (by omega) G
  refine ⟨a, b, c, fy, ty, ws, h', ?_, g', o⟩
  unfold lw13
  rw [set_of (call4 rfl rfl rfl rfl e)]
  rfl
theorem e_item {i : Int} {j : Nat} {d : D} {env : Vi.Env} {n : Nat} (hv : mVar n env h = .ok (.d (.lst [a, b, c])) h) (hi : m2 (fIxs T_getitem fIx) (mC (.lst [a, b, c])) (mC (.int i)) env h = .ok (.d d) h) : m2 (fIxs T_getitem fIx) (mVar n) (mC (.int i)) env h = .ok (.d d) h := by
  rw [m2_eq, hv]
  rw [m2_eq] at hi
  exact hi
theorem e_lw14 (o : Oth a b c fy ty ws) : lw14 (env4 s fx tx vs o5 o6 (some (.d (.lst [a, b, c]))) none o9) h = .nx (env4 s fx tx vs o5 o6 (some (.d (.lst [a, b, c]))) (some (.d (plant fy ty ws))) o9) h := by
  have e := v_plant (o.parts h) o.g
  unfold lw14
  show (((FI_Plant_xinitx [a, b, c] h).bind fun fs h' => R.ok (Vl.d (.obj 4 fs)) h').thenS _ _) = _
  rw [e]
  rfl
theorem sorted1 {env : Vi.Env} {e : ME} {d : D} {xs : List PySem.Str} (q : e env h = .ok (.d d) h) (sq : SeqOk h d (xs.map D.str)) : mA1 (fSorted g0.kc false) (maCons e maNil) env h = .ok (.d (.lst (srt xs))) h := by
  rw [mA1_eq, maCons_eq, q, R.bind_ok]
  show fSorted g0.kc false [.d d] h = _
  rw [v_sorted sq]
theorem list1 {env : Vi.Env} {e : ME} {d : D} {xs : List D} (q : e env h = .ok (.d d) h) (sq : isSeq d xs) : mA1 (fList false) (maCons e maNil) env h = .ok (.d (.lst xs)) h := by
  rw [mA1_eq, maCons_eq, q, R.bind_ok]
  show fList false [.d d] h = _
  rw [sq.list h]
theorem eqs2 {env : Vi.Env} {e1 e2 : ME} {xs ys : List D} (q1 : e1 env h = .ok (.d (.lst xs)) h) (q2 : e2 env h = .ok (.d (.lst ys)) h) (s1 : Sq xs) (s2 : Sq ys) : m2 (fEqs g0 T_eq nfB (fEq false)) e1 e2 env h = .ok (.d (.bl (eqL xs ys))) h := by
  rw [m2_eq, q1, R.bind_ok, q2, R.bind_ok, eqs_lst s1 s2]
theorem e_lw15 (G : Good3 fx tx vs) (o : Oth a b c fy ty ws) : lw15 (env4 s fx tx vs o5 o6 (some (.d (.lst [a, b, c]))) o8 none) h = .nx (env4 s fx tx vs o5 o6 (some (.d (.lst [a, b, c]))) o8 (some (.d (.bl (eqL (srt fy) (srt fx) && eqL (srt ty) (srt tx)))))) h := by
  unfold lw15
  rw [set_of (and_b (eqs2 (sorted1 (d := a) rfl (o.sf.ok h)) (sorted1 (d := L3 fx) rfl (SeqOk.lst h _)) (sq_srt o.g.nf.ok) (sq_srt G.nf.ok)) (eqs2 (sorted1 (d := b) rfl (o.st.ok h)) (sorted1 (d := L3 tx) rfl (SeqOk.lst h _)) (sq_srt o.g.nt.ok) (sq_srt G.nt.ok)))]
  rfl
theorem e_lw16 (G : Good3 fx tx vs) (o : Oth a b c fy ty ws) : lw16 (env4 s fx tx vs o5 o6 (some (.d (.lst [a, b, c]))) o8 (some (.d (.bl (eqL (srt fy) (srt fx) && eqL (srt ty) (srt tx)))))) h = .nx (env4 s fx tx vs o5 o6 (some (.d (.lst [a, b, c]))) o8 (some (.d (.bl (alike fy ty ws fx tx vs))))) h := by
  unfold lw16
  rw [set_of (and_b (x := eqL (srt fy) (srt fx) && eqL (srt ty) (srt tx)) rfl (eqs2 (list1 (d := c) rfl o.sv) (xs := ws.map vD) (ys := vs.map vD) rfl (sq_ves o.g.nv.ok) (sq_ves G.nv.ok)))]
  rfl
theorem e_lw17 (G : Good3 fx tx vs) (G2 : Good3 fy ty ws) : lw17 (env4 s fx tx vs o5 (some (.d (plant fx tx vs))) o7 (some (.d (plant fy ty ws))) (some (.d (.bl (alike fy ty ws fx tx vs))))) h = .nx (env4 s fx tx vs o5 (some (.d (plant fx tx vs))) o7 (some (.d (plant fy ty ws))) (some (.d (.bl (alike fy ty ws fx tx vs))))) h := by
  have q1 := v_eqs (h := h) G G2
  have q2 := v_eqs (h := h) G2 G
  have q3 := v_nes (h := h) G G2
  have q4 := v_eqs_l (h := h) (fx := fx) (tx := tx) (vs := vs) (vs.map vD)
  rw [alike_comm] at q1 q3
  generalize alike fy ty ws fx tx vs = z at q1 q2 q3 ⊢
  have b1 : mA1 (fLst false) (maCons (m2 (fEqs g0 T_eq nfB (fEq false)) (mVar 6) (mVar 8)) (maCons (m2 (fEqs g0 T_eq nfB (fEq false)) (mVar 8) (mVar 6)) (maCons (m2 (fNes g0 T_eq nfB (fEq true)) (mVar 6) (mVar 8)) (maCons (m2 (fEqs g0 T_eq nfB (fEq false)) (mVar 6) (mVar 4)) maNil)))) (env4 s fx tx vs o5 (some (.d (plant fx tx vs))) o7 (some (.d (plant fy ty ws))) (some (.d (.bl z)))) h = .ok (.d (.lst [.bl z, .bl z, .bl (!z), .bl false])) h := by
    have w1 : m2 (fEqs g0 T_eq nfB (fEq false)) (mVar 6) (mVar 8) (env4 s fx tx vs o5 (some (.d (plant fx tx vs))) o7 (some (.d (plant fy ty ws))) (some (.d (.bl z)))) h = .ok (.d (.bl z)) h := q1
    have w2 : m2 (fEqs g0 T_eq nfB (fEq false)) (mVar 8) (mVar 6) (env4 s fx tx vs o5 (some (.d (plant fx tx vs))) o7 (some (.d (plant fy ty ws))) (some (.d (.bl z)))) h = .ok (.d (.bl z)) h := q2
    have w3 : m2 (fNes g0 T_eq nfB (fEq true)) (mVar 6) (mVar 8) (env4 s fx tx vs o5 (some (.d (plant fx tx vs))) o7 (some (.d (plant fy ty ws))) (some (.d (.bl z)))) h = .ok (.d (.bl (!z))) h := q3
    have w4 : m2 (fEqs g0 T_eq nfB (fEq false)) (mVar 6) (mVar 4) (env4 s fx tx vs o5 (some (.d (plant fx tx vs))) o7 (some (.d (plant fy ty ws))) (some (.d (.bl z)))) h = .ok (.d (.bl false)) h := q4
    rw [mA1_eq, maCons_eq, w1, R.bind_ok, maCons_eq, w2, R.bind_ok, maCons_eq, w3, R.bind_ok, maCons_eq, w4]
    rfl
  have b2 : mA1 (fLst false) (maCons (mVar 9) (maCons (mVar 9) (maCons (mNot (mVar 9)) (maCons (mC (.bl false)) maNil)))) (env4 s fx tx vs o5 (some (.d (plant fx tx vs))) o7 (some (.d (plant fy ty ws))) (some (.d (.bl z)))) h = .ok (.d (.lst [.bl z, .bl z, .bl (!z), .bl false])) h := rfl
  have er : fRepr [.d (.lst [.bl z, .bl z, .bl (!z), .bl false])] h = .ok (.d (.str (toP (.lst [.bl z, .bl z, .bl (!z), .bl false])).shown)) h := by
    have o2 := (Okds.cons (k := 0) (Okd.bool z) (Okds.cons (k := 0) (Okd.bool z) (Okds.cons (k := 0) (Okd.bool (!z)) (Okds.cons (k := 0) (Okd.bool false) (Okds.nil (k := 0)) (by omega)) (by omega)) (by omega)) (by omega)).lst
    exact repr_of (t := .lst [.bl z, .bl z, .bl (!z), .bl false]) rfl (o2.shw (by omega) (by omega)) h
  unfold lw17
  rw [mIfS_eq, nesC b1 b2 er er]
  rfl
theorem e_lw18 (o : Oth a b c fy ty ws) : lw18 (env4 s fx tx vs o5 o6 (some (.d (.lst [a, b, c]))) (some (.d (plant fy ty ws))) o9) h = .nx (env4 s fx tx vs o5 o6 (some (.d (.lst [a, b, c]))) (some (.d (plant fy ty ws))) o9) h := by
  unfold lw18
  exact ifnot (call4 (x := plant fy ty ws) (y := L3 fy) (z := L3 ty) (u := V3 ws) rfl (list1 (d := a) rfl o.sf) (list1 (d := b) rfl o.st) (list1 (d := c) rfl o.sv) (v_fits o.g h))
theorem e_lw20 (G : Good3 fx tx vs) : lw20 (envL s fx tx vs o5 (some (.d (plant fx tx vs))) o7 o8 o9 o10 o11 o12 o13) h = .ret (.bl true) h := by
  unfold lw20
  exact ret_of (call4 (x := plant fx tx vs) (y := L3 fx) (z := L3 tx) (u := V3 vs) rfl rfl rfl rfl (v_fits G h))
end
/-- the law holds -/
theorem says : Says1 F_law 63 := by
  intro ns hn
  have g0 : BG [] 0 (bagC [] ns 0 0 (ns.sum % 1000003) 0 0) := ⟨ns, 0, 0, ns.sum % 1000003, 0, 0, rfl, by omega, by omega, by omega, by omega, by omega, by omega, by omega⟩
  obtain ⟨fx, h1, e1, g1, n1, l1, u1⟩ := e_lw1 (s := .kl (ns.map D.int)) g0 (by omega)
  obtain ⟨tx, h2, e2, g2, n2, u2⟩ := e_lw2 (s := .kl (ns.map D.int)) (o2 := some (.d (L3 fx))) g1 (by omega)
  obtain ⟨vs, h3, e3, g3, n3, l3, u3⟩ := e_lw3 (s := .kl (ns.map D.int)) (o2 := some (.d (L3 fx))) (o3 := some (.d (L3 tx))) g2 (by omega)
  have G : Good3 fx tx vs := ⟨n1, l1, u1, n2, u2, n3, l3, u3⟩
  obtain ⟨h4, e4, g4⟩ := e_lw4 (s := .kl (ns.map D.int)) (fx := fx) (tx := tx) (vs := vs) g3
  have e5 := e_lw5 (s := .kl (ns.map D.int)) G g4
  have e6 := e_lw6 (s := .kl (ns.map D.int)) (o6 := some (.d (plant fx tx vs))) G g4
  obtain ⟨h7, e7, g7⟩ := e_lw7 (s := .kl (ns.map D.int)) (fx := fx) (tx := tx) (vs := vs) (o6 := some (.d (plant fx tx vs))) (o7 := none) (o8 := none) (o9 := none) g4 (by rw [List.length_map]; omega)
  obtain ⟨h8, e8, g8⟩ := e_lw8 (s := .kl (ns.map D.int)) (fx := fx) (tx := tx) (vs := vs) (o6 := some (.d (plant fx tx vs))) (o7 := none) (o8 := none) (o9 := none) g7
  obtain ⟨h9, e9, g9⟩ := e_lw9 (s := .kl (ns.map D.int)) (fx := fx) (tx := tx) (vs := vs) (o6 := some (.d (plant fx tx vs))) (o7 := none) (o8 := none) (o9 := none) g8
  obtain ⟨h10, e10, g10⟩ := e_lw10 (s := .kl (ns.map D.int)) (fx := fx) (tx := tx) (vs := vs) (o6 := some (.d (plant fx tx vs))) (o7 := none) (o8 := none) (o9 := none) g9 (by rw [List.length_reverse, List.length_map]; omega)
  have e11 := e_lw11 (h := h10) (s := .kl (ns.map D.int)) (o5 := some (.d refs3)) (o7 := none) (o8 := none) (o9 := none) G
  obtain ⟨h12, e12, g12⟩ := e_lw12 (s := .kl (ns.map D.int)) (o5 := some (.d refs3)) (o6 := some (.d (plant fx tx vs))) (o7 := none) (o8 := none) (o9 := none) G g10 (by omega)
  obtain ⟨a, b, c, fy, ty, ws, h13, e13, g13, o⟩ := e_lw13 (s := .kl (ns.map D.int)) (o5 := some (.d refs3)) (o6 := some (.d (plant fx tx vs))) (o8 := none) (o9 := none) G g12 (by omega)
  have e14 := e_lw14 (h := h13) (s := .kl (ns.map D.int)) (fx := fx) (tx := tx) (vs := vs) (o5 := some (.d refs3)) (o6 := some (.d (plant fx tx vs))) (o9 := none) o
  have e15 := e_lw15 (h := h13) (s := .kl (ns.map D.int)) (o5 := some (.d refs3)) (o6 := some (.d (plant fx tx vs))) (o8 := some (.d (plant fy ty ws))) G o
  have e16 := e_lw16 (h := h13) (s := .kl (ns.map D.int)) (o5 := some (.d refs3)) (o6 := some (.d (plant fx tx vs))) (o8 := some (.d (plant fy ty ws))) G o
  have e17 := e_lw17 (h := h13) (s := .kl (ns.map D.int)) (o5 := some (.d refs3)) (o7 := some (.d (.lst [a, b, c]))) G o.g
  have e18 := e_lw18 (h := h13) (s := .kl (ns.map D.int)) (fx := fx) (tx := tx) (vs := vs) (o5 := some (.d refs3)) (o6 := some (.d (plant fx tx vs))) (o9 := some (.d (.bl (alike fy ty ws fx tx vs)))) o
  obtain ⟨p10, p11, p12, h19, e19, g19⟩ := e_lw19 (s := .kl (ns.map D.int)) (o5 := some (.d refs3)) (o6 := some (.d (plant fx tx vs))) (o7 := some (.d (.lst [a, b, c]))) (o8 := some (.d (plant fy ty ws))) (o9 := some (.d (.bl (alike fy ty ws fx tx vs)))) (o10 := none) (o11 := none) (o12 := none) (o13 := none) G g13 (by omega)
  refine ⟨h19, (fnOf_eq 14 1 m_law _ _ rfl).trans ?_⟩
  have w0 : lw0 (mkEnv 14 [.kl (ns.map D.int)]) [] = .nx (envK (.kl (ns.map D.int)) none none none none none none none none) (bagC [] ns 0 0 (ns.sum % 1000003) 0 0) := by
    have e := v_bag ns
    unfold lw0 mSet
    show (((F__law_bag [.kl (ns.map D.int)] []).bind fun d h' => R.ok (Vl.d d) h').thenS _ _) = _
    rw [e]
    rfl
  rw [lw_parts, mSeq_eq, w0, RS.seq_nx, mSeq_eq, e1, RS.seq_nx, mSeq_eq, e2, RS.seq_nx, mSeq_eq, e3, RS.seq_nx, mSeq_eq, e4, RS.seq_nx, mSeq_eq, e5, RS.seq_nx, mSeq_eq, e6, RS.seq_nx, mSeq_eq, e7, RS.seq_nx, mSeq_eq, e8, RS.seq_nx, mSeq_eq, e9, RS.seq_nx, mSeq_eq, e10, RS.seq_nx, mSeq_eq, e11, RS.seq_nx, mSeq_eq, e12, RS.seq_nx, mSeq_eq, e13, RS.seq_nx, mSeq_eq, e14, RS.seq_nx, mSeq_eq, e15, RS.seq_nx, mSeq_eq, e16, RS.seq_nx, mSeq_eq, e17, RS.seq_nx, mSeq_eq, e18, RS.seq_nx, mSeq_eq, e19, RS.seq_nx, e_lw20 G]
  rfl
end G02

set_option Elab.async false
set_option linter.all false
set_option maxRecDepth 100000
set_option maxHeartbeats 0
namespace G02
open PySem L2 PyProof.Rows Vi
abbrev R : PySem.W.OpenRow := PySem.W.OpenLaw.row PySem.Challenge.rw_swornlots_k02_plants
abbrev hk : PySem.W.Hook := hookV 6 ck fn
def ob (s : PySem.W.SharedT) : AlV := obsVG 6 ck fn (HeadRun.getT s)
theorem ob_eq (s : PySem.W.SharedT) : ob s = hk.obs s.abs := obsVG_eq (HeadRun.getT_eq s)
def nl0 : List Str := ["LotError", "BadPlant", "BadDeed", "NoThing", "RESERVED", "LETTERS", "SIGNS", "LONGEST_NAME", "is_name", "is_whole", "is_whole_within", "MOST_FARMS", "MOST_TRAITS", "MOST_VESSELS", "GREATEST_SIZE", "are_names", "is_vessel", "are_vessels", "Plant", "_law_bag"]
def nl1 : List Str := ["_law_mixed", "_law_draw", "_law_pick", "_law_name", "_law_names", "_law_p3_odd", "_law_p3_names_told", "_law_p3_vessels", "_law_p3_spoilt_names", "_law_p3_spoilt_vessels", "_law_p3_refused", "_law_p3_pair", "_law_p3_fits", "_law_p3_another"]
theorem run (w : World) : HeadRun.RunEqI R (PySem.W.view R.prog [38]) hk ob 4000 (nl0 ++ nl1) w := by
  unfold HeadRun.RunEqI
  kernel_rfl
end G02

set_option Elab.async false
set_option linter.all false
set_option maxRecDepth 100000
set_option maxHeartbeats 0
open PySem PySem.W PySem.Calls PyProof.Rows
theorem G02.ends (hs : Vi.Says1 G02.F_law 63) : PySem.Challenge.rw_swornlots_k02_plants.Holds := by
  w_on; o_law
  refine HeadRun.head_imp (r := G02.R) (q := view G02.R.prog [38]) (H := G02.hk) (ob := G02.ob) (M := 4000) (loose := G02.nl0 ++ G02.nl1) (d := HeadRun.topDef G02.R.prog 38) (kwd := []) G02.ob_eq G02.run
    (by kernel_rfl) (by kernel_rfl) (by kernel_rfl) (by rfl) (by first | assumption | decide +kernel) (by decide +kernel) ⟨rfl, rfl, rfl, rfl, rfl, by decide +kernel⟩ ?hw ?hc
  case hw => w_witness2
  case hc =>
    refine Vi.walk_G (l := PySem.Challenge.rw_swornlots_k02_plants) (n := 63) (k := 8) (x := "_law_script") (F := G02.F_law) rfl (by decide) (by kernel_rfl) ⟨rfl, by decide, by decide⟩ hs ?T
    intro w mg fa h Y G hmg0
    obtain ⟨K, KX, c⟩ := Y
    have hmg : mg ("law" : PySem.Str) = some (.ref fa) := by
      have e : (HeadRun.topDef G02.R.prog 38).name = ("law" : PySem.Str) := by kernel_rfl
      rw [← e]
      exact hmg0
    have ok : G02.PDx.ok K = true := Vi.SaysV.fact c 0
    obtain ⟨fd, F⟩ := Vi.SaysV.fun_ c 30
    have b := L2.FunD.bindsA (ps := ["_law_script"]) F fun _ _ _ _ _ _ us hl => match us, hl with | [_], _ => rfl
    refine ⟨K, fd, G02.PDx.gi K, rfl, KX, fun s u => b s [u] rfl, fun base kin gn => ?_⟩
    have Z : G02.Gn K mg base := ⟨c, kin, gn, ok⟩
    obtain rfl : fa = G02.r_law.pth K := by
      have z := (He.glo_ok kin gn (Vi.SaysV.fact c 28)).symm.trans hmg
      cases z
      rfl
    exact G02.fg_law Z F

theorem PySem.Challenge.cw_swornlots_k02_plants_holds : PySem.Challenge.rw_swornlots_k02_plants.Holds :=
  G02.ends G02.says
